import PyProof.Rows.All
import HandS.GenList
import HandS.GenOver
import Wide.All
import OpenK.AllK
import Wide.FinOn
import HandS.ForMost
import HandS.Wide
import HandS.IsInst
import HandS.Walk
import HandS.Style
import HandS.ForExc
import HandS.ExcInit
import HandS.Lambda
import HandS.Defaults
import HandS.MakeKwOnly
import HandS.TryMany
import KE.DataCmp
import HandS.EndTab
import HandS.DictComp
import HandS.DeepEq
import HandS.Property
import HandS.FStr
import HandS.Iter
import HandS.Finally
import HandS.ListItems
import KE.KNestM
import PyProof.ReprRoads
import PyProof.ListStr
import PyProof.StrBlock2
import HandS.Conv
import HandS.WordsDict
import HandS.List
import KE.KFmtOwn
import HandS.OwnEq
import HandS.More
import HandS.RaiseMore
import PyProof.InstNe
import OpenK.KMeth
import OpenK.KOps
import PyProof.EqKinds
import KE.DataEq
import KE.KDictList
import HandS.Set
import HandS.Keys
import HandS.Dict
import HandS.TupSets
import HandS.SetBool
import KE.SortData
import HandS.Comp
import PyProof.WalksMore
import PyProof.TupleIter
import HandS.Star
import HandS.Flow
import HandS.GenYield
import PyProof.GenRules
import HandS.GenCall
import HandS.ExcOwn
import HandS.ExcValue
import HandS.Words
import HandS.Text
import HandS.Deep
import HandS.ClsMeth
import KE.RegKIsAll
import PySem.Challenge.RW_overrounds_k38_whole_alive_and_across
set_option Elab.async false
set_option linter.all false
set_option maxRecDepth 100000
set_option maxHeartbeats 2000000
namespace K38
open PySem L2
def top (i : Nat) : Stmt := PySem.Challenge.pw_overrounds_k38_whole_alive_and_across.main.body.getD i (.Pass ⟨0, 0, 0, 0⟩)
abbrev s_wall : Stmt := top 0
abbrev s_is_name : Stmt := top 10
abbrev s_is_integer : Stmt := top 11
abbrev s_is_between : Stmt := top 12
abbrev s_check_integer : Stmt := top 13
abbrev s_check_between : Stmt := top 14
abbrev s_check_interval : Stmt := top 15
abbrev s_times_alive : Stmt := top 16
abbrev s_ascends : Stmt := top 18
abbrev s_is_span : Stmt := top 22
abbrev s_are_rows : Stmt := top 23
abbrev s_w_tray : Stmt := top 26
abbrev s_w_roll : Stmt := top 27
abbrev s_w_pick : Stmt := top 28
abbrev s_w_few : Stmt := top 29
abbrev s_w_names : Stmt := top 30
abbrev s_w_rings : Stmt := top 31
abbrev s_w_rows : Stmt := top 32
abbrev s_w_sorted : Stmt := top 33
abbrev s_w_alive : Stmt := top 34
abbrev s_w_of : Stmt := top 35
abbrev s_w_told : Stmt := top 36
abbrev s_w_most : Stmt := top 37
abbrev s_w_right : Stmt := top 38
abbrev s_law : Stmt := top 39
abbrev s_RoundError_init : Stmt := inClass (top 2) 0
abbrev s_UnknownName_init : Stmt := inClass (top 5) 0
abbrev s_InvalidNumber_init : Stmt := inClass (top 6) 0
abbrev s_Spans_init : Stmt := inClass (top 24) 0
abbrev s_Spans_interval : Stmt := inClass (top 24) 1
abbrev s_Spans_rows : Stmt := inClass (top 24) 2
abbrev s_Spans_names : Stmt := inClass (top 24) 3
abbrev s_Spans_most : Stmt := inClass (top 24) 4
abbrev s_Spans_peaks : Stmt := inClass (top 24) 5
abbrev s_Spans_total : Stmt := inClass (top 24) 6
abbrev s_Spans_pieces : Stmt := inClass (top 24) 7
abbrev s_Spans_normal : Stmt := inClass (top 24) 8
abbrev s_Spans_sums : Stmt := inClass (top 24) 9
abbrev s_Spans_chosen : Stmt := inClass (top 24) 10
abbrev s_Spans_alive : Stmt := inClass (top 24) 11
abbrev s_Spans_across : Stmt := inClass (top 24) 12
abbrev s_Spans_is_full : Stmt := inClass (top 24) 13
abbrev s_Spans_most_of : Stmt := inClass (top 24) 14
abbrev s_Spans_full_slots : Stmt := inClass (top 24) 15
abbrev s_Spans_is_apart : Stmt := inClass (top 24) 16
abbrev s_Spans_linked : Stmt := inClass (top 24) 17
abbrev s_Spans_has_free : Stmt := inClass (top 24) 18
abbrev s_Spans_each_alive : Stmt := inClass (top 24) 19
abbrev s_Spans_getitem : Stmt := inClass (top 24) 20
abbrev s_Spans_contains : Stmt := inClass (top 24) 21
abbrev s_Spans_len : Stmt := inClass (top 24) 22
abbrev s_Spans_iter : Stmt := inClass (top 24) 23
abbrev s_Spans_later : Stmt := inClass (top 24) 24
abbrev s_Spans_add : Stmt := inClass (top 24) 25
abbrev s_Spans_or : Stmt := inClass (top 24) 26
abbrev s_Spans_and : Stmt := inClass (top 24) 27
abbrev s_Spans_eq : Stmt := inClass (top 24) 28
abbrev s_Spans_str : Stmt := inClass (top 24) 29
theorem sc_RoundError_init : FnScope ["self", "told"] ["self", "told"] (defScope s_RoundError_init) := ⟨rfl, rfl, rfl, by decide +kernel, rfl, by decide +kernel, by decide +kernel⟩
theorem sc_UnknownName_init : FnScope ["self", "wanted"] ["self", "wanted"] (defScope s_UnknownName_init) := ⟨rfl, rfl, rfl, by decide +kernel, rfl, by decide +kernel, by decide +kernel⟩
theorem sc_InvalidNumber_init : FnScope ["self", "value"] ["self", "value"] (defScope s_InvalidNumber_init) := ⟨rfl, rfl, rfl, by decide +kernel, rfl, by decide +kernel, by decide +kernel⟩
theorem sc_Spans_init : FnScope ["self", "interval", "rows", "name", "begin", "end", "slot"] ["self", "interval", "rows"] (defScope s_Spans_init) := ⟨rfl, rfl, rfl, by decide +kernel, rfl, by decide +kernel, by decide +kernel⟩
theorem sc_Spans_interval : FnScope ["self"] ["self"] (defScope s_Spans_interval) := ⟨rfl, rfl, rfl, by decide +kernel, rfl, by decide +kernel, by decide +kernel⟩
theorem sc_Spans_rows : FnScope ["self"] ["self"] (defScope s_Spans_rows) := ⟨rfl, rfl, rfl, by decide +kernel, rfl, by decide +kernel, by decide +kernel⟩
theorem sc_Spans_names : FnScope ["self"] ["self"] (defScope s_Spans_names) := ⟨rfl, rfl, rfl, by decide +kernel, rfl, by decide +kernel, by decide +kernel⟩
theorem sc_Spans_most : FnScope ["self"] ["self"] (defScope s_Spans_most) := ⟨rfl, rfl, rfl, by decide +kernel, rfl, by decide +kernel, by decide +kernel⟩
theorem sc_Spans_peaks : FnScope ["self", "counts", "most", "slot", "many"] ["self"] (defScope s_Spans_peaks) := ⟨rfl, rfl, rfl, by decide +kernel, rfl, by decide +kernel, by decide +kernel⟩
theorem sc_Spans_total : FnScope ["self", "begin", "end"] ["self"] (defScope s_Spans_total) := ⟨rfl, rfl, rfl, by decide +kernel, rfl, by decide +kernel, by decide +kernel⟩
theorem sc_Spans_pieces : FnScope ["self"] ["self"] (defScope s_Spans_pieces) := ⟨rfl, rfl, rfl, by decide +kernel, rfl, by decide +kernel, by decide +kernel⟩
theorem sc_Spans_normal : FnScope ["self"] ["self"] (defScope s_Spans_normal) := ⟨rfl, rfl, rfl, by decide +kernel, rfl, by decide +kernel, by decide +kernel⟩
theorem sc_Spans_sums : FnScope ["self", "counts", "names", "slot", "name"] ["self", "counts", "names"] (defScope s_Spans_sums) := ⟨rfl, rfl, rfl, by decide +kernel, rfl, by decide +kernel, by decide +kernel⟩
theorem sc_Spans_chosen : FnScope ["self", "names", "name"] ["self", "names"] (defScope s_Spans_chosen) := ⟨rfl, rfl, rfl, by decide +kernel, rfl, by decide +kernel, by decide +kernel⟩
theorem sc_Spans_alive : FnScope ["self", "tick", "names", "chosen", "name"] ["self", "tick", "names"] (defScope s_Spans_alive) := ⟨rfl, rfl, rfl, by decide +kernel, rfl, by decide +kernel, by decide +kernel⟩
theorem sc_Spans_across : FnScope ["self", "moment", "names", "chosen", "name"] ["self", "moment", "names"] (defScope s_Spans_across) := ⟨rfl, rfl, rfl, by decide +kernel, rfl, by decide +kernel, by decide +kernel⟩
theorem sc_Spans_is_full : FnScope ["self", "moment", "names", "chosen"] ["self", "moment", "names"] (defScope s_Spans_is_full) := ⟨rfl, rfl, rfl, by decide +kernel, rfl, by decide +kernel, by decide +kernel⟩
theorem sc_Spans_most_of : FnScope ["self", "names"] ["self", "names"] (defScope s_Spans_most_of) := ⟨rfl, rfl, rfl, by decide +kernel, rfl, by decide +kernel, by decide +kernel⟩
theorem sc_Spans_full_slots : FnScope ["self", "names", "most", "many"] ["self", "names"] (defScope s_Spans_full_slots) := ⟨rfl, rfl, rfl, by decide +kernel, rfl, by decide +kernel, by decide +kernel⟩
theorem sc_Spans_is_apart : FnScope ["self", "names"] ["self", "names"] (defScope s_Spans_is_apart) := ⟨rfl, rfl, rfl, by decide +kernel, rfl, by decide +kernel, by decide +kernel⟩
theorem sc_Spans_linked : FnScope ["self", "peak"] ["self", "peak"] (defScope s_Spans_linked) := ⟨rfl, rfl, rfl, by decide +kernel, rfl, by decide +kernel, by decide +kernel⟩
theorem sc_Spans_has_free : FnScope ["self", "names", "peak", "slot"] ["self", "names", "peak", "slot"] (defScope s_Spans_has_free) := ⟨rfl, rfl, rfl, by decide +kernel, rfl, by decide +kernel, by decide +kernel⟩
theorem gc_Spans_each_alive : L2.GScope ["self", "tick", "name", "begin", "end", "last", "many", "turn"] ["self", "tick"] (defScope s_Spans_each_alive) := ⟨rfl, rfl, rfl, by decide +kernel, rfl, by decide +kernel, by decide +kernel⟩
theorem sc_Spans_getitem : FnScope ["self", "name"] ["self", "name"] (defScope s_Spans_getitem) := ⟨rfl, rfl, rfl, by decide +kernel, rfl, by decide +kernel, by decide +kernel⟩
theorem sc_Spans_contains : FnScope ["self", "value"] ["self", "value"] (defScope s_Spans_contains) := ⟨rfl, rfl, rfl, by decide +kernel, rfl, by decide +kernel, by decide +kernel⟩
theorem sc_Spans_len : FnScope ["self"] ["self"] (defScope s_Spans_len) := ⟨rfl, rfl, rfl, by decide +kernel, rfl, by decide +kernel, by decide +kernel⟩
theorem sc_Spans_iter : FnScope ["self"] ["self"] (defScope s_Spans_iter) := ⟨rfl, rfl, rfl, by decide +kernel, rfl, by decide +kernel, by decide +kernel⟩
theorem sc_Spans_later : FnScope ["self", "ticks", "name", "begin", "end"] ["self", "ticks"] (defScope s_Spans_later) := ⟨rfl, rfl, rfl, by decide +kernel, rfl, by decide +kernel, by decide +kernel⟩
theorem sc_Spans_add : FnScope ["self", "other"] ["self", "other"] (defScope s_Spans_add) := ⟨rfl, rfl, rfl, by decide +kernel, rfl, by decide +kernel, by decide +kernel⟩
theorem sc_Spans_or : FnScope ["self", "other", "rows", "name"] ["self", "other"] (defScope s_Spans_or) := ⟨rfl, rfl, rfl, by decide +kernel, rfl, by decide +kernel, by decide +kernel⟩
theorem sc_Spans_and : FnScope ["self", "other", "name"] ["self", "other"] (defScope s_Spans_and) := ⟨rfl, rfl, rfl, by decide +kernel, rfl, by decide +kernel, by decide +kernel⟩
theorem sc_Spans_eq : FnScope ["self", "other"] ["self", "other"] (defScope s_Spans_eq) := ⟨rfl, rfl, rfl, by decide +kernel, rfl, by decide +kernel, by decide +kernel⟩
theorem sc_Spans_str : FnScope ["self"] ["self"] (defScope s_Spans_str) := ⟨rfl, rfl, rfl, by decide +kernel, rfl, by decide +kernel, by decide +kernel⟩
theorem sc_wall : FnScope ["k"] ["k"] (defScope s_wall) := ⟨rfl, rfl, rfl, by decide +kernel, rfl, by decide +kernel, by decide +kernel⟩
theorem sc_is_name : FnScope ["value", "letter"] ["value"] (defScope s_is_name) := ⟨rfl, rfl, rfl, by decide +kernel, rfl, by decide +kernel, by decide +kernel⟩
theorem sc_is_integer : FnScope ["value"] ["value"] (defScope s_is_integer) := ⟨rfl, rfl, rfl, by decide +kernel, rfl, by decide +kernel, by decide +kernel⟩
theorem sc_is_between : FnScope ["value", "low", "high"] ["value", "low", "high"] (defScope s_is_between) := ⟨rfl, rfl, rfl, by decide +kernel, rfl, by decide +kernel, by decide +kernel⟩
theorem sc_check_integer : FnScope ["value"] ["value"] (defScope s_check_integer) := ⟨rfl, rfl, rfl, by decide +kernel, rfl, by decide +kernel, by decide +kernel⟩
theorem sc_check_between : FnScope ["value", "low", "high"] ["value", "low", "high"] (defScope s_check_between) := ⟨rfl, rfl, rfl, by decide +kernel, rfl, by decide +kernel, by decide +kernel⟩
theorem sc_check_interval : FnScope ["value"] ["value"] (defScope s_check_interval) := ⟨rfl, rfl, rfl, by decide +kernel, rfl, by decide +kernel, by decide +kernel⟩
theorem sc_times_alive : FnScope ["begin", "end", "tick", "interval"] ["begin", "end", "tick", "interval"] (defScope s_times_alive) := ⟨rfl, rfl, rfl, by decide +kernel, rfl, by decide +kernel, by decide +kernel⟩
theorem sc_ascends : FnScope ["row", "at"] ["row"] (defScope s_ascends) := ⟨rfl, rfl, rfl, by decide +kernel, rfl, by decide +kernel, by decide +kernel⟩
theorem sc_is_span : FnScope ["interval", "value"] ["interval", "value"] (defScope s_is_span) := ⟨rfl, rfl, rfl, by decide +kernel, rfl, by decide +kernel, by decide +kernel⟩
theorem sc_are_rows : FnScope ["interval", "value", "name"] ["interval", "value"] (defScope s_are_rows) := ⟨rfl, rfl, rfl, by decide +kernel, rfl, by decide +kernel, by decide +kernel⟩
theorem sc_w_tray : FnScope ["script", "spot", "cell", "great", "begin"] ["script", "spot"] (defScope s_w_tray) := ⟨rfl, rfl, rfl, by decide +kernel, rfl, by decide +kernel, by decide +kernel⟩
theorem sc_w_roll : FnScope ["tray", "total", "found", "one", "two"] ["tray", "total"] (defScope s_w_roll) := ⟨rfl, rfl, rfl, by decide +kernel, rfl, by decide +kernel, by decide +kernel⟩
theorem sc_w_pick : FnScope ["tray", "items"] ["tray", "items"] (defScope s_w_pick) := ⟨rfl, rfl, rfl, by decide +kernel, rfl, by decide +kernel, by decide +kernel⟩
theorem sc_w_few : FnScope ["tray", "items", "many", "left", "found", "turn"] ["tray", "items", "many"] (defScope s_w_few) := ⟨rfl, rfl, rfl, by decide +kernel, rfl, by decide +kernel, by decide +kernel⟩
theorem sc_w_names : FnScope ["tray", "many", "letters", "stem", "found", "letter", "turn", "size"] ["tray", "many"] (defScope s_w_names) := ⟨rfl, rfl, rfl, by decide +kernel, rfl, by decide +kernel, by decide +kernel⟩
theorem sc_w_rings : FnScope ["tray", "interval", "names", "rows", "left", "some", "first", "begin", "name", "last"] ["tray", "interval", "names"] (defScope s_w_rings) := ⟨rfl, rfl, rfl, by decide +kernel, rfl, by decide +kernel, by decide +kernel⟩
theorem sc_w_rows : FnScope ["tray", "interval", "names", "rows", "name", "begin", "size"] ["tray", "interval", "names"] (defScope s_w_rows) := ⟨rfl, rfl, rfl, by decide +kernel, rfl, by decide +kernel, by decide +kernel⟩
theorem sc_w_sorted : FnScope ["rows", "name"] ["rows"] (defScope s_w_sorted) := ⟨rfl, rfl, rfl, by decide +kernel, rfl, by decide +kernel, by decide +kernel⟩
theorem sc_w_alive : FnScope ["rows", "interval", "tick", "found", "name", "begin", "end", "turns", "turn"] ["rows", "interval", "tick"] (defScope s_w_alive) := ⟨rfl, rfl, rfl, by decide +kernel, rfl, by decide +kernel, by decide +kernel⟩
theorem sc_w_of : FnScope ["values", "names", "value"] ["values", "names"] (defScope s_w_of) := ⟨rfl, rfl, rfl, by decide +kernel, rfl, by decide +kernel, by decide +kernel⟩
theorem sc_w_told : FnScope ["spans", "tick", "some", "one", "two", "last", "found"] ["spans", "tick", "some"] (defScope s_w_told) := ⟨rfl, rfl, rfl, by decide +kernel, rfl, by decide +kernel, by decide +kernel⟩
theorem sc_w_most : FnScope ["spans", "some"] ["spans", "some"] (defScope s_w_most) := ⟨rfl, rfl, rfl, by decide +kernel, rfl, by decide +kernel, by decide +kernel⟩
theorem sc_w_right : FnScope ["tray", "interval", "rows", "spans", "lists", "sizes", "peaks", "turn", "some", "counted", "most", "at", "tick", "both", "due", "far", "later", "values", "slot", "value", "name"] ["tray"] (defScope s_w_right) := ⟨rfl, rfl, rfl, by decide +kernel, rfl, by decide +kernel, by decide +kernel⟩
theorem sc_law : FnScope ["script", "spot", "wide", "told", "one", "letter"] ["script"] (defScope s_law) := ⟨rfl, rfl, rfl, by decide +kernel, rfl, by decide +kernel, by decide +kernel⟩
/-- where the defs stand, and what the names hold -/
structure T (K : PySem.W.Frag) (mg : Str → Option Value) where
  f_wall : Addr
  d_wall : FuncData
  F_wall : Fun K "_wall" "_wall" s_wall f_wall d_wall
  m_wall : mg "_wall" = some (.ref f_wall)
  b_wall : Binds K d_wall ["k"] []
  f_is_name : Addr
  d_is_name : FuncData
  F_is_name : Fun K "is_name" "is_name" s_is_name f_is_name d_is_name
  m_is_name : mg "is_name" = some (.ref f_is_name)
  b_is_name : Binds K d_is_name ["value"] []
  f_is_integer : Addr
  d_is_integer : FuncData
  F_is_integer : Fun K "is_integer" "is_integer" s_is_integer f_is_integer d_is_integer
  m_is_integer : mg "is_integer" = some (.ref f_is_integer)
  b_is_integer : Binds K d_is_integer ["value"] []
  f_is_between : Addr
  d_is_between : FuncData
  F_is_between : Fun K "is_between" "is_between" s_is_between f_is_between d_is_between
  m_is_between : mg "is_between" = some (.ref f_is_between)
  b_is_between : Binds K d_is_between ["value", "low", "high"] []
  f_check_integer : Addr
  d_check_integer : FuncData
  F_check_integer : Fun K "check_integer" "check_integer" s_check_integer f_check_integer d_check_integer
  m_check_integer : mg "check_integer" = some (.ref f_check_integer)
  b_check_integer : Binds K d_check_integer ["value"] []
  f_check_between : Addr
  d_check_between : FuncData
  F_check_between : Fun K "check_between" "check_between" s_check_between f_check_between d_check_between
  m_check_between : mg "check_between" = some (.ref f_check_between)
  b_check_between : Binds K d_check_between ["value", "low", "high"] []
  f_check_interval : Addr
  d_check_interval : FuncData
  F_check_interval : Fun K "check_interval" "check_interval" s_check_interval f_check_interval d_check_interval
  m_check_interval : mg "check_interval" = some (.ref f_check_interval)
  b_check_interval : Binds K d_check_interval ["value"] []
  f_times_alive : Addr
  d_times_alive : FuncData
  F_times_alive : Fun K "times_alive" "times_alive" s_times_alive f_times_alive d_times_alive
  m_times_alive : mg "times_alive" = some (.ref f_times_alive)
  b_times_alive : Binds K d_times_alive ["begin", "end", "tick", "interval"] []
  f_ascends : Addr
  d_ascends : FuncData
  F_ascends : Fun K "ascends" "ascends" s_ascends f_ascends d_ascends
  m_ascends : mg "ascends" = some (.ref f_ascends)
  b_ascends : Binds K d_ascends ["row"] []
  f_is_span : Addr
  d_is_span : FuncData
  F_is_span : Fun K "_is_span" "_is_span" s_is_span f_is_span d_is_span
  m_is_span : mg "_is_span" = some (.ref f_is_span)
  b_is_span : Binds K d_is_span ["interval", "value"] []
  f_are_rows : Addr
  d_are_rows : FuncData
  F_are_rows : Fun K "_are_rows" "_are_rows" s_are_rows f_are_rows d_are_rows
  m_are_rows : mg "_are_rows" = some (.ref f_are_rows)
  b_are_rows : Binds K d_are_rows ["interval", "value"] []
  f_w_tray : Addr
  d_w_tray : FuncData
  F_w_tray : Fun K "_law_tray" "_law_tray" s_w_tray f_w_tray d_w_tray
  m_w_tray : mg "_law_tray" = some (.ref f_w_tray)
  b_w_tray : Binds K d_w_tray ["script", "spot"] []
  f_w_roll : Addr
  d_w_roll : FuncData
  F_w_roll : Fun K "_law_roll" "_law_roll" s_w_roll f_w_roll d_w_roll
  m_w_roll : mg "_law_roll" = some (.ref f_w_roll)
  b_w_roll : Binds K d_w_roll ["tray", "total"] []
  f_w_pick : Addr
  d_w_pick : FuncData
  F_w_pick : Fun K "_law_pick" "_law_pick" s_w_pick f_w_pick d_w_pick
  m_w_pick : mg "_law_pick" = some (.ref f_w_pick)
  b_w_pick : Binds K d_w_pick ["tray", "items"] []
  f_w_few : Addr
  d_w_few : FuncData
  F_w_few : Fun K "_law_few" "_law_few" s_w_few f_w_few d_w_few
  m_w_few : mg "_law_few" = some (.ref f_w_few)
  b_w_few : Binds K d_w_few ["tray", "items", "many"] []
  f_w_names : Addr
  d_w_names : FuncData
  F_w_names : Fun K "_law_names" "_law_names" s_w_names f_w_names d_w_names
  m_w_names : mg "_law_names" = some (.ref f_w_names)
  b_w_names : Binds K d_w_names ["tray", "many"] []
  f_w_rings : Addr
  d_w_rings : FuncData
  F_w_rings : Fun K "_law_rings" "_law_rings" s_w_rings f_w_rings d_w_rings
  m_w_rings : mg "_law_rings" = some (.ref f_w_rings)
  b_w_rings : Binds K d_w_rings ["tray", "interval", "names"] []
  f_w_rows : Addr
  d_w_rows : FuncData
  F_w_rows : Fun K "_law_rows" "_law_rows" s_w_rows f_w_rows d_w_rows
  m_w_rows : mg "_law_rows" = some (.ref f_w_rows)
  b_w_rows : Binds K d_w_rows ["tray", "interval", "names"] []
  f_w_sorted : Addr
  d_w_sorted : FuncData
  F_w_sorted : Fun K "_law_sorted" "_law_sorted" s_w_sorted f_w_sorted d_w_sorted
  m_w_sorted : mg "_law_sorted" = some (.ref f_w_sorted)
  b_w_sorted : Binds K d_w_sorted ["rows"] []
  f_w_alive : Addr
  d_w_alive : FuncData
  F_w_alive : Fun K "_law_alive" "_law_alive" s_w_alive f_w_alive d_w_alive
  m_w_alive : mg "_law_alive" = some (.ref f_w_alive)
  b_w_alive : Binds K d_w_alive ["rows", "interval", "tick"] []
  f_w_of : Addr
  d_w_of : FuncData
  F_w_of : Fun K "_law_of" "_law_of" s_w_of f_w_of d_w_of
  m_w_of : mg "_law_of" = some (.ref f_w_of)
  b_w_of : Binds K d_w_of ["values", "names"] []
  f_w_told : Addr
  d_w_told : FuncData
  F_w_told : Fun K "_law_told" "_law_told" s_w_told f_w_told d_w_told
  m_w_told : mg "_law_told" = some (.ref f_w_told)
  b_w_told : Binds K d_w_told ["spans", "tick", "some"] []
  f_w_most : Addr
  d_w_most : FuncData
  F_w_most : Fun K "_law_most" "_law_most" s_w_most f_w_most d_w_most
  m_w_most : mg "_law_most" = some (.ref f_w_most)
  b_w_most : Binds K d_w_most ["spans", "some"] []
  f_w_right : Addr
  d_w_right : FuncData
  F_w_right : Fun K "_law_right" "_law_right" s_w_right f_w_right d_w_right
  m_w_right : mg "_law_right" = some (.ref f_w_right)
  b_w_right : Binds K d_w_right ["tray"] []
  f_law : Addr
  d_law : FuncData
  F_law : Fun K "law" "law" s_law f_law d_law
  m_law : mg "law" = some (.ref f_law)
  b_law : Binds K d_law ["script"] []
  c_MAX_INTERVAL : ∃ t, mg "MAX_INTERVAL" = some (.int 32 t)
  c_MAX_LETTERS : ∃ t, mg "MAX_LETTERS" = some (.int 8 t)
  c_MAX_VALUES : ∃ t, mg "MAX_VALUES" = some (.int 8 t)
  c_MAX_LIFE : ∃ t, mg "MAX_LIFE" = some (.int 8 t)
  z_int : mg "int" = none
  z_abs : mg "abs" = none
  z_len : mg "len" = none
  z_max : mg "max" = none
  z_min : mg "min" = none
  z_range : mg "range" = none
  z_sum : mg "sum" = none
  z_isinstance : mg "isinstance" = none
  z_repr : mg "repr" = none
  z_str : mg "str" = none
  z_all : mg "all" = none
  z_any : mg "any" = none
  z_sorted : mg "sorted" = none
  z_tuple : mg "tuple" = none
  z_list : mg "list" = none
  z_dict : mg "dict" = none
  z_set : mg "set" = none
  z_bool : mg "bool" = none
  z_enumerate : mg "enumerate" = none
/-- a list of three ints stands at r -/
def Rl (H : Hp) (r : Addr) : Prop := ∃ a b c : Int, H r = some (.lst [.int a, .int b, .int c])
/-- what the heap held, but for what stands at r -/
def Only (r : Addr) (H H' : Hp) : Prop := ∀ b o, b ≠ r → H b = some o → H' b = some o
theorem Only.refl {r : Addr} {H : Hp} : Only r H H := fun _ _ _ e => e
theorem Only.trans {r : Addr} {H H1 H2 : Hp} (a : Only r H H1) (b : Only r H1 H2) : Only r H H2 := fun c o n e => b c o n (a c o n e)
theorem Only.upd {r : Addr} {H : Hp} {o : HO} : Only r H (upd H r o) := fun b _ n e => by rw [upd_ne n]; exact e
theorem Only.new {r p : Addr} {H : Hp} {o : HO} (n : H p = none) : Only r H (L2.upd H p o) := fun b _ _ e => by rw [upd_ne (ne_of_none e n)]; exact e
theorem Rl.new {r p : Addr} {H : Hp} {o : HO} (h : Rl H r) (n : H p = none) : Rl (upd H p o) r := by
  obtain ⟨a, b, c, e⟩ := h
  exact ⟨a, b, c, by rw [upd_ne (ne_of_none e n)]; exact e⟩
theorem Rl.ne {r p : Addr} {H : Hp} (h : Rl H r) (n : H p = none) : p ≠ r := by
  obtain ⟨a, b, c, e⟩ := h
  exact (ne_of_none e n).symm
theorem Only.seqL {K : PySem.W.Frag} {r l : Addr} {H H' : Hp} {xs : List V} (o : Only r H H') (n : l ≠ r) (h : SqL K H l xs) : SqL K H' l xs := by
  rcases h with (h | ⟨u, h⟩) | h
  · exact .inl (.inl (o _ _ n h))
  · exact .inl (.inr ⟨u, o _ _ n h⟩)
  · exact .inr h
theorem Only.seqT {K : PySem.W.Frag} {r l : Addr} {H H' : Hp} {xs : List V} (o : Only r H H') (n : l ≠ r) (h : SqT K H l xs) : SqT K H' l xs := by
  rcases h with (h | ⟨u, h⟩) | h
  · exact .inl (.inl (o _ _ n h))
  · exact .inl (.inr ⟨u, o _ _ n h⟩)
  · exact .inr h
theorem ix_at {α : Type} {xs : List α} {i : Int} (h0 : 0 ≤ i) (h1 : i < xs.length) : ∃ v, v ∈ xs ∧ atI xs i = some v := by
  have h2 : i.toNat < xs.length := by omega
  refine ⟨xs[i.toNat], List.getElem_mem h2, ?_⟩
  have h3 : ((i.toNat : Nat) : Int) = i := Int.toNat_of_nonneg h0
  have := atI_nat (xs := xs) (j := i.toNat) (List.getElem?_eq_getElem h2)
  rw [h3] at this
  exact this
/-- what a draw is made from: a list, a tuple, a text -/
def SeqV (K : PySem.W.Frag) (H : Hp) (r : Addr) (x : V) (xs : List V) : Prop :=
  (∃ l, x = .ref l ∧ l ≠ r ∧ (SqL K H l xs ∨ SqT K H l xs)) ∨ (∃ z : Str, x = .str z ∧ z.length ≤ sizeLine ∧ xs = z.cps.toList.map fun c => V.str ⟨#[c]⟩)
theorem lg {i : Int} {b : Nat} (h0 : 0 ≤ i) (h : i < 2 ^ b) (hb : 0 < b) : i.natAbs.log2 < b := by
  refine PySem.Flt.log2_lt_of hb ?_
  have : (i.natAbs : Int) = i := Int.natAbs_of_nonneg h0
  have h2 : ((i.natAbs : Nat) : Int) < ((2 ^ b : Nat) : Int) := by rw [this, Int.natCast_pow]; exact h
  exact Int.ofNat_lt.mp h2
section
variable {X : Cx}
theorem op_powW : OpR X (binaryOp .Pow) (rI (fun i j => 0 ≤ j ∧ (Builtin.Int.intBits i : Int) * j ≤ 2 ^ 27) fun i j => .int (i ^ j.toNat)) := opI fun _ _ _ _ _ _ _ hc q => PyProof.Rows.pow_int hc.1 hc.2 q
end
theorem ite_join {c : Bool} {ta tb : TE} {σ : St} {H : Hp} {Q : VK} (R : V → Hp → Prop) (ha : c = true → ∀ Q' : VK, (∀ v H', R v H' → Q' v H') → ta σ H Q') (hb : c = false → ∀ Q' : VK, (∀ v H', R v H' → Q' v H') → tb σ H Q')
    (h : ∀ v H', R v H' → Q v H') : if c = true then ta σ H Q else tb σ H Q := by
  cases c with
  | true => exact iteT (ha rfl Q h)
  | false => exact iteF (hb rfl Q h)
theorem at_ns {ns : List Int} {i : Nat} (h : i < ns.length) : ∃ z, atI (ns.map V.int) (i : Int) = some (.int z) :=
  ⟨ns[i], atI_nat (by rw [List.getElem?_map, List.getElem?_eq_getElem h]; rfl)⟩
theorem bl_t {Q : VK} {b : Bool} {H : Hp} (e : b = true) (k : Q (.bl true) H) : Q (.bl b) H := e ▸ k
theorem int_to {Q : VK} {i j : Int} {H : Hp} (e : i = j) (k : Q (.int j) H) : Q (.int i) H := e ▸ k
theorem if_ne {x y : V} {A B : Prop} (h : x ≠ y) (a : A) : if (!decide (x = y)) = true then A else B := by
  rw [decide_eq_false h]
  exact iteT a
theorem if_dec_t {x y : V} {A B : Prop} (h : x = y) (a : A) : if decide (x = y) = true then A else B := by
  rw [decide_eq_true h]
  exact iteT a
theorem if_dec_f {x y : V} {A B : Prop} (h : x ≠ y) (b : B) : if decide (x = y) = true then A else B := by
  rw [decide_eq_false h]
  exact iteF b
theorem dp_all {K : PySem.W.Frag} {H : Hp} : ∀ ns : List Int, DpAll K H (ns.map V.int) (ns.map PyData.int)
  | [] => .nil
  | n :: r => .cons (.int n) (dp_all r)
theorem dp_ints {K : PySem.W.Frag} {H : Hp} {a : Addr} (ns : List Int) (h : SqL K H a (ns.map V.int)) : Dp K H (.ref a) (.list (ns.map PyData.int)) := .lst h (dp_all ns)
theorem cells_n (n m : Nat) : ((if (if ((n : Nat) : Int) < (m : Int) then ((n : Nat) : Int) else (m : Int)) > 1 then (if ((n : Nat) : Int) < (m : Int) then ((n : Nat) : Int) else (m : Int)) else 1) : Int) ≤ (m : Int) + 1 ∧ 1 ≤ ((if (if ((n : Nat) : Int) < (m : Int) then ((n : Nat) : Int) else (m : Int)) > 1 then (if ((n : Nat) : Int) < (m : Int) then ((n : Nat) : Int) else (m : Int)) else 1) : Int) := by
  split <;> split <;> omega
def nmC (z : Str) : Bool := decide (1 ≤ z.length ∧ z.length ≤ 8) && z.cps.toList.all fun c => decide (97 ≤ c) && decide (c ≤ 122)
def nmD : PyData → Bool
  | .str z => nmC z
  | _ => false
def inD (lo hi : Int) : PyData → Bool
  | .int n => (decide (-1000000000000 < n) && decide (n < 1000000000000)) && (decide (lo ≤ n) && decide (n ≤ hi))
  | _ => false
def isInD : PyData → Bool
  | .int n => decide (-1000000000000 < n) && decide (n < 1000000000000)
  | _ => false
def prD (hi : Int) : PyData → Bool
  | .tuple [a, b] => nmD a && inD 0 hi b
  | _ => false
def rwD (most : Nat) (hi : Int) : PyData → Bool
  | .tuple ds => decide (ds.length ≤ most) && ds.all (prD hi)
  | _ => false
/-- every text in it is short -/
def okD (d : PyData) : Prop := d.weight ≤ 1000000
/-- a value that is the datum d, or a dict -/
def DD (K : PySem.W.Frag) (H : Hp) (x : V) (d : PyData) : Prop := Dp K H x d ∨ ∃ a kvs, x = .ref a ∧ H a = some (.dK kvs) ∧ d = .dict []
theorem Same.seqT {K : PySem.W.Frag} {H H' : Hp} {a : Addr} {xs : List V} (e : Same H H') (h : SqT K H a xs) : SqT K H' a xs := by
  rcases h with (h | ⟨o, h⟩) | h
  · exact .inl (.inl (e _ _ h))
  · exact .inl (.inr ⟨o, e _ _ h⟩)
  · exact .inr h
mutual
theorem dp_same {K : PySem.W.Frag} {H H' : Hp} (s : Same H H') : ∀ (d : PyData) (x : V), Dp K H x d → Dp K H' x d
  | .none, _, h => by cases h; exact .non
  | .bool b, _, h => by cases h; exact .bl b
  | .int i, _, h => by cases h; exact .int i
  | .str z, _, h => by cases h; exact .str z
  | .list ds, _, h => by
    cases h with
    | lst h1 h2 => exact .lst (Same.seq s h1) (dpa_same s ds _ h2)
  | .tuple ds, _, h => by
    cases h with
    | tup h1 h2 => exact .tup (Same.seqT s h1) (dpa_same s ds _ h2)
  | .dict _, _, h => by cases h
theorem dpa_same {K : PySem.W.Frag} {H H' : Hp} (s : Same H H') : ∀ (ds : List PyData) (xs : List V), DpAll K H xs ds → DpAll K H' xs ds
  | [], _, h => by cases h; exact .nil
  | d :: ds, _, h => by
    cases h with
    | cons h1 h2 => exact .cons (dp_same s d _ h1) (dpa_same s ds _ h2)
end
theorem DD.same {K : PySem.W.Frag} {H H' : Hp} {x : V} {d : PyData} (s : Same H H') (h : DD K H x d) : DD K H' x d := by
  rcases h with h | ⟨a, kvs, e1, e2, e3⟩
  · exact .inl (dp_same s d x h)
  · exact .inr ⟨a, kvs, e1, s _ _ e2, e3⟩
theorem dpa_len {K : PySem.W.Frag} {H : Hp} : ∀ {ds : List PyData} {xs : List V}, DpAll K H xs ds → ds.length = xs.length
  | [], _, h => by cases h; rfl
  | d :: ds, _, h => by
    cases h with
    | cons h1 h2 => rw [List.length_cons, List.length_cons, dpa_len h2]
theorem dpa_get {K : PySem.W.Frag} {H : Hp} : ∀ {ds : List PyData} {xs : List V} {i : Nat} {x : V}, DpAll K H xs ds → xs[i]? = some x → ∃ d, ds[i]? = some d ∧ Dp K H x d
  | [], _, i, x, h, e => by cases h; simp at e
  | d :: ds, _, 0, x, h, e => by
    cases h with
    | cons h1 h2 =>
      obtain rfl := Option.some.inj e
      exact ⟨d, rfl, h1⟩
  | d :: ds, _, i + 1, x, h, e => by
    cases h with
    | cons h1 h2 => exact dpa_get (i := i) h2 e
def tyD : PyData → String
  | .none => "NoneType" | .bool _ => "bool" | .int _ => "int" | .str _ => "str" | .list _ => "list" | .tuple _ => "tuple" | .dict _ => "dict"
theorem DD.ty {K : PySem.W.Frag} {H : Hp} {x : V} {d : PyData} (h : DD K H x d) : TyX K H x (.type (tyD d)) := by
  rcases h with h | ⟨a, kvs, rfl, e, rfl⟩
  · cases h with
    | non => exact .base .non
    | bl b => exact .base (.bl b)
    | int i => exact .base (.int i)
    | str z => exact .base (.str z)
    | lst h1 h2 =>
      rcases h1 with (h | ⟨o, h⟩) | ⟨o, its, n, e1, e2, _⟩
      · exact .base (.lst h)
      · exact .base (.frz h)
      · exact .kList e1 e2
    | tup h1 h2 =>
      rcases h1 with (h | ⟨o, h⟩) | ⟨o, its, n, e1, e2, _⟩
      · exact .base (.tup h)
      · exact .fTuple h
      · exact .kTuple e1 e2
  · exact .base (.dK e)
theorem weight_mem : ∀ {ds : List PyData} {d : PyData}, d ∈ ds → d.weight ≤ PyData.weightAll ds
  | a :: r, d, h => by
    rw [PyData.weightAll]
    rcases List.mem_cons.mp h with rfl | h
    · omega
    · have := weight_mem h
      omega
theorem okD_tup {ds : List PyData} (h : okD (.tuple ds)) {d : PyData} (hd : d ∈ ds) : okD d := by
  have h1 := weight_mem hd
  have h2 : PyData.weightAll ds ≤ 1000000 := by
    have h3 : (PyData.tuple ds).weight ≤ 1000000 := h
    rw [PyData.weight] at h3
    exact h3
  exact Nat.le_trans h1 h2
theorem okD_str {z : Str} (h : okD (.str z)) : z.length ≤ 1000000 := by
  have h3 : (PyData.str z).weight ≤ 1000000 := h
  rw [PyData.weight] at h3
  exact h3
theorem bl_to {Q : VK} {b c : Bool} {H : Hp} (e : b = c) (k : Q (.bl c) H) : Q (.bl b) H := e ▸ k
theorem Same.rl {H H' : Hp} {r : Addr} (s : Same H H') (h : Rl H r) : Rl H' r := by
  obtain ⟨a, b, c, e⟩ := h
  exact ⟨a, b, c, s _ _ e⟩
theorem Same.only {H H' : Hp} {r : Addr} (s : Same H H') : Only r H H' := fun b o _ e => s b o e
theorem Same.new {H : Hp} {p : Addr} {o : HO} (n : H p = none) : Same H (upd H p o) := fun b u e => by rw [upd_ne (ne_of_none e n)]; exact e
theorem Same.at {H0 H : Hp} {D : Addr} {o : HO} (n : H0 D = none) (s : Same H0 H) : Same H0 (upd H D o) := fun b u e => by rw [upd_ne (ne_of_none e n)]; exact s b u e
theorem lt_sign (c d : Nat) : (([c] : List Nat) < [d]) ↔ c < d := by
  constructor
  · intro h
    rcases List.cons_lt_cons_iff.mp h with h | ⟨_, h⟩
    · exact h
    · exact absurd h (by simp)
  · intro h
    exact List.cons_lt_cons_iff.mpr (.inl h)
theorem tk_succ {z : Str} {i c : Nat} (h : z.cps[i]? = some c) : z.cps.toList.take (i + 1) = z.cps.toList.take i ++ [c] := by
  have h2 : z.cps.toList[i]? = some c := by rw [Array.getElem?_toList]; exact h
  rw [List.take_add_one, h2]
  rfl
theorem tk_all (z : Str) : z.cps.toList.take z.cps.size = z.cps.toList := List.take_of_length_le (by rw [Array.length_toList]; exact Nat.le_refl _)
theorem not_str {d : PyData} (h : ∀ z, d ≠ .str z) : kitB (tyD d) "str" = some false ∧ nmD d = false := by
  cases d with
  | str z => exact absurd rfl (h z)
  | _ => exact ⟨by simp only [tyD]; decide +kernel, rfl⟩
theorem not_int {d : PyData} (h1 : ∀ n, d ≠ .int n) (h2 : ∀ b, d ≠ .bool b) : kitB (tyD d) "int" = some false ∧ isInD d = false := by
  cases d with
  | int n => exact absurd rfl (h1 n)
  | bool b => exact absurd rfl (h2 b)
  | _ => exact ⟨by simp only [tyD]; decide +kernel, rfl⟩
theorem not_tup {d : PyData} (h : ∀ ds, d ≠ .tuple ds) : kitB (tyD d) "tuple" = some false := by
  cases d with
  | tuple z => exact absurd rfl (h z)
  | _ => simp only [tyD]; decide +kernel
/-- its items ascend -/
def ascD (ds : List PyData) : Bool := (List.range (ds.length - 1)).all fun i => PySem.W.dataLt (ds.getD i .none) (ds.getD (i + 1) .none)
theorem depth_in {hi : Int} {d : PyData} (h : prD hi d = true) : ∃ z n, d = .tuple [.str z, .int n] := by
  unfold prD at h
  split at h
  · rename_i a b
    have h1 := (Bool.and_eq_true_iff.mp h).1
    have h2 := (Bool.and_eq_true_iff.mp h).2
    cases a with
    | str z =>
      cases b with
      | int n => exact ⟨z, n, rfl⟩
      | _ => cases h2
    | _ => cases h1
  · cases h
section
variable {X : Cx}
def rLtD (K : PySem.W.Frag) : R2 := fun x y H Q => ∃ d e, Dp K H x d ∧ Dp K H y e ∧ PySem.W.alike d e = true ∧ d ≠ .none ∧ d.depth ≤ 60 ∧ Q (.bl (PySem.W.dataLt d e)) H
theorem op_ltD (hu : X.A.units + 64 < cLine) : OpR X (compareOp .Lt) (rLtD X.K) := by
  intro pins s σ H x y v u Q I rx ry h
  obtain ⟨d, e, h1, h2, h3, h4, h5, q⟩ := h
  obtain ⟨as, r1⟩ := Dp.reads I d x v h1 rx
  obtain ⟨bs, r2⟩ := Dp.reads I e y u h2 ry
  exact PySem.W.lt_data r1 r2 h3 h4 (by have := Nat.min_le_left d.depth e.depth; omega) ⟨.bl _, H, I, rfl, q⟩
end

section
variable {P : Program} {w : World} {K : PySem.W.Frag}
                                                      {mg : Str → Option Value} {base : Heap}
def sp_w_tray (K : PySem.W.Frag) : Sp := fun vs H Q _ => ∃ (s : Addr) (ns : List Int) (i : Nat), vs = [.ref s, .int (i : Int)] ∧ SqL K H s (ns.map V.int) ∧ ∀ p a b c, H p = none → Q (.ref p) (upd H p (.lst [.int a, .int b, .int c]))
theorem ok_w_tray (T : T K mg) : FnOk P w K mg base CX0 1 T.f_w_tray T.d_w_tray ["script", "spot"] (sp_w_tray K) := by
  refine T.F_w_tray.ok sc_w_tray (fun vs H Q E h => ?_) (fun cdv A outer s H vs Q E hr h => ?_)
  · obtain ⟨s, ns, i, rfl, _⟩ := h
    rfl
  · obtain ⟨s, ns, i, rfl, hS, k⟩ := h
    have hu := hu_of hr
    refine ⟨_, (pss_cons (ps_set (i := 2) sc_w_tray.nd rfl (Or.inl rfl) (pe_ifExp (pt_cmpR op_lt (pv 1) (pe_callB call_len (by rfl) T.z_len (by decide +kernel) (pa_cons (pv 0) pa_nil)) (nomark _)) (pe_ix ix_seq (pv 0) (pv 1) (fun _ _ => rfl)) (pe_op op_add (pe_op op_mul pe_int (pv 1)) pe_int)))
      (pss_cons (ps_set (i := 3) sc_w_tray.nd rfl (Or.inl rfl) (pe_op op_mod (pe_callTy call_int1 (by rfl) T.z_int (by decide +kernel) (pa_cons (pe_callB call_abs (by rfl) T.z_abs (by decide +kernel) (pa_cons (pv 2) pa_nil)) pa_nil)) (pe_op op_powW (pe_op op_pow pe_int pe_int) pe_int)))
      (pss_cons (ps_set (i := 4) sc_w_tray.nd rfl (Or.inl rfl) (pe_op op_add (pe_op op_add (pe_op op_add (pe_op op_mul (pv 3) pe_int) (pe_op op_mul pe_int (pv 1))) (pe_op op_mul pe_int (pe_callTy call_int1 (by rfl) T.z_int (by decide +kernel) (pa_cons (pe_cmpR op_lt (pv 2) pe_int (nomark _)) pa_nil)))) pe_int))
      (pss_one (ps_ret (pe_lst (pa_cons (pe_callB (call_max2 rfl) (by rfl) T.z_max (by decide +kernel) (pa_cons pe_int (pa_cons (pe_op op_sub (pv 3) (pe_op op_pow pe_int pe_int)) pa_nil))) (pa_cons (pe_op op_mod (pe_callTy call_int1 (by rfl) T.z_int (by decide +kernel) (pa_cons (pv 4) pa_nil)) pe_int) (pa_cons pe_int pa_nil))))))))), ?_⟩
    refine ⟨_, rfl, _, rfl, _, _, rfl, .inl ⟨_, hS, rfl⟩, _, _, rfl, rfl, _, rfl, ?_⟩
    refine ite_join (fun v H' => H' = H ∧ ∃ z, v = .int z) (fun c Q' q => ?_) (fun c Q' q => ?_) ?_
    · have hi := of_decide_eq_true c
      rw [List.length_map] at hi
      obtain ⟨z, hz⟩ := at_ns (ns := ns) (i := i) (by omega)
      exact ⟨_, rfl, _, rfl, .inl ⟨_, _, _, _, rfl, rfl, hS, hz, q _ _ ⟨rfl, z, rfl⟩⟩⟩
    · exact ⟨_, rfl, _, _, rfl, rfl, .inl ⟨by decide, by decide⟩, _, _, rfl, rfl, q _ _ ⟨rfl, _, rfl⟩⟩
    rintro v H' ⟨rfl, z, rfl⟩
    refine ⟨_, rfl, _, rfl, .inl ⟨_, rfl, ?_⟩⟩
    refine ⟨_, _, rfl, rfl, ⟨by decide, by decide, by decide⟩, _, _, rfl, rfl, ⟨by decide, by decide +kernel⟩, _, _, rfl, rfl, (by show (0 : Int) < _; decide +kernel), ?_⟩
    refine ⟨_, rfl, _, _, rfl, rfl, .inr ⟨by decide, by decide⟩, ?_⟩
    refine ⟨_, rfl, _, _, rfl, rfl, .inl ⟨by decide, by decide⟩, _, _, rfl, rfl, ?_⟩
    refine ⟨_, rfl, _, _, rfl, rfl, .inr ⟨_, rfl, ?_⟩⟩
    refine ⟨_, _, rfl, rfl, .inl ⟨by decide, by decide⟩, _, _, rfl, rfl, _, _, rfl, rfl, ?_⟩
    refine ⟨_, rfl, _, _, rfl, rfl, ⟨by decide, by decide, by decide⟩, _, _, rfl, rfl, _, _, rfl, _, rfl, .inl ⟨_, rfl, ?_⟩⟩
    refine ⟨_, _, rfl, rfl, (by show (0 : Int) < _; decide), (by show 3 ≤ sizeLine; decide), fun p hp => ?_⟩
    exact k p _ _ _ hp
def sp_w_roll (K : PySem.W.Frag) : Sp := fun vs H Q _ => ∃ (r : Addr) (n : Int), vs = [.ref r, .int n] ∧ Rl H r ∧ 0 < n ∧ n.natAbs.log2 < 9000 ∧ ∀ v H', 0 ≤ v → v < n → Rl H' r → Only r H H' → Q (.int v) H'
theorem ok_w_roll (T : T K mg) : FnOk P w K mg base CX0 1 T.f_w_roll T.d_w_roll ["tray", "total"] (sp_w_roll K) := by
  refine T.F_w_roll.ok sc_w_roll (fun vs H Q E h => ?_) (fun cdv A outer s H vs Q E hr h => ?_)
  · obtain ⟨r, n, rfl, _⟩ := h
    rfl
  · obtain ⟨r, n, rfl, ⟨a, b, c, e⟩, h0, h9, k⟩ := h
    have hu := hu_of hr
    refine ⟨_, (pss_cons (ps_if (pt_cmpR op_gt (pe_ix ix_seq (pv 0) pe_int (fun _ _ => rfl)) pe_int (nomark _))
      (pss_cons (ps_set (i := 2) sc_w_roll.nd rfl (Or.inl rfl) (pe_op op_mod (pe_callTy call_int1 (by rfl) T.z_int (by decide +kernel) (pa_cons (pe_ix ix_seq (pv 0) pe_int (fun _ _ => rfl)) pa_nil)) (pv 1)))
      (pss_cons (ps_asg (pe_op op_fdivW (pe_ix ix_seq (pv 0) pe_int (fun _ _ => rfl)) (pv 1)) (pg_sub (pv 0) pe_int set_list))
      (pss_one (ps_ret (pv 2)))))
      pss_nil)
      (pss_cons (ps_asg (pe_op op_add (pe_ix ix_seq (pv 0) pe_int (fun _ _ => rfl)) pe_int) (pg_sub (pv 0) pe_int set_list))
      (pss_cons (ps_set (i := 3) sc_w_roll.nd rfl (Or.inl rfl) (pe_op op_mod (pe_callTy call_int1 (by rfl) T.z_int (by decide +kernel) (pa_cons (pe_op op_add (pe_ix ix_seq (pv 0) pe_int (fun _ _ => rfl)) (pe_op op_mul pe_int (pe_ix ix_seq (pv 0) pe_int (fun _ _ => rfl)))) pa_nil)) pe_int))
      (pss_cons (ps_set (i := 4) sc_w_roll.nd rfl (Or.inl rfl) (pe_op op_add (pe_op op_mul (pe_op op_mod (pe_callTy call_int1 (by rfl) T.z_int (by decide +kernel) (pa_cons (pe_op op_mul (pv 3) (pv 3)) pa_nil)) pe_int) (pv 3)) (pe_op op_mul pe_int (pe_ix ix_seq (pv 0) pe_int (fun _ _ => rfl)))))
      (pss_one (ps_ret (pe_op op_mod (pe_callTy call_int1 (by rfl) T.z_int (by decide +kernel) (pa_cons (pe_op op_fdivW (pe_op op_mod (pe_callTy call_int1 (by rfl) T.z_int (by decide +kernel) (pa_cons (pe_op op_add (pv 4) (pe_ix ix_seq (pv 0) pe_int (fun _ _ => rfl))) pa_nil)) pe_int) pe_int) pa_nil)) (pv 1)))))))), ?_⟩
    have u3 : ∀ {x y z : V} {G : Hp}, G r = some (.lst [x, y, z]) → SqL K G r [x, y, z] := fun g => SqL.of g
    refine ⟨_, rfl, .inl ⟨_, _, _, _, rfl, rfl, u3 e, rfl, ?_⟩⟩
    refine ⟨_, _, rfl, rfl, _, rfl, ?_⟩
    refine ite2 (fun c1 => ?_) (fun c1 => ?_)
    · refine ⟨_, rfl, .inl ⟨_, _, _, _, rfl, rfl, u3 e, rfl, .inl ⟨_, rfl, ?_⟩⟩⟩
      refine ⟨_, rfl, _, _, rfl, rfl, h0, ?_⟩
      refine ⟨_, rfl, .inl ⟨_, _, _, _, rfl, rfl, u3 e, rfl, ?_⟩⟩
      refine ⟨_, rfl, _, _, rfl, rfl, ⟨h0, h9⟩, _, rfl, _, _, _, 0, rfl, rfl, e, rfl, ?_⟩
      refine ⟨_, rfl, ?_⟩
      exact k _ _ (Int.emod_nonneg _ (by omega)) (Int.emod_lt_of_pos _ h0) ⟨_, _, _, upd_same⟩ Only.upd
    · refine ⟨_, rfl, .inl ⟨_, _, _, _, rfl, rfl, u3 e, rfl, ?_⟩⟩
      refine ⟨_, _, rfl, rfl, _, rfl, _, _, _, 2, rfl, rfl, e, rfl, ?_⟩
      have e2 : (upd H r (.lst [.int a, .int b, .int (c + 1)])) r = some (.lst [.int a, .int b, .int (c + 1)]) := upd_same
      refine ⟨_, rfl, .inl ⟨_, _, _, _, rfl, rfl, u3 e2, rfl, ?_⟩⟩
      refine ⟨_, rfl, .inl ⟨_, _, _, _, rfl, rfl, u3 e2, rfl, ?_⟩⟩
      refine ⟨_, _, rfl, rfl, .inl ⟨by decide, by decide⟩, _, _, rfl, rfl, .inl ⟨_, rfl, ?_⟩⟩
      refine ⟨_, _, rfl, rfl, (by show (0 : Int) < _; decide), ?_⟩
      have o1 : -(2 ^ 64) < (b + 922337203 * (c + 1)) % 2305843009213693951 ∧ (b + 922337203 * (c + 1)) % 2305843009213693951 < 2 ^ 64 := by omega
      refine ⟨_, rfl, _, rfl, _, _, rfl, rfl, .inl o1, .inl ⟨_, rfl, ?_⟩⟩
      refine ⟨_, _, rfl, rfl, (by show (0 : Int) < _; decide), _, rfl, _, _, rfl, rfl, .inr o1, ?_⟩
      refine ⟨_, rfl, .inl ⟨_, _, _, _, rfl, rfl, u3 e2, rfl, ?_⟩⟩
      refine ⟨_, _, rfl, rfl, .inl ⟨by decide, by decide⟩, _, _, rfl, rfl, ?_⟩
      refine ⟨_, rfl, _, rfl, .inl ⟨_, _, _, _, rfl, rfl, u3 e2, rfl, ?_⟩⟩
      refine ⟨_, _, rfl, rfl, .inl ⟨_, rfl, ?_⟩⟩
      refine ⟨_, _, rfl, rfl, (by show (0 : Int) < _; decide), ?_⟩
      refine ⟨_, _, rfl, rfl, ⟨by decide, by decide⟩, .inl ⟨_, rfl, ?_⟩⟩
      refine ⟨_, rfl, _, _, rfl, rfl, h0, ?_⟩
      exact k _ _ (Int.emod_nonneg _ (by omega)) (Int.emod_lt_of_pos _ h0) ⟨_, _, _, e2⟩ Only.upd
def sp_w_pick (K : PySem.W.Frag) : Sp := fun vs H Q _ => ∃ (r : Addr) (x : V) (xs : List V), vs = [.ref r, x] ∧ Rl H r ∧ SeqV K H r x xs ∧ 0 < xs.length ∧ xs.length ≤ sizeLine ∧ ∀ v H', v ∈ xs → Rl H' r → Only r H H' → Q v H'
theorem ok_w_pick (T : T K mg) : FnOk P w K mg base CX0 2 T.f_w_pick T.d_w_pick ["tray", "items"] (sp_w_pick K) := by
  have G_w_roll : FnOk P w K mg base CX0 1 T.f_w_roll T.d_w_roll ["tray", "total"] (sp_w_roll K) := ok_w_roll T
  refine T.F_w_pick.ok sc_w_pick (fun vs H Q E h => ?_) (fun cdv A outer s H vs Q E hr h => ?_)
  · obtain ⟨r, x, xs, rfl, _⟩ := h
    rfl
  · obtain ⟨r, x, xs, rfl, hR, hx, h0, h1, k⟩ := h
    have hu := hu_of hr
    have hr_w_roll : Room 1 _ := hr.mono (by decide)
    refine ⟨_, (pss_one (ps_ret (pe_ix ix_seq (pv 1) (pe_call G_w_roll hr_w_roll rfl T.m_w_roll T.F_w_roll.kp T.b_w_roll .nil pass0 (pa_cons (pv 0) (pa_cons (pe_callB call_len (by rfl) T.z_len (by decide +kernel) (pa_cons (pv 1) pa_nil)) pa_nil))) (fun _ _ => rfl)))), ?_⟩
    have hl : (xs.length : Int).natAbs.log2 < 9000 := by
      have : xs.length < 2 ^ 63 := Nat.lt_of_le_of_lt h1 (by decide)
      exact Nat.lt_trans (lg (b := 63) (by omega) (by omega) (by decide)) (by decide)
    refine ⟨_, rfl, _, rfl, _, rfl, x, xs.length, rfl, ?_, ?_⟩
    · rcases hx with ⟨l, rfl, hn, h | h⟩ | ⟨z, rfl, hz, rfl⟩
      · exact .inl ⟨_, h, rfl⟩
      · exact .inr ⟨_, h, rfl⟩
      · exact ⟨hz, by rw [List.length_map]; rfl⟩
    refine ⟨r, _, rfl, hR, by omega, hl, fun v H' v0 v1 R' O' => ?_⟩
    obtain ⟨y, hy, ha⟩ := ix_at v0 v1
    rcases hx with ⟨l, rfl, hn, h | h⟩ | ⟨z, rfl, hz, rfl⟩
    · exact .inl ⟨_, _, _, _, rfl, rfl, O'.seqL hn h, ha, k _ _ hy R' O'⟩
    · exact .inr (.inl ⟨_, _, _, _, rfl, rfl, O'.seqT hn h, ha, k _ _ hy R' O'⟩)
    · obtain ⟨i, hi⟩ : ∃ c, atI z.cps.toList v = some c := by
        unfold atI at ha ⊢
        rw [List.length_map] at ha
        cases e : ixN z.cps.toList.length v with
        | none => rw [e] at ha; cases ha
        | some j =>
          rw [e] at ha
          simp only [Option.bind_some] at ha ⊢
          rw [List.getElem?_map] at ha
          cases e2 : z.cps.toList[j]? with
          | none => rw [e2] at ha; cases ha
          | some c => exact ⟨c, rfl⟩
      have hc : i ∈ z.cps.toList := by
        unfold atI at hi
        cases e : ixN z.cps.toList.length v with
        | none => rw [e] at hi; cases hi
        | some j => rw [e] at hi; exact List.mem_of_getElem? hi
      exact .inr (.inr ⟨_, _, _, rfl, rfl, hz, hi, k _ _ (List.mem_map.mpr ⟨i, hc, rfl⟩) R' O'⟩)
def sp_is_name (K : PySem.W.Frag) : Sp := fun vs H Q _ => ∃ (x : V) (d : PyData), vs = [x] ∧ DD K H x d ∧ okD d ∧ ∀ H', Same H H' → Q (.bl (nmD d)) H'
theorem ok_is_name (T : T K mg) : FnOk P w K mg base CX0 1 T.f_is_name T.d_is_name ["value"] (sp_is_name K) := by
  refine T.F_is_name.ok sc_is_name (fun vs H Q E h => ?_) (fun cdv A outer s H vs Q E hr h => ?_)
  · obtain ⟨x, d, rfl, _⟩ := h
    rfl
  · obtain ⟨x, d, rfl, hx, hw, k⟩ := h
    have hu := hu_of hr
    obtain ⟨_, c_MAX_LETTERS⟩ := T.c_MAX_LETTERS
    refine ⟨_, (pss_cons (ps_if (PW.pt (pw_or (pt_not (pt_val (pe_callB call_isi (by rfl) T.z_isinstance (by decide +kernel) (pa_cons (pv 0) (pa_cons (pe_bltn (v := V.ty "str") (u := Value.type "str") (by rfl) T.z_str (by decide +kernel) rfl) pa_nil))))) (pw_or1 (pt_not (pt_chain op_le op_le pe_int (pe_callB call_len (by rfl) T.z_len (by decide +kernel) (pa_cons (pv 0) pa_nil)) (pe_glob (v := V.int 8) rfl c_MAX_LETTERS ⟨_, rfl⟩))))))
      (pss_one (ps_ret pe_bl))
      pss_nil)
      (pss_one (ps_ret (pe_callB (cr_all rfl) (by rfl) T.z_all (by decide +kernel) (pa_cons (pe_lc (own := [("letter", 1)]) (g := gName 1) rfl sc_is_name.nd (pi_str (pv 0)) (blkOk_by (N := ["value", "letter"]) (sc := defScope s_is_name) (by decide +kernel)) (fun _ _ _ _ _ => (pg_name (i := 1) sc_is_name.nd rfl (Or.inl rfl))) (fun _ _ _ _ _ => pts_nil) (fun _ _ _ _ _ => (pe_chain op_le_str op_le_str pe_str (pv 1) pe_str))) pa_nil))))), ?_⟩
    by_cases hs : ∃ z, d = .str z
    · obtain ⟨z, rfl⟩ := hs
      have hz := okD_str hw
      obtain rfl : x = .str z := by
        rcases hx with h | ⟨_, _, _, _, h⟩
        · cases h
          rfl
        · cases h
      refine ⟨_, rfl, _, _, _, _, true, rfl, .ty _, .base (.str _), kit_ty (by decide +kernel), _, rfl, iteF ?_⟩
      refine ⟨_, rfl, _, _, rfl, ⟨Nat.le_trans hz (by decide), rfl⟩, _, _, rfl, rfl, _, rfl, ?_⟩
      refine ite2 (fun c1 => ?_) (fun c1 => ?_)
      · have h1 := of_decide_eq_true c1
        refine ⟨_, _, rfl, rfl, _, rfl, ?_⟩
        by_cases h2 : (z.length : Int) ≤ 8
        · rw [decide_eq_true h2]
          refine iteF ?_
          refine ⟨_, rfl, _, rfl, fun D hD => ?_⟩
          refine lc_it walk_str (fun i H' => H' D = some (.lst (((z.cps.toList.take i).map fun c => decide (97 ≤ c) && decide (c ≤ 122)).map V.bl)) ∧ Same H H') ⟨upd_same, Same.new hD⟩ (fun _ _ _ _ => trivial) ?_ ?_
          · rintro i y H1 H2 hi ⟨eD, S⟩ ⟨rfl, c, hc, rfl⟩
            refine ⟨rfl, ?_⟩
            unfold tYes
            dsimp only
            rw [if_pos rfl]
            refine ⟨_, rfl, _, _, rfl, rfl, _, rfl, ?_⟩
            have done : ∀ b : Bool, b = (decide (97 ≤ c) && decide (c ≤ 122)) → ∃ acc, H2 D = some (.lst acc) ∧ acc.length < sizeLine ∧ (upd H2 D (.lst (acc ++ [V.bl b]))) D = some (.lst (((z.cps.toList.take (i + 1)).map fun c => decide (97 ≤ c) && decide (c ≤ 122)).map V.bl)) ∧ Same H (upd H2 D (.lst (acc ++ [V.bl b]))) := by
              rintro b rfl
              refine ⟨_, eD, ?_, ?_, Same.at hD S⟩
              · rw [List.length_map, List.length_map, List.length_take]
                have : z.cps.toList.length = z.length := by simp [Str.length]
                exact Nat.lt_of_le_of_lt (Nat.le_trans (Nat.min_le_right _ _) (by omega : z.cps.toList.length ≤ 100)) (by decide)
              · rw [upd_same, tk_succ hc, List.map_append, List.map_append]
                rfl
            refine ite2 (fun c2 => ?_) (fun c2 => ?_)
            · have h3 : 97 ≤ c := by
                rw [Bool.not_eq_true', decide_eq_false_iff_not] at c2
                have c3 : ¬ (([c] : List Nat) < [97]) := c2
                rw [lt_sign] at c3
                omega
              refine ⟨_, _, rfl, rfl, done _ ?_⟩
              rw [decide_eq_true h3, Bool.true_and]
              by_cases h4 : c ≤ 122
              · rw [decide_eq_true h4]
                show (!decide (([122] : List Nat) < [c])) = true
                rw [decide_eq_false (by rw [lt_sign]; omega)]
                rfl
              · rw [decide_eq_false h4]
                show (!decide (([122] : List Nat) < [c])) = false
                rw [decide_eq_true (by rw [lt_sign]; omega)]
                rfl
            · have h3 : ¬ 97 ≤ c := by
                rw [Bool.not_eq_true', decide_eq_false_iff_not] at c2
                have c3 := Classical.not_not.mp c2
                have c4 : ([c] : List Nat) < [97] := c3
                rw [lt_sign] at c4
                omega
              refine done _ ?_
              rw [decide_eq_false h3, Bool.false_and]
          · rintro H9 ⟨eD, S⟩
            refine ⟨_, _, rfl, SqL.of eD, ?_⟩
            refine bl_to ?_ (k _ S)
            rw [tk_all]
            show _ = (decide (1 ≤ z.length ∧ z.length ≤ 8) && _)
            rw [decide_eq_true (show 1 ≤ z.length ∧ z.length ≤ 8 by omega), Bool.true_and, List.all_map]
            rfl
        · rw [decide_eq_false h2]
          refine iteT ?_
          refine bl_to ?_ (k _ (Same.refl _))
          show false = (decide (1 ≤ z.length ∧ z.length ≤ 8) && _)
          rw [decide_eq_false (show ¬ (1 ≤ z.length ∧ z.length ≤ 8) by omega), Bool.false_and]
      · have h1 : ¬ (1 : Int) ≤ (z.length : Int) := fun q => c1 (decide_eq_true q)
        refine ⟨_, rfl, iteT ?_⟩
        refine bl_to ?_ (k _ (Same.refl _))
        show false = (decide (1 ≤ z.length ∧ z.length ≤ 8) && _)
        rw [decide_eq_false (show ¬ (1 ≤ z.length ∧ z.length ≤ 8) by omega), Bool.false_and]
    · have hn := not_str fun z e => hs ⟨z, e⟩
      refine ⟨_, rfl, _, _, _, _, false, rfl, .ty _, hx.ty, kit_ty hn.1, _, rfl, iteT ?_⟩
      exact iteT (bl_to hn.2.symm (k _ (Same.refl _)))
def sp_is_integer (K : PySem.W.Frag) : Sp := fun vs H Q _ => ∃ (x : V) (d : PyData), vs = [x] ∧ DD K H x d ∧ Q (.bl (isInD d)) H
theorem ok_is_integer (T : T K mg) : FnOk P w K mg base CX0 1 T.f_is_integer T.d_is_integer ["value"] (sp_is_integer K) := by
  refine T.F_is_integer.ok sc_is_integer (fun vs H Q E h => ?_) (fun cdv A outer s H vs Q E hr h => ?_)
  · obtain ⟨x, d, rfl, _⟩ := h
    rfl
  · obtain ⟨x, d, rfl, hx, k⟩ := h
    have hu := hu_of hr
    refine ⟨_, (pss_cons (ps_if (PW.pt (pw_or (pt_not (pt_val (pe_callB call_isi (by rfl) T.z_isinstance (by decide +kernel) (pa_cons (pv 0) (pa_cons (pe_bltn (v := V.ty "int") (u := Value.type "int") (by rfl) T.z_int (by decide +kernel) rfl) pa_nil))))) (pw_or1 (pt_val (pe_callB call_isi (by rfl) T.z_isinstance (by decide +kernel) (pa_cons (pv 0) (pa_cons (pe_bltn (v := V.ty "bool") (u := Value.type "bool") (by rfl) T.z_bool (by decide +kernel) rfl) pa_nil)))))))
      (pss_one (ps_ret pe_bl))
      pss_nil)
      (pss_one (ps_ret (pe_chain op_lt op_lt (pe_un un_neg (pe_op op_pow pe_int pe_int)) (pv 0) (pe_op op_pow pe_int pe_int))))), ?_⟩
    by_cases h1 : ∃ n, d = .int n
    · obtain ⟨n, rfl⟩ := h1
      obtain rfl : x = .int n := by
        rcases hx with h | ⟨_, _, _, _, h⟩
        · cases h
          rfl
        · cases h
      refine ⟨_, rfl, _, _, _, _, true, rfl, .ty _, .base (.int _), kit_ty (by decide +kernel), _, rfl, iteF ?_⟩
      refine ⟨_, rfl, _, _, _, _, false, rfl, .ty _, .base (.int _), kit_ty (by decide +kernel), _, rfl, iteF ?_⟩
      refine ⟨_, _, rfl, rfl, ⟨by decide, by decide, by decide⟩, _, rfl, _, rfl, _, _, rfl, rfl, _, rfl, ?_⟩
      have e1 : decide (-(10 ^ Int.toNat 12) < n) = decide (-1000000000000 < n) := rfl
      refine ite2 (fun c => ?_) (fun c => ?_)
      · refine ⟨_, _, rfl, rfl, ⟨by decide, by decide, by decide⟩, _, _, rfl, rfl, ?_⟩
        refine bl_to ?_ k
        show _ = (decide (-1000000000000 < n) && decide (n < 1000000000000))
        rw [← e1, c, Bool.true_and]
        rfl
      · refine bl_to ?_ k
        show _ = (decide (-1000000000000 < n) && decide (n < 1000000000000))
        rw [← e1, Bool.eq_false_iff.mpr c, Bool.false_and]
    · by_cases h2 : ∃ b, d = .bool b
      · obtain ⟨b, rfl⟩ := h2
        refine ⟨_, rfl, _, _, _, _, true, rfl, .ty _, hx.ty, kit_ty (a := "bool") (b := "int") (by decide +kernel), _, rfl, iteF ?_⟩
        refine ⟨_, rfl, _, _, _, _, true, rfl, .ty _, hx.ty, kit_ty (a := "bool") (b := "bool") (by decide +kernel), _, rfl, iteT ?_⟩
        exact k
      · have hn := not_int (fun n e => h1 ⟨n, e⟩) fun b e => h2 ⟨b, e⟩
        refine ⟨_, rfl, _, _, _, _, false, rfl, .ty _, hx.ty, kit_ty hn.1, _, rfl, iteT ?_⟩
        exact iteT (bl_to hn.2.symm k)
def sp_is_between (K : PySem.W.Frag) : Sp := fun vs H Q _ => ∃ (x : V) (d : PyData) (lo hi : Int), vs = [x, .int lo, .int hi] ∧ DD K H x d ∧ Q (.bl (inD lo hi d)) H
theorem ok_is_between (T : T K mg) : FnOk P w K mg base CX0 2 T.f_is_between T.d_is_between ["value", "low", "high"] (sp_is_between K) := by
  have G_is_integer : FnOk P w K mg base CX0 1 T.f_is_integer T.d_is_integer ["value"] (sp_is_integer K) := ok_is_integer T
  refine T.F_is_between.ok sc_is_between (fun vs H Q E h => ?_) (fun cdv A outer s H vs Q E hr h => ?_)
  · obtain ⟨x, d, lo, hi, rfl, _⟩ := h
    rfl
  · obtain ⟨x, d, lo, hi, rfl, hx, k⟩ := h
    have hu := hu_of hr
    have hr_is_integer : Room 1 _ := hr.mono (by decide)
    refine ⟨_, (pss_one (ps_ret (pe_and (pe_call G_is_integer hr_is_integer rfl T.m_is_integer T.F_is_integer.kp T.b_is_integer .nil pass0 (pa_cons (pv 0) pa_nil)) (pe_one (pe_chain op_le op_le (pv 1) (pv 0) (pv 2)))))), ?_⟩
    refine ⟨_, rfl, x, d, rfl, hx, _, rfl, ?_⟩
    by_cases h : isInD d = true
    · rw [h]
      refine iteT ?_
      obtain ⟨n, rfl⟩ : ∃ n, d = .int n := by
        cases d with
        | int n => exact ⟨n, rfl⟩
        | _ => cases h
      obtain rfl : x = .int n := by
        rcases hx with h | ⟨_, _, _, _, h⟩
        · cases h
          rfl
        · cases h
      have hi2 : (decide (-1000000000000 < n) && decide (n < 1000000000000)) = true := h
      have k2 : Q (.bl (decide (lo ≤ n) && decide (n ≤ hi))) H := bl_to (by show _ = ((decide (-1000000000000 < n) && decide (n < 1000000000000)) && _); rw [hi2, Bool.true_and]) k
      refine ⟨_, rfl, _, rfl, _, _, rfl, rfl, _, rfl, ?_⟩
      refine ite2 (fun c => ?_) (fun c => ?_)
      · exact ⟨_, rfl, _, _, rfl, rfl, bl_to (by rw [c, Bool.true_and]) k2⟩
      · exact bl_to (by rw [Bool.eq_false_iff.mpr c, Bool.false_and]) k2
    · rw [Bool.eq_false_iff.mpr h]
      refine iteF (bl_to ?_ k)
      cases d with
      | int n =>
        show false = ((decide (-1000000000000 < n) && decide (n < 1000000000000)) && _)
        have h3 : ¬ (decide (-1000000000000 < n) && decide (n < 1000000000000)) = true := h
        rw [Bool.eq_false_iff.mpr h3, Bool.false_and]
      | _ => rfl
def sp_check_integer (K : PySem.W.Frag) : Sp := fun vs H Q _ => ∃ (n : Int), vs = [.int n] ∧ (-1000000000000 < n ∧ n < 1000000000000) ∧ Q .non H
theorem ok_check_integer (T : T K mg) : FnOk P w K mg base CX0 2 T.f_check_integer T.d_check_integer ["value"] (sp_check_integer K) := by
  have G_is_integer : FnOk P w K mg base CX0 1 T.f_is_integer T.d_is_integer ["value"] (sp_is_integer K) := ok_is_integer T
  refine T.F_check_integer.ok sc_check_integer (fun vs H Q E h => ?_) (fun cdv A outer s H vs Q E hr h => ?_)
  · obtain ⟨n, rfl, _⟩ := h
    rfl
  · obtain ⟨n, rfl, hn, k⟩ := h
    have hu := hu_of hr
    have hr_is_integer : Room 1 _ := hr.mono (by decide)
    refine ⟨_, (pss_one (ps_if (pt_not (pt_val (pe_call G_is_integer hr_is_integer rfl T.m_is_integer T.F_is_integer.kp T.b_is_integer .nil pass0 (pa_cons (pv 0) pa_nil))))
      (pss_one ps_never)
      pss_nil)), ?_⟩
    refine ⟨_, rfl, _, .int n, rfl, .inl (.int n), _, rfl, ?_⟩
    rw [show isInD (.int n) = true from by show (decide (-1000000000000 < n) && decide (n < 1000000000000)) = true; rw [decide_eq_true hn.1, decide_eq_true hn.2]; rfl]
    exact iteF k
def sp_check_between (K : PySem.W.Frag) : Sp := fun vs H Q _ => ∃ (n lo hi : Int), vs = [.int n, .int lo, .int hi] ∧ (-1000000000000 < n ∧ n < 1000000000000) ∧ lo ≤ n ∧ n ≤ hi ∧ Q .non H
theorem ok_check_between (T : T K mg) : FnOk P w K mg base CX0 3 T.f_check_between T.d_check_between ["value", "low", "high"] (sp_check_between K) := by
  have G_is_between : FnOk P w K mg base CX0 2 T.f_is_between T.d_is_between ["value", "low", "high"] (sp_is_between K) := ok_is_between T
  refine T.F_check_between.ok sc_check_between (fun vs H Q E h => ?_) (fun cdv A outer s H vs Q E hr h => ?_)
  · obtain ⟨n, lo, hi, rfl, _⟩ := h
    rfl
  · obtain ⟨n, lo, hi, rfl, hn, h1, h2, k⟩ := h
    have hu := hu_of hr
    have hr_is_between : Room 2 _ := hr.mono (by decide)
    refine ⟨_, (pss_one (ps_if (pt_not (pt_val (pe_call G_is_between hr_is_between rfl T.m_is_between T.F_is_between.kp T.b_is_between .nil pass0 (pa_cons (pv 0) (pa_cons (pv 1) (pa_cons (pv 2) pa_nil))))))
      (pss_one ps_never)
      pss_nil)), ?_⟩
    refine ⟨_, rfl, _, rfl, _, rfl, _, .int n, lo, hi, rfl, .inl (.int n), _, rfl, ?_⟩
    rw [show inD lo hi (.int n) = true from by show ((decide (-1000000000000 < n) && decide (n < 1000000000000)) && (decide (lo ≤ n) && decide (n ≤ hi))) = true; rw [decide_eq_true hn.1, decide_eq_true hn.2, decide_eq_true h1, decide_eq_true h2]; rfl]
    exact iteF k
def sp_check_interval (K : PySem.W.Frag) : Sp := fun vs H Q _ => ∃ (n : Int), vs = [.int n] ∧ 1 ≤ n ∧ n ≤ 32 ∧ Q .non H
theorem ok_check_interval (T : T K mg) : FnOk P w K mg base CX0 4 T.f_check_interval T.d_check_interval ["value"] (sp_check_interval K) := by
  have G_check_between : FnOk P w K mg base CX0 3 T.f_check_between T.d_check_between ["value", "low", "high"] (sp_check_between K) := ok_check_between T
  refine T.F_check_interval.ok sc_check_interval (fun vs H Q E h => ?_) (fun cdv A outer s H vs Q E hr h => ?_)
  · obtain ⟨n, rfl, _⟩ := h
    rfl
  · obtain ⟨n, rfl, h1, h2, k⟩ := h
    have hu := hu_of hr
    have hr_check_between : Room 3 _ := hr.mono (by decide)
    obtain ⟨_, c_MAX_INTERVAL⟩ := T.c_MAX_INTERVAL
    refine ⟨_, (pss_one (ps_expr (pe_call G_check_between hr_check_between rfl T.m_check_between T.F_check_between.kp T.b_check_between .nil pass0 (pa_cons (pv 0) (pa_cons pe_int (pa_cons (pe_glob (v := V.int 32) rfl c_MAX_INTERVAL ⟨_, rfl⟩) pa_nil)))))), ?_⟩
    refine ⟨_, rfl, n, 1, 32, rfl, ⟨by omega, by omega⟩, h1, h2, ?_⟩
    exact k
def sp_times_alive (K : PySem.W.Frag) : Sp := fun vs H Q _ => ∃ (b e t n : Int), vs = [.int b, .int e, .int t, .int n] ∧ (-1000000000000 < b ∧ b ≤ e ∧ e < 1000000000000) ∧ (-1000000000000 < t ∧ t < 1000000000000) ∧ 1 ≤ n ∧ n ≤ 32 ∧ Q (.int ((t - b) / n - (t - e) / n)) H
theorem ok_times_alive (T : T K mg) : FnOk P w K mg base CX0 5 T.f_times_alive T.d_times_alive ["begin", "end", "tick", "interval"] (sp_times_alive K) := by
  have G_check_integer : FnOk P w K mg base CX0 2 T.f_check_integer T.d_check_integer ["value"] (sp_check_integer K) := ok_check_integer T
  have G_check_interval : FnOk P w K mg base CX0 4 T.f_check_interval T.d_check_interval ["value"] (sp_check_interval K) := ok_check_interval T
  refine T.F_times_alive.ok sc_times_alive (fun vs H Q E h => ?_) (fun cdv A outer s H vs Q E hr h => ?_)
  · obtain ⟨b, e, t, n, rfl, _⟩ := h
    rfl
  · obtain ⟨b, e, t, n, rfl, hb, ht, h1, h2, k⟩ := h
    have hu := hu_of hr
    have hr_check_integer : Room 2 _ := hr.mono (by decide)
    have hr_check_interval : Room 4 _ := hr.mono (by decide)
    refine ⟨_, (pss_cons (ps_expr (pe_call G_check_integer hr_check_integer rfl T.m_check_integer T.F_check_integer.kp T.b_check_integer .nil pass0 (pa_cons (pv 0) pa_nil)))
      (pss_cons (ps_expr (pe_call G_check_integer hr_check_integer rfl T.m_check_integer T.F_check_integer.kp T.b_check_integer .nil pass0 (pa_cons (pv 1) pa_nil)))
      (pss_cons (ps_if (pt_cmpR op_lt (pv 1) (pv 0) (nomark _))
      (pss_one ps_never)
      pss_nil)
      (pss_cons (ps_expr (pe_call G_check_integer hr_check_integer rfl T.m_check_integer T.F_check_integer.kp T.b_check_integer .nil pass0 (pa_cons (pv 2) pa_nil)))
      (pss_cons (ps_expr (pe_call G_check_interval hr_check_interval rfl T.m_check_interval T.F_check_interval.kp T.b_check_interval .nil pass0 (pa_cons (pv 3) pa_nil)))
      (pss_one (ps_ret (pe_op op_sub (pe_op op_fdivW (pe_op op_sub (pv 2) (pv 0)) (pv 3)) (pe_op op_fdivW (pe_op op_sub (pv 2) (pv 1)) (pv 3)))))))))), ?_⟩
    refine ⟨_, rfl, b, rfl, ⟨by omega, by omega⟩, ?_⟩
    refine ⟨_, rfl, e, rfl, ⟨by omega, by omega⟩, ?_⟩
    refine ⟨_, rfl, _, rfl, _, _, rfl, rfl, _, rfl, ?_⟩
    rw [decide_eq_false (show ¬ e < b by omega)]
    refine iteF ?_
    refine ⟨_, rfl, t, rfl, ⟨by omega, by omega⟩, ?_⟩
    refine ⟨_, rfl, n, rfl, h1, h2, ?_⟩
    have hl : n.natAbs.log2 < 9000 := Nat.lt_trans (lg (b := 6) (by omega) (by omega) (by decide)) (by decide)
    refine ⟨_, rfl, _, rfl, _, _, rfl, rfl, _, rfl, _, _, rfl, rfl, ⟨by omega, hl⟩, ?_⟩
    refine ⟨_, rfl, _, rfl, _, _, rfl, rfl, _, rfl, _, _, rfl, rfl, ⟨by omega, hl⟩, ?_⟩
    exact ⟨_, _, rfl, rfl, k⟩
end
end K38
namespace K38
open PySem L2
section
variable {P : Program} {w : World} {K : PySem.W.Frag}
                                                      {mg : Str → Option Value} {base : Heap}
/-- draws without putting back: some of the items, in some order -/
def sp_w_few (K : PySem.W.Frag) : Sp := fun vs H Q _ => ∃ (r l : Addr) (xs : List V) (many : Int), vs = [.ref r, .ref l, .int many] ∧ Rl H r ∧ (SqL K H l xs ∨ SqT K H l xs) ∧ xs.length ≤ 100 ∧ 0 ≤ many ∧ many ≤ 100 ∧
  ∀ l' ys rest H', Rl H' r → Only r H H' → H l' = none → H' l' = some (.lst ys) → xs.Perm (ys ++ rest) → (ys.length : Int) = (if (xs.length : Int) < many then (xs.length : Int) else many) → Q (.ref l') H'
theorem er_perm {α : Type} : ∀ {l : List α} {k : Nat} (h : k < l.length), (l[k] :: l.eraseIdx k).Perm l
  | [], k, h => absurd h (Nat.not_lt_zero k)
  | x :: l, 0, _ => .refl _
  | x :: l, k + 1, h => by
    have hk : k < l.length := Nat.lt_of_succ_lt_succ h
    have ih := er_perm hk
    exact (List.Perm.swap x l[k] _).trans (ih.cons x)
theorem perm_take {xs ys rest : List V} {k : Nat} {y : V} (h : xs.Perm (ys ++ rest)) (e : rest[k]? = some y) : xs.Perm ((ys ++ [y]) ++ rest.eraseIdx k) := by
  obtain ⟨hk, rfl⟩ := List.getElem?_eq_some_iff.mp e
  refine h.trans ?_
  rw [List.append_assoc]
  refine List.Perm.append_left ys ?_
  exact (er_perm hk).symm
theorem ok_w_few (T : T K mg) : FnOk P w K mg base CX0 2 T.f_w_few T.d_w_few ["tray", "items", "many"] (sp_w_few K) := by
  have G_w_roll : FnOk P w K mg base CX0 1 T.f_w_roll T.d_w_roll ["tray", "total"] (sp_w_roll K) := ok_w_roll T
  refine T.F_w_few.ok sc_w_few (fun vs H Q E h => ?_) (fun cdv A outer s H vs Q E hr h => ?_)
  · obtain ⟨r, l, xs, many, rfl, _⟩ := h
    rfl
  · obtain ⟨r, l, xs, many, rfl, hR, hl, h100, m0, m1, k⟩ := h
    have hu := hu_of hr
    have hr_w_roll : Room 1 _ := hr.mono (by decide)
    refine ⟨_, (pss_cons (ps_par (i := 3) (j := 4) (by rfl) sc_w_few.nd rfl rfl (by decide) rfl rfl (pa_cons (pe_callTy call_list_of (by rfl) T.z_list (by decide +kernel) (pa_cons (pv 1) pa_nil)) (pa_cons (pe_lst pa_nil) pa_nil)) (by rfl))
      (pss_cons (ps_for PassesOwn.never rfl (pi_range1 (by rfl) T.z_range (pa_cons (pe_callB (call_min2 rfl) (by rfl) T.z_min (by decide +kernel) (pa_cons (pv 2) (pa_cons (pe_callB call_len (by rfl) T.z_len (by decide +kernel) (pa_cons (pv 3) pa_nil)) pa_nil))) pa_nil)) (pg_name (i := 5) sc_w_few.nd rfl (Or.inl rfl))
      (pss_one (ps_expr (pe_bm PySem.F.plainAttrs_list PySem.F.slot_list_append PySem.F.type_list_append mt_append (pv 4) (pa_cons (pe_bm PySem.F.plainAttrs_list PySem.F.slot_list_pop PySem.F.type_list_pop mt_popAt (pv 3) (pa_cons (pe_call G_w_roll hr_w_roll rfl T.m_w_roll T.F_w_roll.kp T.b_w_roll .nil pass0 (pa_cons (pv 0) (pa_cons (pe_callB call_len (by rfl) T.z_len (by decide +kernel) (pa_cons (pv 3) pa_nil)) pa_nil))) pa_nil)) pa_nil)))))
      (pss_one (ps_ret (pv 4))))), ?_⟩
    refine ⟨_, rfl, l, xs, rfl, hl, fun a ha => ?_⟩
    refine ⟨by show 0 ≤ sizeLine; decide, fun b hb => ?_⟩
    refine ⟨_, _, rfl, ?_⟩
    have nab : b ≠ a := fun z => by rw [z, upd_same] at hb; cases hb
    have hb0 : H b = none := by
      rw [upd_ne nab] at hb
      exact hb
    have nra : r ≠ a := fun z => by obtain ⟨x, y, z', q⟩ := hR; rw [z, ha] at q; cases q
    have nrb : r ≠ b := fun z => by obtain ⟨x, y, z', q⟩ := hR; rw [z, hb0] at q; cases q
    have S2 : Same H (upd (upd H a (.lst xs)) b (.lst [])) := fun c o e => by
      rw [upd_ne (ne_of_none e hb0), upd_ne (ne_of_none e ha)]
      exact e
    have eA0 : (upd (upd H a (.lst xs)) b (.lst [])) a = some (.lst xs) := by rw [upd_ne nab.symm, upd_same]
    refine ⟨_, rfl, _, rfl, _, _, rfl, .inl ⟨_, SqL.of eA0, rfl⟩, _, _, rfl, _, rfl, by split <;> omega, by split <;> omega, ?_⟩
    refine for_range (n := (if (xs.length : Int) < many then (xs.length : Int) else many).toNat) (fun i σ H' => ∃ v, σ = [some (.ref r), some (.ref l), some (.int many), some (.ref a), some (.ref b), v] ∧ Rl H' r ∧ Only r H H' ∧ ∃ ys rest, H' a = some (.lst rest) ∧ H' b = some (.lst ys) ∧ xs.Perm (ys ++ rest) ∧ ys.length = i)
      ⟨none, rfl, Same.rl S2 hR, Same.only S2, [], xs, eA0, upd_same, .refl _, rfl⟩ ?_ ?_
    · rintro i σ H' hi ⟨v, rfl, R', O', ys, rest, eA, eB, pm, ly⟩
      have hpl := pm.length_eq
      rw [List.length_append] at hpl
      have hi2 : (i : Int) < (if (xs.length : Int) < many then (xs.length : Int) else many) := by omega
      have hrl : 0 < rest.length := by
        split at hi2 <;> omega
      refine ⟨_, rfl, .inl ⟨rfl, _, SqL.of eB⟩, ?_⟩
      refine ⟨_, rfl, .inl ⟨rfl, _, SqL.of eA⟩, ?_⟩
      refine ⟨_, rfl, _, rfl, _, _, rfl, .inl ⟨_, SqL.of eA, rfl⟩, r, _, rfl, R', by omega, ?_, fun v G4 v0 v1 R4 O4 => ?_⟩
      · exact Nat.lt_trans (lg (b := 63) (by omega) (by omega) (by decide)) (by decide)
      have eA4 : G4 a = some (.lst rest) := O4 _ _ nra.symm eA
      have eB4 : G4 b = some (.lst ys) := O4 _ _ nrb.symm eB
      have hv : v.toNat < rest.length := by omega
      have ey : rest[v.toNat]? = some rest[v.toNat] := List.getElem?_eq_getElem hv
      generalize rest[v.toNat] = y at ey
      refine ⟨a, rest, v, v.toNat, y, rfl, rfl, eA4, by omega, by omega, PySem.StrLaws.seqIndex_nonneg v0 (by omega), ey, ?_⟩
      have eB5 : (upd G4 a (.lst (rest.eraseIdx v.toNat))) b = some (.lst ys) := by rw [upd_ne nab]; exact eB4
      refine ⟨b, ys, y, rfl, rfl, eB5, by rw [sizeLine_eq]; omega, ?_⟩
      refine ⟨_, rfl, ?_, ?_, ys ++ [y], rest.eraseIdx v.toNat, ?_, upd_same, perm_take pm ey, ?_⟩
      · obtain ⟨x1, x2, x3, q⟩ := R4
        exact ⟨x1, x2, x3, by rw [upd_ne nrb, upd_ne nra]; exact q⟩
      · intro c o nc e
        rw [upd_ne (ne_of_none e hb0), upd_ne (ne_of_none e ha)]
        exact O4 _ _ nc (O' _ _ nc e)
      · rw [upd_ne nab.symm, upd_same]
      · rw [List.length_append, ly]
        rfl
    · rintro σ H' ⟨v, rfl, R', O', ys, rest, eA, eB, pm, ly⟩
      refine ⟨_, rfl, k b ys rest H' R' O' hb0 eB pm ?_⟩
      rw [ly]
      split <;> omega
end
end K38
/-! data with dicts: what they read as, repr; list(text), text * int -/
namespace RL
open PySem PySem.Spec PyProof.Rows L2
/-- a key as a datum -/
def keyD : Key → PyData
  | .inl i => .int i
  | .inr z => .str z
mutual
/-- a value that is a datum, dicts with int and text keys too -/
inductive DS (K : PySem.W.Frag) (H : Hp) : V → PyData → Prop
  | non : DS K H .non .none
  | bl (b : Bool) : DS K H (.bl b) (.bool b)
  | int (i : Int) : DS K H (.int i) (.int i)
  | str (x : Str) : DS K H (.str x) (.str x)
  | lst {a : Addr} {xs : List V} {ds : List PyData} : SqL K H a xs → DSs K H xs ds → DS K H (.ref a) (.list ds)
  | tup {a : Addr} {xs : List V} {ds : List PyData} : SqT K H a xs → DSs K H xs ds → DS K H (.ref a) (.tuple ds)
  | dic {a : Addr} {kvs : List (Key × V)} {es : List (PyData × PyData)} : H a = some (.dK kvs) → DSk K H kvs es → DS K H (.ref a) (.dict es)
inductive DSs (K : PySem.W.Frag) (H : Hp) : List V → List PyData → Prop
  | nil : DSs K H [] []
  | cons {v : V} {vs : List V} {d : PyData} {ds : List PyData} : DS K H v d → DSs K H vs ds → DSs K H (v :: vs) (d :: ds)
inductive DSk (K : PySem.W.Frag) (H : Hp) : List (Key × V) → List (PyData × PyData) → Prop
  | nil : DSk K H [] []
  | cons {k : Key} {v : V} {kvs : List (Key × V)} {d : PyData} {es : List (PyData × PyData)} : DS K H v d → DSk K H kvs es → DSk K H ((k, v) :: kvs) ((keyD k, d) :: es)
end
section
variable {X : Cx} {pins : List (Addr × Obj)}
                                             {σ : L2.St} {H : Hp} {s : Shared}
theorem pairs_rel {prog : Program} {w : World} : ∀ {es : List DictEntry} {vs : List (Key × Value)}, Pairs (mixKind prog w) es vs → ∀ {kvs : List (Key × V)}, KV kvs vs → Vals (kvs.map (·.2)) (es.map (·.val)) ∧ Vals (kvs.map fun kv => kV kv.1) (es.map (·.key))
  | _, _, .nil, _, h => by
    unfold KV at h
    cases h
    exact ⟨.nil, .nil⟩
  | _, _, .cons hk hv hr, _, h => by
    unfold KV at h
    cases h with
    | cons h1 h2 =>
      obtain ⟨e1, e2⟩ := h1
      have ih := pairs_rel hr h2
      refine ⟨.cons (by dsimp only; rw [hv]; exact e2) ih.1, .cons ?_ ih.2⟩
      dsimp only
      rw [e1]
      exact keyIs_rel hk
mutual
theorem DS.reads (I : Inv X pins σ H s) : ∀ (d : PyData) (v : V) (u : Value), DS X.K H v d → RelV v u → ∃ as, Reads s.heap u d as
  | .none, _, _, h, r => by
    cases h
    cases r
    exact ⟨_, Reads.none⟩
  | .bool b, _, _, h, r => by
    cases h
    cases r
    exact ⟨_, Reads.bool b⟩
  | .int i, _, _, h, r => by
    cases h
    obtain ⟨t, rfl⟩ := r
    exact ⟨_, Reads.int i t⟩
  | .str x, _, _, h, r => by
    cases h
    obtain ⟨t, rfl⟩ := r
    exact ⟨_, Reads.str x t⟩
  | .list ds, _, _, h, r => by
    cases h with
    | lst hs ha =>
      cases r
      obtain ⟨its, rv, ⟨o, n, ho, hc, _, hd⟩, _⟩ := I.list hs
      obtain ⟨as, hr⟩ := DSs.reads I ds _ its ha rv
      exact ⟨_, Reads.list ho hc hd hr⟩
  | .tuple ds, _, _, h, r => by
    cases h with
    | tup hs ha =>
      cases r
      obtain ⟨its, rv, ⟨o, ho, hc, n, hd⟩, _⟩ := I.tuple hs
      obtain ⟨as, hr⟩ := DSs.reads I ds _ its ha rv
      exact ⟨_, Reads.tuple ho hc hd hr⟩
  | .dict es, _, _, h, r => by
    cases h with
    | dic ha hk =>
      cases r
      obtain ⟨_, _, vs, kv, o, ee, ep, h1, h2, h3, _, hp, _⟩ := dk_of I.hok ha
      obtain ⟨r1, r2⟩ := pairs_rel hp kv
      obtain ⟨as, a1⟩ := DSk.readsK I es _ (ee.toList.map (·.key)) hk r2
      obtain ⟨bs, a2⟩ := DSk.readsV I es _ (ee.toList.map (·.val)) hk r1
      exact ⟨_, Reads.dict h1 h2.1 h3 a1 a2⟩
theorem DSs.reads (I : Inv X pins σ H s) : ∀ (ds : List PyData) (vs : List V) (us : List Value), DSs X.K H vs ds → Vals vs us → ∃ as, ReadsAll s.heap us ds as
  | [], _, _, h, r => by
    cases h
    cases r
    exact ⟨_, ReadsAll.nil⟩
  | d :: ds, _, _, h, r => by
    cases h with
    | cons h1 h2 =>
      cases r with
      | cons r1 r2 =>
        obtain ⟨as, a1⟩ := DS.reads I d _ _ h1 r1
        obtain ⟨bs, a2⟩ := DSs.reads I ds _ _ h2 r2
        exact ⟨_, ReadsAll.cons a1 a2⟩
theorem DSk.readsV (I : Inv X pins σ H s) : ∀ (es : List (PyData × PyData)) (kvs : List (Key × V)) (us : List Value), DSk X.K H kvs es → Vals (kvs.map (·.2)) us → ∃ as, ReadsAll s.heap us (es.map (·.2)) as
  | [], _, _, h, r => by
    cases h
    cases r
    exact ⟨_, ReadsAll.nil⟩
  | (kd, d) :: es, _, _, h, r => by
    cases h with
    | cons h1 h2 =>
      cases r with
      | cons r1 r2 =>
        obtain ⟨as, a1⟩ := DS.reads I d _ _ h1 r1
        obtain ⟨bs, a2⟩ := DSk.readsV I es _ _ h2 r2
        exact ⟨_, ReadsAll.cons a1 a2⟩
theorem DSk.readsK (I : Inv X pins σ H s) : ∀ (es : List (PyData × PyData)) (kvs : List (Key × V)) (us : List Value), DSk X.K H kvs es → Vals (kvs.map fun kv => kV kv.1) us → ∃ as, ReadsAll s.heap us (es.map (·.1)) as
  | [], _, _, h, r => by
    cases h
    cases r
    exact ⟨_, ReadsAll.nil⟩
  | (kd, d) :: es, _, _, h, r => by
    cases h with
    | @cons k _ _ _ _ h1 h2 =>
      cases r with
      | cons r1 r2 =>
        obtain ⟨bs, a2⟩ := DSk.readsK I es _ _ h2 r2
        cases k with
        | inl i =>
          obtain ⟨t, rfl⟩ := r1
          exact ⟨_, ReadsAll.cons (Reads.int i t) a2⟩
        | inr z =>
          obtain ⟨t, rfl⟩ := r1
          exact ⟨_, ReadsAll.cons (Reads.str z t) a2⟩
end
/-! ### what it shows -/
mutual
theorem DS.show (I : Inv X pins σ H s) : ∀ (d : PyData) (v : V) (u : Value), DS X.K H v d → RelV v u → d.showable = true → d.shown.length ≤ sizeLine → ∃ bs, ReadAtMost s.heap d.depth bs ∧ ReprK X.prog X.w bs s.heap d.depth u d.shown
  | .none, _, _, h, r, _, _ => by
    cases h
    cases r
    exact ⟨[], (fun _ h => nomatch h), by simp only [PyData.shown]; exact .of_is ReprIs.none _ _ _⟩
  | .bool b, _, _, h, r, _, _ => by
    cases h
    cases r
    exact ⟨[], (fun _ h => nomatch h), by simp only [PyData.shown]; exact .of_is (ReprIs.bool b) _ _ _⟩
  | .int i, _, _, h, r, hs, _ => by
    cases h
    obtain ⟨t, rfl⟩ := r
    exact ⟨[], (fun _ h => nomatch h), by simp only [PyData.shown]; exact .of_is (ReprIs.int t (by simpa [PyData.showable] using hs)) _ _ _⟩
  | .str x, _, _, h, r, _, hz => by
    cases h
    obtain ⟨t, rfl⟩ := r
    exact ⟨[], (fun _ h => nomatch h), by simp only [PyData.shown]; exact .of_is (ReprIs.str x t (by simpa only [PyData.shown] using hz)) _ _ _⟩
  | .list ds, _, _, h, r, hs, hz => by
    obtain ⟨as, rd⟩ := DS.reads I _ _ _ h r
    cases h with
    | lst hq ha =>
      cases r
      have hz' : (listText (PyData.shownAll ds)).length ≤ sizeLine := by simpa only [PyData.shown] using hz
      obtain ⟨its, rv, ⟨o, n, h1, h2, _, h3⟩, _⟩ := I.list hq
      obtain ⟨bs, hb, hk⟩ := DSs.show I ds _ its ha rv (by simpa [PyData.showable] using hs) (fun t ht => Nat.le_trans (listText_mem_le ht) hz')
      have hna := not_mem_of_deeper rd (by simp only [PyData.depth]; omega) hb
      refine ⟨_ :: bs, ReadAtMost.cons rd (by simp only [PyData.depth]; omega) hb, ?_⟩
      simp only [PyData.depth, PyData.shown]
      cases its with
      | nil =>
        cases rv
        cases ha
        simp only [PyData.shownAll, listText_nil]
        exact ReprK.listEmpty h1 h2 h3
      | cons x l => exact ReprK.list h1 h2 h3 hna
                                                  (by simpa using hk.length_eq) (fun i y e => hk.item i y (by simpa using e))
  | .tuple ds, _, _, h, r, hs, hz => by
    obtain ⟨as, rd⟩ := DS.reads I _ _ _ h r
    cases h with
    | tup hq ha =>
      cases r
      have hz' : (tupleText (PyData.shownAll ds)).length ≤ sizeLine := by simpa only [PyData.shown] using hz
      obtain ⟨its, rv, ⟨o, h1, h2, n, h3⟩, _⟩ := I.tuple hq
      obtain ⟨bs, hb, hk⟩ := DSs.show I ds _ its ha rv (by simpa [PyData.showable] using hs) (fun t ht => Nat.le_trans (tupleText_mem_le ht) hz')
      have hna := not_mem_of_deeper rd (by simp only [PyData.depth]; omega) hb
      refine ⟨_ :: bs, ReadAtMost.cons rd (by simp only [PyData.depth]; omega) hb, ?_⟩
      simp only [PyData.depth, PyData.shown]
      exact ReprK.tuple h1 h2 h3 hna (by simpa using hk)
  | .dict es, _, _, h, r, hs, hz => by
    obtain ⟨as, rd⟩ := DS.reads I _ _ _ h r
    cases h with
    | dic ha hk =>
      cases r
      have hz' : (dictText (PyData.shownKv es)).length ≤ sizeLine := by simpa only [PyData.shown] using hz
      obtain ⟨_, hsys, vs, kv, o, ee, ep, h1, h2, h3, _, hp, _⟩ := dk_of I.hok ha
      obtain ⟨r1, r2⟩ := pairs_rel hp kv
      obtain ⟨hs1, hs2⟩ := PyData.showableKv_split es (by simpa [PyData.showable] using hs)
      obtain ⟨b1, hb1, k1⟩ := DSk.showK I es _ (ee.toList.map (·.key)) hk r2 hs1 (fun t ht => let ⟨p, hp, hl⟩ := PyData.shownKv_key_le es t ht; Nat.le_trans hl (Nat.le_trans (dictText_mem_le hp) hz'))
      obtain ⟨b2, hb2, k2⟩ := DSk.showV I es _ (ee.toList.map (·.val)) hk r1 hs2 (fun t ht => let ⟨p, hp, hl⟩ := PyData.shownKv_val_le es t ht; Nat.le_trans hl (Nat.le_trans (dictText_mem_le hp) hz'))
      have hb : ReadAtMost s.heap (PyData.depthKv es) (b1 ++ b2) := (hb1.mono (PyData.depthAll_keys_le es)).append (hb2.mono (PyData.depthAll_vals_le es))
      have hna := not_mem_of_deeper rd (by simp only [PyData.depth]; omega) hb
      refine ⟨_ :: (b1 ++ b2), ReadAtMost.cons rd (by simp only [PyData.depth]; omega) hb, ?_⟩
      simp only [PyData.depth, PyData.shown, PyData.shownKv_eq]
      exact ReprK.dict h1 h2.1 h3 hsys hna (ReprEntriesK.of_two ee.toList _ _
        (k1.more_le (fun b hb => List.mem_append_left _ hb) (PyData.depthAll_keys_le es)) (k2.more_le (fun b hb => List.mem_append_right _ hb) (PyData.depthAll_vals_le es)))
theorem DSs.show (I : Inv X pins σ H s) : ∀ (ds : List PyData) (vs : List V) (us : List Value), DSs X.K H vs ds → Vals vs us → PyData.showableAll ds = true → (∀ t ∈ PyData.shownAll ds, t.length ≤ sizeLine) → ∃ bs, ReadAtMost s.heap (PyData.depthAll ds) bs ∧ ReprAllK X.prog X.w bs s.heap (PyData.depthAll ds) us (PyData.shownAll ds)
  | [], _, _, h, r, _, _ => by
    cases h
    cases r
    exact ⟨[], (fun _ h => nomatch h), by simp only [PyData.shownAll]; exact .nil⟩
  | d :: ds, _, _, h, r, hs, hz => by
    cases h with
    | cons h1 h2 =>
      cases r with
      | cons r1 r2 =>
        have hs' : d.showable = true ∧ PyData.showableAll ds = true := by simpa [PyData.showableAll] using hs
        obtain ⟨b1, hb1, k1⟩ := DS.show I d _ _ h1 r1 hs'.1 (hz _ (by simp only [PyData.shownAll]; exact List.mem_cons_self ..))
        obtain ⟨b2, hb2, k2⟩ := DSs.show I ds _ _ h2 r2 hs'.2 (fun t ht => hz t (by simp only [PyData.shownAll]; exact List.mem_cons_of_mem _ ht))
        refine ⟨b1 ++ b2, ?_, ?_⟩
        · simp only [PyData.depthAll]
          exact (hb1.mono (Nat.le_max_left _ _)).append (hb2.mono (Nat.le_max_right _ _))
        · simp only [PyData.depthAll, PyData.shownAll]
          exact .cons ((k1.more fun b hb => List.mem_append_left _ hb).level_le
                                                                                (Nat.le_max_left _ _)) (k2.more_le (fun b hb => List.mem_append_right _ hb) (Nat.le_max_right _ _))
theorem DSk.showV (I : Inv X pins σ H s) : ∀ (es : List (PyData × PyData)) (kvs : List (Key × V)) (us : List Value), DSk X.K H kvs es → Vals (kvs.map (·.2)) us → PyData.showableAll (es.map (·.2)) = true → (∀ t ∈ PyData.shownAll (es.map (·.2)), t.length ≤ sizeLine) →
    ∃ bs, ReadAtMost s.heap (PyData.depthAll (es.map (·.2))) bs ∧ ReprAllK X.prog X.w bs s.heap (PyData.depthAll (es.map (·.2))) us (PyData.shownAll (es.map (·.2)))
  | [], _, _, h, r, _, _ => by
    cases h
    cases r
    exact ⟨[], (fun _ h => nomatch h), by simp only [List.map_nil, PyData.shownAll]; exact .nil⟩
  | (kd, d) :: es, _, _, h, r, hs, hz => by
    cases h with
    | cons h1 h2 =>
      cases r with
      | cons r1 r2 =>
        have hs' : d.showable = true ∧ PyData.showableAll (es.map (·.2)) = true := by simpa [PyData.showableAll] using hs
        obtain ⟨b1, hb1, k1⟩ := DS.show I d _ _ h1 r1 hs'.1 (hz _ (by simp only [List.map_cons, PyData.shownAll]; exact List.mem_cons_self ..))
        obtain ⟨b2, hb2, k2⟩ := DSk.showV I es _ _ h2 r2 hs'.2 (fun t ht => hz t (by simp only [List.map_cons, PyData.shownAll]; exact List.mem_cons_of_mem _ ht))
        refine ⟨b1 ++ b2, ?_, ?_⟩
        · simp only [List.map_cons, PyData.depthAll]
          exact (hb1.mono (Nat.le_max_left _ _)).append (hb2.mono (Nat.le_max_right _ _))
        · simp only [List.map_cons, PyData.depthAll, PyData.shownAll]
          exact .cons ((k1.more fun b hb => List.mem_append_left _ hb).level_le
                                                                                (Nat.le_max_left _ _)) (k2.more_le (fun b hb => List.mem_append_right _ hb) (Nat.le_max_right _ _))
theorem DSk.showK (I : Inv X pins σ H s) : ∀ (es : List (PyData × PyData)) (kvs : List (Key × V)) (us : List Value), DSk X.K H kvs es → Vals (kvs.map fun kv => kV kv.1) us → PyData.showableAll (es.map (·.1)) = true → (∀ t ∈ PyData.shownAll (es.map (·.1)), t.length ≤ sizeLine) →
    ∃ bs, ReadAtMost s.heap (PyData.depthAll (es.map (·.1))) bs ∧ ReprAllK X.prog X.w bs s.heap (PyData.depthAll (es.map (·.1))) us (PyData.shownAll (es.map (·.1)))
  | [], _, _, h, r, _, _ => by
    cases h
    cases r
    exact ⟨[], (fun _ h => nomatch h), by simp only [List.map_nil, PyData.shownAll]; exact .nil⟩
  | (kd, d) :: es, _, _, h, r, hs, hz => by
    cases h with
    | @cons k _ _ _ _ h1 h2 =>
      cases r with
      | cons r1 r2 =>
        have hs' : (keyD k).showable = true ∧ PyData.showableAll (es.map (·.1)) = true := by simpa [PyData.showableAll] using hs
        have hz1 : (keyD k).shown.length ≤ sizeLine := hz _ (by simp only [List.map_cons, PyData.shownAll]; exact List.mem_cons_self ..)
        obtain ⟨b2, hb2, k2⟩ := DSk.showK I es _ _ h2 r2 hs'.2 (fun t ht => hz t (by simp only [List.map_cons, PyData.shownAll]; exact List.mem_cons_of_mem _ ht))
        refine ⟨b2, ?_, ?_⟩
        · simp only [List.map_cons, PyData.depthAll]
          exact hb2.mono (Nat.le_max_right _ _)
        · simp only [List.map_cons, PyData.depthAll, PyData.shownAll]
          refine .cons ?_ (k2.more_le (fun b hb => hb) (Nat.le_max_right _ _))
          cases k with
          | inl i =>
            obtain ⟨t, rfl⟩ := r1
            simp only [keyD, PyData.shown]
            exact .of_is (ReprIs.int t (by simpa [keyD, PyData.showable] using hs'.1)) _ _ _
          | inr z =>
            obtain ⟨t, rfl⟩ := r1
            simp only [keyD, PyData.shown] at hz1 ⊢
            exact .of_is (ReprIs.str z t hz1) _ _ _
end
end
/-! ### repr -/
section
variable {X : Cx}
def rReprD (K : PySem.W.Frag) : List V → Hp → VK → Prop := fun xs H Q => ∃ (a : Addr) (d : PyData), xs = [.ref a] ∧ DS K H (.ref a) d ∧ d.showable = true ∧ d.shown.length ≤ sizeLine ∧ d.depth ≤ 60 ∧ Q (.str d.shown) H
theorem cr_reprD (hgd : X.A.guards = some []) (hu : X.A.units + 64 < cLine) : CallR X (.builtin "repr") (rReprD X.K) := by
  intro pins s σ H xs us Q I r h
  obtain ⟨a, d, rfl, hd, h1, h2, h3, q⟩ := h
  obtain ⟨u, rfl, ru⟩ := vals1 r
  obtain rfl : u = Value.ref a := ru
  have fin : ∀ h' u tk, (∀ b o, s.heap.get? b = some o → h'.get? b = some o) → EP X pins σ Q (.str d.shown u) { s with heap := h', toks := tk } := fun h' u tk k => ⟨.str _, H, I.kept (t' := tk) k, ⟨_, rfl⟩, q⟩
  obtain ⟨as, rd⟩ := DS.reads I _ _ _ hd rfl
  obtain ⟨bs, hb, hk⟩ := DS.show I _ _ _ hd rfl h1 h2
  cases hd with
  | @lst _ xs ds hq ha =>
    have hz' : (listText (PyData.shownAll ds)).length ≤ sizeLine := by simpa only [PyData.shown] using h2
    obtain ⟨its, rv, ⟨o, n, e1, e2, _, e3⟩, _⟩ := I.list hq
    obtain ⟨bs, hb, hk⟩ := DSs.show I ds _ its ha rv (by simpa [PyData.showable] using h1) (fun t ht => Nat.le_trans (listText_mem_le ht) hz')
    have hna := not_mem_of_deeper rd (by simp only [PyData.depth]; omega) hb
    simp only [PyData.depth] at h3
    simp only [PyData.shown] at fin
    refine PySem.call_repr_slot (by omega) ⟨o, e1, e2⟩ PySem.F.slot_list_repr.toG ?_
    cases its with
    | nil =>
      cases rv
      cases ha
      simp only [PyData.shownAll, listText_nil] at fin
      exact call_list_repr_empty ⟨o, e1, e2⟩ e1 e3 ⟨_, _, rfl, fin s.heap _ _ fun _ _ e => e⟩
    | cons x l =>
      exact call_list_reprK e1 e2 e3 hna (by simpa using hk.length_eq) (fun i y e => hk.item i y (by simpa using e)) hgd (fun b _ => Clear.nil b) (by show X.A.units + 1 + _ < cLine; omega) (fun _ _ e => e) (fun h' u tk k => ⟨_, _, rfl, fin h' u tk k⟩) hz'
  | @tup _ xs ds hq ha =>
    have hz' : (tupleText (PyData.shownAll ds)).length ≤ sizeLine := by simpa only [PyData.shown] using h2
    obtain ⟨its, rv, ⟨o, e1, e2, n, e3⟩, _⟩ := I.tuple hq
    obtain ⟨bs, hb, hk⟩ := DSs.show I ds _ its ha rv (by simpa [PyData.showable] using h1) (fun t ht => Nat.le_trans (tupleText_mem_le ht) hz')
    have hna := not_mem_of_deeper rd (by simp only [PyData.depth]; omega) hb
    simp only [PyData.depth] at h3
    simp only [PyData.shown] at fin
    refine PySem.call_repr_slot (by omega) ⟨o, e1, e2⟩ PySem.F.slot_tuple_repr ?_
    exact call_tuple_reprK e1 e2 e3 hna (by simpa using hk) hgd (fun b _ => Clear.nil b) (by show X.A.units + 1 + _ < cLine; omega) (fun _ _ e => e) (fun h' u tk k => ⟨_, _, rfl, fin h' u tk k⟩) hz'
  | @dic _ kvs es ha hkv =>
    have hz' : (dictText (PyData.shownKv es)).length ≤ sizeLine := by simpa only [PyData.shown] using h2
    obtain ⟨_, hsys, vs, kv, o, ee, ep, e1, e2, e3, _, hp, _⟩ := dk_of I.hok ha
    obtain ⟨r1, r2⟩ := pairs_rel hp kv
    obtain ⟨hs1, hs2⟩ := PyData.showableKv_split es (by simpa [PyData.showable] using h1)
    obtain ⟨b1, hb1, k1⟩ := DSk.showK I es _ (ee.toList.map (·.key)) hkv r2 hs1 (fun t ht => let ⟨p, hp, hl⟩ := PyData.shownKv_key_le es t ht; Nat.le_trans hl (Nat.le_trans (dictText_mem_le hp) hz'))
    obtain ⟨b2, hb2, k2⟩ := DSk.showV I es _ (ee.toList.map (·.val)) hkv r1 hs2 (fun t ht => let ⟨p, hp, hl⟩ := PyData.shownKv_val_le es t ht; Nat.le_trans hl (Nat.le_trans (dictText_mem_le hp) hz'))
    have hb : ReadAtMost s.heap (PyData.depthKv es) (b1 ++ b2) := (hb1.mono (PyData.depthAll_keys_le es)).append (hb2.mono (PyData.depthAll_vals_le es))
    have hna := not_mem_of_deeper rd (by simp only [PyData.depth]; omega) hb
    simp only [PyData.depth] at h3
    simp only [PyData.shown, PyData.shownKv_eq] at fin
    refine PySem.call_repr_slot (by omega) ⟨o, e1, e2.1⟩ PySem.F.slot_dict_repr ?_
    exact call_dict_reprK e1 e2.1 e3 hsys hna (ReprEntriesK.of_two ee.toList _ _
      (k1.more_le (fun b hb => List.mem_append_left _ hb) (PyData.depthAll_keys_le es)) (k2.more_le (fun b hb => List.mem_append_right _ hb) (PyData.depthAll_vals_le es))) hgd (fun b _ => Clear.nil b) (by show X.A.units + 1 + _ < cLine; omega) (fun _ _ e => e) (fun h' u tk k => ⟨_, _, rfl, fin h' u tk k⟩) (by rw [← PyData.shownKv_eq]; exact hz')
/-! ### list(text) -/
def rListStr : List V → Hp → VK → Prop := fun xs H Q => ∃ z : Str, xs = [.str z] ∧ z.length ≤ sizeLine ∧ ∀ l, H l = none → Q (.ref l) (upd H l (.lst (z.cps.toList.map fun c => V.str ⟨#[c]⟩)))
theorem cr_listStr (hc : X.calm = true) : CallR X (.type "list") rListStr := by
  intro pins s σ H xs us Q I r h
  obtain ⟨z, rfl, hz, q⟩ := h
  obtain ⟨u, rfl, ru⟩ := vals1 r
  obtain ⟨t, rfl⟩ := ru
  refine call_list_str (I.ok.hd hc) z t (fun h' tk acc' c' kp hS hacc => ?_) hz
  refine ⟨.ref s.heap.objs.size, upd H s.heap.objs.size (.lst (z.cps.toList.map fun c => V.str ⟨#[c]⟩)), I.laid kp (Nat.le_refl _) (show ObjOk X.prog X.w _ _ _ (.lst _) from ⟨?_, acc'.toList, c', ?_, ?_⟩), rfl, q _ (I.hok.fresh (Nat.le_refl _))⟩
  · rw [List.length_map, Array.length_toList]; exact hz
  · refine vals_of_at (by rw [List.length_map, Array.length_toList, Array.length_toList, hacc.1]) fun j x w h1 h2 => ?_
    obtain ⟨c, u, hk, rfl⟩ := hacc.2 j w (by rw [← Array.getElem?_toList]; exact h2)
    rw [List.getElem?_map, Array.getElem?_toList, hk] at h1
    cases h1
    exact ⟨u, rfl⟩
  · rw [Array.toArray_toList]; exact hS
/-! ### text * int -/
def rMulS : R2 := fun x y H Q => ∃ (z : Str) (n : Int), x = .str z ∧ y = .int n ∧ MulOk z n ∧ Q (.str (Txt.mul z n)) H
theorem op_mulS : OpR X (binaryOp .Mult) rMulS := by
  intro pins s σ H x y v u Q I rx ry h
  obtain ⟨z, n, rfl, rfl, ok, q⟩ := h
  obtain ⟨t, rfl⟩ := rx
  obtain ⟨t', rfl⟩ := ry
  exact SB.mul ok fun t k => ⟨.str _, H, I.tok _, ⟨_, rfl⟩, q⟩
end
end RL
namespace K38
open PySem L2
open PyProof.Rows PySem.Spec
/-- names with their begins and ends -/
abbrev Rws := List (Str × Int × Int)
def Kvs (L : List (Str × Addr)) : List (Key × V) := L.map fun p => (Sum.inr p.1, V.ref p.2)
def TupAt (H : Hp) (t : Addr) (b e : Int) : Prop := H t = some (.tup [.int b, .int e])
inductive Tups (H : Hp) : List (Str × Addr) → Rws → Prop
  | nil : Tups H [] []
  | cons {n : Str} {t : Addr} {b e : Int} {L : List (Str × Addr)} {R : Rws} : TupAt H t b e → Tups H L R → Tups H ((n, t) :: L) ((n, b, e) :: R)
/-- what keeps tuples -/
def KT (H H' : Hp) : Prop := ∀ t xs, H t = some (.tup xs) → H' t = some (.tup xs)
theorem KT.refl {H : Hp} : KT H H := fun _ _ e => e
theorem KT.trans {H H1 H2 : Hp} (a : KT H H1) (b : KT H1 H2) : KT H H2 := fun t xs e => b t xs (a t xs e)
theorem KT.same {H H' : Hp} (s : Same H H') : KT H H' := fun t xs e => s t _ e
theorem KT.only {H H' : Hp} {r : Addr} (o : Only r H H') (h : Rl H r) : KT H H' := fun t xs e => o t _ (fun w => by obtain ⟨x, y, z, q⟩ := h; rw [w, q] at e; cases e) e
theorem KT.put {H : Hp} {d : Addr} {o u : HO} (h : H d = some u) (n : ∀ xs, u ≠ .tup xs) : KT H (upd H d o) := fun t xs e => by
  rw [upd_ne (fun w => n xs (by rw [w, h] at e; exact Option.some.inj e))]
  exact e
theorem KT.new {H : Hp} {d : Addr} {o : HO} (h : H d = none) : KT H (upd H d o) := fun t xs e => by rw [upd_ne (ne_of_none e h)]; exact e
theorem Tups.keep {H H' : Hp} (k : KT H H') : ∀ {L : List (Str × Addr)} {R : Rws}, Tups H L R → Tups H' L R
  | _, _, .nil => .nil
  | _, _, .cons h t => .cons (k _ _ h) (Tups.keep k t)
theorem Tups.names {H : Hp} : ∀ {L : List (Str × Addr)} {R : Rws}, Tups H L R → L.map (·.1) = R.map (·.1)
  | _, _, .nil => rfl
  | _, _, .cons _ t => by rw [List.map_cons, List.map_cons, Tups.names t]
theorem Tups.len {H : Hp} {L : List (Str × Addr)} {R : Rws} (h : Tups H L R) : L.length = R.length := by
  rw [← List.length_map (f := (·.1)) (as := L), h.names, List.length_map]
theorem Tups.snoc {H : Hp} {n : Str} {t : Addr} {b e : Int} : ∀ {L : List (Str × Addr)} {R : Rws}, Tups H L R → TupAt H t b e → Tups H (L ++ [(n, t)]) (R ++ [(n, b, e)])
  | _, _, .nil, q => .cons q .nil
  | _, _, .cons h t, q => .cons h (Tups.snoc t q)
theorem Tups.get {H : Hp} {n : Str} : ∀ {L : List (Str × Addr)} {R : Rws}, Tups H L R → n ∈ R.map (·.1) → ∃ t b e, valV (Kvs L) (.inr n) = some (.ref t) ∧ TupAt H t b e ∧ (n, b, e) ∈ R
  | _, _, .nil, h => by cases h
  | _, _, .cons (n := m) (t := t) (b := b) (e := e) (L := L) (R := R) h ts, hn => by
    by_cases c : m = n
    · subst c
      exact ⟨t, b, e, valV_pos (p := ((Sum.inr m : Key), V.ref t)) rfl, h, List.mem_cons_self⟩
    · rcases List.mem_cons.mp hn with q | q
      · exact absurd q.symm c
      · obtain ⟨t', b', e', h1, h2, h3⟩ := Tups.get ts q
        exact ⟨t', b', e', (valV_neg (p := ((Sum.inr m : Key), V.ref t)) (fun z => c (Sum.inr.inj z))).trans h1, h2, List.mem_cons_of_mem _ h3⟩
theorem nodup_uniq : ∀ {R : Rws} {n : Str} {p q : Int × Int}, (R.map (·.1)).Nodup → (n, p) ∈ R → (n, q) ∈ R → p = q
  | [], _, _, _, _, h, _ => by cases h
  | (m, u) :: R, n, p, q, nd, h1, h2 => by
    rw [List.map_cons, List.nodup_cons] at nd
    rcases List.mem_cons.mp h1 with e1 | e1
    · rcases List.mem_cons.mp h2 with e2 | e2
      · cases e1; cases e2; rfl
      · cases e1
        exact absurd (List.mem_map.mpr ⟨_, e2, rfl⟩) nd.1
    · rcases List.mem_cons.mp h2 with e2 | e2
      · cases e2
        exact absurd (List.mem_map.mpr ⟨_, e1, rfl⟩) nd.1
      · exact nodup_uniq nd.2 e1 e2
theorem Tups.at {H : Hp} {L : List (Str × Addr)} {R : Rws} (h : Tups H L R) (nd : (R.map (·.1)).Nodup) {n : Str} {b e : Int} (m : (n, b, e) ∈ R) : ∃ t, valV (Kvs L) (.inr n) = some (.ref t) ∧ TupAt H t b e := by
  obtain ⟨t, b', e', h1, h2, h3⟩ := h.get (n := n) (List.mem_map.mpr ⟨_, m, rfl⟩)
  have := nodup_uniq nd m h3
  cases this
  exact ⟨t, h1, h2⟩
theorem valV_none {L : List (Str × Addr)} {n : Str} (h : n ∉ L.map (·.1)) : valV (Kvs L) (.inr n) = none := by
  cases e : valV (Kvs L) (.inr n) with
  | none => rfl
  | some v =>
    refine absurd ?_ h
    have := valV_in e
    unfold Kvs at this
    rw [List.map_map] at this
    obtain ⟨p, hp, q⟩ := List.mem_map.mp this
    exact List.mem_map.mpr ⟨p, hp, Sum.inr.inj q⟩
theorem kvs_snoc (L : List (Str × Addr)) (n : Str) (t : Addr) : Kvs (L ++ [(n, t)]) = Kvs L ++ [(Sum.inr n, V.ref t)] := by
  unfold Kvs
  rw [List.map_append]
  rfl
theorem putK_kvs {L : List (Str × Addr)} {n : Str} {t : Addr} (h : n ∉ L.map (·.1)) : putK (Kvs L) (.inr n) (.ref t) = Kvs (L ++ [(n, t)]) := by
  rw [putK_new _ (valV_none h), kvs_snoc]
theorem kvs_len (L : List (Str × Addr)) : (Kvs L).length = L.length := List.length_map ..
theorem kvs_keys (L : List (Str × Addr)) : (Kvs L).map (·.1) = (L.map (·.1)).map Sum.inr := by
  unfold Kvs
  rw [List.map_map, List.map_map]
  rfl
theorem mergeK_kvs : ∀ (M L : List (Str × Addr)), ((L ++ M).map (·.1)).Nodup → mergeK (Kvs L) (Kvs M) = Kvs (L ++ M)
  | [], L, _ => by rw [List.append_nil]; rfl
  | (n, t) :: M, L, nd => by
    have hn : n ∉ L.map (·.1) := fun h => by
      rw [List.map_append, List.map_cons] at nd
      have := (List.nodup_append.mp nd).2.2 n h n List.mem_cons_self
      exact this rfl
    have e : mergeK (Kvs L) (Kvs ((n, t) :: M)) = mergeK (putK (Kvs L) (.inr n) (.ref t)) (Kvs M) := rfl
    rw [e, putK_kvs hn, mergeK_kvs M (L ++ [(n, t)]) (by rw [List.append_assoc]; exact nd), List.append_assoc]
    rfl
/-- such a dict as a datum -/
def rowD (r : Str × Int × Int) : PyData × PyData := (.str r.1, .tuple [.int r.2.1, .int r.2.2])
def rowsD (R : Rws) : PyData := .dict (R.map rowD)
theorem tupAt_ds {K : PySem.W.Frag} {H : Hp} {t : Addr} {b e : Int} (h : TupAt H t b e) : RL.DS K H (.ref t) (.tuple [.int b, .int e]) := .tup (SqT.of h) (.cons (.int _) (.cons (.int _) .nil))
theorem Tups.dsk {K : PySem.W.Frag} {H : Hp} : ∀ {L : List (Str × Addr)} {R : Rws}, Tups H L R → RL.DSk K H (Kvs L) (R.map rowD)
  | _, _, .nil => .nil
  | _, _, .cons h t => .cons (k := Sum.inr _) (tupAt_ds h) (Tups.dsk t)
theorem rows_ds {K : PySem.W.Frag} {H : Hp} {a : Addr} {L : List (Str × Addr)} {R : Rws} (ha : H a = some (.dK (Kvs L))) (h : Tups H L R) : RL.DS K H (.ref a) (rowsD R) := .dic ha h.dsk
/-! ### sorting -/
theorem risingS_pw : ∀ (p : Str) (l : List Str), risingS p l = true → (∀ y ∈ l, ltCps y.cps.toList p.cps.toList = false) ∧ l.Pairwise (fun a b => ltCps b.cps.toList a.cps.toList = false)
  | p, [], _ => ⟨(fun _ h => by cases h), List.Pairwise.nil⟩
  | p, x :: r, h => by
    have h' : (!ltCps x.cps.toList p.cps.toList && risingS x r) = true := h
    rw [Bool.and_eq_true] at h'
    obtain ⟨h1, h2⟩ := h'
    obtain ⟨i1, i2⟩ := risingS_pw x r h2
    have hx : ltCps x.cps.toList p.cps.toList = false := by simpa using h1
    refine ⟨fun y hy => ?_, List.pairwise_cons.mpr ⟨i1, i2⟩⟩
    rcases List.mem_cons.mp hy with rfl | hy
    · exact hx
    · have hy2 := i1 y hy
      rw [ltCps_eq] at hx hy2 ⊢
      rw [decide_eq_false_iff_not] at hx hy2 ⊢
      exact List.not_lt.mpr (List.le_trans (List.not_lt.mp hx) (List.not_lt.mp hy2))
theorem sortedS_pw {l : List Str} (h : sortedS l = true) : l.Pairwise (fun a b => ltCps b.cps.toList a.cps.toList = false) := by
  cases l with
  | nil => exact List.Pairwise.nil
  | cons x r =>
    obtain ⟨a, b⟩ := risingS_pw x r h
    exact List.pairwise_cons.mpr ⟨a, b⟩
theorem str_ext {a b : Str} (h : a.cps.toList = b.cps.toList) : a = b := by
  obtain ⟨⟨a⟩⟩ := a
  obtain ⟨⟨b⟩⟩ := b
  simp only at h
  rw [h]
theorem sorted_eq {xs ys zs : List Str} (p1 : ys.Perm xs) (p2 : zs.Perm xs) (s1 : sortedS ys = true) (s2 : sortedS zs = true) : ys = zs := by
  refine List.Perm.eq_of_pairwise (le := fun a b => ltCps b.cps.toList a.cps.toList = false) (fun a b _ _ h1 h2 => ?_) (sortedS_pw s1) (sortedS_pw s2) (p1.trans p2.symm)
  rw [ltCps_eq, decide_eq_false_iff_not] at h1 h2
  exact str_ext (List.le_antisymm (List.not_lt.mp h1) (List.not_lt.mp h2))
/-- the rows in the order of their names -/
structure Srd (R S : Rws) : Prop where
  pm : S.Perm R
  so : sortedS (S.map (·.1)) = true
theorem Srd.eq {R S S' : Rws} (nd : (R.map (·.1)).Nodup) (a : Srd R S) (b : Srd R S') : S = S' := by
  have e := sorted_eq (a.pm.map (·.1)) (b.pm.map (·.1)) a.so b.so
  have key : ∀ {X Y : Rws}, X.map (·.1) = Y.map (·.1) → (∀ x ∈ X, x ∈ R) → (∀ y ∈ Y, y ∈ R) → X = Y := by
    intro X
    induction X with
    | nil =>
      intro Y h _ _
      cases Y with
      | nil => rfl
      | cons _ _ => cases h
    | cons x X ih =>
      intro Y h h1 h2
      cases Y with
      | nil => cases h
      | cons y Y =>
        obtain ⟨xn, xp⟩ := x
        obtain ⟨yn, yp⟩ := y
        obtain ⟨e1, e2⟩ := List.cons.inj h
        obtain rfl : xn = yn := e1
        have : xp = yp := nodup_uniq nd (h1 _ List.mem_cons_self) (h2 _ List.mem_cons_self)
        rw [this, ih e2 (fun x hx => h1 x (List.mem_cons_of_mem _ hx)) (fun x hx => h2 x (List.mem_cons_of_mem _ hx))]
  exact key e (fun x hx => a.pm.mem_iff.mp hx) (fun x hx => b.pm.mem_iff.mp hx)
theorem Srd.nodup {R S : Rws} (nd : (R.map (·.1)).Nodup) (a : Srd R S) : (S.map (·.1)).Nodup := (a.pm.map (·.1)).nodup_iff.mpr nd
/-- a span of an interval -/
def SpOk (T : Int) (r : Str × Int × Int) : Prop := 1 ≤ r.2.2 - r.2.1 ∧ r.2.2 - r.2.1 ≤ 8 * T
def Near (c : Int) (r : Str × Int × Int) : Prop := -c ≤ r.2.1 ∧ r.2.2 ≤ c
def Fin1 (t : Int) (r : Str × Int × Int) : Prop := Near 1000 r ∧ -t ≤ r.2.1 ∧ r.2.2 ≤ 11 * t
end K38
namespace K38
open PySem L2
open PyProof.Rows PySem.Spec
abbrev tx (cs : List Nat) : Str := ⟨cs.toArray⟩
abbrev chV (c : Nat) : V := V.str ⟨#[c]⟩
def LETC : List Nat := [97, 98, 99, 100, 101, 102, 103, 104, 105, 106, 107, 108, 109, 110, 111, 112, 113, 114, 115, 116, 117, 118, 119, 120, 121, 122]
def low (cs : List Nat) : Prop := ∀ c ∈ cs, 97 ≤ c ∧ c ≤ 122
theorem low_letc : low LETC := by
  show ∀ c ∈ LETC, 97 ≤ c ∧ c ≤ 122
  decide
theorem nd_letc : LETC.Nodup := by decide
theorem letters_eq : ((Str.ofString "abcdefghijklmnopqrstuvwxyz").cps.toList.map fun c => V.str ⟨#[c]⟩) = LETC.map chV := by rfl
theorem tx_inj {a b : List Nat} (h : tx a = tx b) : a = b := by
  have : a.toArray = b.toArray := congrArg Str.cps h
  exact congrArg Array.toList this
theorem ch_inj {a b : Nat} (h : chV a = chV b) : a = b := by
  have h1 : (⟨#[a]⟩ : Str) = ⟨#[b]⟩ := V.str.inj h
  have h2 : (#[a] : Array Nat) = #[b] := congrArg Str.cps h1
  simpa using h2
theorem join_ones : ∀ cs : List Nat, Txt.join (Str.ofString "") (cs.map fun c => (⟨#[c]⟩ : Str)) = tx cs := by
  have e0 : Str.ofString "" = Str.empty := by rfl
  have key : ∀ cs : List Nat, Str.join Str.empty (cs.map fun c => (⟨#[c]⟩ : Str)) = tx cs := by
    intro cs
    induction cs with
    | nil => rfl
    | cons c cs ih =>
      cases cs with
      | nil => rfl
      | cons d cs =>
        show (⟨#[c]⟩ : Str) ++ Str.empty ++ Str.join Str.empty ((d :: cs).map fun c => (⟨#[c]⟩ : Str)) = _
        rw [ih]
        show (⟨(#[c] ++ (#[] : Array Nat)) ++ (d :: cs).toArray⟩ : Str) = ⟨(c :: d :: cs).toArray⟩
        simp
  intro cs
  rw [TL.join_eq, e0, key]
theorem nmC_tx {cs : List Nat} (h1 : 1 ≤ cs.length) (h2 : cs.length ≤ 8) (h : low cs) : nmC (tx cs) = true := by
  unfold nmC
  have e : (tx cs).length = cs.length := by show (cs.toArray).size = _; simp
  rw [e, decide_eq_true ⟨h1, h2⟩, Bool.true_and, List.all_eq_true]
  intro c hc
  have hc' : c ∈ cs := by simpa using hc
  rw [decide_eq_true (h c hc').1, decide_eq_true (h c hc').2]
  rfl
theorem sub_map {α : Type} {f : α → V} {xs : List α} : ∀ {ys : List V}, (∀ y ∈ ys, y ∈ xs.map f) → ∃ cs : List α, ys = cs.map f ∧ ∀ c ∈ cs, c ∈ xs
  | [], _ => ⟨[], rfl, fun _ h => by cases h⟩
  | y :: ys, h => by
    obtain ⟨cs, e, m⟩ := sub_map (ys := ys) fun z hz => h z (List.mem_cons_of_mem _ hz)
    obtain ⟨c, hc, e2⟩ := List.mem_map.mp (h y List.mem_cons_self)
    refine ⟨c :: cs, by rw [List.map_cons, e, e2], fun d hd => ?_⟩
    rcases List.mem_cons.mp hd with rfl | hd
    · exact hc
    · exact m d hd
theorem nd_of_map {α β : Type} {f : α → β} {cs : List α} (h : (cs.map f).Nodup) : cs.Nodup := by
  unfold List.Nodup at h ⊢
  rw [List.pairwise_map] at h
  exact h.imp fun hab e => hab (by rw [e])
theorem nd_map {α β : Type} {f : α → β} {cs : List α} (inj : ∀ a ∈ cs, ∀ b ∈ cs, f a = f b → a = b) (h : cs.Nodup) : (cs.map f).Nodup := by
  induction cs with
  | nil => exact List.nodup_nil
  | cons c cs ih =>
    rw [List.nodup_cons] at h
    rw [List.map_cons, List.nodup_cons]
    refine ⟨fun hm => ?_, ih (fun a ha b hb => inj a (List.mem_cons_of_mem _ ha) b (List.mem_cons_of_mem _ hb)) h.2⟩
    obtain ⟨d, hd, e⟩ := List.mem_map.mp hm
    have := inj d (List.mem_cons_of_mem _ hd) c List.mem_cons_self e
    exact h.1 (this ▸ hd)
theorem few_of {α : Type} {f : α → V} {xs : List α} (inj : ∀ a ∈ xs, ∀ b ∈ xs, f a = f b → a = b) (nd : xs.Nodup) {ys rest : List V} (pm : (xs.map f).Perm (ys ++ rest)) : ∃ cs : List α, ys = cs.map f ∧ (∀ c ∈ cs, c ∈ xs) ∧ cs.Nodup := by
  obtain ⟨cs, rfl, m⟩ := sub_map (f := f) (xs := xs) (ys := ys) fun y hy => pm.mem_iff.mpr (List.mem_append_left _ hy)
  exact ⟨cs, rfl, m, nd_of_map (List.nodup_append.mp (pm.nodup_iff.mp (nd_map inj nd))).1⟩
theorem few_letters {ys rest : List V} (pm : (LETC.map chV).Perm (ys ++ rest)) : ∃ cs : List Nat, ys = cs.map chV ∧ low cs ∧ cs.Nodup := by
  obtain ⟨cs, e, m, nd⟩ := few_of (fun a _ b _ h => ch_inj h) nd_letc pm
  exact ⟨cs, e, fun c hc => low_letc c (m c hc), nd⟩
theorem chs_map (cs : List Nat) : cs.map chV = (cs.map fun c => (⟨#[c]⟩ : Str)).map V.str := by
  rw [List.map_map]
  rfl
theorem ones_len (cs : List Nat) : ((cs.map fun c => (⟨#[c]⟩ : Str)).map (·.length)).sum = cs.length := by
  induction cs with
  | nil => rfl
  | cons c cs ih =>
    rw [List.map_cons, List.map_cons, List.sum_cons, ih, List.length_cons]
    show 1 + cs.length = cs.length + 1
    omega
theorem cut_tx (cs : List Nat) (k : Nat) : cutS (tx cs) none (some (k : Int)) = tx (cs.take k) := by
  unfold cutS
  rw [HT.sIx_none, HT.sIx_nat]
  have e : (tx cs).length = cs.length := by show (cs.toArray).size = _; simp
  rw [e]
  show (⟨((cs.toArray.toList.drop 0).take (min k cs.length - 0)).toArray⟩ : Str) = _
  simp only [List.drop_zero, Nat.sub_zero]
  congr 2
  show cs.take (min k cs.length) = cs.take k
  rcases Nat.le_total k cs.length with h | h
  · rw [Nat.min_eq_left h]
  · rw [Nat.min_eq_right h, List.take_length, List.take_of_length_le h]
section
variable {P : Program} {w : World} {K : PySem.W.Frag}
                                                      {mg : Str → Option Value} {base : Heap}
/-- the names: different, each a name -/
def sp_w_names (K : PySem.W.Frag) : Sp := fun vs H Q _ => ∃ (r : Addr) (many : Nat), vs = [.ref r, .int (many : Int)] ∧ Rl H r ∧ 1 ≤ many ∧ many ≤ 8 ∧
  ∀ l (ns : List Str) H', Rl H' r → Only r H H' → H l = none → H' l = some (.lst (ns.map V.str)) → ns.Nodup → ns.length = many → (∀ n ∈ ns, nmC n = true) → Q (.ref l) H'
theorem ok_w_names (T : T K mg) : FnOk P w K mg base CX0 3 T.f_w_names T.d_w_names ["tray", "many"] (sp_w_names K) := by
  have G_w_few : FnOk P w K mg base CX0 2 T.f_w_few T.d_w_few ["tray", "items", "many"] (sp_w_few K) := ok_w_few T
  have G_w_pick : FnOk P w K mg base CX0 2 T.f_w_pick T.d_w_pick ["tray", "items"] (sp_w_pick K) := ok_w_pick T
  have G_w_roll : FnOk P w K mg base CX0 1 T.f_w_roll T.d_w_roll ["tray", "total"] (sp_w_roll K) := ok_w_roll T
  refine T.F_w_names.ok sc_w_names (fun vs H Q E h => ?_) (fun cdv A outer s H vs Q E hr h => ?_)
  · obtain ⟨r, many, rfl, _⟩ := h
    rfl
  · obtain ⟨r, many, rfl, hR, m1, m8, k⟩ := h
    have hu := hu_of hr
    have hr_w_few : Room 2 _ := hr.mono (by decide)
    have hr_w_pick : Room 2 _ := hr.mono (by decide)
    have hr_w_roll : Room 1 _ := hr.mono (by decide)
    refine ⟨_, (pss_cons (ps_set (i := 2) sc_w_names.nd rfl (Or.inr rfl) (pe_callTy (RL.cr_listStr rfl) (by rfl) T.z_list (by decide +kernel) (pa_cons pe_str pa_nil)))
      (pss_cons (ps_if (pt_cmpR op_eq (pe_call G_w_roll hr_w_roll rfl T.m_w_roll T.F_w_roll.kp T.b_w_roll .nil pass0 (pa_cons (pv 0) (pa_cons pe_int pa_nil))) pe_int (nomark _))
      (pss_cons (ps_set (i := 3) sc_w_names.nd rfl (Or.inr rfl) (pe_join pe_str (pe_lc (own := [("turn", 6)]) (g := gName 6) rfl sc_w_names.nd (pi_range1 (by rfl) T.z_range (pa_cons pe_int pa_nil)) (blkOk_by (N := ["tray", "many", "letters", "stem", "found", "letter", "turn", "size"]) (sc := defScope s_w_names) (by decide +kernel)) (fun _ _ _ _ _ => (pg_name (i := 6) sc_w_names.nd rfl (Or.inl rfl))) (fun _ _ _ _ _ => pts_nil) (fun _ _ _ _ _ => (pe_call G_w_pick hr_w_pick rfl T.m_w_pick T.F_w_pick.kp T.b_w_pick .nil pass0 (pa_cons (pv 0) (pa_cons (pv 2) pa_nil)))))))
      (pss_one (ps_ret (pe_lc (own := [("size", 7)]) (g := gName 7) rfl sc_w_names.nd (pi_list (pe_call G_w_few hr_w_few rfl T.m_w_few T.F_w_few.kp T.b_w_few .nil pass0 (pa_cons (pv 0) (pa_cons (pe_lst (pa_cons pe_int (pa_cons pe_int (pa_cons pe_int (pa_cons pe_int (pa_cons pe_int (pa_cons pe_int (pa_cons pe_int (pa_cons pe_int pa_nil))))))))) (pa_cons (pv 1) pa_nil))))) (blkOk_by (N := ["tray", "many", "letters", "stem", "found", "letter", "turn", "size"]) (sc := defScope s_w_names) (by decide +kernel)) (fun _ _ _ _ _ => (pg_name (i := 7) sc_w_names.nd rfl (Or.inl rfl))) (fun _ _ _ _ _ => pts_nil) (fun _ _ _ _ _ => (pe_slice sl_str (pv 3) po_none (po_some (pv 7))))))))
      pss_nil)
      (pss_cons (ps_asg (pe_tup (pa_cons (pe_join pe_str (pe_call G_w_few hr_w_few rfl T.m_w_few T.F_w_few.kp T.b_w_few .nil pass0 (pa_cons (pv 0) (pa_cons (pv 2) (pa_cons (pe_call G_w_roll hr_w_roll rfl T.m_w_roll T.F_w_roll.kp T.b_w_roll .nil pass0 (pa_cons (pv 0) (pa_cons pe_int pa_nil))) pa_nil))))) (pa_cons (pe_lst pa_nil) pa_nil))) (pg_tup rfl (pgs_cons (pg_name (i := 3) sc_w_names.nd rfl (Or.inr rfl)) (pgs_cons (pg_name (i := 4) sc_w_names.nd rfl (Or.inl rfl)) pgs_nil))))
      (pss_cons (ps_for PassesOwn.never rfl (pi_list (pe_call G_w_few hr_w_few rfl T.m_w_few T.F_w_few.kp T.b_w_few .nil pass0 (pa_cons (pv 0) (pa_cons (pv 2) (pa_cons (pv 1) pa_nil))))) (pg_name (i := 5) sc_w_names.nd rfl (Or.inl rfl))
      (pss_one (ps_expr (pe_bm PySem.F.plainAttrs_list PySem.F.slot_list_append PySem.F.type_list_append mt_append (pv 4) (pa_cons (pe_op op_add_str (pe_op op_add_str (pv 3) (pv 5)) (pe_join pe_str (pe_call G_w_few hr_w_few rfl T.m_w_few T.F_w_few.kp T.b_w_few .nil pass0 (pa_cons (pv 0) (pa_cons (pv 2) (pa_cons (pe_call G_w_pick hr_w_pick rfl T.m_w_pick T.F_w_pick.kp T.b_w_pick .nil pass0 (pa_cons (pv 0) (pa_cons (pe_lst (pa_cons pe_int (pa_cons pe_int (pa_cons pe_int (pa_cons pe_int (pa_cons pe_int pa_nil)))))) pa_nil))) pa_nil)))))) pa_nil)))))
      (pss_one (ps_ret (pv 4))))))), ?_⟩
    refine ⟨_, rfl, by show 26 ≤ sizeLine; decide, fun la hla => ?_⟩
    have S0 : Same H (upd H la (.lst (LETC.map chV))) := Same.new hla
    have e0 : (upd H la (.lst (LETC.map chV))) la = some (.lst (LETC.map chV)) := upd_same
    have R0 := Same.rl S0 hR
    have nla : la ≠ r := hR.ne hla
    rw [letters_eq]
    generalize upd H la (.lst (LETC.map chV)) = H0 at S0 e0 R0 ⊢
    refine ⟨_, rfl, r, 4, rfl, R0, by decide, by decide +kernel, fun v H1 v0 v1 R1 O1 => ⟨rfl, _, rfl, ?_⟩⟩
    have e1 := O1 _ _ nla e0
    refine ite2 (fun c => ?_) (fun c => ?_)
    · clear c
      refine ⟨⟨_, rfl⟩, ?_⟩
      refine ⟨_, rfl, by decide, by decide, fun D hD => ?_⟩
      have nDr : D ≠ r := R1.ne hD
      have nDa : la ≠ D := ne_of_none e1 hD
      refine lc_range (n := 8) (fun i H' => ∃ cs : List Nat, cs.length = i ∧ low cs ∧ H' D = some (.lst (cs.map chV)) ∧ Rl H' r ∧ Only r H1 H') ⟨[], rfl, (fun _ h => by cases h), upd_same, R1.new hD, Only.new hD⟩ ?_ ?_
      · rintro i H2 hi ⟨cs, lc, lw, eD, R2, O2⟩
        refine ⟨rfl, ?_⟩
        unfold tYes
        dsimp only
        rw [if_pos rfl]
        refine ⟨_, rfl, _, rfl, r, _, LETC.map chV, rfl, R2, .inl ⟨la, rfl, nla, .inl (SqL.of (O2 _ _ nla e1))⟩, by decide, by decide, fun u H3 hu3 R3 O3 => ?_⟩
        obtain ⟨c, hc, rfl⟩ := List.mem_map.mp hu3
        refine ⟨_, O3 _ _ nDr eD, by rw [List.length_map, lc, sizeLine_eq]; omega, cs ++ [c], by rw [List.length_append, lc]; rfl, ?_, by rw [upd_same, List.map_append]; rfl, ?_, ?_⟩
        · intro d hd
          rcases List.mem_append.mp hd with hd | hd
          · exact lw d hd
          · rw [List.mem_singleton.mp hd]
            exact low_letc c hc
        · obtain ⟨x1, x2, x3, q⟩ := R3
          exact ⟨x1, x2, x3, by rw [upd_ne nDr.symm]; exact q⟩
        · intro b o nb e
          rw [upd_ne (ne_of_none e hD)]
          exact O3 _ _ nb (O2 _ _ nb e)
      · rintro H2 ⟨cs, lc, lw, eD, R2, O2⟩
        refine ⟨_, D, cs.map fun c => (⟨#[c]⟩ : Str), rfl, rfl, .inl (SqL.of (by rw [eD, chs_map])), by rw [ones_len, lc, List.length_map, lc]; decide, ?_⟩
        rw [join_ones]
        refine ⟨_, rfl, by show 8 ≤ sizeLine; decide, fun l8 hl8 => ?_⟩
        have n8 : l8 ≠ r := R2.ne hl8
        refine ⟨_, rfl, r, l8, _, many, rfl, R2.new hl8, .inl (SqL.of upd_same), by decide, by omega, by omega, fun l' ys rest H3 R3 O3 hl' el' pm ly => ?_⟩
        have O23 : Only r H2 H3 := Only.trans (Only.new hl8) O3
        have O13 : Only r H1 H3 := Only.trans O2 O23
        have nl'r : l' ≠ r := by
          have := R2.new (o := .lst [V.int 1, .int 2, .int 3, .int 4, .int 5, .int 6, .int 7, .int 8]) hl8
          exact this.ne hl'
        obtain ⟨ks, rfl, mk, ndk⟩ := few_of (f := fun n : Nat => V.int (n : Int)) (xs := [1, 2, 3, 4, 5, 6, 7, 8]) (fun a _ b _ h => by have := V.int.inj h; omega) (by decide) pm
        rw [List.length_map] at ly
        have lk : ks.length = many := by
          have h8 : (if ((([V.int 1, .int 2, .int 3, .int 4, .int 5, .int 6, .int 7, .int 8] : List V).length : Nat) : Int) < (many : Int) then ((([V.int 1, .int 2, .int 3, .int 4, .int 5, .int 6, .int 7, .int 8] : List V).length : Nat) : Int) else (many : Int)) = many := by
            show (if ((8 : Nat) : Int) < (many : Int) then _ else _) = _
            rw [if_neg (by omega)]
          have := ly.trans h8
          omega
        refine ⟨l', rfl, ⟨_, SqL.of el'⟩, fun F hF => ?_⟩
        have nFl : l' ≠ F := ne_of_none el' hF
        refine lc_list (xs := ks.map fun n : Nat => V.int (n : Int)) (fun i H' => H' F = some (.lst ((ks.take i).map fun n => V.str (tx (cs.take n)))) ∧ Same H3 H') ⟨upd_same, Same.new hF⟩ (fun i H' _ h => SqL.of (h.2 _ _ el')) ?_ ?_
        · rintro i x H4 hx ⟨eF, S4⟩
          refine ⟨rfl, ?_⟩
          unfold tYes
          dsimp only
          rw [if_pos rfl]
          rw [List.getElem?_map] at hx
          cases e2 : ks[i]? with
          | none => rw [e2] at hx; cases hx
          | some n =>
            rw [e2] at hx
            cases hx
            refine ⟨_, rfl, _, rfl, _, rfl, _, rfl, by show (cs.toArray).size ≤ sizeLine; rw [List.size_toArray, lc]; decide, ?_⟩
            rw [cut_tx]
            have li : i < ks.length := (List.getElem?_eq_some_iff.mp e2).1
            refine ⟨_, eF, by rw [List.length_map, List.length_take, sizeLine_eq]; omega, ?_, Same.at hF S4⟩
            rw [upd_same, List.take_add_one, e2, List.map_append]
            rfl
        · rintro H4 ⟨eF, S4⟩
          rw [List.length_map, List.take_length] at eF
          refine k F (ks.map fun n => tx (cs.take n)) H4 (Same.rl S4 R3) ?_ ?_ (by rw [eF, List.map_map]; rfl) ?_ (by rw [List.length_map, lk]) ?_
          · exact Only.trans (Only.trans (Same.only S0) (Only.trans O1 O13)) (Same.only S4)
          · cases e5 : H F with
            | none => rfl
            | some o =>
              have nFr : F ≠ r := fun z => by rw [z] at hF; obtain ⟨_, _, _, q⟩ := R3; rw [q] at hF; cases hF
              have := O13 _ _ nFr (O1 _ _ nFr (S0 _ _ e5))
              rw [this] at hF
              cases hF
          · refine nd_map (fun a ha b hb e => ?_) ndk
            have ha' := mk a ha
            have hb' := mk b hb
            have e6 := congrArg List.length (tx_inj e)
            rw [List.length_take, List.length_take, lc] at e6
            simp only [List.mem_cons, List.not_mem_nil, or_false] at ha' hb'
            omega
          · intro n hn
            obtain ⟨m, hm, rfl⟩ := List.mem_map.mp hn
            have hm' := mk m hm
            simp only [List.mem_cons, List.not_mem_nil, or_false] at hm'
            refine nmC_tx ?_ ?_ fun c hc => lw c (List.mem_of_mem_take hc)
            · rw [List.length_take, lc]; omega
            · rw [List.length_take, lc]; omega
    · clear c
      refine ⟨⟨_, rfl⟩, ?_⟩
      refine ⟨_, rfl, _, rfl, _, rfl, r, 4, rfl, R1, by decide, by decide +kernel, fun u H2 u0 u1 R2 O2 => ?_⟩
      have e2 := O2 _ _ nla e1
      refine ⟨r, la, _, u, rfl, R2, .inl (SqL.of e2), by decide, u0, by omega, fun l' ys rest H3 R3 O3 hl' el' pm ly => ?_⟩
      obtain ⟨ss, rfl, ls, _⟩ := few_letters pm
      have lss : ss.length ≤ 3 := by
        rw [List.length_map] at ly
        have e26 : (LETC.map chV).length = 26 := rfl
        rw [e26, if_neg (by omega)] at ly
        omega
      refine ⟨_, l', ss.map fun c => (⟨#[c]⟩ : Str), rfl, rfl, .inl (SqL.of (by rw [el', chs_map])), by rw [ones_len, List.length_map]; show ss.length + ss.length * 0 ≤ _; omega, ?_⟩
      rw [join_ones]
      have e3 := O3 _ _ nla e2
      refine ⟨by show 0 ≤ sizeLine; decide, fun f hf => ⟨by show 2 ≤ sizeLine; decide, fun t ht => ?_⟩⟩
      have nfr : f ≠ r := R3.ne hf
      have nfa : la ≠ f := ne_of_none e3 hf
      have nft : f ≠ t := ne_of_none (upd_same (a := f) (H := H3) (o := .lst [])) ht
      have htu := ht
      rw [upd_ne nft.symm] at ht
      have S3 : Same H3 (upd (upd H3 f (.lst [])) t (.tup [V.str (tx ss), V.ref f])) := fun b o e => by
        rw [upd_ne (ne_of_none e ht), upd_ne (ne_of_none e hf)]
        exact e
      have ef : (upd (upd H3 f (.lst [])) t (.tup [V.str (tx ss), V.ref f])) f = some (.lst []) := by rw [upd_ne nft, upd_same]
      refine ⟨t, _, rfl, SqT.of upd_same, rfl, _, _, rfl, ?_⟩
      have R4 := Same.rl S3 R3
      have e4 := S3 _ _ e3
      have O14 : Only r H1 (upd (upd H3 f (.lst [])) t (.tup [V.str (tx ss), V.ref f])) := Only.trans (Only.trans O2 O3) (Same.only S3)
      have hf1 : H f = none := by
        cases e5 : H f with
        | none => rfl
        | some o =>
          have := O3 _ _ nfr (O2 _ _ nfr (O1 _ _ nfr (S0 _ _ e5)))
          rw [this] at hf
          cases hf
      generalize upd (upd H3 f (.lst [])) t (.tup [V.str (tx ss), V.ref f]) = H4 at S3 ef R4 e4 O14 ⊢
      refine ⟨_, _, rfl, rfl, ?_⟩
      refine ⟨_, rfl, _, rfl, _, rfl, r, la, _, many, rfl, R4, .inl (SqL.of e4), by decide, by omega, by omega, fun lm ys rest H5 R5 O5 hlm elm pm ly => ?_⟩
      obtain ⟨cs, rfl, lc, ndc⟩ := few_letters pm
      have lcm : cs.length = many := by
        rw [List.length_map] at ly
        have e26 : (LETC.map chV).length = 26 := rfl
        rw [e26, if_neg (by omega)] at ly
        omega
      have ef5 := O5 _ _ nfr ef
      have e5 := O5 _ _ nla e4
      have nlm : lm ≠ r := R4.ne hlm
      have nlf : lm ≠ f := fun z => by rw [z, ef] at hlm; cases hlm
      refine ⟨lm, rfl, ⟨_, SqL.of elm⟩, for_list (xs := cs.map chV) (fun i σ H' => (∃ v, σ = [some (.ref r), some (.int many), some (.ref la), some (.str (tx ss)), some (.ref f), v, none, none]) ∧ Rl H' r ∧ (∀ b o, b ≠ r → b ≠ f → H5 b = some o → H' b = some o) ∧
        ∃ ps : List (Nat × List Nat), ps.map (·.1) = cs.take i ∧ H' f = some (.lst (ps.map fun p => V.str (tx (ss ++ p.1 :: p.2)))) ∧ ∀ p ∈ ps, low p.2 ∧ p.2.length ≤ 4)
        ⟨⟨none, rfl⟩, R5, (fun b o _ _ e => e), [], rfl, ef5, fun _ h => by cases h⟩ (fun i σ H' _ h => SqL.of (h.2.2.1 _ _ nlm nlf elm)) ?_ ?_⟩
      · rintro i x σ' H6 hx ⟨⟨v', rfl⟩, R6, O6, ps, ep, ef6, hps⟩
        rw [List.getElem?_map] at hx
        cases ec : cs[i]? with
        | none => rw [ec] at hx; cases hx
        | some c =>
          rw [ec] at hx
          cases hx
          have li : i < cs.length := (List.getElem?_eq_some_iff.mp ec).1
          have hc : 97 ≤ c ∧ c ≤ 122 := lc c (List.mem_of_getElem? ec)
          refine ⟨_, rfl, .inl ⟨rfl, _, SqL.of ef6⟩, ?_⟩
          have l1 : (tx ss).length = ss.length := by show (ss.toArray).size = _; simp
          refine ⟨_, rfl, _, rfl, _, _, rfl, rfl, by rw [l1, sizeLine_eq]; show ss.length + 1 ≤ _; omega, ?_⟩
          refine ⟨⟨_, rfl⟩, _, rfl, _, rfl, _, rfl, by show 5 ≤ sizeLine; decide, fun l5 hl5 => ?_⟩
          have R7 : Rl (upd H6 l5 (.lst [V.int 0, .int 0, .int 1, .int 2, .int 4])) r := R6.new hl5
          refine ⟨r, _, [V.int 0, .int 0, .int 1, .int 2, .int 4], rfl, R7, .inl ⟨l5, rfl, R6.ne hl5, .inl (SqL.of upd_same)⟩, by decide, by show 5 ≤ sizeLine; decide, fun pv' H7 hpv R8 O8 => ?_⟩
          have eL : H6 la = some (.lst (LETC.map chV)) := O6 _ _ nla nfa e5
          obtain ⟨n4, rfl, h0, h4⟩ : ∃ n : Int, pv' = .int n ∧ 0 ≤ n ∧ n ≤ 4 := by
            simp only [List.mem_cons, List.not_mem_nil, or_false] at hpv
            rcases hpv with rfl | rfl | rfl | rfl | rfl
            · exact ⟨0, rfl, by decide, by decide⟩
            · exact ⟨0, rfl, by decide, by decide⟩
            · exact ⟨1, rfl, by decide, by decide⟩
            · exact ⟨2, rfl, by decide, by decide⟩
            · exact ⟨4, rfl, by decide, by decide⟩
          have O67 : Only r H6 H7 := Only.trans (Only.new hl5) O8
          refine ⟨r, la, _, n4, rfl, R8, .inl (SqL.of (O67 _ _ nla eL)), by decide, h0, by omega, fun lt ys rest H8 R9 O9 hlt elt pm ly => ?_⟩
          obtain ⟨ts, rfl, lt4, _⟩ := few_letters pm
          have ltl : ts.length ≤ 4 := by
            rw [List.length_map] at ly
            have e26 : (LETC.map chV).length = 26 := rfl
            rw [e26, if_neg (by omega)] at ly
            omega
          refine ⟨_, lt, ts.map fun c => (⟨#[c]⟩ : Str), rfl, rfl, .inl (SqL.of (by rw [elt, chs_map])), by rw [ones_len, List.length_map]; show ts.length + ts.length * 0 ≤ _; omega, ?_⟩
          rw [join_ones]
          have l2 : (tx ts).length = ts.length := by show (ts.toArray).size = _; simp
          refine ⟨_, _, rfl, rfl, ?_, ?_⟩
          · show ((ss.toArray ++ #[c]).size + ts.toArray.size) ≤ sizeLine
            simp only [Array.size_append, List.size_toArray, sizeLine_eq]
            show ss.length + 1 + ts.length ≤ _
            omega
          have ecat : (tx ss ++ (⟨#[c]⟩ : Str)) ++ tx ts = tx (ss ++ c :: ts) := by
            show (⟨(ss.toArray ++ #[c]) ++ ts.toArray⟩ : Str) = ⟨(ss ++ c :: ts).toArray⟩
            simp
          rw [ecat]
          have O68 : Only r H6 H8 := Only.trans O67 O9
          refine ⟨f, _, _, rfl, rfl, O68 _ _ nfr ef6, ?_, ⟨_, rfl⟩, ?_, ?_, ps ++ [(c, ts)], ?_, ?_, ?_⟩
          · rw [List.length_map, sizeLine_eq]
            have := congrArg List.length ep
            rw [List.length_map, List.length_take] at this
            omega
          · obtain ⟨x1, x2, x3, q⟩ := R9
            exact ⟨x1, x2, x3, by rw [upd_ne nfr.symm]; exact q⟩
          · intro b o nb nbf e
            rw [upd_ne nbf]
            exact O68 _ _ nb (O6 _ _ nb nbf e)
          · rw [List.map_append, ep, List.take_add_one, ec]
            rfl
          · rw [upd_same, List.map_append]
            rfl
          · intro p hp
            rcases List.mem_append.mp hp with hp | hp
            · exact hps p hp
            · rw [List.mem_singleton.mp hp]
              exact ⟨lt4, ltl⟩
      · rintro σ' H6 ⟨⟨v', rfl⟩, R6, O6, ps, ep, ef6, hps⟩
        rw [List.length_map, List.take_length] at ep
        refine ⟨_, rfl, k f (ps.map fun p => tx (ss ++ p.1 :: p.2)) H6 R6 ?_ hf1 (by rw [ef6, List.map_map]; rfl) ?_ (by rw [List.length_map, ← lcm, ← ep, List.length_map]) ?_⟩
        · intro b o nb e
          have nbf : b ≠ f := ne_of_none e hf1
          exact O6 _ _ nb nbf (O5 _ _ nb (O14 _ _ nb (O1 _ _ nb (S0 _ _ e))))
        · have ndp : (ps.map (·.1)).Nodup := by rw [ep]; exact ndc
          refine nd_map (fun a ha b hb e => ?_) (nd_of_map ndp)
          have e7 := tx_inj e
          have e8 := List.append_cancel_left e7
          obtain ⟨e9, e10⟩ := List.cons.inj e8
          obtain ⟨a1, a2⟩ := a
          obtain ⟨b1, b2⟩ := b
          simp only at e9 e10
          rw [e9, e10]
        · intro n hn
          obtain ⟨p, hp, rfl⟩ := List.mem_map.mp hn
          obtain ⟨q1, q2⟩ := hps p hp
          have hpc : p.1 ∈ cs := by rw [← ep]; exact List.mem_map.mpr ⟨p, hp, rfl⟩
          refine nmC_tx (by rw [List.length_append, List.length_cons]; omega) (by rw [List.length_append, List.length_cons]; omega) fun c hc => ?_
          rcases List.mem_append.mp hc with hc | hc
          · exact ls c hc
          · rcases List.mem_cons.mp hc with rfl | hc
            · exact lc _ hpc
            · exact q1 c hc
end
end K38
namespace K38
open PySem L2
open PyProof.Rows PySem.Spec
section
variable {P : Program} {w : World} {K : PySem.W.Frag}
                                                      {mg : Str → Option Value} {base : Heap}
/-- pairs (name, the tuple of the name) -/
def PairsAt (H : Hp) (ps : List Addr) (L : List (Str × Addr)) : Prop := Paired (fun p q => H p = some (.tup [.str q.1, .ref q.2])) ps L
theorem PairsAt.keep {H H' : Hp} (k : KT H H') {ps : List Addr} {L : List (Str × Addr)} (h : PairsAt H ps L) : PairsAt H' ps L := by
  unfold PairsAt at h ⊢
  induction h with
  | nil => exact .nil
  | cons a b ih => exact .cons (k _ _ a) ih
theorem PairsAt.snoc {H : Hp} {ps : List Addr} {L : List (Str × Addr)} (h : PairsAt H ps L) {p t : Addr} {n : Str} (q : H p = some (.tup [.str n, .ref t])) : PairsAt H (ps ++ [p]) (L ++ [(n, t)]) := by
  unfold PairsAt at h ⊢
  induction h with
  | nil => exact .cons q .nil
  | cons a b ih => exact .cons a ih
theorem PairsAt.pd {K : PySem.W.Frag} {H : Hp} {ps : List Addr} {L : List (Str × Addr)} (h : PairsAt H ps L) : Paired (fun p kv => SqT K H p [kV kv.1, kv.2]) ps (Kvs L) := by
  unfold PairsAt at h
  induction h with
  | nil => exact .nil
  | cons a b ih => exact .cons (SqT.of a) ih
/-- the rows that some names have -/
def pickR (R : Rws) (ns : List Str) : Rws := ns.map fun n => (n, (R.lookup n).getD (0, 0))
theorem lookup_mem : ∀ {R : Rws} {n : Str} {p : Int × Int}, (R.map (·.1)).Nodup → (n, p) ∈ R → R.lookup n = some p
  | [], _, _, _, h => by cases h
  | (m, u) :: R, n, p, nd, h => by
    rw [List.map_cons, List.nodup_cons] at nd
    rcases List.mem_cons.mp h with e | e
    · cases e
      exact List.lookup_cons_self
    · have hne : (n == m) = false := by
        rw [beq_eq_false_iff_ne]
        rintro rfl
        exact nd.1 (List.mem_map.mpr ⟨_, e, rfl⟩)
      rw [List.lookup_cons, hne]
      exact lookup_mem nd.2 e
theorem pickR_names (R : Rws) (ns : List Str) : (pickR R ns).map (·.1) = ns := by
  unfold pickR
  rw [List.map_map]
  exact List.map_id' _
theorem pickR_mem {R : Rws} {ns : List Str} (nd : (R.map (·.1)).Nodup) (sub : ∀ n ∈ ns, n ∈ R.map (·.1)) : ∀ x ∈ pickR R ns, x ∈ R := by
  intro x hx
  obtain ⟨n, hn, rfl⟩ := List.mem_map.mp hx
  obtain ⟨⟨m, p⟩, hm, e⟩ := List.mem_map.mp (sub n hn)
  obtain rfl : m = n := e
  rw [lookup_mem nd hm]
  exact hm
theorem pickR_perm {R : Rws} {ns : List Str} (nd : (R.map (·.1)).Nodup) (pm : ns.Perm (R.map (·.1))) : (pickR R ns).Perm R := by
  have e : pickR R (R.map (·.1)) = R := by
    unfold pickR
    rw [List.map_map]
    have : ∀ x ∈ R, ((fun n => (n, (R.lookup n).getD (0, 0))) ∘ fun x => x.1) x = x := by
      rintro ⟨n, p⟩ hx
      show (n, (R.lookup n).getD (0, 0)) = (n, p)
      rw [lookup_mem nd hx]
      rfl
    rw [List.map_congr_left this]
    exact List.map_id' _
  have := pm.map fun n => (n, (R.lookup n).getD (0, 0))
  unfold pickR at e
  rw [e] at this
  exact this
theorem pickR_snoc (R : Rws) (ns : List Str) (n : Str) {p : Int × Int} (h : R.lookup n = some p) : pickR R (ns ++ [n]) = pickR R ns ++ [(n, p)] := by
  unfold pickR
  rw [List.map_append]
  show _ ++ [(n, (R.lookup n).getD (0, 0))] = _
  rw [h]
  rfl
def sp_w_sorted (K : PySem.W.Frag) : Sp := fun vs H Q _ => ∃ (d : Addr) (L : List (Str × Addr)) (R : Rws), vs = [.ref d] ∧ H d = some (.dK (Kvs L)) ∧ Tups H L R ∧ (R.map (·.1)).Nodup ∧ R.length ≤ 8 ∧
  ∀ d' L' S H', Same H H' → H d' = none → H' d' = some (.dK (Kvs L')) → Tups H' L' S → Srd R S → Q (.ref d') H'
theorem ok_w_sorted (T : T K mg) : FnOk P w K mg base CX0 1 T.f_w_sorted T.d_w_sorted ["rows"] (sp_w_sorted K) := by
  refine T.F_w_sorted.ok sc_w_sorted (fun vs H Q E h => ?_) (fun cdv A outer s H vs Q E hr h => ?_)
  · obtain ⟨d, L, R, rfl, _⟩ := h
    rfl
  · obtain ⟨d, L, R, rfl, hd, ts, nd, l8, k⟩ := h
    have hu := hu_of hr
    refine ⟨_, (pss_one (ps_ret (pe_callTy (call_dictP rfl) (by rfl) T.z_dict (by decide +kernel) (pa_cons (pe_lc (own := [("name", 1)]) (g := gName 1) rfl sc_w_sorted.nd (pi_list (pe_callB (call_sortedD rfl) (by rfl) T.z_sorted (by decide +kernel) (pa_cons (pv 0) pa_nil))) (blkOk_by (N := ["rows", "name"]) (sc := defScope s_w_sorted) (by decide +kernel)) (fun _ _ _ _ _ => (pg_name (i := 1) sc_w_sorted.nd rfl (Or.inl rfl))) (fun _ _ _ _ _ => pts_nil) (fun _ _ _ _ _ => (pe_tup (pa_cons (pv 1) (pa_cons (pe_dget (by exact hu) (pv 0) (pv 1) (fun _ _ => rfl)) pa_nil))))) pa_nil)))), ?_⟩
    refine ⟨_, rfl, d, _, L.map (·.1), rfl, .inl hd, kvs_keys L, by rw [List.length_map, ts.len]; omega, fun ys p pm so hp => ?_⟩
    have S1 := Same.new (o := .lst (ys.map V.str)) hp
    have ep : (upd H p (.lst (ys.map V.str))) p = some (.lst (ys.map V.str)) := upd_same
    generalize upd H p (.lst (ys.map V.str)) = H1 at S1 ep ⊢
    rw [ts.names] at pm
    refine ⟨p, rfl, ⟨_, SqL.of ep⟩, fun D hD => ?_⟩
    refine lc_list (xs := ys.map V.str) (fun i H' => Same H1 H' ∧ ∃ (ps : List Addr) (M : List (Str × Addr)), H' D = some (.lst (ps.map V.ref)) ∧ PairsAt H' ps M ∧ Tups H' M (pickR R (ys.take i)) ∧ ps.length = i) ⟨Same.new hD, [], [], upd_same, .nil, .nil, rfl⟩ (fun i H' _ h => SqL.of (h.1 _ _ ep)) ?_ ?_
    · rintro i x H2 hx ⟨S2, ps, M, eD, pa, tm, lp⟩
      refine ⟨rfl, ?_⟩
      unfold tYes
      dsimp only
      rw [if_pos rfl]
      rw [List.getElem?_map] at hx
      cases e2 : ys[i]? with
      | none => rw [e2] at hx; cases hx
      | some n =>
        rw [e2] at hx
        cases hx
        have hn : n ∈ R.map (·.1) := pm.mem_iff.mp (List.mem_of_getElem? e2)
        have S12 := Same.trans S1 S2
        have ts2 := ts.keep (KT.same S12)
        obtain ⟨t, b, e, hv, ht, hm⟩ := ts2.get hn
        refine ⟨_, rfl, _, rfl, _, rfl, d, V.ref t, rfl, ?_, by show 2 ≤ sizeLine; decide, fun q hq => ?_⟩
        · have := DGet.k (k := Sum.inr n) (S12 _ _ hd)
          rw [hv] at this
          exact this
        have nDq : D ≠ q := ne_of_none eD hq
        have li : i < ys.length := (List.getElem?_eq_some_iff.mp e2).1
        have l8' : ys.length ≤ 8 := by rw [pm.length_eq, List.length_map]; exact l8
        refine ⟨_, (by rw [upd_ne nDq]; exact eD), by rw [List.length_map, lp, sizeLine_eq]; omega, ?_, ps ++ [q], M ++ [(n, t)], by rw [upd_same, List.map_append]; rfl, ?_, ?_, by rw [List.length_append, lp]; rfl⟩
        · exact Same.at hD (Same.trans S2 (Same.new hq))
        · have kt : KT H2 (upd (upd H2 q (.tup [V.str n, V.ref t])) D (.lst (ps.map V.ref ++ [V.ref q]))) := KT.trans (KT.new hq) (KT.put (u := .lst (ps.map V.ref)) (by rw [upd_ne nDq]; exact eD) (fun _ z => by cases z))
          exact (pa.keep kt).snoc (by rw [upd_ne nDq.symm, upd_same])
        · have kt : KT H2 (upd (upd H2 q (.tup [V.str n, V.ref t])) D (.lst (ps.map V.ref ++ [V.ref q]))) := KT.trans (KT.new hq) (KT.put (u := .lst (ps.map V.ref)) (by rw [upd_ne nDq]; exact eD) (fun _ z => by cases z))
          rw [List.take_add_one, e2]
          show Tups _ _ (pickR R (ys.take i ++ [n]))
          rw [pickR_snoc R _ n (lookup_mem nd hm)]
          exact (tm.keep kt).snoc (kt _ _ ht)
    · rintro H2 ⟨S2, ps, M, eD, pa, tm, lp⟩
      rw [List.length_map, List.take_length] at tm
      refine ⟨D, ps, Kvs M, rfl, SqL.of eD, pa.pd, fun q hq => ?_⟩
      have nm : (M.map (·.1)).Nodup := by
        rw [tm.names, pickR_names]
        exact pm.nodup_iff.mpr nd
      have e0 : mergeK [] (Kvs M) = Kvs M := mergeK_kvs M [] (by simpa using nm)
      rw [e0]
      refine k q M (pickR R ys) _ (Same.trans S1 (Same.trans S2 (Same.new hq))) ?_ upd_same (tm.keep (KT.new hq)) ⟨pickR_perm nd pm, by rw [pickR_names]; exact so⟩
      cases e5 : H q with
      | none => rfl
      | some o =>
        rw [S2 _ _ (S1 _ _ e5)] at hq
        cases hq
end
end K38
namespace K38
open PySem L2
open PyProof.Rows PySem.Spec
theorem un64 {k : Nat} {A : Around} (r : Room k A) : A.units + 64 < cLine := by
  have := r.un
  omega
theorem nm_ok {z : Str} (h : nmC z = true) : PyData.strOk z = true := by
  unfold nmC at h
  have q := (Bool.and_eq_true_iff.mp h).2
  unfold PyData.strOk
  rw [← Array.all_toList, List.all_eq_true]
  intro c hc
  have e := List.all_eq_true.mp q c hc
  have e2 := of_decide_eq_true (Bool.and_eq_true_iff.mp e).2
  exact decide_eq_true (by omega)
theorem nmC_len {z : Str} (h : nmC z = true) : 1 ≤ z.length ∧ z.length ≤ 8 := by
  unfold nmC at h
  exact of_decide_eq_true (Bool.and_eq_true_iff.mp h).1
theorem shaped_names {ns : List Str} (h : ∀ n ∈ ns, nmC n = true) : SeqAt.shaped (.list (ns.map PyData.str)) = true := by
  have key : ∀ ns : List Str, (∀ n ∈ ns, nmC n = true) → PyData.canLayAll0 (ns.map PyData.str) = true ∧ PyData.depthAll (ns.map PyData.str) ≤ 1 := by
    intro ns
    induction ns with
    | nil => intro _; exact ⟨by simp [PyData.canLayAll0], by simp [PyData.depthAll]⟩
    | cons n ns ih =>
      intro h
      obtain ⟨h1, h2⟩ := ih fun q hq => h q (List.mem_cons_of_mem _ hq)
      have h3 := nm_ok (h n List.mem_cons_self)
      refine ⟨?_, ?_⟩
      · simp [PyData.canLayAll0, PyData.canLay0, h1, h3]
      · simp [PyData.depthAll, PyData.depth]
        omega
  obtain ⟨k1, k2⟩ := key ns h
  show ((PyData.list (ns.map PyData.str)).canLay0 && decide ((PyData.list (ns.map PyData.str)).depth ≤ 64)) = true
  rw [Bool.and_eq_true]
  exact ⟨by simp only [PyData.canLay0]; exact k1, decide_eq_true (by simp only [PyData.depth]; omega)⟩
theorem dpa_strs {K : PySem.W.Frag} {H : Hp} : ∀ ns : List Str, DpAll K H (ns.map V.str) (ns.map PyData.str)
  | [] => .nil
  | n :: ns => .cons (.str n) (dpa_strs ns)
theorem flat_strs (ns : List Str) : (ns.map V.str).all flatV = true := by
  rw [List.all_map, List.all_eq_true]
  intro n _
  rfl
theorem inV_strs (n : Str) (ns : List Str) : inV (.str n) (ns.map V.str) = decide (n ∈ ns) := by
  unfold inV
  rw [List.any_map]
  induction ns with
  | nil => rfl
  | cons m ns ih =>
    rw [List.any_cons, ih]
    show ((m == n) || _) = _
    by_cases e : n = m
    · subst e
      simp
    · have e' : (m == n) = false := by rw [beq_eq_false_iff_ne]; exact fun z => e z.symm
      rw [e', Bool.false_or]
      simp [e]
section
variable {P : Program} {w : World} {K : PySem.W.Frag}
                                                      {mg : Str → Option Value} {base : Heap}
def sp_w_rings (K : PySem.W.Frag) : Sp := fun vs H Q _ => ∃ (r l : Addr) (t : Int) (ns : List Str), vs = [.ref r, .int t, .ref l] ∧ Rl H r ∧ SqL K H l (ns.map V.str) ∧ 1 ≤ t ∧ t ≤ 32 ∧ ns.Nodup ∧ ns.length ≤ 8 ∧ (∀ n ∈ ns, nmC n = true) ∧
  ∀ d L (R : Rws) H', Rl H' r → Only r H H' → H d = none → H' d = some (.dK (Kvs L)) → Tups H' L R → (R.map (·.1)).Perm ns → (∀ x ∈ R, SpOk t x ∧ Fin1 t x) → Q (.ref d) H'
def sp_w_rows (K : PySem.W.Frag) : Sp := fun vs H Q _ => ∃ (r l : Addr) (t : Int) (ns : List Str), vs = [.ref r, .int t, .ref l] ∧ Rl H r ∧ l ≠ r ∧ SqL K H l (ns.map V.str) ∧ 1 ≤ t ∧ t ≤ 32 ∧ ns.Nodup ∧ ns.length ≤ 8 ∧ (∀ n ∈ ns, nmC n = true) ∧
  ∀ d L (R : Rws) H', Rl H' r → Only r H H' → H d = none → H' d = some (.dK (Kvs L)) → Tups H' L R → (R.map (·.1)).Perm ns → (∀ x ∈ R, SpOk t x ∧ Fin1 t x) → Q (.ref d) H'
theorem tups_put {H : Hp} {d q : Addr} {L : List (Str × Addr)} {R : Rws} {n : Str} {b e : Int} (hd : H d = some (.dK (Kvs L))) (ts : Tups H L R) (hn : n ∉ R.map (·.1)) (ht : TupAt H q b e) :
    (upd H d (.dK (putK (Kvs L) (.inr n) (.ref q)))) d = some (.dK (Kvs (L ++ [(n, q)]))) ∧ Tups (upd H d (.dK (putK (Kvs L) (.inr n) (.ref q)))) (L ++ [(n, q)]) (R ++ [(n, b, e)]) := by
  have hn' : n ∉ L.map (·.1) := by rw [ts.names]; exact hn
  have kt : KT H (upd H d (.dK (putK (Kvs L) (.inr n) (.ref q)))) := KT.put hd (fun _ z => by cases z)
  exact ⟨by rw [upd_same, putK_kvs hn'], (ts.keep kt).snoc (kt _ _ ht)⟩
theorem ok_w_rows (T : T K mg) (G_w_rings : FnOk P w K mg base CX0 3 T.f_w_rings T.d_w_rings ["tray", "interval", "names"] (sp_w_rings K)) : FnOk P w K mg base CX0 4 T.f_w_rows T.d_w_rows ["tray", "interval", "names"] (sp_w_rows K) := by
  have G_w_pick : FnOk P w K mg base CX0 2 T.f_w_pick T.d_w_pick ["tray", "items"] (sp_w_pick K) := ok_w_pick T
  have G_w_roll : FnOk P w K mg base CX0 1 T.f_w_roll T.d_w_roll ["tray", "total"] (sp_w_roll K) := ok_w_roll T
  refine T.F_w_rows.ok sc_w_rows (fun vs H Q E h => ?_) (fun cdv A outer s H vs Q E hr h => ?_)
  · obtain ⟨r, l, t, ns, rfl, _⟩ := h
    rfl
  · obtain ⟨r, l, t, ns, rfl, hR, nlr, hl, t1, t2, nd, l8, hnm, k⟩ := h
    have hu := hu_of hr
    have hr_w_pick : Room 2 _ := hr.mono (by decide)
    have hr_w_rings : Room 3 _ := hr.mono (by decide)
    have hr_w_roll : Room 1 _ := hr.mono (by decide)
    refine ⟨_, (pss_cons (ps_if (pt_cmpR op_eq (pe_call G_w_roll hr_w_roll rfl T.m_w_roll T.F_w_roll.kp T.b_w_roll .nil pass0 (pa_cons (pv 0) (pa_cons pe_int pa_nil))) pe_int (nomark _))
      (pss_one (ps_ret (pe_call G_w_rings hr_w_rings rfl T.m_w_rings T.F_w_rings.kp T.b_w_rings .nil pass0 (pa_cons (pv 0) (pa_cons (pv 1) (pa_cons (pv 2) pa_nil))))))
      pss_nil)
      (pss_cons (ps_set (i := 3) sc_w_rows.nd rfl (Or.inl rfl) pe_dnewK)
      (pss_cons (ps_for PassesOwn.never rfl (pi_list (pv 2)) (pg_name (i := 4) sc_w_rows.nd rfl (Or.inl rfl))
      (pss_cons (ps_set (i := 5) sc_w_rows.nd rfl (Or.inl rfl) (pe_op op_sub (pe_call G_w_roll hr_w_roll rfl T.m_w_roll T.F_w_roll.kp T.b_w_roll .nil pass0 (pa_cons (pv 0) (pa_cons (pe_op op_mul pe_int (pv 1)) pa_nil))) (pv 1)))
      (pss_cons (ps_set (i := 6) sc_w_rows.nd rfl (Or.inl rfl) (pe_op op_add pe_int (pe_call G_w_roll hr_w_roll rfl T.m_w_roll T.F_w_roll.kp T.b_w_roll .nil pass0 (pa_cons (pv 0) (pa_cons (pe_call G_w_pick hr_w_pick rfl T.m_w_pick T.F_w_pick.kp T.b_w_pick .nil pass0 (pa_cons (pv 0) (pa_cons (pe_lst (pa_cons (pv 1) (pa_cons (pv 1) (pa_cons (pv 1) (pa_cons (pe_op op_mul pe_int (pv 1)) (pa_cons (pe_op op_mul pe_int (pv 1)) pa_nil)))))) pa_nil))) pa_nil)))))
      (pss_one (ps_dput (by exact hu) (pv 3) (pv 4) (pe_tup (pa_cons (pv 5) (pa_cons (pe_op op_add (pv 5) (pv 6)) pa_nil))) rfl)))))
      (pss_one (ps_ret (pv 3)))))), ?_⟩
    refine ⟨_, rfl, r, 3, rfl, hR, by decide, by decide +kernel, fun v H1 v0 v1 R1 O1 => ⟨rfl, _, rfl, ?_⟩⟩
    have hl1 := O1.seqL nlr hl
    refine ite2 (fun c => ?_) (fun c => ?_)
    · clear c
      refine ⟨_, rfl, _, rfl, _, rfl, r, l, t, ns, rfl, R1, hl1, t1, t2, nd, l8, hnm, fun d L R H' R' O' hd ed ts pm hx => ?_⟩
      refine k d L R H' R' (Only.trans O1 O') ?_ ed ts pm hx
      cases e5 : H d with
      | none => rfl
      | some o =>
        have ndr : d ≠ r := R1.ne hd
        rw [O1 _ _ ndr e5] at hd
        cases hd
    · clear c
      intro d hd
      have ndr : d ≠ r := R1.ne hd
      have hdH : H d = none := by
        cases e5 : H d with
        | none => rfl
        | some o =>
          rw [O1 _ _ ndr e5] at hd
          cases hd
      have R2 := R1.new (o := .dK []) hd
      have O2 : Only r H (upd H1 d (.dK [])) := Only.trans O1 (Only.new hd)
      have ed2 : (upd H1 d (.dK [])) d = some (.dK (Kvs [])) := upd_same
      have hl2 := (Only.new (r := r) (o := .dK []) hd).seqL nlr hl1
      generalize upd H1 d (.dK []) = H2 at R2 O2 ed2 hl2 ⊢
      refine ⟨_, rfl, l, rfl, ⟨_, hl2⟩, for_list (xs := ns.map V.str) (fun i σ H' => (∃ v1 v2 v3, σ = [some (.ref r), some (.int t), some (.ref l), some (.ref d), v1, v2, v3]) ∧ Rl H' r ∧ Only r H H' ∧ SqL K H' l (ns.map V.str) ∧ ∃ L R, H' d = some (.dK (Kvs L)) ∧ Tups H' L R ∧ R.map (·.1) = ns.take i ∧ ∀ x ∈ R, SpOk t x ∧ Fin1 t x)
        ⟨⟨none, none, none, rfl⟩, R2, O2, hl2, [], [], ed2, .nil, rfl, fun _ h => by cases h⟩ (fun i σ H' _ h => h.2.2.2.1) ?_ ?_⟩
      · rintro i x σ' H3 hx ⟨⟨v1, v2, v3, rfl⟩, R3, O3, hl3, L, R, ed, ts, en, hR3⟩
        rw [List.getElem?_map] at hx
        cases en2 : ns[i]? with
        | none => rw [en2] at hx; cases hx
        | some n =>
          rw [en2] at hx
          cases hx
          have li : i < ns.length := (List.getElem?_eq_some_iff.mp en2).1
          refine ⟨_, rfl, _, rfl, _, _, rfl, rfl, .inl ⟨by decide, by decide⟩, r, 3 * t, rfl, R3, by omega, Nat.lt_trans (lg (b := 10) (by omega) (by omega) (by decide)) (by decide), fun u H4 u0 u1 R4 O4 => ?_⟩
          refine ⟨_, rfl, _, _, rfl, rfl, ?_⟩
          refine ⟨_, rfl, _, rfl, _, rfl, _, rfl, _, rfl, _, rfl, _, _, rfl, rfl, .inl ⟨by decide, by decide⟩, _, rfl, _, _, rfl, rfl, .inl ⟨by decide, by decide⟩, by show 5 ≤ sizeLine; decide, fun l5 hl5 => ?_⟩
          have R5 := R4.new (o := .lst [V.int t, .int t, .int t, .int (2 * t), .int (8 * t)]) hl5
          refine ⟨r, _, [V.int t, .int t, .int t, .int (2 * t), .int (8 * t)], rfl, R5, .inl ⟨l5, rfl, R4.ne hl5, .inl (SqL.of upd_same)⟩, Nat.succ_pos _, by show 5 ≤ sizeLine; decide, fun pv' H6 hpv R6 O6 => ?_⟩
          obtain ⟨m, rfl, m0, m1⟩ : ∃ n : Int, pv' = .int n ∧ 1 ≤ n ∧ n ≤ 8 * t := by
            simp only [List.mem_cons, List.not_mem_nil, or_false] at hpv
            rcases hpv with rfl | rfl | rfl | rfl | rfl
            · exact ⟨t, rfl, by omega, by omega⟩
            · exact ⟨t, rfl, by omega, by omega⟩
            · exact ⟨t, rfl, by omega, by omega⟩
            · exact ⟨2 * t, rfl, by omega, by omega⟩
            · exact ⟨8 * t, rfl, by omega, by omega⟩
          refine ⟨r, m, rfl, R6, by omega, Nat.lt_trans (lg (b := 10) (by omega) (by omega) (by decide)) (by decide), fun z H7 z0 z1 R7 O7 => ?_⟩
          refine ⟨_, _, rfl, rfl, ?_⟩
          refine ⟨_, rfl, _, rfl, _, rfl, _, _, rfl, rfl, by show 2 ≤ sizeLine; decide, fun q hq => ?_⟩
          have O37 : Only r H3 H7 := Only.trans O4 (Only.trans (Only.trans (Only.new hl5) O6) O7)
          have ed7 := O37 _ _ ndr ed
          have ts7 := ts.keep (KT.only O37 R3)
          have S8 := Same.new (o := .tup [V.int (u - t), .int (u - t + (1 + z))]) hq
          have eq8 : (upd H7 q (.tup [V.int (u - t), .int (u - t + (1 + z))])) q = some (.tup [V.int (u - t), .int (u - t + (1 + z))]) := upd_same
          have R8 := Same.rl S8 R7
          generalize upd H7 q (.tup [V.int (u - t), .int (u - t + (1 + z))]) = H8 at S8 eq8 R8 ⊢
          have ed8 := S8 _ _ ed7
          have ts8 := ts7.keep (KT.same S8)
          have hn : n ∉ R.map (·.1) := by
            rw [en]
            intro hm
            have nd2 := nd
            rw [← List.take_append_drop i ns] at nd2
            have hd2 : n ∈ ns.drop i := by
              rw [List.mem_iff_getElem?]
              exact ⟨0, by rw [List.getElem?_drop]; exact en2⟩
            exact (List.nodup_append.mp nd2).2.2 n hm n hd2 rfl
          have hl8 : SqL K H8 l (ns.map V.str) := Only.seqL (Only.trans O37 (Same.only S8)) nlr hl3
          obtain ⟨f1, f2⟩ := tups_put ed8 ts8 hn (show TupAt H8 q (u - t) (u - t + (1 + z)) from eq8)
          refine ⟨_, rfl, _, rfl, d, _, rfl, DPut.k (k := Sum.inr n) ed8 (by rw [kvs_len, ts8.len, ← List.length_map (f := (·.1)) (as := R), en, List.length_take, sizeLine_eq]; omega), ?_⟩
          have od : ∀ b o, b ≠ r → H b = some o → (upd H8 d (.dK (putK (Kvs L) (.inr n) (.ref q)))) b = some o := fun b o nb e => by
            rw [upd_ne (ne_of_none e hdH)]
            exact S8 _ _ (O37 _ _ nb (O3 _ _ nb e))
          refine ⟨⟨_, _, _, rfl⟩, ?_, od, ?_, L ++ [(n, q)], R ++ [(n, u - t, u - t + (1 + z))], f1, f2, ?_, ?_⟩
          · obtain ⟨x1, x2, x3, e⟩ := R8
            exact ⟨x1, x2, x3, by rw [upd_ne ndr.symm]; exact e⟩
          · rcases hl8 with (h | ⟨o, h⟩) | h
            · exact .inl (.inl (by rw [upd_ne (fun z => by rw [z, ed8] at h; cases h)]; exact h))
            · exact .inl (.inr ⟨o, by rw [upd_ne (fun z => by rw [z, ed8] at h; cases h)]; exact h⟩)
            · exact .inr h
          · rw [List.map_append, en, List.take_add_one, en2]
            rfl
          · intro x hx
            rcases List.mem_append.mp hx with hx | hx
            · exact hR3 x hx
            · rw [List.mem_singleton.mp hx]
              refine ⟨⟨?_, ?_⟩, ⟨?_, ?_⟩, ?_, ?_⟩
              · show 1 ≤ u - t + (1 + z) - (u - t); omega
              · show u - t + (1 + z) - (u - t) ≤ 8 * t; omega
              · show -1000 ≤ u - t; omega
              · show u - t + (1 + z) ≤ 1000; omega
              · show -t ≤ u - t; omega
              · show u - t + (1 + z) ≤ 11 * t; omega
      · rintro σ' H3 ⟨⟨v1, v2, v3, rfl⟩, R3, O3, hl3, L, R, ed, ts, en, hR3⟩
        rw [List.length_map, List.take_length] at en
        exact ⟨_, rfl, k d L R H3 R3 O3 hdH ed ts (by rw [en]) hR3⟩
end
end K38
namespace K38
open PySem L2
open PyProof.Rows PySem.Spec
theorem filter_perm {lf cs : List Str} (nl : lf.Nodup) (nc : cs.Nodup) (sub : ∀ c ∈ cs, c ∈ lf) : (cs ++ lf.filter fun n => !decide (n ∈ cs)).Perm lf := by
  refine (List.perm_ext_iff_of_nodup ?_ nl).mpr fun n => ?_
  · refine List.nodup_append.mpr ⟨nc, nl.filter _, fun a ha b hb e => ?_⟩
    have hb2 := (List.mem_filter.mp hb).2
    subst e
    simp [ha] at hb2
  · rw [List.mem_append, List.mem_filter]
    constructor
    · rintro (h | h)
      · exact sub n h
      · exact h.1
    · intro h
      by_cases c : n ∈ cs
      · exact .inl c
      · exact .inr ⟨h, by simp [c]⟩
theorem cutV_last (xs : List V) : cutV xs none (some (-1)) = xs.dropLast := by
  unfold cutV
  rw [HT.sIx_none]
  have e : HT.sIx xs.length xs.length (some (-1)) = xs.length - 1 := by
    show (if (-1 : Int) < 0 then ((-1 : Int) + (xs.length : Int)).toNat else min (-1 : Int).toNat xs.length) = _
    rw [if_pos (by decide)]
    omega
  rw [e, List.dropLast_eq_take]
  simp only [List.drop_zero, Nat.sub_zero]
section
variable {P : Program} {w : World} {K : PySem.W.Frag}
                                                      {mg : Str → Option Value} {base : Heap}
/-- ahead of a turn of _law_rings -/
def RingW (K : PySem.W.Frag) (r d : Addr) (t : Int) (ns : List Str) (H0 : Hp) (σa σb : L2.St) (m : Nat) (σ' : L2.St) (G : Hp) : Prop := (∃ la v5 v6 v7 v8 v9, σ' = σa ++ [some (.ref la), v5, v6, v7, v8, v9] ∧ ∃ (lf : List Str) (L : List (Str × Addr)) (R : Rws), G la = some (.lst (lf.map V.str)) ∧ la ≠ r ∧ la ≠ d ∧ lf.length = m ∧
  G d = some (.dK (Kvs L)) ∧ Tups G L R ∧ (R.map (·.1) ++ lf).Perm ns ∧ (∀ x ∈ R, SpOk t x ∧ Fin1 t x)) ∧ Rl G r ∧ (∀ b o, b ≠ r → H0 b = some o → G b = some o)
theorem ok_w_rings (T : T K mg) : FnOk P w K mg base CX0 3 T.f_w_rings T.d_w_rings ["tray", "interval", "names"] (sp_w_rings K) := by
  have G_w_few : FnOk P w K mg base CX0 2 T.f_w_few T.d_w_few ["tray", "items", "many"] (sp_w_few K) := ok_w_few T
  have G_w_pick : FnOk P w K mg base CX0 2 T.f_w_pick T.d_w_pick ["tray", "items"] (sp_w_pick K) := ok_w_pick T
  have G_w_roll : FnOk P w K mg base CX0 1 T.f_w_roll T.d_w_roll ["tray", "total"] (sp_w_roll K) := ok_w_roll T
  refine T.F_w_rings.ok sc_w_rings (fun vs H Q E h => ?_) (fun cdv A outer s H vs Q E hr h => ?_)
  · obtain ⟨r, l, t, ns, rfl, _⟩ := h
    rfl
  · obtain ⟨r, l, t, ns, rfl, hR, hl, t1, t2, nd, l8, hnm, k⟩ := h
    have hu := hu_of hr
    have hr_w_few : Room 2 _ := hr.mono (by decide)
    have hr_w_pick : Room 2 _ := hr.mono (by decide)
    have hr_w_roll : Room 1 _ := hr.mono (by decide)
    refine ⟨_, (pss_cons (ps_par (i := 3) (j := 4) (by rfl) sc_w_rings.nd rfl rfl (by decide) rfl rfl (pa_cons pe_dnewK (pa_cons (pe_callTy call_list_of (by rfl) T.z_list (by decide +kernel) (pa_cons (pv 2) pa_nil)) pa_nil)) (by rfl))
      (pss_cons (ps_while PassesOwn.never (pt_cmpR (op_neD (un64 hr)) (pv 4) (pe_lst pa_nil) (nomark _))
      (pss_cons (ps_set (i := 5) sc_w_rings.nd rfl (Or.inr rfl) (pe_call G_w_few hr_w_few rfl T.m_w_few T.F_w_few.kp T.b_w_few .nil pass0 (pa_cons (pv 0) (pa_cons (pv 4) (pa_cons (pe_op op_add pe_int (pe_call G_w_roll hr_w_roll rfl T.m_w_roll T.F_w_roll.kp T.b_w_roll .nil pass0 (pa_cons (pv 0) (pa_cons pe_int pa_nil)))) pa_nil)))))
      (pss_cons (ps_setLc (i := 4) (own := [("name", 8)]) (g := gName 8) rfl sc_w_rings.nd rfl rfl (sw_true rfl rfl rfl (by decide +kernel)) (pi_list (pv 4)) (blkOk_by (N := ["tray", "interval", "names", "rows", "left", "some", "first", "begin", "name", "last"]) (sc := defScope s_w_rings) (by decide +kernel)) (fun _ _ _ _ _ => (pg_name (i := 8) sc_w_rings.nd rfl (Or.inl rfl))) (fun _ _ _ _ _ => pts_one (pt_cmpR (r := rIn K true) op_notIn_seq (pv 8) (pv 5) rfl)) (fun _ _ _ _ _ => (pv 8)))
      (pss_cons (ps_set (i := 6) sc_w_rings.nd rfl (Or.inl rfl) (pe_call G_w_roll hr_w_roll rfl T.m_w_roll T.F_w_roll.kp T.b_w_roll .nil pass0 (pa_cons (pv 0) (pa_cons (pe_op op_mul pe_int (pv 1)) pa_nil))))
      (pss_cons (ps_set (i := 7) sc_w_rings.nd rfl (Or.inl rfl) (pv 6))
      (pss_cons (ps_for PassesOwn.never rfl (pi_list (pe_slice sl_list (pv 5) po_none (po_some (pe_un un_neg pe_int)))) (pg_name (i := 8) sc_w_rings.nd rfl (Or.inl rfl))
      (pss_cons (ps_dput (by exact hu) (pv 3) (pv 8) (pe_tup (pa_cons (pv 7) (pa_cons (pe_op op_add (pe_op op_add (pv 7) pe_int) (pe_call G_w_roll hr_w_roll rfl T.m_w_roll T.F_w_roll.kp T.b_w_roll .nil pass0 (pa_cons (pv 0) (pa_cons (pv 1) pa_nil)))) pa_nil))) rfl)
      (pss_one (ps_set (i := 7) sc_w_rings.nd rfl (Or.inl rfl) (pe_ix ix_seq (pe_dget (by exact hu) (pv 3) (pv 8) (fun _ _ => rfl)) pe_int (fun _ _ => rfl))))))
      (pss_cons (ps_set (i := 9) sc_w_rings.nd rfl (Or.inl rfl) (pe_op op_add (pe_op op_add pe_int (pe_op op_mod (pe_callTy call_int1 (by rfl) T.z_int (by decide +kernel) (pa_cons (pe_op op_sub (pe_op op_sub (pv 6) (pv 7)) pe_int) pa_nil)) (pv 1))) (pe_op op_mul (pv 1) (pe_call G_w_pick hr_w_pick rfl T.m_w_pick T.F_w_pick.kp T.b_w_pick .nil pass0 (pa_cons (pv 0) (pa_cons (pe_lst (pa_cons pe_int (pa_cons pe_int (pa_cons pe_int (pa_cons pe_int pa_nil))))) pa_nil))))))
      (pss_one (ps_dput (by exact hu) (pv 3) (pe_ix ix_seq (pv 5) (pe_un un_neg pe_int) (fun _ _ => rfl)) (pe_tup (pa_cons (pv 7) (pa_cons (pe_op op_add (pv 7) (pv 9)) pa_nil))) rfl))))))))) 
      (pss_one (ps_ret (pv 3))))), ?_⟩
    intro d hd
    have ndr : d ≠ r := hR.ne hd
    have hl1 : SqL K (upd H d (.dK [])) l (ns.map V.str) := Same.seq (Same.new hd) hl
    refine ⟨_, rfl, l, _, rfl, .inl hl1, fun la hla => ?_⟩
    have nda : la ≠ d := fun z => by rw [z, upd_same] at hla; cases hla
    have hla0 : H la = none := by rw [upd_ne nda] at hla; exact hla
    have nla : la ≠ r := hR.ne hla0
    refine ⟨_, _, rfl, ?_⟩
    refine ⟨RingW K r d t ns H [some (.ref r), some (.int t), some (.ref l), some (.ref d)] [], ⟨ns.length, ⟨la, none, none, none, none, none, rfl, ns, [], [], upd_same, nla, nda, rfl, by rw [upd_ne nda.symm, upd_same]; rfl, .nil, by simp, fun _ h => by cases h⟩, ?_, ?_⟩, ?_⟩
    · obtain ⟨x1, x2, x3, e⟩ := hR
      exact ⟨x1, x2, x3, by rw [upd_ne nla.symm, upd_ne ndr.symm]; exact e⟩
    · intro b o _ e
      rw [upd_ne (ne_of_none e hla0), upd_ne (ne_of_none e hd)]
      exact e
    clear hl1 hla hla0 nla nda la
    rintro m σ' G ⟨⟨la, v5, v6, v7, v8, v9, rfl, lf, L, R, ea, nar, nad, lm, ed, ts, pm, hx⟩, RG, OG⟩
    have ndL : (R.map (·.1) ++ lf).Nodup := pm.nodup_iff.mpr nd
    have nlf : lf.Nodup := (List.nodup_append.mp ndL).2.1
    have ll8 : R.length + lf.length ≤ 8 := by
      have := pm.length_eq
      rw [List.length_append, List.length_map] at this
      omega
    have nmL : ∀ n ∈ lf, nmC n = true := fun n hn => hnm n (pm.mem_iff.mp (List.mem_append_right _ hn))
    refine ⟨_, rfl, by show 0 ≤ sizeLine; decide, fun e he => ?_⟩
    have S3 : Same G (upd G e (.lst [])) := Same.new he
    have e_e : (upd G e (.lst [])) e = some (.lst []) := upd_same
    have ea3 := S3 _ _ ea
    have ed3 := S3 _ _ ed
    have ts3 := ts.keep (KT.same S3)
    have R3 := Same.rl S3 RG
    refine ⟨.list (lf.map PyData.str), .list [], .lst (SqL.of ea3) (dpa_strs lf), .lst (SqL.of upd_same) .nil, shaped_names nmL, by decide +kernel, _, rfl, ?_⟩
    generalize upd G e (.lst []) = G3 at S3 e_e ea3 ed3 ts3 R3 ⊢
    cases lf with
    | nil =>
      rw [show PyData.eqv (.list (([] : List Str).map PyData.str)) (.list []) = true from by decide +kernel]
      refine iteF ⟨_, rfl, k d L R G3 R3 (fun b o nb e => S3 _ _ (OG b o nb e)) hd ed3 ts3 (by simpa using pm) hx⟩
    | cons n0 lf0 =>
      rw [show PyData.eqv (.list ((n0 :: lf0).map PyData.str)) (.list []) = false from by simp [PyData.eqv, PyData.eqvAll]]
      refine iteT ⟨_, fun σ' H' h => h, ?_⟩
      have hne : 1 ≤ (n0 :: lf0).length := by rw [List.length_cons]; omega
      have OG3 : ∀ b o, b ≠ r → H b = some o → G3 b = some o := fun b o nb e => S3 _ _ (OG b o nb e)
      generalize n0 :: lf0 = lf at ea ea3 lm pm ndL nlf ll8 nmL hne ⊢
      clear ea ed ts S3 RG OG e_e he
      -- some
      refine ⟨_, rfl, _, rfl, _, rfl, r, 3, rfl, R3, by decide, by decide +kernel, fun u H4 u0 u1 R4 O4 => ⟨_, _, rfl, rfl, ?_⟩⟩
      refine ⟨r, la, lf.map V.str, 1 + u, rfl, R4, .inl (SqL.of (O4 _ _ nar ea3)), by rw [List.length_map]; omega, by omega, by omega, fun ls ys rest H5 R5 O5 hls els pmf lys => ?_⟩
      obtain ⟨cs, rfl, mcs, ndcs⟩ := few_of (f := V.str) (xs := lf) (fun a _ b _ h => V.str.inj h) nlf pmf
      have lcs : 1 ≤ cs.length := by
        rw [List.length_map, List.length_map] at lys
        split at lys <;> omega
      have O35 : Only r G3 H5 := Only.trans O4 O5
      have nls : ls ≠ r := R4.ne hls
      have ed5 := O35 _ _ ndr ed3
      have ea5 := O35 _ _ nar ea3
      have ts5 := ts3.keep (KT.only O35 R3)
      have OG5 : ∀ b o, b ≠ r → H b = some o → H5 b = some o := fun b o nb e => O35 _ _ nb (OG3 b o nb e)
      have nlsd : ls ≠ d := fun z => by rw [z, ed5] at els; cases els
      clear ea3 ed3 ts3 OG3 R3 O35 lys pmf
      -- left
      refine ⟨_, rfl, la, rfl, ⟨_, SqL.of ea5⟩, fun D hD => ?_⟩
      have nDr : D ≠ r := R5.ne hD
      have nDd : D ≠ d := fun z => by rw [z, ed5] at hD; cases hD
      have nDl : ls ≠ D := ne_of_none els hD
      refine lc_list (xs := lf.map V.str) (fun i H' => H' D = some (.lst (((lf.take i).filter fun n => !decide (n ∈ cs)).map V.str)) ∧ Same H5 H') ⟨upd_same, Same.new hD⟩ (fun i H' _ h => SqL.of (h.2 _ _ ea5)) ?_ ?_
      · rintro i x H6 hx6 ⟨eD, S6⟩
        rw [List.getElem?_map] at hx6
        cases en2 : lf[i]? with
        | none => rw [en2] at hx6; cases hx6
        | some n =>
          rw [en2] at hx6
          cases hx6
          refine ⟨rfl, ?_⟩
          refine ⟨_, rfl, _, rfl, ls, _, rfl, .inl (SqL.of (S6 _ _ els)), rfl, flat_strs _, _, rfl, ?_⟩
          rw [inV_strs]
          have tk : (lf.take (i + 1)).filter (fun n => !decide (n ∈ cs)) = (lf.take i).filter (fun n => !decide (n ∈ cs)) ++ (if n ∈ cs then [] else [n]) := by
            rw [List.take_add_one, en2, List.filter_append]
            congr 1
            by_cases c : n ∈ cs
            · simp [c]
            · simp [c]
          have li : i < lf.length := (List.getElem?_eq_some_iff.mp en2).1
          by_cases c : n ∈ cs
          · simp only [if_true, c, decide_true, Bool.not_true, Bool.false_eq_true, if_false]
            refine ⟨?_, S6⟩
            rw [tk, if_pos c, List.append_nil]
            exact eD
          · simp only [if_true, c, decide_false, Bool.not_false]
            refine ⟨_, rfl, _, eD, ?_, ?_, Same.at hD S6⟩
            · rw [List.length_map, sizeLine_eq]
              have := List.length_filter_le (fun n => !decide (n ∈ cs)) (lf.take i)
              rw [List.length_take] at this
              omega
            · rw [upd_same, tk, if_neg c, List.map_append]
              rfl
      rintro H6 ⟨eD, S6⟩
      rw [List.length_map, List.take_length] at eD
      have R6 := Same.rl S6 R5
      have ed6 := S6 _ _ ed5
      have ts6 := ts5.keep (KT.same S6)
      have els6 := S6 _ _ els
      have OG6 : ∀ b o, b ≠ r → H b = some o → H6 b = some o := fun b o nb e => S6 _ _ (OG5 b o nb e)
      clear ed5 ts5 ea5 els OG5 S6 R5 hD hls R4 O4 O5
      -- first, begin
      refine ⟨_, rfl, _, rfl, _, _, rfl, rfl, .inl ⟨by decide, by decide⟩, r, 2 * t, rfl, R6, by omega, Nat.lt_trans (lg (b := 10) (by omega) (by omega) (by decide)) (by decide), fun f H7 f0 f1 R7 O7 => ?_⟩
      have ed7 := O7 _ _ ndr ed6
      have ts7 := ts6.keep (KT.only O7 R6)
      have els7 := O7 _ _ nls els6
      have eD7 := O7 _ _ nDr eD
      have OG7 : ∀ b o, b ≠ r → H b = some o → H7 b = some o := fun b o nb e => O7 _ _ nb (OG6 b o nb e)
      clear ed6 ts6 els6 eD OG6 R6 O7
      obtain ⟨c0, z, rfl⟩ : ∃ c0 z, cs = c0 ++ [z] := by
        rcases List.eq_nil_or_concat cs with e | ⟨c0, z, e⟩
        · rw [e] at lcs
          exact absurd lcs (by decide)
        · exact ⟨c0, z, by rw [e, List.concat_eq_append]⟩
      refine ⟨_, rfl, _, rfl, _, rfl, _, rfl, ls, _, rfl, SqL.of els7, fun p hp => ?_⟩
      have ecut : cutV ((c0 ++ [z]).map V.str) none (some (-1)) = c0.map V.str := by
        rw [cutV_last, List.map_append]
        exact List.dropLast_concat
      rw [ecut]
      have S8 := Same.new (o := .lst (c0.map V.str)) hp
      have ep8 : (upd H7 p (.lst (c0.map V.str))) p = some (.lst (c0.map V.str)) := upd_same
      have R8 := Same.rl S8 R7
      have npr : p ≠ r := R7.ne hp
      have npd : p ≠ d := fun z => by rw [z, ed7] at hp; cases hp
      generalize upd H7 p (.lst (c0.map V.str)) = H8 at S8 ep8 R8 ⊢
      have ed8 := S8 _ _ ed7
      have ts8 := ts7.keep (KT.same S8)
      have els8 := S8 _ _ els7
      have eD8 := S8 _ _ eD7
      have OG8 : ∀ b o, b ≠ r → H b = some o → H8 b = some o := fun b o nb e => S8 _ _ (OG7 b o nb e)
      clear ed7 ts7 els7 eD7 OG7 R7 S8 hp ecut
      have ndc0 : c0.Nodup := (List.nodup_append.mp ndcs).1
      have fresh : ∀ i n, (c0 ++ [z])[i]? = some n → n ∉ R.map (·.1) ++ (c0 ++ [z]).take i := fun i n e hm => by
        have hn : n ∈ c0 ++ [z] := List.mem_of_getElem? e
        rcases List.mem_append.mp hm with hm | hm
        · exact (List.nodup_append.mp ndL).2.2 n hm n (mcs n hn) rfl
        · have nd2 := ndcs
          rw [← List.take_append_drop i (c0 ++ [z])] at nd2
          have hd2 : n ∈ (c0 ++ [z]).drop i := by
            rw [List.mem_iff_getElem?]
            exact ⟨0, by rw [List.getElem?_drop]; exact e⟩
          exact (List.nodup_append.mp nd2).2.2 n hm n hd2 rfl
      have lcs8 : R.length + c0.length + 1 ≤ 8 := by
        have h1 : (c0 ++ [z]).length ≤ lf.length := by
          have := (filter_perm nlf ndcs mcs).length_eq
          rw [List.length_append] at this
          omega
        rw [List.length_append] at h1
        have h2 : ([z] : List Str).length = 1 := rfl
        omega
      refine ⟨p, rfl, ⟨_, SqL.of ep8⟩, for_list (xs := c0.map V.str) (fun i σ H' => (∃ b v8, σ = [some (.ref r), some (.int t), some (.ref l), some (.ref d), some (.ref D), some (.ref ls), some (.int f), some (.int b), v8, v9] ∧ f ≤ b ∧ b ≤ f + t * i) ∧ Rl H' r ∧ (∀ b o, b ≠ r → b ≠ d → H8 b = some o → H' b = some o) ∧
        ∃ L' R', H' d = some (.dK (Kvs L')) ∧ Tups H' L' R' ∧ R'.map (·.1) = R.map (·.1) ++ (c0 ++ [z]).take i ∧ ∀ x ∈ R', SpOk t x ∧ Fin1 t x) ⟨⟨f, _, rfl, Int.le_refl _, by simp⟩, R8, (fun b o _ _ e => e), L, R, ed8, ts8, by simp, hx⟩ (fun i σ H' _ h => SqL.of (h.2.2.1 _ _ npr npd ep8)) ?_ ?_⟩
      · rintro i x σ' H9 hx9 ⟨⟨b, v8, rfl, b0, b1⟩, R9, O9, L', R', ed9, ts9, en9, hR9⟩
        rw [List.getElem?_map] at hx9
        cases en2 : c0[i]? with
        | none => rw [en2] at hx9; cases hx9
        | some n =>
          rw [en2] at hx9
          cases hx9
          have li : i < c0.length := (List.getElem?_eq_some_iff.mp en2).1
          have en3 : (c0 ++ [z])[i]? = some n := by rw [List.getElem?_append_left li]; exact en2
          have bi : t * i ≤ 32 * 8 := Int.le_trans (Int.mul_le_mul_of_nonneg_right t2 (by omega)) (by omega)
          refine ⟨_, rfl, _, rfl, _, _, rfl, rfl, _, rfl, _, rfl, r, t, rfl, R9, by omega, Nat.lt_trans (lg (b := 10) (by omega) (by omega) (by decide)) (by decide), fun g H10 g0 g1 R10 O10 => ?_⟩
          refine ⟨_, _, rfl, rfl, by show 2 ≤ sizeLine; decide, fun q hq => ?_⟩
          have S11 := Same.new (o := .tup [V.int b, .int (b + 1 + g)]) hq
          have eq11 : (upd H10 q (.tup [V.int b, .int (b + 1 + g)])) q = some (.tup [V.int b, .int (b + 1 + g)]) := upd_same
          have R11 := Same.rl S11 R10
          generalize upd H10 q (.tup [V.int b, .int (b + 1 + g)]) = H11 at S11 eq11 R11 ⊢
          have ed11 := S11 _ _ (O10 _ _ ndr ed9)
          have ts11 := (ts9.keep (KT.only O10 R9)).keep (KT.same S11)
          have hn : n ∉ R'.map (·.1) := by rw [en9]; exact fresh i n en3
          obtain ⟨g1', g2'⟩ := tups_put ed11 ts11 hn (show TupAt H11 q b (b + 1 + g) from eq11)
          have lL : L'.length ≤ 8 := by
            rw [ts9.len, ← List.length_map (f := (·.1)) (as := R'), en9, List.length_append, List.length_map, List.length_take]
            omega
          refine ⟨_, rfl, _, rfl, d, _, rfl, DPut.k (k := Sum.inr n) ed11 (by rw [kvs_len, sizeLine_eq]; omega), ?_⟩
          have keep : ∀ b' o, b' ≠ r → b' ≠ d → H8 b' = some o → (upd H11 d (.dK (putK (Kvs L') (.inr n) (.ref q)))) b' = some o := fun b' o nb nbd e => by
            rw [upd_ne nbd]
            exact S11 _ _ (O10 _ _ nb (O9 _ _ nb nbd e))
          have nqd : q ≠ d := fun z => by rw [z, ed11] at eq11; cases eq11
          have eq12 : (upd H11 d (.dK (putK (Kvs L') (.inr n) (.ref q)))) q = some (.tup [V.int b, .int (b + 1 + g)]) := by rw [upd_ne nqd]; exact eq11
          have R12 : Rl (upd H11 d (.dK (putK (Kvs L') (.inr n) (.ref q)))) r := by
            obtain ⟨x1, x2, x3, e⟩ := R11
            exact ⟨x1, x2, x3, by rw [upd_ne ndr.symm]; exact e⟩
          generalize upd H11 d (.dK (putK (Kvs L') (.inr n) (.ref q))) = H12 at g1' g2' keep eq12 R12 ⊢
          have hv : valV (Kvs (L' ++ [(n, q)])) (.inr n) = some (.ref q) := by
            rw [kvs_snoc, valV_snoc _ _ _ _ (valV_none (by rw [ts9.names]; exact hn)), if_pos rfl]
          refine ⟨_, rfl, _, rfl, d, V.ref q, rfl, ?_, .inr (.inl ⟨q, _, _, _, rfl, rfl, SqT.of eq12, rfl, ?_⟩)⟩
          · have := DGet.k (k := Sum.inr n) g1'
            rw [hv] at this
            exact this
          refine ⟨⟨b + 1 + g, _, rfl, by omega, ?_⟩, R12, keep, L' ++ [(n, q)], R' ++ [(n, b, b + 1 + g)], g1', g2', ?_, ?_⟩
          · have : t * ((i + 1 : Nat) : Int) = t * i + t := by rw [Int.natCast_add, Int.mul_add]; simp
            omega
          · rw [List.map_append, en9, List.take_add_one, en3, List.append_assoc]
            rfl
          · intro x hx'
            rcases List.mem_append.mp hx' with hx' | hx'
            · exact hR9 x hx'
            · rw [List.mem_singleton.mp hx']
              refine ⟨⟨?_, ?_⟩, ⟨?_, ?_⟩, ?_, ?_⟩
              · show 1 ≤ b + 1 + g - b; omega
              · show b + 1 + g - b ≤ 8 * t; omega
              · show -1000 ≤ b; omega
              · show b + 1 + g ≤ 1000; omega
              · show -t ≤ b; omega
              · show b + 1 + g ≤ 11 * t; have h9 : t * (i : Int) ≤ t * 7 := Int.mul_le_mul_of_nonneg_left (by omega) (by omega); omega
      · rintro σ' H9 ⟨⟨b, v8, rfl, b0, b1⟩, R9, O9, L', R', ed9, ts9, en9, hR9⟩
        rw [List.length_map] at b1 en9
        have bi : t * c0.length ≤ 32 * 8 := Int.le_trans (Int.mul_le_mul_of_nonneg_right t2 (by omega)) (by omega)
        refine ⟨_, rfl, _, rfl, _, _, rfl, rfl, _, _, rfl, rfl, .inl ⟨_, rfl, _, rfl, _, _, rfl, rfl, by omega, _, _, rfl, rfl, ?_⟩⟩
        have mo0 : 0 ≤ (f - b - 1) % t := Int.emod_nonneg _ (by omega)
        have mo1 : (f - b - 1) % t < t := Int.emod_lt_of_pos _ (by omega)
        refine ⟨_, rfl, _, rfl, by show 4 ≤ sizeLine; decide, fun l4 hl4 => ?_⟩
        have R10 := R9.new (o := .lst [V.int 0, .int 0, .int 0, .int 1]) hl4
        refine ⟨r, _, [V.int 0, .int 0, .int 0, .int 1], rfl, R10, .inl ⟨l4, rfl, R9.ne hl4, .inl (SqL.of upd_same)⟩, Nat.succ_pos _, by show 4 ≤ sizeLine; decide, fun pv' H11 hpv R11 O11 => ?_⟩
        obtain ⟨c, rfl, c01⟩ : ∃ n : Int, pv' = .int n ∧ (n = 0 ∨ n = 1) := by
          simp only [List.mem_cons, List.not_mem_nil, or_false] at hpv
          rcases hpv with rfl | rfl | rfl | rfl
          · exact ⟨0, rfl, .inl rfl⟩
          · exact ⟨0, rfl, .inl rfl⟩
          · exact ⟨0, rfl, .inl rfl⟩
          · exact ⟨1, rfl, .inr rfl⟩
        refine ⟨_, _, rfl, rfl, .inl ⟨by omega, by omega⟩, _, _, rfl, rfl, ?_⟩
        have tc : 0 ≤ t * c ∧ t * c ≤ t := by rcases c01 with rfl | rfl <;> omega
        have O9b : Only r H9 H11 := Only.trans (Only.new hl4) O11
        generalize (f - b - 1) % t = mo at mo0 mo1 ⊢
        generalize t * c = tc' at tc ⊢
        refine ⟨_, rfl, _, rfl, _, rfl, _, _, rfl, rfl, by show 2 ≤ sizeLine; decide, fun q hq => ?_⟩
        have S12 := Same.new (o := .tup [V.int b, .int (b + (1 + mo + tc'))]) hq
        have eq12 : (upd H11 q (.tup [V.int b, .int (b + (1 + mo + tc'))])) q = some (.tup [V.int b, .int (b + (1 + mo + tc'))]) := upd_same
        have R12 := Same.rl S12 R11
        generalize upd H11 q (.tup [V.int b, .int (b + (1 + mo + tc'))]) = H12 at S12 eq12 R12 ⊢
        have ed12 := S12 _ _ (O9b _ _ ndr ed9)
        have ts12 := (ts9.keep (KT.only O9b R9)).keep (KT.same S12)
        have els12 := S12 _ _ (O9b _ _ nls (O9 _ _ nls nlsd els8))
        have eD12 := S12 _ _ (O9b _ _ nDr (O9 _ _ nDr nDd eD8))
        have en3 : (c0 ++ [z])[c0.length]? = some z := by rw [List.getElem?_append_right (Nat.le_refl _)]; simp
        have en10 : R'.map (·.1) = R.map (·.1) ++ c0 := by rw [en9, List.take_append_of_le_length (Nat.le_refl _), List.take_length]
        have hn : z ∉ R'.map (·.1) := by rw [en9]; exact fresh _ _ en3
        obtain ⟨g1', g2'⟩ := tups_put ed12 ts12 hn (show TupAt H12 q b (b + (1 + mo + tc')) from eq12)
        have hat : atI ((c0 ++ [z]).map V.str) (-1) = some (.str z) := by
          rw [List.map_append]
          exact atI_last (c0.map V.str) (V.str z)
        refine ⟨_, rfl, _, rfl, _, rfl, .inl ⟨ls, _, _, _, rfl, rfl, SqL.of els12, hat, ?_⟩⟩
        have lL : L'.length ≤ 8 := by
          rw [ts9.len, ← List.length_map (f := (·.1)) (as := R'), en10, List.length_append, List.length_map]
          omega
        refine ⟨d, _, rfl, DPut.k (k := Sum.inr z) ed12 (by rw [kvs_len, sizeLine_eq]; omega), ?_⟩
        have nDd' : D ≠ d := nDd
        refine ⟨(lf.filter fun n => !decide (n ∈ c0 ++ [z])).length, ?_, ⟨D, _, _, _, _, _, rfl, lf.filter fun n => !decide (n ∈ c0 ++ [z]), L' ++ [(z, q)], R' ++ [(z, b, b + (1 + mo + tc'))], by rw [upd_ne nDd]; exact eD12, nDr, nDd, rfl, g1', g2', ?_, ?_⟩, ?_, ?_⟩
        · have h1 := (filter_perm nlf ndcs mcs).length_eq
          rw [List.length_append, List.length_append] at h1
          have h2 : ([z] : List Str).length = 1 := rfl
          omega
        · rw [List.map_append, en10]
          show ((R.map (·.1) ++ c0) ++ [z] ++ _).Perm ns
          rw [List.append_assoc (R.map (·.1)) c0 [z], List.append_assoc]
          exact ((filter_perm nlf ndcs mcs).append_left _).trans pm
        · intro x hx'
          rcases List.mem_append.mp hx' with hx' | hx'
          · exact hR9 x hx'
          · rw [List.mem_singleton.mp hx']
            refine ⟨⟨?_, ?_⟩, ⟨?_, ?_⟩, ?_, ?_⟩
            · show 1 ≤ b + (1 + mo + tc') - b; omega
            · show b + (1 + mo + tc') - b ≤ 8 * t; omega
            · show -1000 ≤ b; omega
            · show b + (1 + mo + tc') ≤ 1000; omega
            · show -t ≤ b; omega
            · show b + (1 + mo + tc') ≤ 11 * t; have h9 : t * (c0.length : Int) ≤ t * 7 := Int.mul_le_mul_of_nonneg_left (by omega) (by omega); omega
        · obtain ⟨x1, x2, x3, e⟩ := R12
          exact ⟨x1, x2, x3, by rw [upd_ne ndr.symm]; exact e⟩
        · intro b' o nb e
          rw [upd_ne (ne_of_none e hd)]
          exact S12 _ _ (O9b _ _ nb (O9 _ _ nb (ne_of_none e hd) (OG8 b' o nb e)))
end
end K38
namespace K38
open PySem L2
open PyProof.Rows PySem.Spec
/-- a dict comprehension over a walk -/
theorem dc_it {J : It} {n : Nat} {G : Hp → Prop} {Y : Nat → Hp → V → Hp → Prop} (w : Walk J n G Y) {g : TG} {tt : TT} {tk tv : TE} {vs : List Nat} {σ : L2.St} {H1 : Hp} {D : Addr} {Qd : Hp → Prop} (Pv : Nat → Hp → Prop) (h0 : Pv 0 (upd H1 D (.dK []))) (hG : ∀ i H, i ≤ n → Pv i H → G H)
    (hs : ∀ i x H H', i < n → Pv i H → Y i H x H' → g x
                                                        (wipe σ vs) H' fun σ2 H2 => wipe σ2 vs = wipe σ vs ∧ tt σ2 H2 fun b H3 =>
      if b = true then tk σ2 H3 fun y H4 => tv σ2 H4 fun z H5 => ∃ kvs k, y = kV k ∧ H5 D = some (.dK kvs) ∧ kvs.length < sizeLine ∧ Pv (i + 1) (upd H5 D (.dK (putK kvs k z))) else Pv (i + 1) H3) (hd : ∀ H, Pv n H → Qd H) :
    ∃ W : Nat → Nat → Hp → Prop, (∃ m, W 0 m
                                             (upd H1 D (.dK []))) ∧ ∀ i m H, W i m H →
      (J.stop i H ∧ Qd H) ∨ (J.go i H ∧ ∃ Nx : Hp → Prop, (∀ H', Nx H' → ∃ m', m' < m ∧ W
                                                                                          (i + 1) m' H') ∧ ∀ x H', J.yld i H x H' → g x (wipe σ vs) H' fun σ2 H2 => wipe σ2 vs = wipe σ vs ∧ tt σ2 H2 fun b H3 =>
        if b = true then tk σ2 H3 fun y H4 => tv σ2 H4 fun z H5 => ∃ kvs k, y = kV k ∧ H5 D = some
                                                                                                   (.dK kvs) ∧ kvs.length < sizeLine ∧ Nx (upd H5 D (.dK (putK kvs k z))) else Nx H3) := by
  refine ⟨fun i m H => m = n - i ∧ i ≤ n ∧ Pv i H,
                                                   ⟨n, by simp, Nat.zero_le _, h0⟩, ?_⟩
  rintro i m H ⟨rfl, hi, p⟩
  have q := hG i H hi p
  by_cases hlt : i < n
  · refine .inr ⟨w.goes i H hlt q, Pv (i + 1), fun H' p' => ⟨n -
                                                                 (i + 1), by omega, rfl, hlt, p'⟩, fun x H' y => hs i x H H' hlt p (w.yields i H x H' hlt q y)⟩
  · have e : i = n := by omega
    subst e
    exact .inl ⟨w.stops H q, hd H p⟩
theorem upd_idem {H : Hp} {d : Addr} {u : HO} (h : H d = some u) : upd H d u = H := by
  funext b
  by_cases e : b = d
  · rw [e, upd_same, h]
  · rw [upd_ne e]
theorem same_lock {H G : Hp} {d : Addr} {u o : HO} (hd : H d = some u) (s : Same (upd H d o) G) : Same H (upd G d u) := fun b v e => by
  by_cases c : b = d
  · rw [c, upd_same]
    rw [c, hd] at e
    exact e
  · rw [upd_ne c]
    exact s b v (by rw [upd_ne c]; exact e)
theorem kt_lock {H : Hp} {d : Addr} {u o : HO} (hd : H d = some u) (n : ∀ xs, u ≠ .tup xs) : KT H (upd H d o) := KT.put hd n
section
variable {P : Program} {w : World} {K : PySem.W.Frag}
                                                      {mg : Str → Option Value} {base : Heap}
def sp_is_span (K : PySem.W.Frag) : Sp := fun vs H Q _ => ∃ (t : Int) (a : Addr) (b e : Int), vs = [.int t, .ref a] ∧ TupAt H a b e ∧ (-1000000000000 < b ∧ b < 1000000000000) ∧ (-1000000000000 < e ∧ e < 1000000000000) ∧ (1 ≤ t ∧ t ≤ 32) ∧ 1 ≤ e - b ∧ e - b ≤ 8 * t ∧ Q (.bl true) H
theorem isInD_int {n : Int} (h : -1000000000000 < n ∧ n < 1000000000000) : isInD (.int n) = true := by
  show (decide (-1000000000000 < n) && decide (n < 1000000000000)) = true
  rw [decide_eq_true h.1, decide_eq_true h.2]
  rfl
theorem ok_is_span (T : T K mg) : FnOk P w K mg base CX0 2 T.f_is_span T.d_is_span ["interval", "value"] (sp_is_span K) := by
  have G_is_integer : FnOk P w K mg base CX0 1 T.f_is_integer T.d_is_integer ["value"] (sp_is_integer K) := ok_is_integer T
  refine T.F_is_span.ok sc_is_span (fun vs H Q E h => ?_) (fun cdv A outer s H vs Q E hr h => ?_)
  · obtain ⟨t, a, b, e, rfl, _⟩ := h
    rfl
  · obtain ⟨t, a, b, e, rfl, ha, hb, he, ht, h1, h2, k⟩ := h
    have hu := hu_of hr
    have hr_is_integer : Room 1 _ := hr.mono (by decide)
    obtain ⟨_, c_MAX_LIFE⟩ := T.c_MAX_LIFE
    refine ⟨_, (pss_cons (ps_if (PW.pt (pw_or (pt_not (pt_val (pe_callB call_isi (by rfl) T.z_isinstance (by decide +kernel) (pa_cons (pv 1) (pa_cons (pe_bltn (v := V.ty "tuple") (u := Value.type "tuple") (by rfl) T.z_tuple (by decide +kernel) rfl) pa_nil))))) (pw_or1 (pt_cmpR op_ne (pe_callB call_len (by rfl) T.z_len (by decide +kernel) (pa_cons (pv 1) pa_nil)) pe_int (nomark _)))))
      (pss_one (ps_ret pe_bl))
      pss_nil)
      (pss_cons (ps_if (PW.pt (pw_or (pt_not (pt_val (pe_call G_is_integer hr_is_integer rfl T.m_is_integer T.F_is_integer.kp T.b_is_integer .nil pass0 (pa_cons (pe_ix ix_seq (pv 1) pe_int (fun _ _ => rfl)) pa_nil)))) (pw_or1 (pt_not (pt_val (pe_call G_is_integer hr_is_integer rfl T.m_is_integer T.F_is_integer.kp T.b_is_integer .nil pass0 (pa_cons (pe_ix ix_seq (pv 1) pe_int (fun _ _ => rfl)) pa_nil)))))))
      (pss_one (ps_ret pe_bl))
      pss_nil)
      (pss_one (ps_ret (pe_chain op_le op_le pe_int (pe_op op_sub (pe_ix ix_seq (pv 1) pe_int (fun _ _ => rfl)) (pe_ix ix_seq (pv 1) pe_int (fun _ _ => rfl))) (pe_op op_mul (pe_glob (v := V.int 8) rfl c_MAX_LIFE ⟨_, rfl⟩) (pv 0))))))), ?_⟩
    have sq : SqT K H a [V.int b, .int e] := SqT.of ha
    refine ⟨_, rfl, _, _, _, _, true, rfl, .ty _, .base (.tup ha), kit_ty (by decide +kernel), _, rfl, iteF ?_⟩
    refine ⟨_, rfl, _, _, rfl, .inr ⟨_, sq, rfl⟩, rfl, _, rfl, ?_⟩
    rw [show (!decide (V.int ((([V.int b, V.int e] : List V).length : Nat) : Int) = V.int 2)) = false from rfl]
    refine iteF ?_
    refine ⟨_, rfl, .inr (.inl ⟨_, _, _, _, rfl, rfl, sq, rfl, ?_⟩)⟩
    refine ⟨_, .int b, rfl, .inl (.int _), _, rfl, ?_⟩
    rw [isInD_int hb]
    refine iteF ?_
    refine ⟨_, rfl, .inr (.inl ⟨_, _, _, _, rfl, rfl, sq, rfl, ?_⟩)⟩
    refine ⟨_, .int e, rfl, .inl (.int _), _, rfl, ?_⟩
    rw [isInD_int he]
    refine iteF ?_
    refine ⟨_, rfl, .inr (.inl ⟨_, _, _, _, rfl, rfl, sq, rfl, ?_⟩)⟩
    refine ⟨_, rfl, .inr (.inl ⟨_, _, _, _, rfl, rfl, sq, rfl, ?_⟩)⟩
    refine ⟨_, _, rfl, rfl, _, _, rfl, rfl, _, rfl, ?_⟩
    rw [decide_eq_true h1]
    refine iteT ?_
    refine ⟨_, rfl, _, _, rfl, rfl, .inl ⟨by decide, by decide⟩, _, _, rfl, rfl, ?_⟩
    exact bl_to (decide_eq_true h2) k
/-- the rows of spans -/
structure Good (t : Int) (R : Rws) : Prop where
  nd : (R.map (·.1)).Nodup
  l1 : 1 ≤ R.length
  l8 : R.length ≤ 8
  nm : ∀ x ∈ R, nmC x.1 = true
  sp : ∀ x ∈ R, SpOk t x
  nr : ∀ x ∈ R, Near 900000000000 x
  t1 : 1 ≤ t
  t2 : t ≤ 32
def sp_are_rows (K : PySem.W.Frag) : Sp := fun vs H Q _ => ∃ (t : Int) (d : Addr) (L : List (Str × Addr)) (R : Rws), vs = [.int t, .ref d] ∧ H d = some (.dK (Kvs L)) ∧ Tups H L R ∧ Good t R ∧ ∀ H', Same H H' → Q (.bl true) H'
theorem okD_nm {z : Str} (h : nmC z = true) : okD (.str z) := by
  unfold okD
  rw [PyData.weight]
  have e : z.cps.size = z.length := rfl
  have := (nmC_len h).2
  omega
theorem ok_are_rows (T : T K mg) : FnOk P w K mg base CX0 3 T.f_are_rows T.d_are_rows ["interval", "value"] (sp_are_rows K) := by
  have G_is_span : FnOk P w K mg base CX0 2 T.f_is_span T.d_is_span ["interval", "value"] (sp_is_span K) := ok_is_span T
  have G_is_name : FnOk P w K mg base CX0 1 T.f_is_name T.d_is_name ["value"] (sp_is_name K) := ok_is_name T
  refine T.F_are_rows.ok sc_are_rows (fun vs H Q E h => ?_) (fun cdv A outer s H vs Q E hr h => ?_)
  · obtain ⟨t, d, L, R, rfl, _⟩ := h
    rfl
  · obtain ⟨t, d, L, R, rfl, hd, ts, gd, k⟩ := h
    have hu := hu_of hr
    have hr_is_span : Room 2 _ := hr.mono (by decide)
    have hr_is_name : Room 1 _ := hr.mono (by decide)
    obtain ⟨_, c_MAX_VALUES⟩ := T.c_MAX_VALUES
    refine ⟨_, (pss_cons (ps_if (PW.pt (pw_or (pt_not (pt_val (pe_callB call_isi (by rfl) T.z_isinstance (by decide +kernel) (pa_cons (pv 1) (pa_cons (pe_bltn (v := V.ty "dict") (u := Value.type "dict") (by rfl) T.z_dict (by decide +kernel) rfl) pa_nil))))) (pw_or1 (pt_not (pt_chain op_le op_le pe_int (pe_callB call_lenD (by rfl) T.z_len (by decide +kernel) (pa_cons (pv 1) pa_nil)) (pe_glob (v := V.int 8) rfl c_MAX_VALUES ⟨_, rfl⟩))))))
      (pss_one (ps_ret pe_bl))
      pss_nil)
      (pss_one (ps_ret (pe_callB (cr_all rfl) (by rfl) T.z_all (by decide +kernel) (pa_cons (pe_lock (pe_lc (own := [("name", 2)]) (g := gName 2) rfl sc_are_rows.nd (pi_keys (pv 1)) (blkOk_by (N := ["interval", "value", "name"]) (sc := defScope s_are_rows) (by decide +kernel)) (fun _ _ _ _ _ => (pg_name (i := 2) sc_are_rows.nd rfl (Or.inl rfl))) (fun _ _ _ _ _ => pts_nil) (fun _ _ _ _ _ => (pe_and (pe_call G_is_name hr_is_name rfl T.m_is_name T.F_is_name.kp T.b_is_name .nil pass0 (pa_cons (pv 2) pa_nil)) (pe_one (pe_call G_is_span hr_is_span rfl T.m_is_span T.F_is_span.kp T.b_is_span .nil pass0 (pa_cons (pv 0) (pa_cons (pe_dget (by exact hu) (pv 1) (pv 2) (fun _ _ => rfl)) pa_nil)))))))) pa_nil))))), ?_⟩
    refine ⟨_, rfl, _, _, _, _, true, rfl, .ty _, .base (.dK hd), kit_ty (by decide +kernel), _, rfl, iteF ?_⟩
    have hlen : (Kvs L).length = R.length := by rw [kvs_len, ts.len]
    refine ⟨_, rfl, d, Kvs L, rfl, hd, _, _, rfl, rfl, _, rfl, ?_⟩
    rw [hlen, decide_eq_true (by have := gd.l1; omega)]
    refine iteT ?_
    refine ⟨_, _, rfl, rfl, _, rfl, ?_⟩
    rw [decide_eq_true (by have := gd.l8; omega)]
    refine iteF ?_
    refine ⟨d, _, hd, True.intro, fun od => ?_⟩
    refine ⟨_, rfl, d, od, rfl, .inl ⟨Kvs L, upd_same, fun D hD => ?_⟩⟩
    have nDd : d ≠ D := fun z => by rw [← z, upd_same] at hD; cases hD
    have hD0 : H D = none := by rw [upd_ne nDd.symm] at hD; exact hD
    have kl : KT H (upd H d (.frz od (.dK (Kvs L)))) := KT.put hd (fun _ z => by cases z)
    refine lc_it walk_keys (fun i H' => H' D = some (.lst ((List.replicate i true).map V.bl)) ∧ Same (upd H d (.frz od (.dK (Kvs L)))) H') ⟨upd_same, Same.new hD⟩ (fun i H' _ h => h.2 _ _ upd_same) ?_ ?_
    · rintro i x H1 H2 hi ⟨eD, S⟩ ⟨rfl, kk, vv, ek, rfl⟩
      refine ⟨rfl, ?_⟩
      unfold tYes
      dsimp only
      rw [if_pos rfl]
      obtain ⟨⟨n, a⟩, hm, e3⟩ : ∃ p ∈ L, (Sum.inr p.1, V.ref p.2) = (kk, vv) := by
        have := List.mem_of_getElem? ek
        exact List.mem_map.mp this
      obtain ⟨e4, e5⟩ := Prod.mk.inj e3
      subst e4 e5
      have hn : n ∈ R.map (·.1) := by rw [← ts.names]; exact List.mem_map.mpr ⟨_, hm, rfl⟩
      have ts1 := ts.keep (KT.trans kl (KT.same S))
      obtain ⟨q, b, e, hv, hq, hR⟩ := ts1.get hn
      have g1 := gd.nr _ hR
      have g2 := gd.sp _ hR
      have g3 := gd.t2
      have g4 := gd.t1
      unfold Near at g1
      unfold SpOk at g2
      simp only at g1 g2
      refine ⟨_, rfl, _, .str n, rfl, .inl (.str _), okD_nm (gd.nm _ hR), fun H3 S3 => ?_⟩
      rw [show nmD (.str n) = true from gd.nm _ hR]
      refine ⟨_, rfl, iteT ?_⟩
      refine ⟨_, rfl, _, rfl, _, rfl, d, V.ref q, rfl, ?_, ?_⟩
      · refine .inl ⟨Kvs L, Sum.inr n, .inr ⟨od, S3 _ _ (S _ _ upd_same)⟩, rfl, hv.symm⟩
      refine ⟨t, q, b, e, rfl, (KT.same S3) _ _ hq, by omega, by omega, by omega, by omega, by omega, ?_⟩
      refine ⟨_, S3 _ _ eD, by rw [List.length_map, List.length_replicate, sizeLine_eq]; have := gd.l8; omega, ?_, Same.at hD (Same.trans S S3)⟩
      rw [upd_same, List.replicate_succ', List.map_append]
      rfl
    · rintro H1 ⟨eD, S⟩
      refine ⟨S _ _ upd_same, ?_⟩
      refine ⟨_, _, rfl, SqL.of (by rw [upd_ne nDd.symm]; exact eD), ?_⟩
      refine bl_to ?_ (k _ (same_lock hd S))
      rw [List.all_eq_true]
      intro b hb
      exact (List.mem_replicate.mp hb).2
end
end K38
/-! an own class's ==, !=, str, by the promises of its defs -/
namespace OW
open PySem PySem.Spec PyProof.Rows L2

section
variable {prog : Program} {w : World} {A : Around} {E : Value → Shared → Prop} {s : Shared} {K : PySem.W.Frag} {x C L : Addr} {h₀ : Heap} {m : Str → Option Value} {ox : Obj} {od : Option Obj} {b tb : Value}
/-- a comparison by what the left one's special method gives -/
theorem cmp_left {op : CmpOp} {Q : Value → Shared → Prop} (hu : A.units < cLine) (X : K.In s.heap) (I : PySem.W.InstAt s.heap x ox C od) (hb : PySem.W.Looks (model prog w) s.heap (typeOf b) tb) (hn : PySem.W.notFirst K C tb = true)
    (one : wpAny (model prog w) A (tryCompare (.ref x) (cmpInfo op).2.1 b) (fun r s' => ∃ v, r = some v ∧ Q v s') E s) : wpAny (model prog w) A (richCompare op (.ref x) b) Q E s := by
  unfold richCompare
  simp only [oneThing_ref]
  refine wpAny_holding (wpAny_bind (wpAny_cRoomFor hu (wpAny_bind (I.type.here (wpAny_bind (hb.here ?_))))))
  have fin : ∀ {k : Option Value → Sem Value}, (∀ v, k (some v) = pure v) → wpAny (model prog w) A (tryCompare (.ref x) (cmpInfo op).2.1 b >>= k) Q E s := fun hk => by
    refine wpAny_bind (wpAny_mono one
                                      (fun r s' z => ?_) fun _ _ e => e)
    obtain ⟨v, rfl, q⟩ := z
    rw [hk]
    exact wpAny_pure q
  split
  · rename_i q
    have e : PySem.W.subIn K tb (.ref C) = some false := by
      rcases Bool.or_eq_true_iff.mp hn with e | e
      · rw [beq_iff_eq.mp e] at q
        simp at q
      · exact beq_iff_eq.mp e
    refine wpAny_bind ((PySem.W.looks_subIn X e).here ?_)
    simp only [Bool.false_eq_true, if_false]
    exact fin fun v => rfl
  · refine wpAny_bind (wpAny_pure ?_)
    simp only [Bool.false_eq_true, if_false]
    exact fin fun v => rfl
/-- a special method that the class has from object -/
theorem if_builtin {M : Model} {name : Str} {id : String} {args : List Value} {Q : Option Value → Shared → Prop} (X : K.In s.heap) (I : PySem.W.InstAt s.heap x ox C od) (hs : PySem.W.findIn K (.ref C) name = some (some (.builtin id)))
    (hb : ∀ self, bindSpecial (.builtin id) self = pure (.builtin id, [self])) (h : wpAny M A (call (.builtin id) (.ref x :: args)) (fun v => Q (some v)) E s) : wpAny M A (callSpecialIfBound? (.ref x) name args) Q E s := by
  simp only [callSpecialIfBound?, bindSpecialIfBound?]
  refine wpAny_holding (wpAny_bind (wpAny_bind (wpAny_bind (I.type.here ((PySem.W.looks_findIn X hs).here (wpAny_bind (wpAny_askSetting (wpAny_ite ?_))))))))
  have fin : wpAny M A (call (.builtin id) ([.ref x] ++ args) >>= fun v => pure (some v)) Q E s := wpAny_bind (wpAny_mono h (fun v s' h' => wpAny_pure h') fun _ _ h' => h')
  split
  · exact wpAny_bind (wpAny_of_eq (hb _) (wpAny_pure (by exact fin)))
  · exact wpAny_tryCatch (wpAny_bind (wpAny_of_eq (hb _) (wpAny_pure (by exact fin))))
/-- != from an own == -/
theorem ne_left {f : Addr} {Q : Value → Shared → Prop} (hu : A.in1.units < cLine) (X : K.In s.heap) (I : PySem.W.InstAt s.heap x ox C od) (hm : PySem.W.mroIn K C (.type "object") = some true) (hn : PySem.W.findIn K (.ref C) "__ne__" = some (some (.builtin "object.__ne__")))
    (hs : PySem.W.findIn K (.ref C) "__eq__" = some (some (.ref f))) (hf : PySem.W.isFn K (.ref f) = true)
    (h : wpAny (model prog w) A.in1 (call (.ref f) [.ref x, b]) (fun v s' => ∃ z, v = .bool z ∧ Q (.bool (!z)) s') E s) : wpAny (model prog w) A (tryCompare (.ref x) (cmpInfo .NotEq).2.1 b) (fun r s' => ∃ v, r = some v ∧ Q v s') E s := by
  unfold tryCompare
  refine wpAny_bind (if_builtin X I hn F.cmp_object.ne.bind (wpAny_call (codeAny_call_builtin F.cmp_object.ne.plain F.cmpEntry_ne (PySem.W.check_slot F.cmpKind_ne F.cmpSplit_ne (I.type.andThen (PySem.W.looks_mroIn X hm)) (F.cmpArgs_ne _ _) ?_))))
  unfold Builtin.«object.__ne__»
  refine wpAny_bind (wpAny_of_eq (a := ((Value.ref x), [b])) rfl ?_)
  dsimp only
  refine wpAny_bind (wpAny_cRoomFor hu ?_)
  refine wpAny_bind (PySem.W.ifBound_K X I hs hf (wpAny_mono h (fun v s' z => ?_) fun _ _ e => e))
  obtain ⟨z, rfl, q⟩ := z
  refine wpAny_bind (wpAny_truthy_bool ?_)
  exact wpAny_pure (wpAny_pure ⟨_, rfl, q⟩)
end

/-- the type of a value -/
def Tyd (K : PySem.W.Frag) (H : Hp) (y : V) (tb : Value) : Prop :=
  match y with
  | .non => tb = .type "NoneType"
  | .bl _ => tb = .type "bool"
  | .int _ => tb = .type "int"
  | .str _ => tb = .type "str"
  | .ref a => ((∃ xs, SqL K H a xs) ∧ tb = .type "list") ∨ ((∃ xs, SqT K H a xs) ∧ tb = .type "tuple") ∨ ∃ C dx fs, H a = some (.ins C dx fs) ∧ tb = .ref C
  | _ => False
section
variable {X : Cx} {pins : List (Addr × Obj)} {σ : L2.St} {H : Hp} {s : Shared} {y : V} {u tb : Value}
theorem tyd_at {h : Heap} {a : Addr} {o : Obj} {M : Model} {t : Value} (ho : h.get? a = some o) (hc : o.cls = t) : PySem.W.Looks M h (typeOf (.ref a)) t := fun A Q E s k q => wpAny_typeOf_ref (k _ _ ho) (by rw [hc]; exact q)
theorem tyd_looks (I : Inv X pins σ H s) (r : RelV y u) (t : Tyd X.K H y tb) : PySem.W.Looks (model X.prog X.w) s.heap (typeOf u) tb := by
  cases y with
  | non => cases r; cases t; exact PySem.W.Looks.of_pure rfl
  | bl b => cases r; cases t; exact PySem.W.Looks.of_pure rfl
  | int i => obtain ⟨tk, rfl⟩ := r; cases t; exact PySem.W.Looks.of_pure rfl
  | str x => obtain ⟨tk, rfl⟩ := r; cases t; exact PySem.W.Looks.of_pure rfl
  | ref a =>
    cases r
    rcases t with ⟨⟨xs, h⟩, rfl⟩ | ⟨⟨xs, h⟩, rfl⟩ | ⟨C, dx, fs, h, rfl⟩
    · obtain ⟨its, _, pl, _⟩ := I.list h
      obtain ⟨o, ho, hc, _⟩ := pl.isList
      exact tyd_at ho hc
    · obtain ⟨its, _, ⟨o, ho, hc, _⟩, _⟩ := I.tuple h
      exact tyd_at ho hc
    · obtain ⟨mA, O, _⟩ := ins_get I.hok h
      obtain ⟨od, J, _⟩ := O.look
      exact J.type
  | byt _ => exact t.elim
  | flt _ => exact t.elim
  | ty _ => exact t.elim

/-- a def called from within a builtin -/
theorem run_at {CX : CXT} {n : Nat} {f : Addr} {fd : FuncData} {ps : List Str} {sp : Sp} {E : XK} {A : Around} {Q : VK} {us : List Value} {vs : List V} (F : FnOk X.prog X.w X.K X.mg X.base CX n f fd ps sp) (sb : Sub X n A) (hb : Binds X.K fd ps []) (hx : Passes CX X E)
    (I : Inv X pins σ H s) (r : Vals vs us) (h : sp vs H Q E) : wpAny (model X.prog X.w) A (call (.ref f) us) (EP X pins σ Q) X.xe s := by
  have e0 : Env0 X.prog X.w X.K X.mg X.base A X.stack s H := by
    have e := I.env0
    exact ⟨by rw [sb.fr]; exact e.frames, e.mod, e.bs, e.bsz, e.funs, e.frf, e.hok, e.bare⟩
  have hl := F.len _ _ _ _ h
  refine wpAny_call (codeAny_mono (F.run A X.stack s H ⟨us, []⟩ us vs Q E sb.room e0 (by
    have := hb s us I.kIn (by rw [List.append_nil, ← r.length]; exact hl)
    rwa [List.append_nil] at this) r h) fun r s' hq => ?_)
  cases r with
  | error e => exact hx pins σ H s e s' I hq
  | ok fl =>
    cases fl with
    | ret w => exact I.after hq
    | next => exact False.elim hq
    | brk => exact False.elim hq
    | cont => exact False.elim hq
theorem not_ni {z : V} {v : Value} {R : Prop} (r : RelV z v) (h : v ≠ .notImplemented → R) : R := h fun e => by
  subst e
  cases z <;> first | exact nomatch r | (obtain ⟨t, e⟩ := r; exact nomatch e) | (cases r)

/-- the class's own == -/
structure OwnEq (X : Cx) (C f : Addr) : Prop where
  fs : PySem.W.findIn X.K (.ref C) "__eq__" = some (some (.ref f))
  fn : PySem.W.isFn X.K (.ref f) = true
def rOwnEq (K : PySem.W.Frag) (C : Addr) (sp : Sp) (E : XK) : R2 := fun x y H Q => ∃ a dx fs tb, x = .ref a ∧ H a = some (.ins C dx fs) ∧ Tyd K H y tb ∧ PySem.W.notFirst K C tb = true ∧ sp [x, y] H Q E
theorem op_ownEq {CX : CXT} {n : Nat} {C f : Addr} {fd : FuncData} {ps : List Str} {sp : Sp} {E : XK} (F : FnOk X.prog X.w X.K X.mg X.base CX n f fd ps sp) (o : OwnEq X C f) (hr : Room n X.A) (hb : Binds X.K fd ps []) (hx : Passes CX X E) :
    OpR X (compareOp .Eq) (rOwnEq X.K C sp E) := by
  intro pins s σ H x y v u Q I rx ry h
  obtain ⟨a, dx, fs, tb, rfl, ha, ty, nf, q⟩ := h
  cases rx
  obtain ⟨mA, O, _⟩ := ins_get I.hok ha
  obtain ⟨od, J, _⟩ := O.look
  show wpAny _ _ (richCompare .Eq (.ref a) u) _ _ _
  refine cmp_left hr.units0 I.kIn J (tyd_looks I ry ty) nf ?_
  unfold tryCompare
  refine wpAny_bind (PySem.W.ifBound_K I.kIn J o.fs o.fn (wpAny_mono (run_at F ⟨hr, rfl⟩ hb hx I (vs := [.ref a, y]) (.cons rfl (.cons ry .nil)) q) (fun v s' z => ?_) fun _ _ e => e))
  obtain ⟨zv, H', I', r', q'⟩ := z
  refine not_ni r' fun ne => ?_
  cases v <;> first | exact absurd rfl ne | exact wpAny_pure ⟨_, rfl, zv, H', I', r', q'⟩
def rOwnNe (K : PySem.W.Frag) (C : Addr) (sp : Sp) (E : XK) : R2 := fun x y H Q => ∃ a dx fs tb, x = .ref a ∧ H a = some (.ins C dx fs) ∧ Tyd K H y tb ∧ PySem.W.notFirst K C tb = true ∧ sp [x, y] H (fun v H' => ∃ b, v = .bl b ∧ Q (.bl (!b)) H') E
theorem op_ownNe {CX : CXT} {n : Nat} {C f : Addr} {fd : FuncData} {ps : List Str} {sp : Sp} {E : XK} (F : FnOk X.prog X.w X.K X.mg X.base CX n f fd ps sp) (o : OwnEq X C f) (hm : PySem.W.mroIn X.K C (.type "object") = some true)
    (hn : PySem.W.findIn X.K (.ref C) "__ne__" = some (some (.builtin "object.__ne__"))) (hr : Room (n + 1) X.A) (hb : Binds X.K fd ps []) (hx : Passes CX X E) :
    OpR X (compareOp .NotEq) (rOwnNe X.K C sp E) := by
  intro pins s σ H x y v u Q I rx ry h
  obtain ⟨a, dx, fs, tb, rfl, ha, ty, nf, q⟩ := h
  cases rx
  obtain ⟨mA, O, _⟩ := ins_get I.hok ha
  obtain ⟨od, J, _⟩ := O.look
  show wpAny _ _ (richCompare .NotEq (.ref a) u) _ _ _
  refine cmp_left hr.units0 I.kIn J (tyd_looks I ry ty) nf ?_
  refine ne_left hr.in1.units0 I.kIn J hm hn o.fs o.fn (wpAny_mono (run_at F ⟨hr.in1, rfl⟩ hb hx I (vs := [.ref a, y]) (.cons rfl (.cons ry .nil)) q) (fun v s' z => ?_) fun _ _ e => e)
  obtain ⟨zv, H', I', r', b, rfl, q'⟩ := z
  cases r'
  exact ⟨b, rfl, .bl (!b), H', I', rfl, q'⟩
end
end OW
/-! an own class's in, len, [..], +, str, by the promises of its defs -/
namespace OW
open PySem PySem.Spec PyProof.Rows L2
section
variable {X : Cx} {CX : CXT} {n : Nat} {C f : Addr} {fd : FuncData} {ps : List Str} {sp : Sp} {E : XK}
/-- the class has a def at f as its special method -/
structure OwnM (X : Cx) (C : Addr) (name : Str) (f : Addr) : Prop where
  fs : PySem.W.findIn X.K (.ref C) name = some (some (.ref f))
  fn : PySem.W.isFn X.K (.ref f) = true
/-- what holds of a tracked instance -/
theorem inst_at {pins : List (Addr × Obj)} {σ : L2.St} {H : Hp} {s : Shared} {a dx : Addr} {fs : List (Str × V)} (I : Inv X pins σ H s) (ha : H a = some (.ins C dx fs)) : ∃ ox od, PySem.W.InstAt s.heap a ox C od := by
  obtain ⟨mA, O, _⟩ := ins_get I.hok ha
  obtain ⟨od, J, _⟩ := O.look
  exact ⟨_, od, J⟩
def rOwnIn (C : Addr) (sp : Sp) (E : XK) (neg : Bool) : R2 := fun y x H Q => ∃ a dx fs, x = .ref a ∧ H a = some (.ins C dx fs) ∧ sp [x, y] H (fun v H' => ∃ b, v = .bl b ∧ Q (.bl (if neg then !b else b)) H') E
theorem op_ownIn (F : FnOk X.prog X.w X.K X.mg X.base CX n f fd ps sp) (o : OwnM X C "__contains__" f) (hr : Room n X.A) (hb : Binds X.K fd ps []) (hx : Passes CX X E) : OpR X (compareOp .In) (rOwnIn C sp E false) := by
  intro pins s σ H y x u v Q I ry rx h
  obtain ⟨a, dx, fs, rfl, ha, q⟩ := h
  cases rx
  obtain ⟨ox, od, J⟩ := inst_at I ha
  obtain ⟨m, hF⟩ := I.fr
  refine PySem.W.in_K hF I.ok.mod.kin J o.fs o.fn (wpAny_mono (run_at F ⟨hr, rfl⟩ hb hx I (vs := [.ref a, y]) (.cons rfl (.cons ry .nil)) q) (fun v s' z => ?_) fun _ _ e => e)
  obtain ⟨zv, H', I', r', b, rfl, q'⟩ := z
  cases r'
  exact wpAny_truthy_bool ⟨.bl b, H', I', rfl, q'⟩
theorem op_ownNotIn (F : FnOk X.prog X.w X.K X.mg X.base CX n f fd ps sp) (o : OwnM X C "__contains__" f) (hr : Room n X.A) (hb : Binds X.K fd ps []) (hx : Passes CX X E) : OpR X (compareOp .NotIn) (rOwnIn C sp E true) := by
  intro pins s σ H y x u v Q I ry rx h
  obtain ⟨a, dx, fs, rfl, ha, q⟩ := h
  cases rx
  obtain ⟨ox, od, J⟩ := inst_at I ha
  obtain ⟨m, hF⟩ := I.fr
  refine PySem.W.notIn_K hF I.ok.mod.kin J o.fs o.fn (wpAny_mono (run_at F ⟨hr, rfl⟩ hb hx I (vs := [.ref a, y]) (.cons rfl (.cons ry .nil)) q) (fun v s' z => ?_) fun _ _ e => e)
  obtain ⟨zv, H', I', r', b, rfl, q'⟩ := z
  cases r'
  exact wpAny_truthy_bool ⟨.bl (!b), H', I', rfl, q'⟩
/-- len(o) -/
def rOwnLen (C : Addr) (sp : Sp) (E : XK) : List V → Hp → VK → Prop := fun xs H Q => ∃ a dx fs, xs = [.ref a] ∧ H a = some (.ins C dx fs) ∧ sp [.ref a] H (fun v H' => ∃ i : Int, v = .int i ∧ 0 ≤ i ∧ i < 2 ^ 63 ∧ Q (.int i) H') E
theorem cr_ownLen (F : FnOk X.prog X.w X.K X.mg X.base CX n f fd ps sp) (o : OwnM X C "__len__" f) (hr : Room (n + 1) X.A) (hb : Binds X.K fd ps []) (hx : Passes CX X E) : CallR X (.builtin "len") (rOwnLen C sp E) := by
  intro pins s σ H xs us Q I r h
  obtain ⟨a, dx, fs, rfl, ha, q⟩ := h
  rw [Vals.ref1 r]
  obtain ⟨ox, od, J⟩ := inst_at I ha
  obtain ⟨m, hF⟩ := I.fr
  refine PySem.W.len_K hF I.ok.mod.kin J o.fs o.fn (wpAny_mono (run_at F ⟨hr.in1, rfl⟩ hb hx I (vs := [.ref a]) (.cons rfl .nil) q) (fun v s' z => ?_) fun _ _ e => e)
  obtain ⟨zv, H', I', r', i, rfl, h0, h1, q'⟩ := z
  obtain ⟨t, rfl⟩ := r'
  exact ⟨⟨h0, h1⟩, .int i, H', I'.tok _, ⟨_, rfl⟩, q'⟩
/-- o + p of one class -/
def rOwnAdd (C : Addr) (sp : Sp) (E : XK) : R2 := fun x y H Q => ∃ a dx fs b dy gs, x = .ref a ∧ H a = some (.ins C dx fs) ∧ y = .ref b ∧ H b = some (.ins C dy gs) ∧ sp [x, y] H Q E
theorem op_ownAdd (F : FnOk X.prog X.w X.K X.mg X.base CX n f fd ps sp) (o : OwnM X C "__add__" f) (hc : PySem.W.selfFirst X.K C = true) (hr : Room n X.A) (hb : Binds X.K fd ps []) (hx : Passes CX X E) : OpR X (binaryOp .Add) (rOwnAdd C sp E) := by
  intro pins s σ H x y u v Q I rx ry h
  obtain ⟨a, dx, fs, b, dy, gs, rfl, ha, rfl, hb', q⟩ := h
  cases rx
  cases ry
  obtain ⟨ox, od, J⟩ := inst_at I ha
  obtain ⟨oy, od', J'⟩ := inst_at I hb'
  obtain ⟨m, hF⟩ := I.fr
  refine PySem.W.binop_K hF I.ok.mod.kin J J'.type hc o.fs o.fn (wpAny_mono (run_at F ⟨hr, rfl⟩ hb hx I (vs := [.ref a, .ref b]) (.cons rfl (.cons rfl .nil)) q) (fun v s' z => ?_) fun _ _ e => e)
  obtain ⟨zv, H', I', r', q'⟩ := z
  refine not_ni r' fun ne => ?_
  cases v <;> first | exact absurd rfl ne | exact ⟨zv, H', I', r', q'⟩
end
section
variable {prog : Program} {w : World} {A : Around} {E : Value → Shared → Prop} {s : Shared} {K : PySem.W.Frag} {x C f : Addr} {ox : Obj} {od : Option Obj}
open Builtin Builtin.Str in
/-- str(o), an own __str__ -/
theorem str_own {Q : Value → Shared → Prop} (hu : A.in1.in1.units < cLine) (X : K.In s.heap) (I : PySem.W.InstAt s.heap x ox C od) (hs : PySem.W.findIn K (.ref C) "__str__" = some (some (.ref f))) (hf : PySem.W.isFn K (.ref f) = true)
    (h : wpAny (model prog w) A.in1.in1 (call (.ref f) [.ref x]) (PySem.W.StrBack Q) E s) : wpAny (model prog w) A (call (.type "str") [.ref x]) Q E s := by
  refine callType_codes (T := "str") (Bi := Builtin.«object.__init__»)
                                                                       (Q₁ := fun r s₁ => ∃ y u, r = .str y u ∧ Q r s₁) PySem.F.called_str (PySem.F.typeCall_str_1 _) PySem.F.entry_object_init ?_ ?_
  · refine codeAny_of_tree ?_
    show wpAny _ A.in1.in1 (do checkBuiltinCall "str.__new__"
                                                              ⟨[.type "str", .ref x], []⟩; again (.builtin "str.__new__" ⟨[.type "str", .ref x], []⟩)) _ _ s
    refine wpAny_bind (wpAny_of_eq (PySem.F.newCall_str_1 _) (wpAny_pure
                                                                         ⟨plainId_quiet (by decide +kernel) _, codeAny_builtin PySem.F.entry_str_new ?_⟩))
    rw [Around.under_plainId (by decide +kernel) _, str_new_tree]
    refine wpAny_bind (wpAny_pure (wpAny_bind (wpAny_of_eq isSubtype_str_str ?_)))
    have key : wpAny (model prog w) A.in1.in1 (PySem.Builtin.Str.strOf
                                                                       (.ref x)) (fun r s₁ => ∃ y u, r = .str y u ∧ Q r s₁) E s := by
      unfold PySem.Builtin.Str.strOf
      rw [show isExactStr (.ref x) = false from rfl]
      refine wpAny_bind
                        (m := cRoomFor _ _) (wpAny_cRoomFor hu ?_)
      refine wpAny_bind (m := callSpecial? (.ref x) (Str.ofString "__str__")) (PySem.W.special_fn X I hs (beq_iff_eq.mp hf) (wpAny_mono h (fun r s' z => ?_) fun _ _ y => y))
      cases r <;> first | exact z.elim | exact wpAny_pure
                                                          ⟨_, _, rfl, z⟩
    exact wpAny_bind (wpAny_mono key
                                     (fun r s₁ hr => wpAny_pure hr) fun _ _ y => y)
  · rintro obj s₁ ⟨y, u, rfl, hq⟩
    exact ⟨typeIs_str _ _ _, PySem.F.args_object_init_2 _ _, object_init_meets PySem.F.called_str.init.lookup PySem.F.called_str.made
                                                                                                                                      (by decide) prog w A.in1 _ s₁ ⟨typeIs_str _ _ _, rfl, hq⟩⟩
end
section
variable {X : Cx} {CX : CXT} {n : Nat} {C f : Addr} {fd : FuncData} {ps : List Str} {sp : Sp} {E : XK}
def rOwnStr (C : Addr) (sp : Sp) (E : XK) : List V → Hp → VK → Prop := fun xs H Q => ∃ a dx fs, xs = [.ref a] ∧ H a = some (.ins C dx fs) ∧ sp [.ref a] H (fun v H' => ∃ z, v = .str z ∧ Q (.str z) H') E
theorem cr_ownStr (F : FnOk X.prog X.w X.K X.mg X.base CX n f fd ps sp) (o : OwnM X C "__str__" f) (hr : Room (n + 2) X.A) (hb : Binds X.K fd ps []) (hx : Passes CX X E) : CallR X (.type "str") (rOwnStr C sp E) := by
  intro pins s σ H xs us Q I r h
  obtain ⟨a, dx, fs, rfl, ha, q⟩ := h
  rw [Vals.ref1 r]
  obtain ⟨ox, od, J⟩ := inst_at I ha
  refine str_own hr.in1.in1.units0 I.kIn J o.fs o.fn (wpAny_mono (run_at F ⟨hr.in1.in1, rfl⟩ hb hx I (vs := [.ref a]) (.cons rfl .nil) q) (fun v s' z => ?_) fun _ _ e => e)
  obtain ⟨zv, H', I', r', y, rfl, q'⟩ := z
  obtain ⟨t, rfl⟩ := r'
  exact ⟨.str y, H', I', ⟨t, rfl⟩, q'⟩
/-- o[i] -/
def rOwnItem (C : Addr) (sp : Sp) (E : XK) : R2 := fun x y H Q => ∃ a dx fs, x = .ref a ∧ H a = some (.ins C dx fs) ∧ sp [x, y] H Q E
theorem pe_ownItem {a b : Expr} {ta tb : TE} {pos : Pos} (ha : PE X a ta) (hb : PE X b tb) (F : FnOk X.prog X.w X.K X.mg X.base CX n f fd ps sp) (o : OwnM X C "__getitem__" f) (hfn : PySem.W.fnIn X.K f = true) (hr : Room (n + 1) X.A) (hbd : Binds X.K fd ps []) (hx : Passes CX X E)
    (hsl : ∀ x i, subscripted b true (.ref x) i = runValue (.builtin "lifetime.subscript" ⟨[.ref x, i], []⟩)) : PE X (.Subscript a b pos) (tOp (rOwnItem C sp E) ta tb) := by
  refine ⟨fun pins s σ H Q I h => ?_⟩
  refine Subscript_
                    (binT ha hb I h fun v u s2 x y H2 I2 rx ry q => ?_)
  obtain ⟨p, dx, fs, rfl, hp, q⟩ := q
  cases rx
  obtain ⟨ox, od, J⟩ := inst_at I2 hp
  obtain ⟨m, hF⟩ := I2.fr
  exact PySem.W.sub_K hF I2.ok.mod.kin J o.fs hfn o.fn (run_at F ⟨hr.in1, rfl⟩ hbd hx I2 (vs := [.ref p, y]) (.cons rfl (.cons ry .nil)) q) (hsl _ _)
end
end OW
/-! == of dicts of data in one order; in, of a value that is no text, in a tuple of texts -/
namespace RL
open PySem PySem.Spec PyProof.Rows L2
/-- all values equal, place by place -/
def allE : List (PyData × PyData) → List (PyData × PyData) → Bool
  | (_, d) :: es, (_, e) :: fs => PyData.eqv d e && allE es fs
  | _, _ => true
section
variable {X : Cx} {pins : List (Addr × Obj)}
                                             {σ : L2.St} {H : Hp} {s : Shared}
theorem dic_hits (I : Inv X pins σ H s) {A : Around} (hu : A.units + 60 < cLine) {ls : List (Key × V)} {vb : List (Key × Value)} (rb : KV ls vb) :
    ∀ {es' fs' : List (PyData × PyData)} {ks' ls' : List (Key × V)} {va' : List (Key × Value)}, DSk X.K H ks' es' → DSk X.K H ls' fs' → KV ks' va' → ks'.map (·.1) = ls'.map (·.1) → (∀ p ∈ ls', valV ls p.1 = some p.2) →
      PyData.plainAll (es'.map (·.2)) = true → PyData.plainAll (fs'.map (·.2)) = true → PyData.depthAll (es'.map (·.2)) ≤ 60 → PySem.W.KeqHitsP X.prog X.w A s vb va' (allE es' fs')
  | [], _, _, _, _, h1, h2, r, e, _, _, _, _ => by
    cases h1
    unfold KV at r
    cases r
    simp only [allE]
    exact .nil
  | (kd, d) :: es', _, _, _, _, h1, h2, r, e, hv, p1, p2, hd => by
    cases h1 with
    | @cons k v ks' _ _ hd1 hk1 =>
      cases h2 with
      | nil => cases e
      | @cons k2 v2 ls' d2 fs' hd2 hk2 =>
        obtain ⟨rfl, e2⟩ := List.cons.inj e
        unfold KV at r
        cases r with
        | @cons _ q _ qs h t =>
          obtain ⟨hq1, hq2⟩ := h
          obtain ⟨qk, qv⟩ := q
          obtain rfl : k = qk := hq1
          have rr : RelO (some v2) (valueAt vb k) := by
            rw [← hv _ List.mem_cons_self]
            exact rb.val k
          obtain ⟨y, hy, ry⟩ := rr.some_of
          have p1' : d.plain = true ∧ PyData.plainAll (es'.map (·.2)) = true := by simpa [PyData.plainAll] using p1
          have p2' : d2.plain = true ∧ PyData.plainAll (fs'.map (·.2)) = true := by simpa [PyData.plainAll] using p2
          have hdd : d.depth ≤ 60 ∧ PyData.depthAll (es'.map (·.2)) ≤ 60 := by
            simp only [List.map_cons, PyData.depthAll] at hd
            omega
          obtain ⟨as, ra⟩ := DS.reads I _ _ _ hd1 hq2
          obtain ⟨bs, rb'⟩ := DS.reads I _ _ _ hd2 ry
          refine .hit hy (SeqAt.EqAt.eqP (SeqAt.eqAt_plain d d2 A s qv y as bs ra rb' p1'.1 p2'.1 (by have := Nat.min_le_left d.depth d2.depth; omega))) ?_
          exact dic_hits I hu rb hk1 hk2 t e2 (fun p hp => hv p (List.mem_cons_of_mem _ hp)) p1'.2 p2'.2 hdd.2
/-- a == b, two dicts with the same keys in one order -/
def rEqDic (K : PySem.W.Frag) : R2 := fun x y H Q => ∃ a b ks ls es fs, x = .ref a ∧ y = .ref b ∧ H a = some (.dK ks) ∧ H b = some (.dK ls) ∧ DSk K H ks es ∧ DSk K H ls fs ∧ ks.map (·.1) = ls.map (·.1) ∧ (∀ p ∈ ls, valV ls p.1 = some p.2) ∧
  PyData.plainAll (es.map (·.2)) = true ∧ PyData.plainAll (fs.map (·.2)) = true ∧ PyData.depthAll (es.map (·.2)) ≤ 60 ∧ Q (.bl (allE es fs)) H
theorem op_eqDic (hu : X.A.units + 64 < cLine) : OpR X (compareOp .Eq) (rEqDic X.K) := by
  intro pins s σ H x y v u Q I rx ry h
  obtain ⟨a, b, ks, ls, es, fs, rfl, rfl, ha, hb, h1, h2, e, hv, p1, p2, hd, q⟩ := h
  cases rx
  cases ry
  obtain ⟨_, ya, va, ra, da⟩ :=
                                (show ObjOk X.prog X.w H s.heap a (.dK ks) from I.hok a _ ha)
  obtain ⟨_, yb, vb, rb, db⟩ :=
                                (show ObjOk X.prog X.w H s.heap b (.dK ls) from I.hok b _ hb)
  have hl : va.length = vb.length := by
    rw [← ra.length, ← rb.length, ← List.length_map (f := (·.1)) (as := ks), e, List.length_map]
  refine PySem.W.rcP_dicts (knd := mixKind X.prog X.w) (r := allE es fs) ya yb da db (by omega) (fun _ => dic_hits I (by show X.A.units + 1 + 60 < cLine; omega) rb h1 h2 ra e hv p1 p2 hd) _ _ ?_
  rw [show (va.length == vb.length && allE es fs) = allE es fs from by rw [hl]; simp]
  exact ⟨.bl _, H, I, rfl, q⟩
end
/-! ### in a tuple of texts -/
section
open AutoSeq1 (wpAny_loadPart')
open SeqAt MeetsSeq MeetsSeq2 MeetsSeq3 SeqRoads2
variable {prog : Program} {w : World}
theorem tuple_containsJ (l : Addr) (items : Array Value) (n : Nat) (dd : Option Addr) (sl : Array (Option Value)) (x : Value) (J : Shared → Prop) :
    MeetsIn prog w (Builtin.«tuple.__contains__» ⟨[.ref l, x], []⟩)
      (fun A R s => s.heap.get? l = some { cls := .type "tuple", dict := dd, data := .seq items n, slots := sl } ∧ J s ∧ (∀ y, y ∈ items → ∀ s', J s' → wpAny (model prog w) A.in1 (eqBool y x) (fun b s'' => b = false ∧ J s'') (fun e s' => R (.error e) s') s') ∧ ∀ s', J s' → R (.ok (.ret (.bool false))) s') :=
  .of_wp fun A R s h => by
    obtain ⟨hp, g, d, tk, os⟩ := s; obtain ⟨hl, hj, he, h⟩ := h
    wp_walk using wpAny_loadPart' hl, wpAny_forIn_array _ (fun rest b s' => b.1 = none ∧ J s' ∧ (∀ y, y ∈ rest → y ∈ items)) _
    case turn =>
      rintro y rest b s' ⟨hb, hj', hmem⟩
      refine wpAny_bind (wpAny_mono (he y (hmem y (List.mem_cons_self ..)) s' hj') (fun b' s'' z => ?_) fun _ _ z => z)
      obtain ⟨rfl, hj2⟩ := z
      wp_walk
      exact ⟨rfl, hj2, fun z hz => hmem z (List.mem_cons_of_mem _ hz)⟩
    case fin =>
      rintro ⟨b1, b2⟩ s' ⟨hb, hj', -⟩
      simp only at hb
      subst hb
      wp_walk
      exact ⟨_, rfl, h _ hj'⟩
    case h =>
      exact ⟨rfl, hj, fun y hy => by simpa using hy⟩
end
end RL
/-! ### a text beside a dict, beside an instance -/
namespace RL
open PySem PySem.Spec PyProof.Rows L2
open AutoSeq1 (wpAny_loadPart')
theorem str_declines_dict (b : Str) (u : Tok) (l : Addr) (c : Value) (es : Array DictEntry) (n : Nat) (dd : Option Addr) (sl : Array (Option Value)) :
    Meets (Builtin.«str.__eq__» ⟨[.str b u, .ref l], []⟩) (fun _ R s => s.heap.get? l = some { cls := c, dict := dd, data := .dict es n, slots := sl } ∧ R (.ok (.ret .notImplemented)) s) :=
  .of_wp fun prog w A R s h => by obtain ⟨hp, g, d, tk, os⟩ := s; obtain
                                                                         ⟨hl, h⟩ := h; wp_walk using wpAny_loadPart' hl, wpAny_load hl; exact ⟨_, rfl, h⟩
theorem str_declines_plain (b : Str) (u : Tok) (l : Addr) (c : Value) (dd : Option Addr) (sl : Array (Option Value)) :
    Meets (Builtin.«str.__eq__» ⟨[.str b u, .ref l], []⟩) (fun _ R s => s.heap.get? l = some { cls := c, dict := dd, data := .plain, slots := sl } ∧ R (.ok (.ret .notImplemented)) s) :=
  .of_wp fun prog w A R s h => by obtain ⟨hp, g, d, tk, os⟩ := s; obtain
                                                                         ⟨hl, h⟩ := h; wp_walk using wpAny_loadPart' hl, wpAny_load hl; exact ⟨_, rfl, h⟩
section
variable {prog : Program}
                          {w : World} {A : Around} {s : Shared}
theorem dict_declines_str {K : Type} [DecidableEq K] {knd : KeyKind prog w K} {a : Addr} {ka : List (K × Value)} {z : Str} {t : Tok} {E Q : Value → Shared → Prop} (da : s.heap.DictOf knd a ka) (h : Q .notImplemented s) :
    wpAny (model prog w) A (call (.builtin "dict.__eq__") [.ref a, .str z t]) Q E s := by
  refine wpAny_call_entry PySem.F.slot_dict_eq da.typeIs PySem.F.entry_dict_eq ?_ (PySem.F.args_dict_eq_2 _ _)
  show wpAny _ _ (Builtin.Dict.dictSlotArgs "__eq__" ⟨[.ref a, .str z t], []⟩ >>= _) _ _ s
  refine wpAny_bind ?_
  unfold Builtin.Dict.dictSlotArgs
  refine wpAny_bind (wpAny_notOrdered_dict da.typeIs ?_)
  show wpAny _ _ (pure (Value.ref a, Value.str z t)) _ _ s
  refine wpAny_pure ?_
  refine wpAny_bind (wpAny_isInstance (T := "str") (typeIs_str s z t) PySem.F.sub_str_dict ?_)
  simp only [Bool.not_false, if_true]
  refine wpAny_bind (wpAny_rule ?_)
  exact wpAny_pure ⟨_, rfl, h⟩
end
end RL
namespace RL
open PySem PySem.Spec PyProof.Rows L2
open AutoSeq1 (wpAny_loadPart')
section
variable {prog : Program}
                          {w : World} {A : Around} {s : Shared}
theorem eqb_of_rc {z : Str} {t : Tok} {a : Addr} {E : Value → Shared → Prop} {Q : Bool → Shared → Prop} (h : wpAny (model prog w) A (richCompare .Eq (.str z t) (.ref a)) (fun v s' => ∃ b, v = .bool b ∧ Q b s') E s) : wpAny (model prog w) A (eqBool (.str z t) (.ref a)) Q E s := by
  unfold eqBool
  refine wpAny_holding ?_
  refine wpAny_ite_split (fun hab => absurd
                                            (eq_of_beq hab) nofun) (fun _ => ?_)
  refine wpAny_bind (wpAny_mono h (fun v s' z => ?_) fun _ _ z => z)
  obtain ⟨b, rfl, q⟩ := z
  exact wpAny_truthy_bool q
theorem rc_str_dict {K : Type} [DecidableEq K] {knd : KeyKind prog w K} {a : Addr} {ka : List (K × Value)} {z : Str} {t : Tok} {E Q : Value → Shared → Prop} (hu : A.units < cLine) (da : s.heap.DictOf knd a ka) (h : Q (.bool false) s) :
    wpAny (model prog w) A (richCompare .Eq (.str z t) (.ref a)) Q E s := by
  obtain ⟨⟨cls, dd, data, sl⟩, es, ep, ho, hx, hd, hr⟩ := id da
  have hc := hx.1
  simp only at hc hd
  subst hc hd
  exact SeqAt.rc_eq_decline_or (k := false) (typeIs_str s z t) da.typeIs (by decide) PySem.F.sub_dict_str PySem.F.slot_str_eq PySem.F.slot_dict_eq
    (fun _ hq => call_meets PySem.F.slot_str_eq (typeIs_str s z t) PySem.F.entry_str_eq (PySem.F.args_str_eq_2 _ _) (str_declines_dict z t a (.type "dict") es ep dd sl) ⟨ho, hq⟩)
    (fun _ hq => dict_declines_str da hq)
    (fun _ hq => wpAny_of_eq (rfl : isSame (.str z t) (.ref a) = pure false) hq) (.inr hu) h
theorem rc_str_inst {K : PySem.W.Frag} {x C dx f : Addr} {od : Option Obj} {z : Str} {t : Tok} {E Q : Value → Shared → Prop} (hu : A.units < cLine) (X : K.In s.heap) (ho : s.heap.get? x = some (PySem.W.instObj C dx)) (I : PySem.W.InstAt s.heap x (PySem.W.instObj C dx) C od)
    (hn : PySem.W.subIn K (.ref C) (.type "str") = some false) (hs : PySem.W.findIn K (.ref C) "__eq__" = some (some (.ref f))) (hf : PySem.W.isFn K (.ref f) = true)
    (h : wpAny (model prog w) A (call (.ref f) [.ref x, .str z t]) (fun v s' => v ≠ .notImplemented ∧ Q v s') E s) : wpAny (model prog w) A (richCompare .Eq (.str z t) (.ref x)) Q E s := by
  have ha := typeIs_str s z t
  simp only [richCompare, ha.oneThing_none]
  try with_reducible refine wpAny_holding ?_
  refine wpAny_bind (wpAny_cRoomFor hu ?_)
  refine wpAny_bind (wpAny_typeOf ha (wpAny_bind (wpAny_typeOf_ref ho ?_)))
  have hne : (Value.type "str" != (PySem.W.instObj C dx).cls) = true := rfl
  simp only [hne, if_true]
  refine wpAny_bind ((PySem.W.looks_subIn X hn).here ?_)
  simp only [Bool.false_eq_true, if_false, Bool.not_false, if_true]
  refine wpAny_bind (m := tryCompare (.str z t) _ (.ref x)) (wpAny_tryCompare_declines ha PySem.F.slot_str_eq (call_meets PySem.F.slot_str_eq ha PySem.F.entry_str_eq (PySem.F.args_str_eq_2 _ _) (str_declines_plain z t x (.ref C) (some dx) #[]) ⟨ho, rfl, ?_⟩))
  refine wpAny_bind (m := tryCompare (.ref x) _ (.str z t)) ?_
  unfold tryCompare
  refine wpAny_bind (PySem.W.ifBound_K X I hs hf (wpAny_mono h (fun v s' y => ?_) fun _ _ e => e))
  obtain ⟨y1, y2⟩ := y
  cases v <;> first | exact absurd rfl y1 | exact wpAny_pure (wpAny_pure y2)
end
section
variable {X : Cx} {CX : CXT} {n : Nat} {C f : Addr} {fd : FuncData} {ps : List Str} {sp : Sp} {E : XK}
/-- x in y, y a tuple of texts, x no text -/
def rInOdd (K : PySem.W.Frag) (C : Addr) (sp : Sp) (E : XK) : R2 := fun x y H Q => ∃ (p : Addr) (ns : List Str), y = .ref p ∧ SqT K H p (ns.map V.str) ∧ Q (.bl false) H ∧
  ((∃ d, DS K H x d ∧ d.plain = true ∧ d.depth ≤ 60 ∧ ∀ z, PyData.eqv (.str z) d = false) ∨ (∃ a kvs, x = .ref a ∧ H a = some (.dK kvs)) ∨
    ∃ a dx fs, x = .ref a ∧ H a = some (.ins C dx fs) ∧ ∀ z : Str, sp [x, .str z] H (fun v H' => v = .bl false ∧ H' = H) E)
theorem strs_vals : ∀ {ns : List Str} {its : List Value}, Vals (ns.map V.str) its → ∀ y ∈ its, ∃ z t, y = Value.str z t
  | [], _, h, y, hy => by
    cases h
    cases hy
  | n :: ns, _, h, y, hy => by
    cases h with
    | cons h1 h2 =>
      rcases List.mem_cons.mp hy with rfl | hy
      · obtain ⟨t, e⟩ := h1
        exact ⟨n, t, e⟩
      · exact strs_vals h2 y hy
theorem op_inOdd (F : FnOk X.prog X.w X.K X.mg X.base CX n f fd ps sp) (o : OW.OwnEq X C f) (hsub : PySem.W.subIn X.K (.ref C) (.type "str") = some false) (hr : Room (n + 2) X.A) (hun : X.A.units + 64 < cLine) (hb : Binds X.K fd ps []) (hx : Passes CX X E) :
    OpR X (compareOp .In) (rInOdd X.K C sp E) := by
  intro pins s σ H x y v u Q I rx ry h
  obtain ⟨p, ns, rfl, hq, q, hk⟩ := h
  cases ry
  obtain ⟨its, rv, ⟨⟨cls, dd, data, sl⟩, ho, hc, m, hd⟩, _⟩ := I.tuple hq
  simp only at hc hd
  subst hc hd
  have hT : s.TypeIs (.ref p) "tuple" := ⟨_, ho, rfl⟩
  have key : wpAny (model X.prog X.w) X.A (call (.builtin "tuple.__contains__") [.ref p, v]) (fun r s' => r = Value.bool false ∧ Inv X pins σ H s') X.xe s := by
    refine call_meetsIn PySem.F.slot_tuple_contains hT PySem.F.entry_tuple_contains (PySem.F.args_tuple_contains_2 _ _) (tuple_containsJ p its.toArray m dd sl v (fun s' => Inv X pins σ H s')) ⟨ho, I, ?_, fun s' I' => ⟨rfl, I'⟩⟩
    intro y hy s' I'
    obtain ⟨z, t, rfl⟩ := strs_vals rv y (by simpa using hy)
    have hu1 : X.A.in1.units < cLine := by show X.A.units + 1 < cLine; omega
    rcases hk with ⟨d, h1, h2, h3, h4⟩ | ⟨a, kvs, rfl, ha⟩ | ⟨a, dx, fs, rfl, ha, hsp⟩
    · obtain ⟨as, rd⟩ := DS.reads I' _ _ _ h1 rx
      have g := SeqAt.eqAt_plain (.str z) d X.A.in1 s' (.str z t) v _ as (Reads.str z t) rd rfl h2 (by show X.A.units + 1 + _ < cLine; have := Nat.min_le_right (PyData.str z).depth d.depth; omega)
      rw [h4 z] at g
      exact g X.prog X.w _ _ ⟨rfl, I'⟩
    · cases rx
      obtain ⟨_, _, va, _, da⟩ := dk_of I'.hok ha
      exact eqb_of_rc (rc_str_dict hu1 da ⟨false, rfl, rfl, I'⟩)
    · cases rx
      obtain ⟨mA, O, _⟩ := ins_get I'.hok ha
      obtain ⟨od, J, _⟩ := O.look
      have ho' : s'.heap.get? a = some (PySem.W.instObj C dx) := by
        obtain ⟨_, _, _, e, _⟩ := (show ObjOk X.prog X.w H s'.heap a (.ins C dx fs) from I'.hok a _ ha)
        exact e
      refine eqb_of_rc (rc_str_inst hu1 I'.kIn ho' J hsub o.fs o.fn (wpAny_mono (OW.run_at F ⟨hr.in1.mono (by omega), rfl⟩ hb hx I' (vs := [.ref a, .str z]) (.cons rfl (.cons ⟨t, rfl⟩ .nil)) (hsp z)) (fun r s2 y => ?_) fun _ _ e => ?_))
      · obtain ⟨zv, H', I2, r2, rfl, rfl⟩ := y
        cases r2
        exact ⟨(fun e => nomatch e), false, rfl, rfl, I2⟩
      · exact e
  show wpAny _ X.A (do return Value.bool (← contains (.ref p) v)) _ _ s
  refine wpAny_bind (wpAny_contains_slot hT PySem.F.slot_tuple_contains (wpAny_mono key (fun r s' z => ?_) fun _ _ e => e))
  obtain ⟨rfl, I'⟩ := z
  exact wpAny_truthy_bool (wpAny_pure ⟨.bl false, H, I', rfl, q⟩)
end
end RL
namespace RL
open PySem PySem.Spec PyProof.Rows L2 OW
section
variable {X : Cx}
/-- an own == beside a dict -/
def rOwnEqD (K : PySem.W.Frag) (C : Addr) (sp : Sp) (E : XK) : R2 := fun x y H Q => ∃ a dx fs b kvs, x = .ref a ∧ H a = some (.ins C dx fs) ∧ y = .ref b ∧ H b = some (.dK kvs) ∧ PySem.W.notFirst K C (.type "dict") = true ∧ sp [x, y] H Q E
theorem dict_looks {pins : List (Addr × Obj)} {σ : L2.St} {H : Hp} {s : Shared} {b : Addr} {kvs : List (Key × V)} (I : Inv X pins σ H s) (hb : H b = some (.dK kvs)) : PySem.W.Looks (model X.prog X.w) s.heap (typeOf (.ref b)) (.type "dict") := by
  obtain ⟨_, _, va, _, da⟩ := dk_of I.hok hb
  obtain ⟨o, es, ep, ho, hx, _⟩ := da
  exact tyd_at ho hx.1
theorem op_ownEqD {CX : CXT} {n : Nat} {C f : Addr} {fd : FuncData} {ps : List Str} {sp : Sp} {E : XK} (F : FnOk X.prog X.w X.K X.mg X.base CX n f fd ps sp) (o : OwnEq X C f) (hr : Room n X.A) (hb : Binds X.K fd ps []) (hx : Passes CX X E) :
    OpR X (compareOp .Eq) (rOwnEqD X.K C sp E) := by
  intro pins s σ H x y v u Q I rx ry h
  obtain ⟨a, dx, fs, b, kvs, rfl, ha, rfl, hb', nf, q⟩ := h
  cases rx
  cases ry
  obtain ⟨mA, O, _⟩ := ins_get I.hok ha
  obtain ⟨od, J, _⟩ := O.look
  show wpAny _ _ (richCompare .Eq (.ref a) (.ref b)) _ _ _
  refine cmp_left hr.units0 I.kIn J (dict_looks I hb') nf ?_
  unfold tryCompare
  refine wpAny_bind (PySem.W.ifBound_K I.kIn J o.fs o.fn (wpAny_mono (run_at F ⟨hr, rfl⟩ hb hx I (vs := [.ref a, .ref b]) (.cons rfl (.cons rfl .nil)) q) (fun v s' z => ?_) fun _ _ e => e))
  obtain ⟨zv, H', I', r', q'⟩ := z
  refine not_ni r' fun ne => ?_
  cases v <;> first | exact absurd rfl ne | exact wpAny_pure ⟨_, rfl, zv, H', I', r', q'⟩
def rOwnNeD (K : PySem.W.Frag) (C : Addr) (sp : Sp) (E : XK) : R2 := fun x y H Q => ∃ a dx fs b kvs, x = .ref a ∧ H a = some (.ins C dx fs) ∧ y = .ref b ∧ H b = some (.dK kvs) ∧ PySem.W.notFirst K C (.type "dict") = true ∧ sp [x, y] H (fun v H' => ∃ b, v = .bl b ∧ Q (.bl (!b)) H') E
theorem op_ownNeD {CX : CXT} {n : Nat} {C f : Addr} {fd : FuncData} {ps : List Str} {sp : Sp} {E : XK} (F : FnOk X.prog X.w X.K X.mg X.base CX n f fd ps sp) (o : OwnEq X C f) (hm : PySem.W.mroIn X.K C (.type "object") = some true)
    (hn : PySem.W.findIn X.K (.ref C) "__ne__" = some (some (.builtin "object.__ne__"))) (hr : Room (n + 1) X.A) (hb : Binds X.K fd ps []) (hx : Passes CX X E) :
    OpR X (compareOp .NotEq) (rOwnNeD X.K C sp E) := by
  intro pins s σ H x y v u Q I rx ry h
  obtain ⟨a, dx, fs, b, kvs, rfl, ha, rfl, hb', nf, q⟩ := h
  cases rx
  cases ry
  obtain ⟨mA, O, _⟩ := ins_get I.hok ha
  obtain ⟨od, J, _⟩ := O.look
  show wpAny _ _ (richCompare .NotEq (.ref a) (.ref b)) _ _ _
  refine cmp_left hr.units0 I.kIn J (dict_looks I hb') nf ?_
  refine ne_left hr.in1.units0 I.kIn J hm hn o.fs o.fn (wpAny_mono (run_at F ⟨hr.in1, rfl⟩ hb hx I (vs := [.ref a, .ref b]) (.cons rfl (.cons rfl .nil)) q) (fun v s' z => ?_) fun _ _ e => e)
  obtain ⟨zv, H', I', r', b, rfl, q'⟩ := z
  cases r'
  exact ⟨b, rfl, .bl (!b), H', I', rfl, q'⟩
end
end RL
/-! tuple(d) of a dict with int and text keys -/
namespace RL
open PySem PySem.Spec PyProof.Rows L2
section
variable {prog : Program} {w : World} {A : Around} {E : Value → Shared → Prop} {s : Shared} {T : String} {r d : Addr} {n : Nat} {Pk : Nat → Value → Prop} {OK : Heap → Prop}
theorem collect_kdl {Q : List Value → Shared → Prop} (Ks : PySem.W.KdlSrc prog w T r d n Pk OK) (hh : A.handled = none) (hok : OK s.heap) (hn : n ≤ sizeLine)
    (hQ : ∀ (h' : Heap) (tk : Nat) (acc : Array Value), (∀ b o, s.heap.get? b = some o → h'.get? b = some o) → ItemsOf Pk acc n → Q acc.toList { s with heap := h', toks := tk }) :
    wpAny (model prog w) A (collect (.ref r)) Q E s := by
  unfold collect
  refine wpAny_bind (wpAny_runValue
                                    (codeAny_builtin F.entry_proto_collect ?_))
  rw [Around.under_plainId F.plain_proto_collect _]
  show wpAny _ A.in1 (newList [] >>= fun l => again
                                                    (.builtin "list.__iadd__" ⟨[l, .ref r], []⟩)) _ _ s
  refine wpAny_bind (wpAny_newObj_type ?_)
  refine wpAny_pure
                    ⟨plainId_quiet F.plain_list_iadd _, codeAny_builtin F.entry_list_iadd ?_⟩
  rw [Around.under_plainId F.plain_list_iadd _]
  show wpAny _ A.in1 (Builtin.List.listExtendWith
                                                  (.ref s.heap.objs.size) (.ref r) (.ref s.heap.objs.size)) _ _ _
  have hS : (s.heap.push { cls := .type "list", data := .seq ([] : List Value).toArray }).get? s.heap.objs.size = some
                                                                                                                       { cls := .type "list", data := .seq #[] 0 } := Heap.get?_push_size _ rfl
  have th := Ks.there _ hok
  refine wpAny_mono (PySem.W.kdl_extend (A := A) (R := fun rr s' => rr = .ok (.ret (.ref s.heap.objs.size)) ∧ ∃ (h' : Heap) (tk : Nat) (acc : Array Value) (c' : Nat), s' = { s with heap := h', toks := tk } ∧
      (∀ b o, s.heap.get? b = some o → h'.get? b = some o) ∧ h'.get? s.heap.objs.size = some { cls := .type "list", dict := none, data := .seq acc c', slots := #[] } ∧ ItemsOf Pk acc n)
    (s := { s with heap := s.heap.push { cls := .type "list", data := .seq ([] : List Value).toArray } }) Ks hh (Ks.keep _ _ hok fun b _ o e => Heap.get?_push_of_some _ e) _ (Nat.ne_of_gt th.1) (Nat.ne_of_gt th.2) _ 0 hS
    (fun h' tk acc c' hk e hi => ⟨rfl, h', tk, acc, c', rfl, fun b o q => hk b o (Nat.ne_of_lt (Heap.lt_size q)) (Heap.get?_push_of_some _ q), e, hi⟩) hn) (fun fin s' h => ?_) (fun e s' h => ?_)
  · cases fin with
    | done f =>
      obtain ⟨e, h', tk, acc, c', rfl, hk, hS', hi⟩ := h
      cases e
      show wpAny _ A (load s.heap.objs.size >>= _) _ _ _
      exact wpAny_bind (wpAny_load hS'
                                       (wpAny_pure (hQ h' tk acc hk hi)))
    | again c' =>
      refine ⟨h.1, codeAny_mono h.2 fun rr s'' hr' => ?_⟩
      obtain ⟨rfl, h', tk, acc, c', rfl, hk, hS', hi⟩ := hr'
      show wpAny _ A (load s.heap.objs.size >>= _) _ _ _
      exact wpAny_bind (wpAny_load hS'
                                       (wpAny_pure (hQ h' tk acc hk hi)))
  · exact absurd h.1 (by simp)
theorem call_tuple_kdl {Q : Value → Shared → Prop} (Ks : PySem.W.KdlSrc prog w T r d n Pk OK) (hh : A.handled = none) (hok : OK s.heap) (hn : n ≤ sizeLine)
    (hQ : ∀ (h' : Heap) (tk : Nat) (acc : Array Value), (∀ b o, s.heap.get? b = some o → h'.get? b = some o) → ItemsOf Pk acc n → Q (.ref h'.objs.size) { s with heap := h'.push { cls := .type "tuple", data := .seq acc }, toks := tk }) :
    wpAny (model prog w) A (call
                                 (.type "tuple") [.ref r]) Q E s := by
  refine callType_codes (Q₁ := fun obj s₁ => s₁.TypeIs obj "tuple" ∧ Q obj s₁) F.called_tuple
                                                                                              (F.typeCall_tuple_1 _) F.entry_object_init
    ?_ fun obj s₁ h₁ => ⟨h₁.1, F.args_object_init_2 obj _, object_init_meets F.called_tuple.init.lookup F.called_tuple.made (by decide) prog w A.in1 _ s₁ ⟨h₁.1, rfl, h₁.2⟩⟩
  refine codeAny_of_tree ?_
  show wpAny _ A.in1.in1 (do checkBuiltinCall "tuple.__new__" ⟨[.type "tuple", .ref r], []⟩; again (.builtin "tuple.__new__" ⟨[.type "tuple", .ref r], []⟩)) _ _ s
  refine wpAny_bind (wpAny_of_eq (F.newCall_tuple_1 _) (wpAny_pure
                                                                   ⟨plainId_quiet F.plain_tuple_new _, codeAny_builtin F.entry_tuple_new ?_⟩))
  rw [Around.under_plainId F.plain_tuple_new _]
  have hsub := sub_tuple_self
  have hinit := init_tuple_lookup
  have hmh := madeHere_tuple
  have hTI : s.TypeIs (.ref r) T := Ks.type s hok
  have hh1 : A.in1.in1.handled = none := hh
  have hnt : (Value.type T == Value.type "tuple") = false := Ks.notTuple
  wp_walk using wpAny_typeOf hTI, collect_kdl (A := A.in1.in1) Ks hh1 hok hn
  intro h' tk acc hk hacc
  show wpAny _ _
                 (Builtin.Tuple.tupleExact acc.toList.toArray >>= fun v => ret v) _ _ _
  unfold Builtin.Tuple.tupleExact
  refine wpAny_bind (wpAny_newObj_type ?_
                                          (by show acc.toList.toArray.size ≤ sizeLine; simp only [Array.toArray_toList]; rw [hacc.1]; exact hn))
  refine wpAny_pure ?_
  have e : acc.toList.toArray = acc := by simp
  rw [e]
  exact ⟨⟨_, Heap.get?_push_size _ rfl, rfl⟩, hQ h' tk acc hk hacc⟩
end
section
variable {X : Cx}
def rTupD : List V → Hp → VK → Prop := fun xs H Q => ∃ (p : Addr) (kvs : List (Key × V)), xs = [.ref p] ∧ H p = some (.dK kvs) ∧ ∀ q, H q = none → Q (.ref q) (upd H q (.tup (kvs.map fun kv => kV kv.1)))
theorem cr_tupD (hc : X.calm = true) : CallR X (.type "tuple") rTupD := by
  intro pins s σ H xs us Q I r h
  obtain ⟨p, kvs, rfl, hk, q⟩ := h
  obtain ⟨u, rfl, rx⟩ := vals1 r
  obtain rfl : u = Value.ref p := rx
  obtain ⟨z, lo, vs, rk, hd⟩ :=
                                (show ObjOk X.prog X.w H s.heap p (.dK kvs) from I.hok p _ hk)
  obtain ⟨ep, hat⟩ := hd.dictAt
  have hl : kvs.length = vs.length := Paired.length rk
  refine call_tuple_kdl (PySem.W.kdl_dict (knd := mixKind X.prog X.w) (kvs := vs) (ep := ep) lo) (I.ok.hd hc) hat (by rw [← hl]; exact z) fun h' tk acc hkeep hacc => ?_
  have el : acc.toList.length = acc.size := by simp
  have I2 : Inv X pins σ H { s with heap := h', toks := tk } := I.kept hkeep
  refine ⟨.ref h'.objs.size, upd H h'.objs.size (.tup (kvs.map fun kv => kV kv.1)), I2.laid (t' := tk) (fun c o e => Heap.get?_push_of_some _ e) (Nat.le_refl _) (show ObjOk X.prog X.w _ _ _ (.tup (kvs.map fun kv => kV kv.1)) from ⟨by rw [List.length_map]; exact z, acc.toList, ?_, ?_⟩), rfl, q _ (I2.hok.fresh (Nat.le_refl _))⟩
  · refine vals_of_at (by rw [List.length_map, el, hacc.1, hl]) fun j x w h1 h2 => ?_
    obtain ⟨k, y, hky, hi⟩ := hacc.2 j w
                                         (by rw [← Array.getElem?_toList]; exact h2)
    have e1 : (kvs.map (·.1))[j]? = some k := by
      rw [KV.keys rk, List.getElem?_map, hky] <;> rfl
    have e2 :
              (kvs.map fun kv => kV kv.1)[j]? = some (kV k) := by
      have e3 : (kvs.map fun kv => kV kv.1) = (kvs.map
                                                       (·.1)).map kV := by rw [List.map_map] <;> rfl
      rw [e3, List.getElem?_map, e1] <;> rfl
    rw [e2] at h1
    cases h1
    exact keyIs_rel hi
  · rw [Array.toArray_toList]
    exact IsTup.new _ _
end
end RL
namespace K38
open PySem L2
open PyProof.Rows PySem.Spec
/-- a property of the class -/
structure Pp (K : PySem.W.Frag) (C : Addr) (x qual : Str) (st : Stmt) where
  p : Addr
  g : Addr
  d : FuncData
  F : FunD K x qual (defArgs st) (defBody st) (defScope st) [] [] g d
  pr : PropOf K C x p g
  b : Binds K d ["self"] []
/-- a method of the class -/
structure Mt (K : PySem.W.Frag) (C : Addr) (x qual : Str) (st : Stmt) (ps : List Str) where
  f : Addr
  d : FuncData
  F : FunD K x qual (defArgs st) (defBody st) (defScope st) [] [] f d
  m : Meth K C x f
  b : Binds K d ps []
/-- a method with a parameter for more names -/
structure Ms (K : PySem.W.Frag) (C : Addr) (x qual : Str) (st : Stmt) where
  f : Addr
  d : FuncData
  F : Fun K x qual st f d
  m : Meth K C x f
structure UX (K : PySem.W.Frag) (mg : Str → Option Value) where
  C : Addr
  mC : mg "Spans" = some (.ref C)
  cl : Cls K C
  fI : Addr
  dI : FuncData
  FI : FunD K "__init__" "Spans.__init__" (defArgs s_Spans_init) (defBody s_Spans_init) (defScope s_Spans_init) [] [] fI dI
  mkI : Mk K C fI
  bI : Binds K dI ["self", "interval", "rows"] []
  n1 : NoAttr K C "_interval"
  n2 : NoAttr K C "_rows"
  n3 : NoAttr K C "_names"
  n4 : NoAttr K C "_living"
  n5 : NoAttr K C "_crossing"
  pr : Pp K C "rows" "Spans.rows" s_Spans_rows
  pm : Pp K C "most" "Spans.most" s_Spans_most
  pp : Pp K C "peaks" "Spans.peaks" s_Spans_peaks
  pt : Pp K C "total" "Spans.total" s_Spans_total
  ms : Mt K C "_sums" "Spans._sums" s_Spans_sums ["self", "counts", "names"]
  mh : Mt K C "_chosen" "Spans._chosen" s_Spans_chosen ["self", "names"]
  mf : Mt K C "_full_slots" "Spans._full_slots" s_Spans_full_slots ["self", "names"]
  me : Mt K C "each_alive" "Spans.each_alive" s_Spans_each_alive ["self", "tick"]
  ma : Ms K C "alive" "Spans.alive" s_Spans_alive
  mc : Ms K C "across" "Spans.across" s_Spans_across
  mi : Ms K C "is_full" "Spans.is_full" s_Spans_is_full
  mo : Ms K C "most_of" "Spans.most_of" s_Spans_most_of
/-- what spans keep -/
def spF (t : Int) (rd nm : Addr) (lv cr : V) : List (Str × V) := putF "_crossing" cr (putF "_living" lv (putF "_names" (.ref nm) (putF "_rows" (.ref rd) (putF "_interval" (.int t) []))))
/-- how often a value is alive in a tick -/
def alv (t b e s : Int) : Int := (s - b) / t - (s - e) / t
def cntL (t b e : Int) : List V := (List.range t.toNat).map fun (s : Nat) => V.int (alv t b e (s : Int))
/-- the counts that are kept: k is 0, or 1 for those across the moments -/
inductive Cts (H : Hp) (t k : Int) : List (Str × Addr) → Rws → Prop
  | nil : Cts H t k [] []
  | cons {n : Str} {a : Addr} {b e : Int} {L : List (Str × Addr)} {R : Rws} : H a = some (.lst (cntL t (b + k) e)) → Cts H t k L R → Cts H t k ((n, a) :: L) ((n, b, e) :: R)
theorem Cts.keep {H H' : Hp} {t k : Int} : ∀ {L : List (Str × Addr)} {R : Rws}, (∀ x ∈ L, ∀ xs, H x.2 = some (.lst xs) → H' x.2 = some (.lst xs)) → Cts H t k L R → Cts H' t k L R
  | _, _, _, .nil => .nil
  | _, _, kp, .cons h c => .cons (kp _ List.mem_cons_self _ h) (Cts.keep (fun x hx => kp x (List.mem_cons_of_mem _ hx)) c)
theorem Cts.same {H H' : Hp} {t k : Int} {L : List (Str × Addr)} {R : Rws} (s : Same H H') (h : Cts H t k L R) : Cts H' t k L R := h.keep fun _ _ _ e => s _ _ e
theorem Cts.names {H : Hp} {t k : Int} : ∀ {L : List (Str × Addr)} {R : Rws}, Cts H t k L R → L.map (·.1) = R.map (·.1)
  | _, _, .nil => rfl
  | _, _, .cons _ c => by rw [List.map_cons, List.map_cons, Cts.names c]
theorem Cts.snoc {H : Hp} {t k : Int} {n : Str} {a : Addr} {b e : Int} (q : H a = some (.lst (cntL t (b + k) e))) : ∀ {L : List (Str × Addr)} {R : Rws}, Cts H t k L R → Cts H t k (L ++ [(n, a)]) (R ++ [(n, b, e)])
  | _, _, .nil => .cons q .nil
  | _, _, .cons h c => .cons h (Cts.snoc q c)
theorem Cts.lst {H : Hp} {t k : Int} : ∀ {L : List (Str × Addr)} {R : Rws}, Cts H t k L R → ∀ x ∈ L, ∃ xs, H x.2 = some (.lst xs)
  | _, _, .nil, x, hx => by cases hx
  | _, _, .cons h c, x, hx => by
    rcases List.mem_cons.mp hx with rfl | hx
    · exact ⟨_, h⟩
    · exact Cts.lst c x hx
theorem Cts.put {H : Hp} {t k : Int} {d : Addr} {o u : HO} (hd : H d = some u) (n : ∀ xs, u ≠ .lst xs) {L : List (Str × Addr)} {R : Rws} (h : Cts H t k L R) : Cts (upd H d o) t k L R := h.keep fun x _ xs e => by
  rw [upd_ne (fun z => n xs (by rw [z, hd] at e; exact Option.some.inj e))]
  exact e
/-- spans stand at p: S is their rows in the order of names; nothing of them is at r -/
def SpAt (H : Hp) (C p : Addr) (t : Int) (S : Rws) (r : Addr) : Prop := Good t S ∧ sortedS (S.map (·.1)) = true ∧ ∃ dx rd nm lv cr L LL LC, H p = some (.ins C dx (spF t rd nm (.ref lv) (.ref cr))) ∧ H rd = some (.dK (Kvs L)) ∧ Tups H L S ∧ H nm = some (.tup ((S.map (·.1)).map V.str)) ∧
  H lv = some (.dK (Kvs LL)) ∧ Cts H t 0 LL S ∧ H cr = some (.dK (Kvs LC)) ∧ Cts H t 1 LC S ∧ (∀ x ∈ LL, x.2 ≠ r) ∧ ∀ x ∈ LC, x.2 ≠ r
theorem SpAt.same {H H' : Hp} {C p : Addr} {t : Int} {S : Rws} {r : Addr} (s : Same H H') (h : SpAt H C p t S r) : SpAt H' C p t S r := by
  obtain ⟨g, so, dx, rd, nm, lv, cr, L, LL, LC, h1, h2, h3, h4, h5, h6, h7, h8, h9⟩ := h
  exact ⟨g, so, dx, rd, nm, lv, cr, L, LL, LC, s _ _ h1, s _ _ h2, h3.keep (KT.same s), s _ _ h4, s _ _ h5, h6.same s, s _ _ h7, h8.same s, h9⟩
theorem SpAt.only {H H' : Hp} {C p r : Addr} {t : Int} {S : Rws} (o : Only r H H') (hr : Rl H r) (h : SpAt H C p t S r) : SpAt H' C p t S r := by
  obtain ⟨g, so, dx, rd, nm, lv, cr, L, LL, LC, h1, h2, h3, h4, h5, h6, h7, h8, h9, h10⟩ := h
  have ne : ∀ {a : Addr} {u : HO}, H a = some u → (∀ xs, u ≠ .lst xs) → a ≠ r := fun e n w => by
    obtain ⟨x, y, z, q⟩ := hr
    rw [w, q] at e
    exact n _ (Option.some.inj e).symm
  exact ⟨g, so, dx, rd, nm, lv, cr, L, LL, LC, o _ _ (ne h1 (fun _ z => by cases z)) h1, o _ _ (ne h2 (fun _ z => by cases z)) h2, h3.keep (KT.only o hr), o _ _ (ne h4 (fun _ z => by cases z)) h4,
    o _ _ (ne h5 (fun _ z => by cases z)) h5, h6.keep (fun x hx _ e => o _ _ (h9 x hx) e), o _ _ (ne h7 (fun _ z => by cases z)) h7, h8.keep (fun x hx _ e => o _ _ (h10 x hx) e), h9, h10⟩
theorem Good.perm {t : Int} {R S : Rws} (g : Good t R) (p : S.Perm R) : Good t S :=
  ⟨(p.map (·.1)).nodup_iff.mpr g.nd, by rw [p.length_eq]; exact g.l1, by rw [p.length_eq]; exact g.l8, fun x hx => g.nm x (p.mem_iff.mp hx), fun x hx => g.sp x (p.mem_iff.mp hx), fun x hx => g.nr x (p.mem_iff.mp hx), g.t1, g.t2⟩
theorem kvs_kv (L : List (Str × Addr)) : ((Kvs L).map fun kv => kV kv.1) = (L.map (·.1)).map V.str := by
  unfold Kvs
  rw [List.map_map, List.map_map]
  rfl
theorem tups_at {H : Hp} : ∀ {L : List (Str × Addr)} {S : Rws}, Tups H L S → ∀ (i : Nat) (a : V), ((Kvs L)[i]?.map Prod.snd) = some a → ∃ n t b e, a = .ref t ∧ S[i]? = some (n, b, e) ∧ TupAt H t b e ∧ L[i]? = some (n, t)
  | _, _, .nil, i, a, h => by simp [Kvs] at h
  | _, _, .cons (n := n) (t := t) (b := b) (e := e) q ts, 0, a, h => ⟨n, t, b, e, (Option.some.inj h).symm, rfl, q, rfl⟩
  | _, _, .cons q ts, i + 1, a, h => by
    obtain ⟨n, t, b, e, h1, h2, h3, h4⟩ := tups_at ts i a (by simpa [Kvs] using h)
    exact ⟨n, t, b, e, h1, by simpa using h2, h3, by simpa using h4⟩
section
variable {P : Program} {w : World} {K : PySem.W.Frag}
                                                      {mg : Str → Option Value} {base : Heap}
/-- all but p is kept -/
def But (p : Addr) (H H' : Hp) : Prop := ∀ b o, b ≠ p → H b = some o → H' b = some o
theorem But.trans {p : Addr} {H H1 H2 : Hp} (a : But p H H1) (b : But p H1 H2) : But p H H2 := fun c o n e => b c o n (a c o n e)
theorem But.same {p : Addr} {H H' : Hp} (s : Same H H') : But p H H' := fun b o _ e => s b o e
theorem But.upd {p : Addr} {H : Hp} {o : HO} : But p H (upd H p o) := fun b u n e => by rw [upd_ne n]; exact e
theorem But.kt {p : Addr} {H H' : Hp} (s : But p H H') (h : ∀ xs, H p ≠ some (.tup xs)) : KT H H' := fun t xs e => s t _ (fun w => h xs (w ▸ e)) e
def sp_init (K : PySem.W.Frag) (C : Addr) : Sp := fun vs H Q _ => ∃ (p d dx : Addr) (t : Int) (L : List (Str × Addr)) (R : Rws), vs = [.ref p, .int t, .ref d] ∧ H p = some (.ins C dx []) ∧ H d = some (.dK (Kvs L)) ∧ Tups H L R ∧ Good t R ∧
  ∀ S H', But p H H' → (∀ r, H r ≠ none → SpAt H' C p t S r) → Srd R S → Q .non H'
theorem ok_init (T : T K mg) (U : UX K mg) : FnOk P w K mg base CX0 6 U.fI U.dI ["self", "interval", "rows"] (sp_init K U.C) := by
  have G_are_rows : FnOk P w K mg base CX0 3 T.f_are_rows T.d_are_rows ["interval", "value"] (sp_are_rows K) := ok_are_rows T
  have G_check_interval : FnOk P w K mg base CX0 4 T.f_check_interval T.d_check_interval ["value"] (sp_check_interval K) := ok_check_interval T
  have G_times_alive : FnOk P w K mg base CX0 5 T.f_times_alive T.d_times_alive ["begin", "end", "tick", "interval"] (sp_times_alive K) := ok_times_alive T
  refine U.FI.ok sc_Spans_init (fun vs H Q E h => ?_) (fun cdv A outer s H vs Q E hr h => ?_)
  · obtain ⟨p, d, dx, t, L, R, rfl, _⟩ := h
    rfl
  · obtain ⟨p, d, dx, t, L, R, rfl, hp, hd, ts, gd, k⟩ := h
    have hu := hu_of hr
    have hr_are_rows : Room 3 _ := hr.mono (by decide)
    have hr_check_interval : Room 4 _ := hr.mono (by decide)
    have hr_times_alive : Room 5 _ := hr.mono (by decide)
    refine ⟨_, (pss_cons (ps_expr (pe_call G_check_interval hr_check_interval rfl T.m_check_interval T.F_check_interval.kp T.b_check_interval .nil pass0 (pa_cons (pv 1) pa_nil)))
      (pss_cons (ps_if (pt_not (pt_val (pe_call G_are_rows hr_are_rows rfl T.m_are_rows T.F_are_rows.kp T.b_are_rows .nil pass0 (pa_cons (pv 1) (pa_cons (pv 2) pa_nil)))))
      (pss_one ps_never)
      pss_nil)
      (pss_cons (ps_fld (pv 0) (pv 1) rfl)
      (pss_cons (ps_fld (pv 0) (pe_dc (own := [("name", 3)]) (g := gName 3) rfl sc_Spans_init.nd (pi_list (pe_callB (call_sortedD rfl) (by rfl) T.z_sorted (by decide +kernel) (pa_cons (pv 2) pa_nil))) (blkOk_by (N := ["self", "interval", "rows", "name", "begin", "end", "slot"]) (sc := defScope s_Spans_init) (by decide +kernel)) (fun _ _ _ _ _ => (pg_name (i := 3) sc_Spans_init.nd rfl (Or.inl rfl))) (fun _ _ _ _ _ => pts_nil) (fun _ _ _ _ _ => (pv 3)) (fun _ _ _ _ _ => (pe_dget (by exact hu) (pv 2) (pv 3) (fun _ _ => rfl)))) rfl)
      (pss_cons (ps_fld (pv 0) (pe_callTy (RL.cr_tupD rfl) (by rfl) T.z_tuple (by decide +kernel) (pa_cons (pe_fld (pv 0) rfl) pa_nil)) rfl)
      (pss_cons (ps_fld (pv 0) (pe_lock (pe_dc (own := [("name", 3), ("begin", 4), ("end", 5)]) (g := gTup K 2 (gCons (gName 3) (gCons (gTup K 2 (gCons (gName 4) (gCons (gName 5) gNil))) gNil))) rfl sc_Spans_init.nd (pi_items (pe_fld (pv 0) rfl)) (blkOk_by (N := ["self", "interval", "rows", "name", "begin", "end", "slot"]) (sc := defScope s_Spans_init) (by decide +kernel)) (fun _ _ _ _ _ => (pg_tup rfl (pgs_cons (pg_name (i := 3) sc_Spans_init.nd rfl (Or.inl rfl)) (pgs_cons (pg_tup rfl (pgs_cons (pg_name (i := 4) sc_Spans_init.nd rfl (Or.inr rfl)) (pgs_cons (pg_name (i := 5) sc_Spans_init.nd rfl (Or.inr rfl)) pgs_nil))) pgs_nil)))) (fun _ _ _ _ _ => pts_nil) (fun _ _ _ _ _ => (pv 3)) (fun _ _ _ _ _ => (pe_lc (own := [("slot", 6)]) (g := gName 6) rfl sc_Spans_init.nd (pi_range1 (by rfl) T.z_range (pa_cons (pv 1) pa_nil)) (blkOk_by (N := ["self", "interval", "rows", "name", "begin", "end", "slot"]) (sc := _) (by rfl)) (fun _ _ _ _ _ => (pg_name (i := 6) sc_Spans_init.nd rfl (Or.inl rfl))) (fun _ _ _ _ _ => pts_nil) (fun _ _ _ _ _ => (pe_call G_times_alive hr_times_alive rfl T.m_times_alive T.F_times_alive.kp T.b_times_alive .nil pass0 (pa_cons (pv 4) (pa_cons (pv 5) (pa_cons (pv 6) (pa_cons (pv 1) pa_nil)))))))))) rfl)
      (pss_one (ps_fld (pv 0) (pe_lock (pe_dc (own := [("name", 3), ("begin", 4), ("end", 5)]) (g := gTup K 2 (gCons (gName 3) (gCons (gTup K 2 (gCons (gName 4) (gCons (gName 5) gNil))) gNil))) rfl sc_Spans_init.nd (pi_items (pe_fld (pv 0) rfl)) (blkOk_by (N := ["self", "interval", "rows", "name", "begin", "end", "slot"]) (sc := defScope s_Spans_init) (by decide +kernel)) (fun _ _ _ _ _ => (pg_tup rfl (pgs_cons (pg_name (i := 3) sc_Spans_init.nd rfl (Or.inl rfl)) (pgs_cons (pg_tup rfl (pgs_cons (pg_name (i := 4) sc_Spans_init.nd rfl (Or.inr rfl)) (pgs_cons (pg_name (i := 5) sc_Spans_init.nd rfl (Or.inr rfl)) pgs_nil))) pgs_nil)))) (fun _ _ _ _ _ => pts_nil) (fun _ _ _ _ _ => (pv 3)) (fun _ _ _ _ _ => (pe_lc (own := [("slot", 6)]) (g := gName 6) rfl sc_Spans_init.nd (pi_range1 (by rfl) T.z_range (pa_cons (pv 1) pa_nil)) (blkOk_by (N := ["self", "interval", "rows", "name", "begin", "end", "slot"]) (sc := _) (by rfl)) (fun _ _ _ _ _ => (pg_name (i := 6) sc_Spans_init.nd rfl (Or.inl rfl))) (fun _ _ _ _ _ => pts_nil) (fun _ _ _ _ _ => (pe_call G_times_alive hr_times_alive rfl T.m_times_alive T.F_times_alive.kp T.b_times_alive .nil pass0 (pa_cons (pe_op op_add (pv 4) pe_int) (pa_cons (pv 5) (pa_cons (pv 6) (pa_cons (pv 1) pa_nil)))))))))) rfl)))))))), ?_⟩
    refine ⟨_, rfl, t, rfl, gd.t1, gd.t2, ?_⟩
    refine ⟨_, rfl, _, rfl, t, d, L, R, rfl, hd, ts, gd, fun H1 S1 => ⟨_, rfl, iteF ?_⟩⟩
    have h1p := S1 _ _ hp
    have h1d := S1 _ _ hd
    have h1T := ts.keep (KT.same S1)
    have ndp : d ≠ p := fun z => by rw [z, hp] at hd; cases hd
    refine ⟨_, rfl, _, rfl, p, U.C, dx, _, rfl, h1p, U.cl, U.n1, (by show 0 < 1000; decide), ?_⟩
    have h2p : (upd H1 p (.ins U.C dx (putF "_interval" (.int t) []))) p = some (.ins U.C dx (putF "_interval" (.int t) [])) := upd_same
    have B2 : But p H (upd H1 p (.ins U.C dx (putF "_interval" (.int t) []))) := But.trans (But.same S1) But.upd
    have h2d : (upd H1 p (.ins U.C dx (putF "_interval" (.int t) []))) d = some (.dK (Kvs L)) := by rw [upd_ne ndp]; exact h1d
    have h2T := h1T.keep (KT.put (o := .ins U.C dx (putF "_interval" (.int t) [])) h1p (fun _ z => by cases z))
    generalize upd H1 p (.ins U.C dx (putF "_interval" (.int t) [])) = H2 at h2p B2 h2d h2T ⊢
    clear h1p h1d h1T S1
    -- _rows
    refine ⟨_, rfl, d, _, L.map (·.1), rfl, .inl h2d, kvs_keys L, by rw [List.length_map, ts.len]; have := gd.l8; omega, fun ys q pm so hq => ?_⟩
    have S3 := Same.new (o := .lst (ys.map V.str)) hq
    have eq3 : (upd H2 q (.lst (ys.map V.str))) q = some (.lst (ys.map V.str)) := upd_same
    generalize upd H2 q (.lst (ys.map V.str)) = H3 at S3 eq3 ⊢
    rw [ts.names] at pm
    refine ⟨q, rfl, ⟨_, SqL.of eq3⟩, fun D hD => ?_⟩
    have nDp : D ≠ p := fun z => by rw [z, S3 _ _ h2p] at hD; cases hD
    refine dc_it walk_list (fun i H' => Same H3 H' ∧ ∃ M, H' D = some (.dK (Kvs M)) ∧ Tups H' M (pickR R (ys.take i))) ⟨Same.new hD, [], upd_same, .nil⟩ (fun i H' _ h => SqL.of (h.1 _ _ eq3)) ?_ ?_
    · rintro i x Ha Hb hi ⟨Sa, M, eD, tm⟩ ⟨rfl, hx⟩
      refine ⟨rfl, ?_⟩
      unfold tYes
      dsimp only
      rw [if_pos rfl]
      rw [List.getElem?_map] at hx
      cases e2 : ys[i]? with
      | none => rw [e2] at hx; cases hx
      | some n =>
        rw [e2] at hx
        cases hx
        have hn : n ∈ R.map (·.1) := pm.mem_iff.mp (List.mem_of_getElem? e2)
        have Sc := Same.trans S3 Sa
        have ts2 := h2T.keep (KT.same Sc)
        obtain ⟨t', b, e, hv, ht, hm⟩ := ts2.get hn
        refine ⟨_, rfl, _, rfl, _, rfl, d, V.ref t', rfl, ?_, ?_⟩
        · have := DGet.k (k := Sum.inr n) (Sc _ _ h2d)
          rw [hv] at this
          exact this
        have nyd : ys.Nodup := pm.nodup_iff.mpr gd.nd
        have hnM : n ∉ M.map (·.1) := by
          rw [tm.names, pickR_names]
          intro hm2
          have nd2 := nyd
          rw [← List.take_append_drop i ys] at nd2
          have hd2 : n ∈ ys.drop i := by
            rw [List.mem_iff_getElem?]
            exact ⟨0, by rw [List.getElem?_drop]; exact e2⟩
          exact (List.nodup_append.mp nd2).2.2 n hm2 n hd2 rfl
        have li : i < ys.length := (List.getElem?_eq_some_iff.mp e2).1
        have l8' : ys.length ≤ 8 := by rw [pm.length_eq, List.length_map]; exact gd.l8
        have lM : M.length ≤ 8 := by
          rw [tm.len, ← List.length_map (f := (·.1)) (as := pickR R (ys.take i)), pickR_names, List.length_take]
          omega
        refine ⟨Kvs M, Sum.inr n, rfl, eD, by rw [kvs_len, sizeLine_eq]; omega, Same.at hD Sa, M ++ [(n, t')], by rw [upd_same, putK_kvs hnM], ?_⟩
        have kt : KT Hb (upd Hb D (.dK (putK (Kvs M) (.inr n) (.ref t')))) := KT.put eD (fun _ z => by cases z)
        rw [List.take_add_one, e2]
        show Tups _ _ (pickR R (ys.take i ++ [n]))
        rw [pickR_snoc R _ n (lookup_mem gd.nd hm)]
        exact (tm.keep kt).snoc (kt _ _ ht)
    rintro H4 ⟨S4, M, h4D, h4T⟩
    have hDn : H D = none := by
      cases z : H D with
      | none => rfl
      | some o =>
        have := S3 _ _ (B2 _ _ nDp z)
        rw [hD] at this
        cases this
    rw [List.length_map, List.take_length] at h4T
    have gS : Good t (pickR R ys) := gd.perm (pickR_perm gd.nd pm)
    have B4 : But p H H4 := But.trans B2 (But.same (Same.trans S3 S4))
    have h4p := S4 _ _ (S3 _ _ h2p)
    clear h2p B2 h2d h2T S3 eq3 hD hq S4
    refine ⟨_, rfl, p, U.C, dx, _, rfl, h4p, U.cl, U.n2, (by show 1 < 1000; decide), ?_⟩
    have h5p : (upd H4 p (.ins U.C dx (putF "_rows" (.ref D) (putF "_interval" (.int t) [])))) p = some (.ins U.C dx (putF "_rows" (.ref D) (putF "_interval" (.int t) []))) := upd_same
    have B5 : But p H (upd H4 p (.ins U.C dx (putF "_rows" (.ref D) (putF "_interval" (.int t) [])))) := But.trans B4 But.upd
    have h5D : (upd H4 p (.ins U.C dx (putF "_rows" (.ref D) (putF "_interval" (.int t) [])))) D = some (.dK (Kvs M)) := by rw [upd_ne nDp]; exact h4D
    have h5T := h4T.keep (KT.put (o := .ins U.C dx (putF "_rows" (.ref D) (putF "_interval" (.int t) []))) h4p (fun _ z => by cases z))
    generalize upd H4 p (.ins U.C dx (putF "_rows" (.ref D) (putF "_interval" (.int t) []))) = H5 at h5p B5 h5D h5T ⊢
    clear h4p B4 h4D h4T
    -- _names
    refine ⟨_, rfl, p, U.C, dx, _, .ref D, rfl, h5p, U.cl, U.n2, rfl, D, Kvs M, rfl, h5D, fun nm hnm => ?_⟩
    rw [kvs_kv]
    have S6 := Same.new (o := .tup ((M.map (·.1)).map V.str)) hnm
    have e6N : (upd H5 nm (.tup ((M.map (·.1)).map V.str))) nm = some (.tup ((M.map (·.1)).map V.str)) := upd_same
    generalize upd H5 nm (.tup ((M.map (·.1)).map V.str)) = H6 at S6 e6N ⊢
    have e6p := S6 _ _ h5p
    refine ⟨_, rfl, p, U.C, dx, _, rfl, e6p, U.cl, U.n3, (by show 2 < 1000; decide), ?_⟩
    have H7p : (upd H6 p (.ins U.C dx (putF "_names" (.ref nm) (putF "_rows" (.ref D) (putF "_interval" (.int t) []))))) p = some (.ins U.C dx (putF "_names" (.ref nm) (putF "_rows" (.ref D) (putF "_interval" (.int t) [])))) := upd_same
    have BH7 : But p H (upd H6 p (.ins U.C dx (putF "_names" (.ref nm) (putF "_rows" (.ref D) (putF "_interval" (.int t) []))))) := But.trans B5 (But.trans (But.same S6) But.upd)
    have H7D : (upd H6 p (.ins U.C dx (putF "_names" (.ref nm) (putF "_rows" (.ref D) (putF "_interval" (.int t) []))))) D = some (.dK (Kvs M)) := by rw [upd_ne nDp]; exact S6 _ _ h5D
    have kt7 : KT H6 (upd H6 p (.ins U.C dx (putF "_names" (.ref nm) (putF "_rows" (.ref D) (putF "_interval" (.int t) []))))) := KT.put e6p (fun _ z => by cases z)
    have H7T := (h5T.keep (KT.same S6)).keep kt7
    have H7N := kt7 _ _ e6N
    generalize upd H6 p (.ins U.C dx (putF "_names" (.ref nm) (putF "_rows" (.ref D) (putF "_interval" (.int t) [])))) = H7 at H7p BH7 H7D H7T H7N ⊢
    clear h5p B5 h5D h5T S6 e6p e6N kt7 hnm

    have H7p' := H7p
    have BH7' := BH7
    -- _living
    refine ⟨D, _, H7D, True.intro, fun od => ?_⟩
    have lk : (upd H7 D (.frz od (.dK (Kvs M)))) D = some (.frz od (.dK (Kvs M))) := upd_same
    have ktl : KT H7 (upd H7 D (.frz od (.dK (Kvs M)))) := KT.put H7D (fun _ z => by cases z)
    refine ⟨_, rfl, p, U.C, dx, _, .ref D, rfl, (by rw [upd_ne nDp.symm]; exact H7p), U.cl, U.n2, rfl, D, od, Kvs M, rfl, lk, fun F8 hF => ?_⟩
    have nFD : F8 ≠ D := fun z => by rw [z, upd_same] at hF; cases hF
    have hF0 : H7 F8 = none := by rw [upd_ne nFD] at hF; exact hF
    have nFp : F8 ≠ p := fun z => by rw [z, H7p] at hF0; cases hF0
    refine dc_it walk_items (fun i H' => Same (upd H7 D (.frz od (.dK (Kvs M)))) H' ∧ ∃ LL, H' F8 = some (.dK (Kvs LL)) ∧ Cts H' t 0 LL ((pickR R ys).take i) ∧ ∀ x ∈ LL, H7 x.2 = none) ⟨Same.new hF, [], upd_same, .nil, fun _ h => by cases h⟩ (fun i H' _ h => h.1 _ _ lk) ?_ ?_
    · rintro i x Ha Hb hi ⟨Sa, LL, eF, cL, fL⟩ ⟨TT, x1, y1, rfl, hTT, rfl, ex1, ey1⟩
      have Sn : Same Ha (upd Ha TT (.tup [x1, y1])) := Same.new hTT
      obtain ⟨n, a, b, e, rfl, e2, hab, e4⟩ := tups_at (H7T.keep (KT.trans ktl (KT.same (Same.trans Sa Sn)))) i y1 ey1
      obtain rfl : V.str n = x1 := by
        unfold Kvs at ex1
        dsimp only at ex1
        rw [List.getElem?_map, e4] at ex1
        exact Option.some.inj ex1
      have Sb : Same (upd H7 D (.frz od (.dK (Kvs M)))) (upd Ha TT (.tup [V.str n, V.ref a])) := Same.trans Sa Sn
      have eTT : (upd Ha TT (.tup [V.str n, V.ref a])) TT = some (.tup [V.str n, V.ref a]) := upd_same
      have eFb := Sn _ _ eF
      have cLb := cL.same Sn
      generalize upd Ha TT (.tup [V.str n, V.ref a]) = Hc at Sb eTT eFb cLb hab ⊢
      have hS : (n, b, e) ∈ pickR R ys := List.mem_of_getElem? e2
      have g1 := gS.nr _ hS
      have g2 := gS.sp _ hS
      have g3 := gS.t2
      have g4 := gS.t1
      unfold Near at g1
      unfold SpOk at g2
      simp only at g1 g2
      refine ⟨TT, _, rfl, SqT.of eTT, rfl, _, _, rfl, _, _, rfl, a, _, rfl, SqT.of hab, rfl, _, _, rfl, _, _, rfl, rfl, rfl, ?_⟩
      refine ⟨rfl, ?_⟩
      unfold tYes
      dsimp only
      rw [if_pos rfl]
      refine ⟨_, rfl, _, rfl, _, rfl, by omega, by omega, fun G hG => ?_⟩
      dsimp only
      refine lc_range (tt := fun _ H Q => Q true H) (g := gName 6) (lo := 0) (vs := [6]) (n := t.toNat) (fun j H' => Same Hc H' ∧ H' G = some (.lst ((List.range j).map fun (s : Nat) => V.int (alv t (b + 0) e (s : Int))))) ⟨Same.new hG, upd_same⟩ ?_ ?_
      · rintro j Hd hj ⟨Sd, eG⟩
        refine ⟨rfl, ?_⟩
        dsimp only
        rw [if_pos rfl]
        refine ⟨_, rfl, _, rfl, _, rfl, _, rfl, _, _, _, t, rfl, ⟨by omega, by omega, by omega⟩, ⟨by omega, by omega⟩, g4, g3, ?_⟩
        refine ⟨_, eG, by rw [List.length_map, List.length_range, sizeLine_eq]; omega, Same.at hG Sd, ?_⟩
        rw [upd_same, List.range_succ, List.map_append]
        simp [alv]
      · rintro Hd ⟨Sd, eG⟩
        have eFd := Sd _ _ eFb
        have cLd := cLb.same Sd
        have li : i < (pickR R ys).length := (List.getElem?_eq_some_iff.mp e2).1
        have lL : LL.length ≤ i := by
          have := congrArg List.length cL.names
          rw [List.length_map, List.length_map, List.length_take] at this
          omega
        have g8 := gS.l8
        have nn : n ∉ LL.map (·.1) := by
          rw [cL.names]
          intro hm2
          have nd := gS.nd
          rw [← List.take_append_drop i (pickR R ys), List.map_append, List.nodup_append] at nd
          refine nd.2.2 n hm2 n (List.mem_map.mpr ⟨(n, b, e), ?_, rfl⟩) rfl
          rw [List.mem_iff_getElem?]
          exact ⟨0, by rw [List.getElem?_drop]; exact e2⟩
        have hGs : H7 G = none := by
          cases z : H7 G with
          | none => rfl
          | some o =>
            by_cases c : G = D
            · rw [c, Sb _ _ lk] at hG
              cases hG
            · have := Sb _ _ ((upd_ne c).trans z)
              rw [hG] at this
              cases this
        refine ⟨Kvs LL, Sum.inr n, rfl, eFd, by rw [kvs_len, sizeLine_eq]; omega, Same.at hF (Same.trans Sb Sd), LL ++ [(n, G)], by rw [upd_same, putK_kvs nn], ?_, ?_⟩
        · have e9 : (pickR R ys).take (i + 1) = (pickR R ys).take i ++ [(n, b, e)] := by rw [List.take_add_one, e2]; rfl
          rw [e9]
          exact Cts.snoc (by rw [upd_ne (fun z => by rw [z, eFd] at eG; cases eG)]; exact eG) (cLd.put eFd (fun _ z => by cases z))
        · intro x hx
          rcases List.mem_append.mp hx with hx | hx
          · exact fL x hx
          · rw [List.mem_singleton.mp hx]
            exact hGs
    rintro Ha ⟨Sa, LL8, eF, cL, fL8⟩
    refine ⟨Sa _ _ lk, ?_⟩
    rw [kvs_len, H7T.len, List.take_length] at cL
    have SH := same_lock H7D Sa
    have eF' : (upd Ha D (.dK (Kvs M))) F8 = some (.dK (Kvs LL8)) := (upd_ne nFD).trans eF
    have cL' := cL.put (o := .dK (Kvs M)) (Sa _ _ lk) (fun _ z => by cases z)
    generalize upd Ha D (.dK (Kvs M)) = Hx at SH eF' cL' ⊢
    have Hxp := SH _ _ H7p
    refine ⟨_, rfl, p, U.C, dx, _, rfl, Hxp, U.cl, U.n4, (by show 3 < 1000; decide), ?_⟩
    have H8p : (upd Hx p (.ins U.C dx (putF "_living" (.ref F8) (putF "_names" (.ref nm) (putF "_rows" (.ref D) (putF "_interval" (.int t) [])))))) p = some (.ins U.C dx (putF "_living" (.ref F8) (putF "_names" (.ref nm) (putF "_rows" (.ref D) (putF "_interval" (.int t) []))))) := upd_same
    have BH8 : But p H (upd Hx p (.ins U.C dx (putF "_living" (.ref F8) (putF "_names" (.ref nm) (putF "_rows" (.ref D) (putF "_interval" (.int t) [])))))) := But.trans BH7 (But.trans (But.same SH) But.upd)
    have KH8 : KT H7 (upd Hx p (.ins U.C dx (putF "_living" (.ref F8) (putF "_names" (.ref nm) (putF "_rows" (.ref D) (putF "_interval" (.int t) [])))))) := KT.trans (KT.same SH) (KT.put Hxp (fun _ z => by cases z))
    have H8D : (upd Hx p (.ins U.C dx (putF "_living" (.ref F8) (putF "_names" (.ref nm) (putF "_rows" (.ref D) (putF "_interval" (.int t) [])))))) D = some (.dK (Kvs M)) := by rw [upd_ne nDp]; exact SH _ _ H7D
    have H8N := KH8 _ _ H7N
    have H8T := H7T.keep KH8
    have H8F8 : (upd Hx p (.ins U.C dx (putF "_living" (.ref F8) (putF "_names" (.ref nm) (putF "_rows" (.ref D) (putF "_interval" (.int t) [])))))) F8 = some (.dK (Kvs LL8)) := (upd_ne nFp).trans eF'
    have H8C8 := cL'.put (o := .ins U.C dx (putF "_living" (.ref F8) (putF "_names" (.ref nm) (putF "_rows" (.ref D) (putF "_interval" (.int t) []))))) Hxp (fun _ z => by cases z)
    generalize upd Hx p (.ins U.C dx (putF "_living" (.ref F8) (putF "_names" (.ref nm) (putF "_rows" (.ref D) (putF "_interval" (.int t) []))))) = H8 at H8p BH8 H8D H8N H8T H8F8 H8C8 ⊢
    have nFp8 := nFp
    clear SH Hxp KH8 Sa eF cL eF' cL' hF lk ktl

    have H8p' := H8p
    have BH8' := BH8
    -- _crossing
    refine ⟨D, _, H8D, True.intro, fun od => ?_⟩
    have lk : (upd H8 D (.frz od (.dK (Kvs M)))) D = some (.frz od (.dK (Kvs M))) := upd_same
    have ktl : KT H8 (upd H8 D (.frz od (.dK (Kvs M)))) := KT.put H8D (fun _ z => by cases z)
    refine ⟨_, rfl, p, U.C, dx, _, .ref D, rfl, (by rw [upd_ne nDp.symm]; exact H8p), U.cl, U.n2, rfl, D, od, Kvs M, rfl, lk, fun F9 hF => ?_⟩
    have nFD : F9 ≠ D := fun z => by rw [z, upd_same] at hF; cases hF
    have hF0 : H8 F9 = none := by rw [upd_ne nFD] at hF; exact hF
    have nFp : F9 ≠ p := fun z => by rw [z, H8p] at hF0; cases hF0
    refine dc_it walk_items (fun i H' => Same (upd H8 D (.frz od (.dK (Kvs M)))) H' ∧ ∃ LL, H' F9 = some (.dK (Kvs LL)) ∧ Cts H' t 1 LL ((pickR R ys).take i) ∧ ∀ x ∈ LL, H8 x.2 = none) ⟨Same.new hF, [], upd_same, .nil, fun _ h => by cases h⟩ (fun i H' _ h => h.1 _ _ lk) ?_ ?_
    · rintro i x Ha Hb hi ⟨Sa, LL, eF, cL, fL⟩ ⟨TT, x1, y1, rfl, hTT, rfl, ex1, ey1⟩
      have Sn : Same Ha (upd Ha TT (.tup [x1, y1])) := Same.new hTT
      obtain ⟨n, a, b, e, rfl, e2, hab, e4⟩ := tups_at (H8T.keep (KT.trans ktl (KT.same (Same.trans Sa Sn)))) i y1 ey1
      obtain rfl : V.str n = x1 := by
        unfold Kvs at ex1
        dsimp only at ex1
        rw [List.getElem?_map, e4] at ex1
        exact Option.some.inj ex1
      have Sb : Same (upd H8 D (.frz od (.dK (Kvs M)))) (upd Ha TT (.tup [V.str n, V.ref a])) := Same.trans Sa Sn
      have eTT : (upd Ha TT (.tup [V.str n, V.ref a])) TT = some (.tup [V.str n, V.ref a]) := upd_same
      have eFb := Sn _ _ eF
      have cLb := cL.same Sn
      generalize upd Ha TT (.tup [V.str n, V.ref a]) = Hc at Sb eTT eFb cLb hab ⊢
      have hS : (n, b, e) ∈ pickR R ys := List.mem_of_getElem? e2
      have g1 := gS.nr _ hS
      have g2 := gS.sp _ hS
      have g3 := gS.t2
      have g4 := gS.t1
      unfold Near at g1
      unfold SpOk at g2
      simp only at g1 g2
      refine ⟨TT, _, rfl, SqT.of eTT, rfl, _, _, rfl, _, _, rfl, a, _, rfl, SqT.of hab, rfl, _, _, rfl, _, _, rfl, rfl, rfl, ?_⟩
      refine ⟨rfl, ?_⟩
      unfold tYes
      dsimp only
      rw [if_pos rfl]
      refine ⟨_, rfl, _, rfl, _, rfl, by omega, by omega, fun G hG => ?_⟩
      dsimp only
      refine lc_range (tt := fun _ H Q => Q true H) (g := gName 6) (lo := 0) (vs := [6]) (n := t.toNat) (fun j H' => Same Hc H' ∧ H' G = some (.lst ((List.range j).map fun (s : Nat) => V.int (alv t (b + 1) e (s : Int))))) ⟨Same.new hG, upd_same⟩ ?_ ?_
      · rintro j Hd hj ⟨Sd, eG⟩
        refine ⟨rfl, ?_⟩
        dsimp only
        rw [if_pos rfl]
        refine ⟨_, rfl, _, _, rfl, rfl, _, rfl, _, rfl, _, rfl, _, _, _, t, rfl, ⟨by omega, by omega, by omega⟩, ⟨by omega, by omega⟩, g4, g3, ?_⟩
        refine ⟨_, eG, by rw [List.length_map, List.length_range, sizeLine_eq]; omega, Same.at hG Sd, ?_⟩
        rw [upd_same, List.range_succ, List.map_append]
        simp [alv]
      · rintro Hd ⟨Sd, eG⟩
        have eFd := Sd _ _ eFb
        have cLd := cLb.same Sd
        have li : i < (pickR R ys).length := (List.getElem?_eq_some_iff.mp e2).1
        have lL : LL.length ≤ i := by
          have := congrArg List.length cL.names
          rw [List.length_map, List.length_map, List.length_take] at this
          omega
        have g8 := gS.l8
        have nn : n ∉ LL.map (·.1) := by
          rw [cL.names]
          intro hm2
          have nd := gS.nd
          rw [← List.take_append_drop i (pickR R ys), List.map_append, List.nodup_append] at nd
          refine nd.2.2 n hm2 n (List.mem_map.mpr ⟨(n, b, e), ?_, rfl⟩) rfl
          rw [List.mem_iff_getElem?]
          exact ⟨0, by rw [List.getElem?_drop]; exact e2⟩
        have hGs : H8 G = none := by
          cases z : H8 G with
          | none => rfl
          | some o =>
            by_cases c : G = D
            · rw [c, Sb _ _ lk] at hG
              cases hG
            · have := Sb _ _ ((upd_ne c).trans z)
              rw [hG] at this
              cases this
        refine ⟨Kvs LL, Sum.inr n, rfl, eFd, by rw [kvs_len, sizeLine_eq]; omega, Same.at hF (Same.trans Sb Sd), LL ++ [(n, G)], by rw [upd_same, putK_kvs nn], ?_, ?_⟩
        · have e9 : (pickR R ys).take (i + 1) = (pickR R ys).take i ++ [(n, b, e)] := by rw [List.take_add_one, e2]; rfl
          rw [e9]
          exact Cts.snoc (by rw [upd_ne (fun z => by rw [z, eFd] at eG; cases eG)]; exact eG) (cLd.put eFd (fun _ z => by cases z))
        · intro x hx
          rcases List.mem_append.mp hx with hx | hx
          · exact fL x hx
          · rw [List.mem_singleton.mp hx]
            exact hGs
    rintro Ha ⟨Sa, LL9, eF, cL, fL9⟩
    refine ⟨Sa _ _ lk, ?_⟩
    rw [kvs_len, H8T.len, List.take_length] at cL
    have SH := same_lock H8D Sa
    have eF' : (upd Ha D (.dK (Kvs M))) F9 = some (.dK (Kvs LL9)) := (upd_ne nFD).trans eF
    have cL' := cL.put (o := .dK (Kvs M)) (Sa _ _ lk) (fun _ z => by cases z)
    generalize upd Ha D (.dK (Kvs M)) = Hx at SH eF' cL' ⊢
    have Hxp := SH _ _ H8p
    refine ⟨_, rfl, p, U.C, dx, _, rfl, Hxp, U.cl, U.n5, (by show 4 < 1000; decide), ?_⟩
    have H9p : (upd Hx p (.ins U.C dx (putF "_crossing" (.ref F9) (putF "_living" (.ref F8) (putF "_names" (.ref nm) (putF "_rows" (.ref D) (putF "_interval" (.int t) []))))))) p = some (.ins U.C dx (putF "_crossing" (.ref F9) (putF "_living" (.ref F8) (putF "_names" (.ref nm) (putF "_rows" (.ref D) (putF "_interval" (.int t) [])))))) := upd_same
    have BH9 : But p H (upd Hx p (.ins U.C dx (putF "_crossing" (.ref F9) (putF "_living" (.ref F8) (putF "_names" (.ref nm) (putF "_rows" (.ref D) (putF "_interval" (.int t) []))))))) := But.trans BH8 (But.trans (But.same SH) But.upd)
    have KH9 : KT H8 (upd Hx p (.ins U.C dx (putF "_crossing" (.ref F9) (putF "_living" (.ref F8) (putF "_names" (.ref nm) (putF "_rows" (.ref D) (putF "_interval" (.int t) []))))))) := KT.trans (KT.same SH) (KT.put Hxp (fun _ z => by cases z))
    have H9D : (upd Hx p (.ins U.C dx (putF "_crossing" (.ref F9) (putF "_living" (.ref F8) (putF "_names" (.ref nm) (putF "_rows" (.ref D) (putF "_interval" (.int t) []))))))) D = some (.dK (Kvs M)) := by rw [upd_ne nDp]; exact SH _ _ H8D
    have H9N := KH9 _ _ H8N
    have H9T := H8T.keep KH9
    have H9F9 : (upd Hx p (.ins U.C dx (putF "_crossing" (.ref F9) (putF "_living" (.ref F8) (putF "_names" (.ref nm) (putF "_rows" (.ref D) (putF "_interval" (.int t) []))))))) F9 = some (.dK (Kvs LL9)) := (upd_ne nFp).trans eF'
    have H9C9 := cL'.put (o := .ins U.C dx (putF "_crossing" (.ref F9) (putF "_living" (.ref F8) (putF "_names" (.ref nm) (putF "_rows" (.ref D) (putF "_interval" (.int t) [])))))) Hxp (fun _ z => by cases z)
    have H9F8 : (upd Hx p (.ins U.C dx (putF "_crossing" (.ref F9) (putF "_living" (.ref F8) (putF "_names" (.ref nm) (putF "_rows" (.ref D) (putF "_interval" (.int t) []))))))) F8 = some (.dK (Kvs LL8)) := (upd_ne nFp8).trans (SH _ _ H8F8)
    have H9C8 := (H8C8.same SH).put (o := .ins U.C dx (putF "_crossing" (.ref F9) (putF "_living" (.ref F8) (putF "_names" (.ref nm) (putF "_rows" (.ref D) (putF "_interval" (.int t) [])))))) Hxp (fun _ z => by cases z)
    generalize upd Hx p (.ins U.C dx (putF "_crossing" (.ref F9) (putF "_living" (.ref F8) (putF "_names" (.ref nm) (putF "_rows" (.ref D) (putF "_interval" (.int t) [])))))) = H9 at H9p BH9 H9D H9N H9T H9F9 H9C9 H9F8 H9C8 ⊢
    clear SH Hxp KH9 Sa eF cL eF' cL' hF lk ktl
    have so' : sortedS ((pickR R ys).map (·.1)) = true := by rw [pickR_names]; exact so
    refine k (pickR R ys) _ BH9 (fun r hr0 => ⟨gS, so', dx, D, nm, F8, F9, M, LL8, LL9, H9p, H9D, H9T, by rw [← H9T.names]; exact H9N, H9F8, H9C8, H9F9, H9C9, ?_, ?_⟩) ⟨pickR_perm gd.nd pm, so'⟩
    · intro x hx z
      have h7 := fL8 x hx
      cases w : H r with
      | none => exact hr0 w
      | some o =>
        by_cases c : r = p
        · rw [z, c, H7p'] at h7
          cases h7
        · rw [z, BH7' _ _ c w] at h7
          cases h7
    · intro x hx z
      have h8 := fL9 x hx
      cases w : H r with
      | none => exact hr0 w
      | some o =>
        by_cases c : r = p
        · rw [z, c, H8p'] at h8
          cases h8
        · rw [z, BH8' _ _ c w] at h8
          cases h8
end
end K38
namespace RL
open PySem PySem.Spec PyProof PyProof.Rows L2
section
variable {X : Cx}
theorem sw_trueD {kx vx : Expr} {gs : List Comprehension} {scope : Scope} {pos py : Pos} {y : Str} {l : Nat} {env : Env} (hk : env.scope.kind = .function) (hy : env.scope.names.lookup y = some .local) (hl : (py.line == pos.line) = true)
    (ha : (scope.names.any fun (n, k) => n == y && (k == .local || k == .cell)) = false) : swapsWith (.DictComp kx vx gs scope pos) (some (.Name y py)) l env = pure true := by
  have ky : env.kindOf y = some .local := hy
  have hb : env.blockKind = .function := by unfold Env.blockKind; rw [hk]; rfl
  unfold swapsWith
  simp only [hb, ky, ha, Expr.pos, hl]
  rfl
/-- y = {k: v for ..} -/
theorem ps_setDc {i : Nat} {y : Str} {py : Pos} {kx vx tg iter : Expr} {ifs : List Expr} {scope : Scope} {own : List (Str × Nat)} {pos spos : Pos} {wi : TI} {g : TG} {tt : TT} {tk tv : TE} (hc : X.calm = true) (hN : X.N.Nodup) (hy : X.N[i]? = some y) (hyl : X.env.scope.names.lookup y = some .local)
    (hsw : swapsWith (.DictComp kx vx [⟨tg, iter, ifs, 0⟩] scope pos) (some (.Name y py)) spos.line X.env = pure true) (hi : PI X tg iter wi) (ok : BlkOk X.N X.env.scope scope own)
    (hg : ∀ (s : Shared) (H : Hp) (C : Addr) (cl : List (Str × Addr)) (fp : List Addr), PG (X.blk s H scope (compEnvC scope cl C X.env) fp) tg g)
                                                                                                                                                  (ht : ∀ (s : Shared) (H : Hp) (C : Addr) (cl : List (Str × Addr)) (fp : List Addr), PTs (X.blk s H scope (compEnvC scope cl C X.env) fp) ifs tt)
    (hk : ∀ (s : Shared) (H : Hp) (C : Addr) (cl : List (Str × Addr))
                                                                      (fp : List Addr), PE (X.blk s H scope (compEnvC scope cl C X.env) fp) kx tk)
    (he : ∀ (s : Shared) (H : Hp) (C : Addr) (cl : List (Str × Addr)) (fp : List Addr), PE (X.blk s H scope
                                                                                                            (compEnvC scope cl C X.env) fp) vx tv) (hs : ∀ x, foldedSetIterable iter X.env x = pure x := by intro _; rfl) :
    PS X (.Assign [.Name y py] (.DictComp kx vx [⟨tg, iter, ifs, 0⟩] scope pos) spos) (tAsg (tDc wi g tt tk tv (own.map (·.2))) (gName i)) := by
  refine ⟨fun pins s σ H D I h => ?_⟩
  rw [exec_Assign_Name_used _ _ _ _ hsw]
  refine wpAny_bind (wpAny_standAt (wpAny_bind ?_))
  show wpAny _ X.A (do let _ ← comprehension (.DictComp kx vx [⟨tg, iter, ifs, 0⟩] scope pos) scope X.env (firstIterPos [⟨tg, iter, ifs, 0⟩] pos) newDict false (eval iter X.env) (some (assign (.Name y py) X.env))) _ _ s
  have h : tDc wi g tt tk tv (own.map (·.2)) σ H (fun x H1 => gName i x σ H1 D.nx) := h
  refine wpAny_bind (thn (dc_core (Qf := fun _ s' => SP X pins D .next s') hc hN I hi ok hg ht hk he hs h fun L C s' m H' I' q hn f => ?_) fun _ s' hq => wpAny_pure (wpAny_pure hq))
  show wpAny _ _ (assign (.Name y py) X.env (.ref L)) _ _ _
  refine wpAny_assign_Name (store_ok2 (v := V.ref L) I' hN hy
                                                              (.inl hyl) rfl (fun s2 I2 ⟨a, sb, ha⟩ => ?_) (.inr hyl))
  obtain ⟨f0, f1, f2, f3, f4, f5⟩ := f
  have haC : C ≠ a := by
    rcases ha with z | z
    · rw [z]; exact f1
    · exact fun e => f4 y a z e.symm
  refine ⟨m, hn.sameBut sb haC, fun h3 sb3 => ?_⟩
  exact ⟨_, H', I2.turned (t' := s2.toks)
                                          (fun b o hb e => (sb3.2 b hb).trans e) f0 f1 f3 f4 f5, q⟩
end
end RL
/-! sets of texts, of ints, of tuples of both: one frame (Kit) -/
namespace KS
open PySem PySem.Spec PyProof.Rows L2

/-- what a kind of set gives: a member, its value, the set itself, adding, gathering -/
structure Kit (P : Program) (w : World) (μ κ : Type) where
  key : μ → κ
  mv : Heap → μ → Value → Prop
  sp : Heap → Addr → List μ → Prop
  mvK : ∀ {h h' : Heap} {m : μ} {v : Value}, mv h m v → (∀ b o, h.get? b = some o → h'.get? b = some o) → mv h' m v
  spAt : ∀ {h h' : Heap} {a : Addr} {L : List μ}, sp h a L → (∀ o, h.get? a = some o → h'.get? a = some o) → sp h' a L
  spEx : ∀ {h : Heap} {a : Addr} {L : List μ}, sp h a L → ∃ o, h.get? a = some o ∧ o.cls = .type "set"
  spNd : ∀ {h : Heap} {a : Addr} {L : List μ}, sp h a L → (L.map key).Nodup
  spFew : ∀ {h : Heap} {a : Addr} {L : List μ}, sp h a L → L.length < 64
  fresh : ∀ {h : Heap} {a : Addr}, h.get? a = some { cls := .type "set", dict := none, data := .set #[] 0 (.fresh 0 0 (!w.params.followText "set-order")) } → sp h a []
  add : ∀ {A : Around} {E : Value → Shared → Prop} {s : Shared} {a : Addr} {L : List μ} {m : μ} {v : Value} {Q : Bool → Shared → Prop}, sp s.heap a L → (∀ m ∈ L, ∃ v, mv s.heap m v) → mv s.heap m v → L.length + 1 < 64 → A.units < cLine →
    (∀ b h' tk L', Heap.SameBut a s.heap h' → s.toks ≤ tk → sp h' a L' → (key m ∈ L.map key → L' = L) → (key m ∉ L.map key → L'.Perm (m :: L)) → Q b { s with heap := h', toks := tk }) →
    wpAny (model P w) A (setAdd a v) Q E s
  col : ∀ {A : Around} {E : Value → Shared → Prop} {s : Shared} {a : Addr} {L : List μ} {Q : List Value → Shared → Prop}, sp s.heap a L → (∀ m ∈ L, ∃ v, mv s.heap m v) → A.handled = none →
    (∀ s' out L', (∀ b o, s.heap.get? b = some o → s'.heap.get? b = some o) → s.heap.objs.size ≤ s'.heap.objs.size → s'.gens = s.gens → s'.os = s.os → List.Perm L' L → PySem.W.EachIs (fun v m => mv s.heap m v) out L' → Q out s') →
    wpAny (model P w) A (collect (.ref a)) Q E s

/-! ### ints and texts -/
def kOf : Value → Key
  | .int i _ => .inl i
  | .str x _ => .inr x
  | _ => .inl 0
theorem kOf_is {k : Key} {v : Value} (h : keyIs k v = true) : kOf v = k := by
  rcases keyIs_shape h with
                            ⟨i, t, rfl, rfl⟩ | ⟨x, t, rfl, rfl⟩ <;> rfl
theorem scan_is {k : Key} {v : Value} (h : keyIs k v = true) : v.scannable = true := by
  rcases keyIs_shape h with
                            ⟨i, t, rfl, rfl⟩ | ⟨x, t, rfl, rfl⟩ <;> rfl
/-- an entry -/
def Ent (w : World) (e : Int × Value) : Prop := keyIs (kOf e.2) e.2 = true ∧ e.1 = keyH w (kOf e.2)
def ks (es : List (Int × Value)) : List Key := es.map fun e => kOf e.2
structure SpA (w : World) (h : Heap) (a : Addr) (L : List Key) (es : Array (Int × Value)) (ep : Nat) (t : SetTable) (o : Obj) : Prop where
  ho : h.get? a = some o
  hex : o.ExactSet
  hd : o.data = .set es ep t
  ent : ∀ e ∈ es.toList, Ent w e
  pm : (ks es.toList).Perm L
  nd : L.Nodup
  few : L.length < 64
  fit : t.fits es.size = true
  ris : Ris t.place.toList
  led : w.params.followText "set-order" = true ∨ t.led = true
def Sp (w : World) (h : Heap) (a : Addr) (L : List Key) : Prop := ∃ es ep t o, SpA w h a L es ep t o

section
variable {P : Program} {w : World} {A : Around} {E : Value → Shared → Prop} {s : Shared} {a : Addr} {L : List Key} {es : Array (Int × Value)} {ep : Nat} {t : SetTable} {o : Obj}
theorem SpA.sz {h : Heap} (R : SpA w h a L es ep t o) : es.size = L.length := by
  have e := R.pm.length_eq
  unfold ks at e
  rw [List.length_map, Array.length_toList] at e
  exact e
theorem SpA.bd {h : Heap} (R : SpA w h a L es ep t o) : es.size < scanBound := by
  have e := R.sz
  have f := R.few
  unfold scanBound
  omega
theorem ent_elems {l : List (Int × Value)} (g : ∀ e ∈ l, Ent w e) : ElemsOf (mixKind P w) l := fun e he => ⟨⟨kOf e.2, (g e he).1, (g e he).2⟩, scan_is (g e he).1⟩
theorem mem_ks {l : List (Int × Value)} (g : ∀ e ∈ l, Ent w e) (k : Key) : k ∈ ks l ↔ ∃ e ∈ l, keyIs k e.2 = true := by
  unfold ks
  rw [List.mem_map]
  exact ⟨fun ⟨e, he, q⟩ => ⟨e, he, by rw [← q]; exact (g e he).1⟩, fun ⟨e, he, q⟩ => ⟨e, he, kOf_is q⟩⟩

/-- laid down, relaid if too full -/
theorem put_tail {g : Bool → Sem Unit} (hg : ∀ (b : Bool) (s₁ : Shared) (Q' : Unit → Shared → Prop), Q' () s₁ → wpAny (model P w) A (g b) Q' E s₁)
    {es1 : Array (Int × Value)} {t1 : SetTable} {L1 : List Key} (ho : s.heap.get? a = some o) (hex : o.ExactSet) (hd : o.data = .set es ep t)
    (g1 : ∀ e ∈ es1.toList, Ent w e) (pm1 : (ks es1.toList).Perm L1) (nd1 : L1.Nodup) (few1 : L1.length < 64) (hf : t1.fits es1.size = true) (hr : Ris t1.place.toList) (hl : w.params.followText "set-order" = true ∨ t1.led = true)
    {dummy : Bool} {R : Option Bool → Shared → Prop} (hR : ∀ h', Heap.SameBut a s.heap h' → Sp w h' a L1 → R (some true) { s with heap := h' }) :
    wpAny (model P w) A (do
        storeSet a es1 t1
        if (!dummy && t1.tooFull) = true then do
            g (relayAll t1 es1 (SetTable.grown es1.size)).2.2
            storeSet a (relayAll t1 es1 (SetTable.grown es1.size)).1 (relayAll t1 es1 (SetTable.grown es1.size)).2.1
            pure (some true)
          else pure (some true)) R E s := by
  have l1 : es1.size = L1.length := by
    have e := pm1.length_eq
    unfold ks at e
    rw [List.length_map, Array.length_toList] at e
    exact e
  have z1 : es1.size ≤ sizeLine := by rw [sizeLine_eq]; omega
  refine wpAny_bind (wpAny_storeSet_of ho hd ?_ z1)
  have o1 := store_at (es' := es1) (t' := t1) ho hd
  have b1 := Heap.SameBut.update s.heap a (Obj.putSet es1 t1)
  split
  · have q1 := relayAll_perm t1 es1 (SetTable.grown es1.size)
    have q2 := relayAll_fits t1 es1 (SetTable.grown es1.size)
    have q3 := relayAll_ris t1 es1 (SetTable.grown es1.size)
    have q4 := relayAll_led t1 es1 (SetTable.grown es1.size)
    generalize relayAll t1 es1 (SetTable.grown es1.size) = Z at q1 q2 q3 q4 ⊢
    obtain ⟨es2, t2, gone⟩ := Z
    dsimp only at q1 q2 q3 q4 ⊢
    have z2 : es2.size ≤ sizeLine := by
      rw [← Array.length_toList, q1.length_eq, Array.length_toList]
      exact z1
    refine wpAny_bind (hg _ _ _ ?_)
    refine wpAny_bind (wpAny_storeSet_of o1 rfl ?_ z2)
    have o2 := store_at (es' := es2) (t' := t2) o1 rfl
    exact wpAny_pure (hR _ (b1.trans (Heap.SameBut.update _ a _)) ⟨es2, _, t2, _, o2, hex, rfl, fun e he => g1 e (q1.mem_iff.mp he), (q1.map _).trans pm1, nd1, few1, q2, q3, hl.imp id fun z => by rw [q4]; exact z⟩)
  · exact wpAny_pure (hR _ b1 ⟨es1, _, t1, _, o1, hex, rfl, g1, pm1, nd1, few1, hf, hr, hl⟩)

theorem add_key {k : Key} {v : Value} {Q : Bool → Shared → Prop} (R : SpA w s.heap a L es ep t o) (hk : keyIs k v = true) (room : L.length + 1 < 64)
    (hQ : ∀ b h' L', Heap.SameBut a s.heap h' → Sp w h' a L' → (k ∈ L → L' = L) → (k ∉ L → L'.Perm (k :: L)) → Q b { s with heap := h' }) :
    wpAny (model P w) A (setAddHashed a v (keyH w k)) Q E s := by
  have hsc := scan_is hk
  have hel : ElemsOf (mixKind P w) es.toList := ent_elems R.ent
  unfold setAddHashed setAddHashedIn
  refine wpAny_holding (wpAny_bind (wpAny_setState_of R.ho R.hd R.fit ?_))
  dsimp only
  rw [byScan_of hsc R.bd hel]
  simp only [↓reduceIte]
  unfold setAddByScan
  refine wpAny_bind (wpAny_bind (wpAny_rule ?_))
  refine wpAny_bind (wpAny_setScan_of (knd := mixKind P w) (k := k) hk R.ho R.hd R.fit hel ?_)
  cases hfi : List.findIdx? (fun e => (mixKind P w).is k e.2) es.toList with
  | some j =>
    dsimp only
    obtain ⟨hj, pj, _⟩ := List.findIdx?_eq_some_iff_getElem.mp hfi
    have hin : k ∈ L := R.pm.mem_iff.mp ((mem_ks R.ent k).2 ⟨es.toList[j], List.getElem_mem hj, pj⟩)
    exact wpAny_pure (wpAny_pure (hQ false s.heap L (Heap.SameBut.refl a s.heap) ⟨es, ep, t, o, R⟩ (fun _ => rfl) fun z => absurd hin z))
  | none =>
    dsimp only
    have hno : k ∉ L := fun z => by
      obtain ⟨e, he, q⟩ := (mem_ks R.ent k).1 (R.pm.mem_iff.mpr z)
      have c := List.findIdx?_eq_none_iff.mp hfi e he
      rw [show (mixKind P w).is k e.2 = true from q] at c
      cases c
    have way : ∀ (b : Bool) {s₁ : Shared} {Q' : Unit → Shared → Prop}, Q' () s₁ → wpAny (model P w) A (match b with | true => rule "set.scan.the-table-gave-way" | false => pure ()) Q' E s₁ :=
      fun b s₁ Q' q => by cases b <;> first | exact wpAny_pure q | exact wpAny_rule q
    have q1 := layNew_perm t es (keyH w k) v
    have q2 := layNew_fits t es (keyH w k) v
    have q3 := layNew_ris t es (keyH w k) v R.ris
    have q4 := layNew_led t es (keyH w k) v
    generalize layNew t es (keyH w k) v = Z at q1 q2 q3 q4 ⊢
    obtain ⟨es1, t1, dummy, gone⟩ := Z
    dsimp only at q1 q2 q3 q4 ⊢
    rw [Array.toList_push] at q1
    have p1 : es1.toList.Perm ((keyH w k, v) :: es.toList) := q1.trans (List.perm_append_singleton _ _)
    have g1 : ∀ e ∈ es1.toList, Ent w e := fun e he => by
      rcases List.mem_cons.mp (p1.mem_iff.mp he) with z | z
      · subst z
        show keyIs (kOf v) v = true ∧ keyH w k = keyH w (kOf v)
        rw [kOf_is hk]
        exact ⟨hk, rfl⟩
      · exact R.ent e z
    have pk : (ks es1.toList).Perm (k :: L) := by
      refine (p1.map _).trans ?_
      rw [List.map_cons]
      show List.Perm (kOf v :: ks es.toList) (k :: L)
      rw [kOf_is hk]
      exact R.pm.cons k
    have nd1 : (k :: L).Nodup := List.nodup_cons.mpr ⟨hno, R.nd⟩
    have few1 : (k :: L).length < 64 := by rw [List.length_cons]; exact room
    have led1 : w.params.followText "set-order" = true ∨ t1.led = true := R.led.imp id fun z => by rw [q4]; exact z
    have fin : ∀ h', Heap.SameBut a s.heap h' → Sp w h' a (k :: L) → Q true { s with heap := h' } := fun h' sb r => hQ true h' _ sb r (fun z => absurd z hno) fun _ => List.Perm.refl _
    refine wpAny_bind (way _ ?_)
    split
    · refine wpAny_bind ?_
      rw [hashByValue_scannable 8 hsc]
      refine wpAny_pure ?_
      refine put_tail ?_ R.ho R.hex R.hd g1 pk nd1 few1 ?_ ?_ ?_ ?_
      · intro b s₁ Q' q; cases b <;> first | exact wpAny_pure q | exact wpAny_rule q
      · split <;> first | exact q2 | exact SetTable.fits_plain_off q2
      · split <;> exact q3
      · split <;> exact led1
      · intro h' sb r; dsimp only; exact wpAny_pure (fin h' sb r)
    · refine wpAny_bind (wpAny_pure ?_)
      simp only [↓reduceIte]
      refine put_tail ?_ R.ho R.hex R.hd g1 pk nd1 few1 q2 q3 led1 ?_
      · intro b s₁ Q' q; cases b <;> first | exact wpAny_pure q | exact wpAny_rule q
      · intro h' sb r; dsimp only; exact wpAny_pure (fin h' sb r)
end

theorem each_of {α : Type} {R : Value → α → Prop} {f : Value → α} : ∀ {vs : List Value}, (∀ v ∈ vs, R v (f v)) → PySem.W.EachIs R vs (vs.map f)
  | [], _ => .nil
  | v :: vs, h => .cons (h v List.mem_cons_self) (each_of fun u hu => h u (List.mem_cons_of_mem _ hu))
/-- ints and texts -/
def keyKit (P : Program) (w : World) : Kit P w Key Key where
  key := id
  mv := fun _ k v => keyIs k v = true
  sp := Sp w
  mvK := fun h _ => h
  spAt := fun R k => by
    obtain ⟨es, ep, t, o, R⟩ := R
    exact ⟨es, ep, t, o, { R with ho := k o R.ho }⟩
  spEx := fun R => by
    obtain ⟨es, ep, t, o, R⟩ := R
    exact ⟨o, R.ho, R.hex.1⟩
  spNd := fun R => by
    obtain ⟨es, ep, t, o, R⟩ := R
    rw [List.map_id]
    exact R.nd
  spFew := fun R => by
    obtain ⟨es, ep, t, o, R⟩ := R
    exact R.few
  fresh := fun ho => ⟨#[], 0, _, _, ho, ⟨rfl, rfl, rfl⟩, rfl, fun e he => by simp at he, List.Perm.refl _, List.nodup_nil, by decide, rfl, List.Pairwise.nil, by
    show _ ∨ (!w.params.followText "set-order") = true
    cases w.params.followText "set-order"
    · exact .inr rfl
    · exact .inl rfl⟩
  add := fun {A E s a L m v Q} R _ hk room _ hQ => by
    obtain ⟨es, ep, t, o, R⟩ := R
    unfold setAdd
    refine wpAny_holding (wpAny_bind ((mixKind P w).pyHash (k := m) hk ?_))
    refine add_key (s := { s with toks := s.toks + 1 }) R hk room fun b h' L' sb r c1 c2 => hQ b h' (s.toks + 1) L' sb (Nat.le_succ _) r (fun z => c1 ?_) fun z => c2 ?_
    · rw [List.map_id] at z
      exact z
    · rw [List.map_id] at z
      exact z
  col := fun {A E s a L Q} R _ hh hQ => by
    obtain ⟨es, ep, t, o, R⟩ := R
    refine collect_set hh ⟨o, R.ho, R.hex.1, R.hd⟩ R.fit R.bd R.ris R.led fun s' out k z g os pm => hQ s' out (out.map kOf) k z g os ?_ ?_
    · refine (pm.map kOf).trans ?_
      rw [List.map_map]
      exact R.pm
    · refine each_of fun v hv => ?_
      obtain ⟨e, he, q⟩ := List.mem_map.mp (pm.mem_iff.mp hv)
      rw [← q]
      exact (R.ent e he).1
end KS
set_option maxHeartbeats 3200000
/-! set(xs), sorted(set) over a Kit -/
namespace KS
open PySem PySem.Spec PyProof.Rows L2

/-- the object of a new set -/
def newObj0 (w : World) : Obj := { cls := .type "set", dict := none, data := .set #[] 0 (.fresh 0 0 (!w.params.followText "set-order")) }

section
variable {P : Program} {w : World} {μ κ : Type} (Z : Kit P w μ κ)
/-- L is what the first i of ms make -/
structure From (ms : List μ) (i : Nat) (L : List μ) : Prop where
  sub : ∀ m ∈ L, m ∈ ms.take i
  all : ∀ m ∈ ms.take i, Z.key m ∈ L.map Z.key
  len : L.length ≤ i
theorem From.start (ms : List μ) : From Z ms 0 [] := ⟨(fun m h => by cases h), (fun m h => by simp at h), Nat.le_refl _⟩
variable {Z}
theorem From.step {ms L L' : List μ} {i : Nat} {m : μ} (g : From Z ms i L) (h : ms[i]? = some m) (c1 : Z.key m ∈ L.map Z.key → L' = L) (c2 : Z.key m ∉ L.map Z.key → L'.Perm (m :: L)) : From Z ms (i + 1) L' := by
  have tk : ms.take (i + 1) = ms.take i ++ [m] := take_next h
  rcases Classical.em (Z.key m ∈ L.map Z.key) with c | c
  · rw [c1 c]
    refine ⟨fun x hx => by rw [tk]; exact List.mem_append_left _ (g.sub x hx), fun x hx => ?_, Nat.le_succ_of_le g.len⟩
    rw [tk] at hx
    rcases List.mem_append.mp hx with z | z
    · exact g.all x z
    · rw [List.mem_singleton.mp z]
      exact c
  · have pm := c2 c
    refine ⟨fun x hx => ?_, fun x hx => ?_, by rw [pm.length_eq, List.length_cons]; exact Nat.succ_le_succ g.len⟩
    · rw [tk]
      rcases List.mem_cons.mp (pm.mem_iff.mp hx) with e | z
      · exact List.mem_append_right _ (List.mem_singleton.mpr e)
      · exact List.mem_append_left _ (g.sub x z)
    · rw [(pm.map Z.key).mem_iff, List.map_cons]
      rw [tk] at hx
      rcases List.mem_append.mp hx with z | z
      · exact List.mem_cons_of_mem _ (g.all x z)
      · rw [List.mem_singleton.mp z]
        exact List.mem_cons_self
end

theorem each_get {α : Type} {R : Value → α → Prop} : ∀ {vs : List Value} {ms : List α} {i : Nat} {v : Value}, PySem.W.EachIs R vs ms → vs[i]? = some v → ∃ m, ms[i]? = some m ∧ R v m
  | _, _, _, _, .nil, e => by simp at e
  | _, _, 0, _, .cons r _, e => ⟨_, rfl, by rw [← Option.some.inj e]; exact r⟩
  | _, _, i + 1, v, .cons _ t, e => by
    obtain ⟨m, h1, h2⟩ := each_get (i := i) t (by simpa using e)
    exact ⟨m, by simpa using h1, h2⟩
theorem each_has {α : Type} {R : Value → α → Prop} : ∀ {vs : List Value} {ms : List α} {m : α}, PySem.W.EachIs R vs ms → m ∈ ms → ∃ v, R v m
  | _, _, _, .nil, h => by cases h
  | _, _, m, .cons r t, h => by
    rcases List.mem_cons.mp h with e | h
    · subst e
      exact ⟨_, r⟩
    · exact each_has t h
section
variable {P : Program} {w : World} {A : Around} {E : Value → Shared → Prop} {s : Shared} {μ κ : Type} (Z : Kit P w μ κ)
/-- the loop behind set(..) -/
theorem fill_loop {I : Addr} {fp wr : List Addr} {G : Array GenState → Array GenState → Prop} {n : Nat} {Pv : Nat → Value → Prop} {St : Nat → Shared → Prop} {R : Result → Shared → Prop}
    (W : WalksS P w A.in1 I fp wr G n Pv St) (S : Addr) (hS : S ∉ fp) (ms : List μ) (hn : n = ms.length) (few : ms.length < 64) (h0 : Heap) (hv : ∀ i v, Pv i v → ∃ m, ms[i]? = some m ∧ Z.mv h0 m v) (hm : ∀ m ∈ ms, ∃ v, Z.mv h0 m v)
    (hS0 : h0.get? S = none) (hw : ∀ b ∈ wr, h0.get? b = none) (hu : A.in1.units < cLine) :
    ∀ (k i : Nat) (s : Shared), n - i = k → i ≤ n → St i s → (∀ b o, h0.get? b = some o → s.heap.get? b = some o) → (∃ L, Z.sp s.heap S L ∧ From Z ms i L) →
      (∀ s' L, Moved (S :: wr) G s s' → Z.sp s'.heap S L → From Z ms n L → (∀ b o, h0.get? b = some o → s'.heap.get? b = some o) → R (.ok (.ret .none)) s') →
      codeAny (model P w) A (.builtin "set.update.loop"
                                                        ⟨[.ref S, .ref I], []⟩) R s := by
  have hSw : S ∉ wr := fun h => hS (W.sub _ h)
  have wider : ∀ b ∈ wr, b ∈ S :: wr := fun b hb => List.mem_cons_of_mem _ hb
  have stay : ∀ {s s' : Shared}, Moved wr G s s' → (∀ b o, h0.get? b = some o → s.heap.get? b = some o) → ∀ b o, h0.get? b = some o → s'.heap.get? b = some o := fun q kp b o e =>
    q.heap b o (fun hb => by rw [hw b hb] at e; cases e) (kp b o e)
  intro k
  induction k with
  | zero =>
    intro i s hk hi st kp ⟨L, sp, g⟩ hR
    obtain rfl : i = n := by omega
    refine codeAny_builtin F.entry_set_update_loop ?_
    rw [Around.under_plainId F.plain_set_update_loop _]
    show wpAny _ A.in1 (pyNext (.ref I) >>= _) _ _ s
    refine wpAny_bind (W.done s _ _ st fun s' mv => ?_)
    exact wpAny_pure (hR s' L (mv.mono wider) (Z.spAt sp fun o e => mv.heap S o hSw e) g (stay mv kp))
  | succ k ih =>
    intro i s hk hi st kp ⟨L, sp, g⟩ hR
    have lt : i < n := by omega
    refine codeAny_builtin F.entry_set_update_loop ?_
    rw [Around.under_plainId F.plain_set_update_loop _]
    show wpAny _ A.in1 (pyNext (.ref I) >>= _) _ _ s
    refine wpAny_bind (W.item i s _ _ lt st fun v s1 pv st1 mv => ?_)
    obtain ⟨m, em, vm⟩ := hv i v pv
    have kp1 := stay mv kp
    have sp1 : Z.sp s1.heap S L := Z.spAt sp fun o e => mv.heap S o hSw e
    show wpAny _ A.in1 (holding [v] (setAdd S v) >>= _) _ _ s1
    refine wpAny_bind (wpAny_holding ?_)
    refine Z.add sp1 (fun x hx => ?_) (Z.mvK vm kp1) (by have := g.len; omega) hu fun b h2 tk L' sb ht sp2 c1 c2 => ?_
    · obtain ⟨u, hu⟩ := hm x (List.mem_of_mem_take (g.sub x hx))
      exact ⟨u, Z.mvK hu kp1⟩
    · have kp2 : ∀ b o, h0.get? b = some o → h2.get? b = some o := fun b o e => (sb.2 b (fun z => by rw [z, hS0] at e; cases e)).trans (kp1 b o e)
      refine wpAny_pure ⟨plainId_quiet F.plain_set_update_loop _, ih (i + 1) _ (by omega) lt (W.frame _ s1 _ _ st1 ht fun c hc o e => ?_) kp2 ⟨L', sp2, g.step em c1 c2⟩ fun s3 L3 mv3 sp3 g3 kp3 => ?_⟩
      · rw [sb.2 c (fun h : c = S => hS (by rw [← h]; exact hc))]
        exact e
      · refine hR s3 L3 (Moved.trans W.gtrans ((mv.mono wider).then_heap ht fun c o hc e => ?_) mv3) sp3 g3 kp3
        rw [sb.2 c (fun h : c = S => hc (by rw [h]; exact List.mem_cons_self))]
        exact e

/-- set(xs), xs a list -/
theorem call_set {l : Addr} {items : Array Value} (ms : List μ) {Q : Value → Shared → Prop} (hh : A.handled = none) (hl : s.heap.IsList l items) (hi : PySem.W.EachIs (fun v m => Z.mv s.heap m v) items.toList ms)
    (few : ms.length < 64) (hu : A.units + 3 < cLine)
    (h : ∀ (h' : Heap) (tk : Nat) L, Z.sp h' s.heap.objs.size L → From Z ms ms.length L → (∀ b o, s.heap.get? b = some o → h'.get? b = some o) → Q (.ref s.heap.objs.size) { s with heap := h', toks := tk }) :
    wpAny (model P w) A (call
                              (.type "set") [.ref l]) Q E s := by
  have sz : items.size = ms.length := by
    have q := hi.length
    rw [Array.length_toList] at q
    exact q
  obtain ⟨c, tl, hmro⟩ := F.called_set.mro
  have hmade := F.called_set.made
  have hsub := F.called_set.sub
  refine wpAny_call (codeAny_of_tree ?_)
  show wpAny _ _ (callAny (.type "set") _) _ _ _
  refine wpAny_pure ⟨Code.quiet_builtin _
                                          (by decide +kernel), codeAny_builtin F.entry_type_call ?_⟩
  rw [Around.under_plain
                         (weight_type_call_type "set" [.ref l] []) rfl]
  have h1 := F.called_set.notType
  have h2 := F.called_set.canCreate
  have hct := F.typeCall_set_1 (.ref l)
  repeat (any_goals (first | assumption | wp_step))
  refine codeAny_mono (code_set_led1 (.ref l) (E := E) (Q₁ := fun obj s₁ => obj = .ref s.heap.objs.size ∧ s₁ = { s with heap := s.heap.push (newObj0 w) }) ⟨rfl, rfl⟩) fun r s₁ hr => ?_
  cases r with
  | error e => exact hr
  | ok fl =>
    cases fl with
    | ret obj =>
      obtain ⟨rfl, rfl⟩ := hr
      have hS : (s.heap.push (newObj0 w)).get? s.heap.objs.size = some (newObj0 w) := Heap.get?_push_size _ rfl
      have hT : Shared.TypeIs { s with heap := s.heap.push (newObj0 w) } (.ref s.heap.objs.size) "set" := ⟨_, hS, rfl⟩
      have hli := F.called_set.init.lookup
      have hbi := F.called_set.init.bind (.ref s.heap.objs.size)
      repeat (any_goals (first | assumption | wp_step))
      refine codeAny_mono (codeAny_call_builtin (R := wants (fun r s₂ => r = .none ∧ ∃ h' tk L, s₂ = { s with heap := h', toks := tk } ∧ Z.sp h' s.heap.objs.size L ∧ From Z ms ms.length L ∧
          (∀ b o, s.heap.get? b = some o → h'.get? b = some o)) E) F.called_set.init.plain F.entry_set_init
                                                                                                            (check_set_init_1 hT ?_)) fun r₂ s₂ hr₂ => ?_
      · obtain ⟨ol, hol, hcl, nl, hdl⟩ := hl
        obtain ⟨ocls, odict, odata, oslots⟩ := ol
        simp only at hcl hdl
        subst hcl; subst hdl
        have hol' : (s.heap.push (newObj0 w)).get? l = some { cls := .type "list", dict := odict, data := .seq items nl, slots := oslots } := Heap.get?_push_of_some _ hol
        have hsls := F.sub_list_set
        have hslf := F.sub_list_frozenset
        have hne :
                   (Value.type "list" == Value.type "dict") = false := by decide
        have hl1 : (s.heap.push (newObj0 w)).IsList l items := ⟨_, hol', rfl, nl, rfl⟩
        unfold Builtin.«set.__init__» noKeywords Builtin.Frozenset.updateFrom
        generalize hPI : pyIter = PI
        wp_walk
        subst hPI
        refine wpAny_pyIter_list hl1 ?_
        refine wpAny_bind (wpAny_runValue ?_)
        have lS : l < s.heap.objs.size := Heap.lt_size hol
        have hh3 : A.in1.in1.in1.handled = none := by simp [hh]
        have z1 : (s.heap.push (newObj0 w)).objs.size = s.heap.objs.size + 1 := Heap.size_push ..
        have neI : l ≠ (s.heap.push (newObj0 w)).objs.size := by
          rw [z1]
          exact Nat.ne_of_lt (Nat.lt_succ_of_lt lS)
        have nS : s.heap.objs.size ∉ [(s.heap.push (newObj0 w)).objs.size, l] := by
          rw [z1]
          simp only [List.mem_cons, List.mem_singleton, List.not_mem_nil, or_false, not_or]
          exact ⟨Nat.ne_of_lt (Nat.lt_succ_self _), Nat.ne_of_gt lS⟩
        have vals : ∀ (i : Nat) (v : Value), items[i]? = some v → ∃ m, ms[i]? = some m ∧ Z.mv s.heap m v := fun i v hv => each_get hi (by rw [Array.getElem?_toList]; exact hv)
        have out : ∀ b, s.heap.objs.size ≤ b → s.heap.get? b = none := fun b hb => by
          cases q : s.heap.get? b with
          | none => rfl
          | some o => exact absurd (Nat.lt_of_lt_of_le
                                                       (Heap.lt_size q) hb) (Nat.lt_irrefl _)
        refine fill_loop Z ((Walks.list hh3 _ l neI items).toS) s.heap.objs.size nS ms sz few s.heap vals (fun m hm => each_has hi hm) (out _ (Nat.le_refl _))
          (fun b hb => out b (by rw [List.mem_singleton.mp hb, z1]; exact Nat.le_succ _)) hu (items.size - 0) 0 _ (by omega) (Nat.zero_le _)
          ⟨⟨_, Heap.get?_push_size _ rfl, rfl, rfl⟩, (hl1.push _)⟩ (fun b o e => Heap.get?_push_of_some _ (Heap.get?_push_of_some _ e)) ⟨[], Z.fresh (Heap.get?_push_of_some _ hS), From.start Z ms⟩ ?_
        intro s3 L mv sp g kp
        obtain ⟨h3, g3, d3, tk3, os3⟩ := s3
        have eg : g3 = s.gens := mv.gens
        have ed : d3 = s.drawn := mv.drawn
        have eo : os3 = s.os := mv.os
        subst eg; subst ed; subst eo
        rw [sz] at g
        exact wpAny_pure (wpAny_pure ⟨rfl, h3, tk3, L, rfl, sp, g, kp⟩)
      · cases r₂ with
        | error e => exact hr₂
        | ok fl₂ =>
          cases fl₂ with
          | ret r =>
            obtain ⟨rfl, h', tk, L, rfl, sp, g, kp⟩ := hr₂
            repeat (any_goals (first | assumption | wp_step))
            exact h _ _ _ sp g kp
          | _ => exact hr₂.elim
    | _ => exact hr.elim
end
end KS
set_option maxHeartbeats 3200000
/-! sorted(set) over a Kit -/
namespace KS
open PySem PySem.Spec PyProof.Rows L2
section
variable {P : Program} {w : World} {A : Around} {E : Value → Shared → Prop} {s : Shared} {μ κ : Type} (Z : Kit P w μ κ)
theorem each_reads {enc : μ → PyData} {h h' : Heap} {a : Addr} (rd : ∀ {h : Heap} {m : μ} {v : Value}, Z.mv h m v → Reads h v (enc m) []) (k : ∀ b o, h.get? b = some o → h'.get? b = some o) :
    ∀ {vs : List Value} {ms : List μ}, PySem.W.EachIs (fun v m => Z.mv h m v) vs ms → PySem.W.EachIs (fun v b => ∃ as, Reads h' v (enc b) as ∧ a ∉ as) vs ms
  | _, _, .nil => .nil
  | _, _, .cons r t => .cons ⟨[], rd (Z.mvK r k), by simp⟩ (each_reads rd k t)
/-- sorted(set) -/
theorem sorted_kit {a : Addr} {L : List μ} {enc : μ → PyData} {Q : Value → Shared → Prop} (rd : ∀ {h : Heap} {m : μ} {v : Value}, Z.mv h m v → Reads h v (enc m) []) (R : Z.sp s.heap a L) (hm : ∀ m ∈ L, ∃ v, Z.mv s.heap m v) (hh : A.handled = none)
    (hal : PySem.W.AllAlike (L.map enc)) (hk : PySem.W.Sortable (L.map enc)) (hu : ∀ m ∈ L, A.in1.units + 1 + (enc m).depth < cLine)
    (hQ : ∀ s' p (out : Array Value) (c : Nat) (L1 : List μ), (∀ b o, s.heap.get? b = some o → s'.heap.get? b = some o) → s'.gens = s.gens → s'.os = s.os → s.heap.objs.size ≤ p →
      s'.heap.get? p = some (seqObj "list" out c) → L1.Perm L → PySem.W.EachIs (fun v m => Z.mv s.heap m v) out.toList (L1.mergeSort (PySem.W.dataLe false enc)) → Q (.ref p) s') :
    wpAny (model P w) A (call
                              (.builtin "sorted") [.ref a]) Q E s := by
  have few := Z.spFew R
  refine Calls.call_function_entry kind_sorted plain_sorted entry_sorted
                                                                         (args_sorted1 _) ?_
  unfold Builtin.«sorted»
  refine wpAny_bind
                    (m := checkCount "sorted" 1 1 _) (wpAny_pure ?_)
  refine wpAny_bind (Z.col (A := A.in1) R hm hh fun s1 vs L1 k1 hz g1 o1 pm ei => ?_)
  have len : vs.length = L1.length := ei.length
  have small : vs.length < 64 := by
    rw [len, pm.length_eq]
    exact few
  refine wpAny_bind (wpAny_newList ?_
                                      (by rw [sizeLine_eq]; omega))
  have hoL : (s1.heap.push (seqObj "list" vs.toArray 0)).get? s1.heap.objs.size = some
                                                                                       (seqObj "list" vs.toArray 0) := Heap.get?_push_size _ rfl
  have kk : ∀ b o, s.heap.get? b = some o → (s1.heap.push (seqObj "list" vs.toArray 0)).get? b = some o := fun b o e => Heap.get?_push_of_some _ (k1 b o e)
  have al1 : PySem.W.AllAlike (L1.map enc) := fun d hd d' hd' => hal d ((pm.map enc).mem_iff.mp hd) d' ((pm.map enc).mem_iff.mp hd')
  have so1 : PySem.W.Sortable (L1.map enc) := hk.imp (fun q d hd => q d ((pm.map enc).mem_iff.mp hd)) fun q d hd => q d ((pm.map enc).mem_iff.mp hd)
  refine wpAny_bind (wpAny_holding (PySem.W.list_sort_data (s := { s1 with heap := s1.heap.push (seqObj "list" vs.toArray 0) }) (R := fun v m => Z.mv s.heap m v) hoL ei (each_reads Z rd kk ei) al1 so1 (by rw [← len, sizeLine_eq]; omega) (fun m hm => hu m (pm.mem_iff.mp hm)) fun out e1 e2 => ?_))
  obtain ⟨c, hc⟩ := sortedHeap_at (vs := vs) (out := out.toArray) hoL
  refine wpAny_pure ⟨_, rfl, hQ _ s1.heap.objs.size out.toArray c L1 (fun b u e => ?_) g1 o1 hz hc pm (by simpa using e2)⟩
  have lt := Heap.lt_size e
  show (sortedHeap (s1.heap.push (seqObj "list" vs.toArray 0)) s1.heap.objs.size vs out.toArray).get? b = some u
  rw [sortedHeap_old (Nat.ne_of_lt (Nat.lt_of_lt_of_le lt hz)) (by rw [size_push']; exact Nat.lt_succ_of_lt (Nat.lt_of_lt_of_le lt hz))]
  exact kk b u e
end
end KS
set_option maxHeartbeats 3200000
/-! sets of tuples whose items are ints and texts -/
namespace KS
open PySem PySem.Spec PyProof.Rows L2

abbrev HT (P : Program) (w : World) (k : List Key) : Int := tupleKeyHash (mixKind P w) k
abbrev TpK (P : Program) (w : World) (h : Heap) (k : List Key) (b : Addr) : Prop := IsTupleKey (mixKind P w) h k b
abbrev Mem := Addr × List Key
def hs (P : Program) (w : World) (L : List Mem) : List Int := L.map fun p => HT P w p.2
def rws (P : Program) (w : World) (L : List Mem) : List (Int × Value) := L.map fun p => (HT P w p.2, Value.ref p.1)

section
variable {P : Program} {w : World} {A : Around}
                                                {E : Value → Shared → Prop} {s : Shared}
theorem items_key {k : List Key} {vs : List Value} (h : ItemsAre (mixKind P w) k vs) : ∀ v ∈ vs, ∃ q, keyIs q v = true := by
  induction h with
  | nil => intro v hv; cases hv
  | cons h1 _ ih =>
    intro v hv
    rcases List.mem_cons.mp hv with e | hv
    · rw [e]
      exact ⟨_, h1⟩
    · exact ih v hv
theorem noClass (n : Nat) {q : Key} {v : Value} (h : keyIs q v = true) : ofAClassStatement n v = pure false := by
  rcases keyIs_shape h with ⟨i, t, rfl, rfl⟩ | ⟨x, t, rfl, rfl⟩ <;> cases n <;> rfl
theorem byVal (n : Nat) {q : Key} {v : Value} (h : keyIs q v = true) : ∃ b, hashByValue n v = pure b := by
  rcases keyIs_shape h with ⟨i, t, rfl, rfl⟩ | ⟨x, t, rfl, rfl⟩ <;> cases n <;> exact ⟨_, rfl⟩
theorem tup_noClass {k : List Key} {b : Addr} {Q : Bool → Shared → Prop} (hk : TpK P w s.heap k b) (h : Q false s) : wpAny (model P w) A (ofAClassStatement 8 (.ref b)) Q E s := by
  have hT := hk.typeIs
  obtain ⟨o, its, n, ho, _, hd, hi⟩ := hk
  unfold ofAClassStatement
  refine wpAny_bind (wpAny_typeOf hT ?_)
  dsimp only
  have e : (("tuple" : String) == "tuple") = true := by decide
  simp only [e, if_true, Bool.not_true, Bool.false_eq_true, if_false]
  try refine wpAny_bind (wpAny_pure ?_)
  try simp only [Bool.not_true, Bool.false_eq_true, if_false]
  show wpAny _ _ (seqItems? (.ref b) >>= _) _ _ s
  refine wpAny_bind (wpAny_seqItems ho hd ?_)
  dsimp only
  refine wpAny_bind ?_
  show wpAny _ _ (forIn its _ _) _ _ s
  rw [← Array.forIn_toList]
  refine wpAny_forIn_list _ (fun rest r s' => r.1 = none ∧ s' = s ∧ ∀ v ∈ rest, ∃ q, keyIs q v = true) _ ?_ ?_ _ _ ⟨rfl, rfl, items_key hi⟩
  · rintro v rest r s' ⟨hr, rfl, all⟩
    obtain ⟨q, hq⟩ := all v List.mem_cons_self
    rw [noClass _ hq]
    refine wpAny_bind (wpAny_pure ?_)
    simp only [Bool.false_eq_true, if_false]
    exact wpAny_pure ⟨rfl, rfl, fun u hu' => all u (List.mem_cons_of_mem _ hu')⟩
  · rintro ⟨r1, r2⟩ s' ⟨hr, rfl, _⟩
    simp only at hr
    subst hr
    exact wpAny_pure h
theorem tup_byVal {k : List Key} {b : Addr} {Q : Bool → Shared → Prop} (hk : TpK P w s.heap k b) (h : ∀ z, Q z s) : wpAny (model P w) A (hashByValue 8 (.ref b)) Q E s := by
  have hT := hk.typeIs
  obtain ⟨o, its, n, ho, _, hd, hi⟩ := hk
  unfold hashByValue
  refine wpAny_bind
                    (wpAny_specialOf hT F.slot_tuple_hash.lookup ?_)
  show wpAny _ _ (seqItems? (.ref b) >>= _) _ _ s
  refine wpAny_bind (wpAny_seqItems ho hd ?_)
  refine wpAny_bind ?_
  show wpAny _ _ (forIn its _ _) _ _ s
  rw [← Array.forIn_toList]
  refine wpAny_forIn_list _ (fun rest r s' => r.1 = none ∧ s' = s ∧ ∀ v ∈ rest, ∃ q, keyIs q v = true) _ ?_ ?_ _ _ ⟨rfl, rfl, items_key hi⟩
  · rintro v rest r s' ⟨hr, rfl, all⟩
    obtain ⟨q, hq⟩ := all v List.mem_cons_self
    obtain ⟨z, e⟩ := byVal 7 hq
    rw [e]
    refine wpAny_bind (wpAny_pure ?_)
    cases z with
    | true =>
      simp only [Bool.not_true, Bool.false_eq_true, if_false]
      exact wpAny_pure ⟨rfl, rfl, fun u hu' => all u (List.mem_cons_of_mem _ hu')⟩
    | false =>
      simp only [Bool.not_false, if_true]
      exact wpAny_pure (wpAny_pure (h _))
  · rintro ⟨r1, r2⟩ s' ⟨hr, rfl, _⟩
    simp only at hr
    subst hr
    exact wpAny_pure (h _)
/-- comparing tuples shows nothing -/
theorem tup_unseen {k : List Key} {b : Addr} {Q : Bool → Shared → Prop} (hk : TpK P w s.heap k b) {ys : List Value} (hy : ∀ y ∈ ys, ∃ k' c, y = Value.ref c ∧ TpK P w s.heap k' c) (h : Q false s) :
    wpAny (model P w) A (searchCouldBeSeen
                                           (.ref b) ys) Q E s := by
  unfold searchCouldBeSeen
  refine wpAny_bind ?_
  refine wpAny_forIn_list _ (fun rest r s' => r.1 = none ∧ s' = s ∧ ∀ y ∈ rest, ∃ k' c, y = Value.ref c ∧ TpK P w s.heap k' c) _ ?_ ?_ _ _ ⟨rfl, rfl, hy⟩
  · rintro v rest r s' ⟨hr, rfl, all⟩
    obtain ⟨k', c, rfl, hc⟩ := all v List.mem_cons_self
    have more : ∀ y ∈ rest, ∃ k' c, y = Value.ref c ∧ TpK P w s'.heap k' c := fun u hu' => all u (List.mem_cons_of_mem _ hu')
    dsimp only
    by_cases hv : (b == c || (carriedByValue
                                             (.ref b) && carriedByValue (.ref c))) = true
    · exact wp_if_pos hv (wpAny_pure ⟨rfl, rfl, more⟩)
    · refine wp_if_neg hv (wpAny_bind (wpAny_eqIsQuiet_tuple hk ?_))
      simp only [Bool.not_true, Bool.false_eq_true, if_false]
      refine wpAny_bind (wpAny_eqIsQuiet_tuple hc ?_)
      simp only [Bool.not_true, Bool.false_eq_true, if_false]
      refine wpAny_bind (tup_noClass hk ?_)
      simp only [Bool.false_eq_true, if_false]
      refine wpAny_bind (tup_noClass hc ?_)
      simp only [Bool.false_eq_true, if_false]
      exact wpAny_pure ⟨rfl, rfl, more⟩
  · rintro ⟨r1, r2⟩ s' ⟨hr, rfl, _⟩
    simp only at hr
    subst hr
    exact wpAny_pure h
end

/-! ### the table -/
structure SpT (P : Program) (w : World) (h : Heap) (a : Addr) (L : List Mem) (es : Array (Int × Value)) (ep : Nat) (t : SetTable) (o : Obj) : Prop where
  ho : h.get? a = some o
  hex : o.ExactSet
  hd : o.data = .set es ep t
  rows : es.toList = rws P w L
  tab : TabOk t (hs P w L)
  nd : (L.map (·.2)).Nodup
  led : w.params.followText "set-order" = true ∨ t.led = true
  room : L.length * 5 < t.mask * 3
  few : L.length < 64
section
variable {P : Program} {w : World} {A : Around} {E : Value → Shared → Prop} {s : Shared} {a : Addr} {L : List Mem} {es : Array (Int × Value)} {ep : Nat} {t : SetTable} {o : Obj}
theorem rws_len {es : Array (Int × Value)} {L : List Mem} (h : es.toList = rws P w L) : es.size = L.length := by
  have e := congrArg List.length h
  unfold rws at e
  rw [Array.length_toList, List.length_map] at e
  exact e
theorem hs_len (L : List Mem) : (hs P w L).length = L.length := List.length_map _
theorem fits_of {t : SetTable} {n : Nat} (hz : t.place.size = n) (hd : t.dummies = #[]) (hn : n ≤ t.mask) : t.fits n = true := by
  unfold SetTable.fits SetTable.fill
  rw [hd, Bool.and_eq_true, beq_iff_eq, decide_eq_true_eq]
  show t.place.size = n ∧ t.place.size + 0 ≤ t.mask
  omega
theorem SpT.fit {h : Heap} (R : SpT P w h a L es ep t o) : t.fits es.size = true := by
  have e := R.tab.sz
  rw [hs_len] at e
  have f := rws_len R.rows
  have g := R.room
  exact fits_of (by omega) R.tab.dm (by omega)
theorem SpT.at_ {h : Heap} (R : SpT P w h a L es ep t o) {i : Nat} {p : Mem} (e : L[i]? = some p) : es[i]? = some (HT P w p.2, Value.ref p.1) := by
  rw [← Array.getElem?_toList, R.rows]
  unfold rws
  rw [List.getElem?_map, e] <;> rfl
/-- the c-th step of a search -/
abbrev stp (t : SetTable) (h : Int) (c : Nat) : SetTable.Probe := nth t.mask (runAt t.mask (SetTable.bits h % (t.mask + 1)) (SetTable.bits h)) c
theorem stp_dm (t : SetTable) (h : Int) (c : Nat) : (stp t h c).dummy = none := by
  have key : ∀ (n : Nat) (p : SetTable.Probe), p.dummy = none →
                                                                (nth t.mask p n).dummy = none := by
    intro n
    induction n with
    | zero => intro p h; exact h
    | succ n ih =>
      intro p h
      refine ih (adv t.mask p) ?_
      unfold adv
      split <;> exact h
  exact key c _ rfl
theorem stp_add (t : SetTable) (h : Int) (c q : Nat) : nth t.mask (stp t h c) q = stp t h (c + q) := (nth_add t.mask c _ q).symm

/-- the search, from the c-th step on -/
theorem seek (R : SpT P w s.heap a L es ep t o) (tup : ∀ p ∈ L, TpK P w s.heap p.2 p.1) {x : Addr} {k : List Key} (hx : TpK P w s.heap k x) (hu : A.units < cLine) {K : Nat} (hKf : K < 10 * SetTable.turns t.mask)
    (hK : way t.mask (HT P w k) K ∉ t.place.toList) (hKb : ∀ c, c < K → way t.mask (HT P w k) c ∈ t.place.toList) {Q : SetFound → Shared → Prop}
    (hin : k ∈ L.map (·.2) → Q (.there none) s) (hout : k ∉ L.map (·.2) → Q (.free (way t.mask (HT P w k) K) false) s) :
    ∀ (f c : Nat) (stand : Option SetTable.Probe), stand.getD (t.probeStart (HT P w k)) = stp t (HT P w k) c → c ≤ K → K - c < f →
      (∀ (i : Nat) p, L[i]? = some p → p.2 = k → ∃ c', c ≤ c' ∧ c' < K ∧ t.place.toList[i]? = some (way t.mask (HT P w k) c')) →
      wpAny (model P w) A (setSearchFrom a (.ref x) (HT P w k) true f stand) Q E s
  | 0, c, stand, _, _, hf, _ => absurd hf (Nat.not_lt_zero _)
  | f + 1, c, stand, hst, hc, hf, hre => by
    have gw : ¬ t.gaveWay = true := by
      unfold SetTable.gaveWay
      rw [mask_odd R.tab.mok]
      decide
    rw [setSearchFrom_succ]
    refine wpAny_bind (wpAny_setState_of R.ho R.hd R.fit ?_)
    dsimp only
    refine wp_if_neg gw ?_
    try refine wpAny_bind (wpAny_pure ?_)
    have wj : ∀ q, (nth t.mask (stp t (HT P w k) c) q).j = way t.mask (HT P w k) (c + q) := fun q => congrArg SetTable.Probe.j (stp_add t _ c q)
    have hash_at : ∀ (i : Nat) p, L[i]? = some p → (es[i]?.map (·.1)).getD 0 = HT P w p.2 := fun i p hp => by
      rw [R.at_ hp] <;> rfl
    have spec := go_spec t R.tab.ris R.tab.dm (fun i => (es[i]?.map (·.1)).getD 0) (HT P w k) (10 * SetTable.turns t.mask) (K - c) _ (stp_dm t (HT P w k) c) (by omega)
      (fun q hq => by rw [wj]; exact hKb (c + q) (by omega)) (by rw [wj, show c + (K - c) = K by omega]; exact hK)
    rcases spec with ⟨q, i, hq, hi, hh, hno, hpr⟩ | ⟨hno, hpr⟩
    · have met : t.probe (fun i => (es[i]?.map (·.1)).getD 0) (HT P w k) (stand.getD (t.probeStart (HT P w k))) = some (.candidate (way t.mask (HT P w k) (c + q)) i (stp t (HT P w k) (c + (q + 1)))) := by
        rw [hst, ← wj, ← stp_add]
        exact hpr
      rw [met]
      dsimp only
      rw [wj] at hi
      have hil : i < L.length := by
        have h1 : i < t.place.toList.length :=
                                               (List.getElem?_eq_some_iff.mp hi).1
        have h2 := R.tab.sz
        rw [hs_len] at h2
        rw [Array.length_toList] at h1
        omega
      obtain ⟨p, hp⟩ : ∃ p, L[i]? = some p := ⟨_, List.getElem?_eq_getElem hil⟩
      have pm : p ∈ L := List.mem_of_getElem? hp
      have rest : wpAny (model P w) A (searchRest a (.ref x) (HT P w k) true f es t (way t.mask (HT P w k) (c + q)) i (stp t (HT P w k) (c + (q + 1)))) Q E s := by
        unfold searchRest
        rw [R.at_ hp]
        dsimp only
        refine wpAny_bind (wpAny_holding (wpAny_eqBool_tuple hu (tup p pm) hx ?_))
        refine wpAny_bind (wpAny_setState_of R.ho R.hd R.fit ?_)
        dsimp only
        by_cases same : p.2 = k
        · exact wp_if_pos (by simp [same]) (wpAny_pure (hin (List.mem_map.mpr ⟨p, pm, same⟩)))
        · refine wp_if_neg (by simp [same]) ?_
          try refine wpAny_bind (wpAny_pure ?_)
          rw [sameMem]
          dsimp only
          have here : t.slot (way t.mask (HT P w k) (c + q)) = .live i := slot_live R.tab.ris hi
          simp only [if_true, here, R.at_ hp]
          refine wpAny_bind (wpAny_isSame_ref_self
                                                   (wpAny_bind (wpAny_pure ?_)))
          simp only [if_true]
          refine wp_if_neg (by simp [same]) ?_
          refine seek R tup hx hu hKf hK hKb hin hout f (c + (q + 1)) _ rfl (by omega) (by omega) fun i0 p0 h0 k0 => ?_
          obtain ⟨c', a1, a2, a3⟩ := hre i0 p0 h0 k0
          refine ⟨c', ?_, a2, a3⟩
          -- it has not been passed: neither before the candidate nor at it
          rcases Nat.lt_trichotomy c' (c + q) with z | z | z
          · exact absurd ((hash_at i0 p0 h0).trans (congrArg (HT P w) k0)) (hno (c' - c) i0 (by omega) (by rw [wj, show c + (c' - c) = c' by omega]; exact a3))
          · rw [z] at a3
            have e0 := slot_live R.tab.ris a3
            rw [here] at e0
            injection e0 with e0
            rw [← e0, hp] at h0
            exact absurd ((congrArg Prod.snd (Option.some.inj h0)).trans k0) same
          · omega
      by_cases hl : t.led = true
      · refine wp_if_neg (by simp [hl]) ?_
        try refine wpAny_bind (wpAny_pure ?_)
        exact rest
      · refine wp_if_pos (by simp [hl]) ?_
        refine wpAny_bind (tup_unseen hx (fun y hy => ?_) ?_)
        · obtain ⟨e, he, ee⟩ := List.mem_map.mp hy
          have he1 : e ∈ es ∧ e.1 = HT P w k := by simpa using he
          have he2 : e ∈ es.toList := by simpa using he1.1
          rw [R.rows] at he2
          obtain ⟨p2, m2, e2⟩ := List.mem_map.mp he2
          exact ⟨p2.2, p2.1, by rw [← ee, ← e2], tup p2 m2⟩
        · refine wp_if_neg (by decide) ?_
          try refine wpAny_bind (wpAny_pure ?_)
          exact rest
    · have met : t.probe (fun i => (es[i]?.map (·.1)).getD 0) (HT P w k) (stand.getD (t.probeStart (HT P w k))) = some (.empty (way t.mask (HT P w k) K) none) := by
        have e2 : way t.mask (HT P w k) K = (nth t.mask (stp t (HT P w k) c) (K - c)).j := by
          rw [wj, show c + (K - c) = K by omega]
        rw [hst, e2]
        exact hpr
      rw [met]
      dsimp only
      refine wpAny_pure (hout fun hm => ?_)
      obtain ⟨p0, m0, k0⟩ := List.mem_map.mp hm
      obtain ⟨i0, l0, e0⟩ := List.getElem_of_mem m0
      have h0 : L[i0]? = some p0 := by rw [List.getElem?_eq_getElem l0, e0]
      obtain ⟨c', a1, a2, a3⟩ := hre i0 p0 h0 k0
      exact absurd ((hash_at i0 p0 h0).trans (congrArg (HT P w) k0)) (hno (c' - c) i0 (by omega) (by rw [wj, show c + (c' - c) = c' by omega]; exact a3))
theorem seek0 (R : SpT P w s.heap a L es ep t o) (tup : ∀ p ∈ L, TpK P w s.heap p.2 p.1) {x : Addr} {k : List Key} (hx : TpK P w s.heap k x) (hu : A.units < cLine) {Q : SetFound → Shared → Prop}
    (hin : k ∈ L.map (·.2) → Q (.there none) s)
    (hout : ∀ K, k ∉ L.map (·.2) → way t.mask (HT P w k) K ∉ t.place.toList → (∀ c, c < K → way t.mask (HT P w k) c ∈ t.place.toList) → Q (.free (way t.mask (HT P w k) K) false) s) :
    wpAny (model P w) A (setSearch a (.ref x) (HT P w k) true) Q E s := by
  have hroom := R.room
  obtain ⟨K, f1, f2, f3⟩ := R.tab.first (by rw [hs_len]; omega) (HT P w k)
  have big : 10 * SetTable.turns t.mask ≤ 1420 := by
    unfold SetTable.turns
    rcases R.tab.mok with e | e | e <;> omega
  unfold setSearch
  refine seek R tup hx hu f1 f2 f3 hin (fun hn => hout K hn f2 f3) 100000 0 none rfl (Nat.zero_le _) (by omega) fun i p hp hk => ?_
  have hi : (hs P w L)[i]? = some (HT P w k) := by
    unfold hs
    rw [List.getElem?_map, hp, ← hk] <;> rfl
  have lt : i < t.place.toList.length := by
    have h1 : i < L.length :=
                              (List.getElem?_eq_some_iff.mp hp).1
    have h2 := R.tab.sz
    rw [hs_len] at h2
    rw [Array.length_toList]
    omega
  obtain ⟨c, hc, e⟩ := R.tab.before f2 hi (List.getElem?_eq_getElem lt)
  exact ⟨c, Nat.zero_le _, hc, by rw [List.getElem?_eq_getElem lt, e]⟩
end
end KS
set_option maxHeartbeats 3200000
namespace KS
open PySem PySem.Spec PyProof.Rows L2

section
variable {P : Program} {w : World} {A : Around} {E : Value → Shared → Prop} {s : Shared} {a : Addr} {L : List Mem} {es : Array (Int × Value)} {ep : Nat} {t : SetTable} {o : Obj}
/-- a tuple is not the set that changes -/
theorem tt_same {h h' : Heap} {k : List Key} {b : Addr} (x : TpK P w h k b) (ho : h.get? a = some o) (hd : o.data = .set es ep t) (sb : Heap.SameBut a h h') : TpK P w h' k b := by
  obtain ⟨u, its, n, hu, hc, hd', hi⟩ := x
  refine ⟨u, its, n, (sb.2 b ?_).trans hu, hc, hd', hi⟩
  rintro rfl
  rw [ho] at hu
  rw [← Option.some.inj hu, hd] at hd'
  exact nomatch hd'
theorem tt_keep {h h' : Heap} {k : List Key} {b : Addr} (x : TpK P w h k b) (kk : ∀ c o, h.get? c = some o → h'.get? c = some o) : TpK P w h' k b := by
  obtain ⟨u, its, n, hu, r⟩ := x
  exact ⟨u, its, n, kk b u hu, r⟩
theorem hs_ins (L : List Mem) (i : Nat) (m : Mem) : hs P w (L.take i ++ m :: L.drop i) = (hs P w L).take i ++ HT P w m.2 :: (hs P w L).drop i := by
  unfold hs
  rw [List.map_append, List.map_cons, List.map_take, List.map_drop]
theorem rws_ins (L : List Mem) (i : Nat) (m : Mem) : rws P w (L.take i ++ m :: L.drop i) = (rws P w L).take i ++ (HT P w m.2, Value.ref m.1) :: (rws P w L).drop i := by
  unfold rws
  rw [List.map_append, List.map_cons, List.map_take, List.map_drop]
/-- rows picked by an order -/
theorem picked {es : Array (Int × Value)} (hr : es.toList = rws P w L) : ∀ l : List Nat, (∀ i ∈ l, i < L.length) →
    l.filterMap (fun i => es[i]?) = rws P w (l.filterMap fun i => L[i]?) ∧ hs P w (l.filterMap fun i => L[i]?) = l.map fun i => (es.map (·.1)).getD i 0
  | [], _ => ⟨rfl, rfl⟩
  | i :: l, hl => by
    have lt := hl i List.mem_cons_self
    obtain ⟨e1, e2⟩ := picked hr l fun j hj => hl j (List.mem_cons_of_mem _ hj)
    have q : L[i]? = some L[i] := List.getElem?_eq_getElem lt
    have en : es[i]? = some (HT P w (L[i]).2, Value.ref (L[i]).1) := by
      rw [← Array.getElem?_toList, hr]
      unfold rws
      rw [List.getElem?_map, q] <;> rfl
    have eg : (es.map (·.1)).getD i 0 = HT P w (L[i]).2 := by
      have e5 : (es.map (·.1))[i]? = some (HT P w (L[i]).2) := by rw [Array.getElem?_map, en] <;> rfl
      simp [Array.getD_eq_getD_getElem?, e5]
    refine ⟨?_, ?_⟩
    · rw [List.filterMap_cons_some en, List.filterMap_cons_some q, e1] <;> rfl
    · rw [List.filterMap_cons_some q, List.map_cons, eg, ← e2] <;> rfl
theorem pick_all {α : Type} (L : List α) : ∀ n, n ≤ L.length → (List.range n).filterMap (fun i => L[i]?) = L.take n
  | 0, _ => rfl
  | n + 1, h => by
    have lt : n < L.length := h
    rw [List.range_succ, List.filterMap_append, pick_all L n (Nat.le_of_lt lt), List.take_succ, List.getElem?_eq_getElem lt, List.filterMap_cons_some (List.getElem?_eq_getElem lt)] <;> rfl

theorem relay (ho : s.heap.get? a = some o) (hex : o.ExactSet) (hd : o.data = .set es ep t) (hr : es.toList = rws P w L) (hz : t.place.size = es.size) (dm : t.dummies = #[]) (hm : es.size ≤ t.mask)
    (nd : (L.map (·.2)).Nodup) (led : w.params.followText "set-order" = true ∨ t.led = true) (few : L.length < 64) {wanted M : Nat} (hw : SetTable.sizeAbove wanted - 1 = M) (hM : MaskOk M) (h128 : SetTable.sizeAbove wanted ≤ 128) (room : L.length * 5 < M * 3)
    {Q : Unit → Shared → Prop} (hQ : ∀ h' L' es' ep' t' o', Heap.SameBut a s.heap h' → SpT P w h' a L' es' ep' t' o' → L'.Perm L → Q () { s with heap := h' }) : wpAny (model P w) A (setRelay a wanted) Q E s := by
  have len := rws_len hr
  obtain ⟨t', order, e, pm, T, em, el, _, _⟩ := relaid_ok t (hs := es.map (·.1)) (wanted := wanted) hw hM (by rw [Array.size_map, len]; omega)
  rw [Array.size_map, len] at pm
  obtain ⟨r1, r2⟩ := picked (P := P) (w := w) hr order.toList fun i hi => List.mem_range.mp (pm.mem_iff.mp hi)
  have p2 : (order.toList.filterMap fun i => L[i]?).Perm L := by
    have q := pm.filterMap fun i => L[i]?
    rw [pick_all L L.length (Nat.le_refl _), List.take_length] at q
    exact q
  generalize order.toList.filterMap (fun i => L[i]?) = L2 at r1 r2 p2
  rw [← r2] at T
  have r1' : (order.filterMap (es[·]?)).toList = rws P w L2 := by first | (rw [Array.toList_filterMap]; exact r1) | simpa using r1
  have sz2 : (order.filterMap (es[·]?)).size = es.size := by rw [rws_len r1', p2.length_eq, len]
  rw [setRelay_eq]
  refine wpAny_bind (wpAny_setState_of ho hd (fits_of hz dm hm) ?_)
  dsimp only
  refine wp_if_neg (by rw [sizeLine_eq]; omega) ?_
  try refine wpAny_bind (wpAny_pure ?_)
  rw [e]
  dsimp only
  refine wpAny_bind ?_
  refine wp_if_neg (by rw [sz2]; simp) ?_
  try refine wpAny_bind (wpAny_pure ?_)
  refine wpAny_pure ?_
  dsimp only
  refine wpAny_storeSet_of ho hd ?_ (by rw [sz2, len, sizeLine_eq]; omega)
  exact hQ _ L2 _ (ep + 1) t' _ (Heap.SameBut.update ..) ⟨store_at ho hd, ⟨hex.1, hex.2.1, hex.2.2⟩, rfl, r1', T, (p2.map (·.2)).nodup_iff.mpr nd, by rw [el]; exact led, by rw [p2.length_eq, em]; exact room, by rw [p2.length_eq]; exact few⟩ p2

theorem add_tup (R : SpT P w s.heap a L es ep t o) (tup : ∀ p ∈ L, TpK P w s.heap p.2 p.1) {x : Addr} {k : List Key} (hx : TpK P w s.heap k x) (hu : A.units < cLine) (few : L.length + 1 < 64) {Q : Bool → Shared → Prop}
    (hQ : ∀ b h' L' es' ep' t' o', Heap.SameBut a s.heap h' → SpT P w h' a L' es' ep' t' o' → (k ∈ L.map (·.2) → L' = L) → (k ∉ L.map (·.2) → L'.Perm ((x, k) :: L)) → Q b { s with heap := h' }) :
    wpAny (model P w) A (setAddHashed a (.ref x) (HT P w k)) Q E s := by
  have hroom := R.room
  unfold setAddHashed
  refine wpAny_holding ?_
  rw [show (100000 : Nat) = 99999 + 1 from rfl, setAddHashedIn_succ]
  refine wpAny_bind (wpAny_setState_of R.ho R.hd R.fit ?_)
  dsimp only
  refine wp_if_neg (by simp [byScan, Value.scannable]) ?_
  try refine wpAny_bind (wpAny_pure ?_)
  refine wpAny_bind (seek0 R tup hx hu (fun hm => ?_) fun K hm hK hb => ?_)
  · exact wpAny_pure (hQ false s.heap L es ep t o (Heap.SameBut.refl a s.heap) R (fun _ => rfl) fun z => absurd hm z)
  dsimp only
  refine wpAny_bind (wpAny_setState_of R.ho R.hd R.fit ?_)
  dsimp only
  obtain ⟨q1, q2, q3, q4, q5, _, _, _, q9⟩ := R.tab.put hK hb
  generalize t.put (way t.mask (HT P w k) K) = pt at q1 q3 q4 q5 q9 ⊢
  obtain ⟨t1, i⟩ := pt
  dsimp only at q1 q3 q4 q5 q9 ⊢
  subst q1
  generalize SetTable.below t.place (way t.mask (HT P w k) K) = i at q2 q3 ⊢
  rw [← hs_ins L i (x, k)] at q3
  rw [hs_len] at q9
  have pm : (L.take i ++ (x, k) :: L.drop i).Perm ((x, k) :: L) := put_perm L i (x, k)
  have hr : (SetTable.insertAt es i (HT P w k, Value.ref x)).toList = rws P w (L.take i ++ (x, k) :: L.drop i) := by rw [SetTable.toList_insertAt, rws_ins, R.rows]
  have len : (L.take i ++ (x, k) :: L.drop i).length = L.length + 1 := pm.length_eq
  have nd1 : ((L.take i ++ (x, k) :: L.drop i).map (·.2)).Nodup := by
    refine (pm.map (·.2)).nodup_iff.mpr ?_
    rw [List.map_cons]
    exact List.nodup_cons.mpr ⟨hm, R.nd⟩
  generalize SetTable.insertAt es i (HT P w k, Value.ref x) = es1 at hr ⊢
  generalize L.take i ++ (x, k) :: L.drop i = L1 at pm hr len nd1 q3
  have sz1 : es1.size = L.length + 1 := by rw [rws_len hr, len]
  have led1 : w.params.followText "set-order" = true ∨ t1.led = true := by rw [q5]; exact R.led
  have lenT : t1.place.size = L.length + 1 := by
    have e := q3.sz
    rw [hs_len, len] at e
    exact e
  rw [rws_len R.rows]
  -- what follows, whether or not the table stays plain
  have rest : ∀ t2 : SetTable, t2.mask = t1.mask → t2.place = t1.place → t2.dummies = t1.dummies → t2.led = t1.led → TabOk t2 (hs P w L1) →
      wpAny (model P w) A (do
        storeSet a es1 t2
        if (!false && t2.tooFull) = true then setRelay a (SetTable.grown (L.length + 1))
        return true) Q E s := fun t2 m2 p2 d2 l2 T2 => by
    refine wpAny_bind (wpAny_storeSet_of R.ho R.hd ?_ (by rw [sz1, sizeLine_eq]; omega))
    have sb : Heap.SameBut a s.heap (s.heap.update a (Obj.putSet es1 t2)) := Heap.SameBut.update ..
    have o1 := store_at (es' := es1) (t' := t2) R.ho R.hd
    generalize s.heap.update a (Obj.putSet es1 t2) = h1 at sb o1 ⊢
    have led2 : w.params.followText "set-order" = true ∨ t2.led = true := by rw [l2]; exact led1
    have fill2 : t2.fill = L.length + 1 := by
      show t2.place.size + t2.dummies.size = L.length + 1
      rw [p2, d2]
      exact q9
    by_cases full : t2.tooFull = true
    · have big : (L.length + 1) * 5 ≥ t2.mask * 3 := by
        have h := full
        unfold SetTable.tooFull at h
        rw [decide_eq_true_eq, fill2] at h
        exact h
      have two : (t.mask = 7 ∧ L.length = 4) ∨ (t.mask = 31 ∧ L.length = 18) := by
        rcases R.tab.mok with e | e | e
        · left; rw [m2, q4, e] at big; rw [e] at hroom; exact ⟨e, by omega⟩
        · right; rw [m2, q4, e] at big; rw [e] at hroom; exact ⟨e, by omega⟩
        · exfalso; rw [m2, q4, e] at big; omega
      have go : ∀ M, SetTable.sizeAbove (SetTable.grown (L.length + 1)) - 1 = M → MaskOk M → SetTable.sizeAbove
                                                                                                                (SetTable.grown (L.length + 1)) ≤ 128 → (L.length + 1) * 5 < M * 3 →
          wpAny (model P w) A (setRelay a (SetTable.grown (L.length + 1))) (fun _ s' => wpAny (model P w) A (pure true) Q E s') E { s with heap := h1 } := fun M g1 g2 g3 g4 => by
        refine relay (s := { s with heap := h1 }) o1 ⟨R.hex.1, R.hex.2.1, R.hex.2.2⟩ rfl hr (by rw [p2, lenT, sz1]) (by rw [d2]; exact q3.dm) (by rw [sz1, m2, q4]; rcases two with ⟨e, e2⟩ | ⟨e, e2⟩ <;> omega) nd1 led2 (by rw [len]; exact few) g1 g2 g3 (by rw [len]; exact g4) ?_
        intro h2 L3 es3 ep3 t3 o3 sb3 R3 pm3
        exact wpAny_pure (hQ true h2 L3 es3 ep3 t3 o3 (sb.trans sb3) R3 (fun z => absurd z hm) fun _ => pm3.trans pm)
      first
        | (refine wpAny_bind ?_; refine wp_if_pos (by simp [full]) ?_)
        | (refine wp_if_pos (by simp [full]) ?_; refine wpAny_bind ?_)
      rcases two with ⟨_, e2⟩ | ⟨_, e2⟩
      · exact go 31 (by rw [e2, size_20]) (.inr (.inl rfl)) (by rw [e2, size_20]; decide) (by omega)
      · exact go 127 (by rw [e2, size_76]) (.inr (.inr rfl)) (by rw [e2, size_76]; decide) (by omega)
    · first
        | refine wp_if_neg (by simp [full]) ?_
        | (refine wpAny_bind ?_; refine wp_if_neg (by simp [full]) ?_; refine wpAny_pure ?_)
      refine wpAny_pure (hQ true h1 L1 es1 (ep + 1) t2 _ sb ⟨o1, ⟨R.hex.1, R.hex.2.1, R.hex.2.2⟩, rfl, hr, T2, nd1, led2, ?_, by rw [len]; exact few⟩ (fun z => absurd z hm) fun _ => pm)
      have h := full
      unfold SetTable.tooFull at h
      rw [decide_eq_true_eq, fill2] at h
      rw [len]
      omega
  have T0 : TabOk { t1 with plain := false } (hs P w L1) := ⟨q3.ris, q3.dm, q3.sz, q3.mok, q3.bd, q3.reach⟩
  by_cases pl : t1.plain = true
  · first
      | (refine wpAny_bind ?_; refine wp_if_pos pl ?_; refine tup_byVal hx fun z => ?_)
      | refine wp_if_pos pl (wpAny_bind (tup_byVal hx fun z => ?_))
    cases z with
    | true =>
      simp only [if_true]
      exact rest t1 rfl rfl rfl rfl q3
    | false =>
      simp only [Bool.false_eq_true, if_false]
      exact rest { t1 with plain := false } rfl rfl rfl rfl T0
  · first
      | (refine wpAny_bind ?_; refine wp_if_neg pl ?_; refine wpAny_pure ?_)
      | refine wp_if_neg pl (wpAny_bind (wpAny_pure ?_))
    simp only [if_true]
    exact rest t1 rfl rfl rfl rfl q3
end
end KS
set_option maxHeartbeats 3200000
namespace KS
open PySem PySem.Spec PyProof.Rows L2

theorem perm_pre {α β : Type} {f : α → β} {out l : List β} (p : out.Perm l) : ∀ L : List α, l = L.map f → ∃ L' : List α, L'.Perm L ∧ out = L'.map f := by
  induction p with
  | nil =>
    intro L e
    cases L with
    | nil => exact ⟨[], .nil, rfl⟩
    | cons x L => exact nomatch e
  | cons x _ ih =>
    intro L e
    cases L with
    | nil => exact nomatch e
    | cons y L =>
      rw [List.map_cons] at e
      injection e with e1 e2
      obtain ⟨L', q1, q2⟩ := ih L e2
      exact ⟨y :: L', q1.cons y, by rw [List.map_cons, ← q2, e1]⟩
  | swap x y l =>
    intro L e
    match L, e with
    | a :: b :: L, e =>
      rw [List.map_cons, List.map_cons] at e
      injection e with e1 e2
      injection e2 with e2 e3
      exact ⟨b :: a :: L, .swap _ _ _, by rw [List.map_cons, List.map_cons, e1, e2, e3]⟩
  | trans _ _ ih1 ih2 =>
    intro L e
    obtain ⟨L2, q1, q2⟩ := ih2 L e
    obtain ⟨L1, q3, q4⟩ := ih1 L2 q2
    exact ⟨L1, q3.trans q1, q4⟩
theorem each_map_of {α : Type} {R : Value → α → Prop} {f : α → Value} : ∀ {ms : List α}, (∀ m ∈ ms, R (f m) m) → PySem.W.EachIs R (ms.map f) ms
  | [], _ => .nil
  | m :: ms, h => .cons (h m List.mem_cons_self) (each_map_of fun u hu => h u (List.mem_cons_of_mem _ hu))

/-- tuples of ints and texts -/
def tupKit (P : Program) (w : World) : Kit P w Mem (List Key) where
  key := fun m => m.2
  mv := fun h m v => v = .ref m.1 ∧ TpK P w h m.2 m.1
  sp := fun h a L => ∃ es ep t o, SpT P w h a L es ep t o
  mvK := fun x k => ⟨x.1, tt_keep x.2 k⟩
  spAt := fun R k => by
    obtain ⟨es, ep, t, o, R⟩ := R
    exact ⟨es, ep, t, o, { R with ho := k o R.ho }⟩
  spEx := fun R => by
    obtain ⟨es, ep, t, o, R⟩ := R
    exact ⟨o, R.ho, R.hex.1⟩
  spNd := fun R => by
    obtain ⟨es, ep, t, o, R⟩ := R
    exact R.nd
  spFew := fun R => by
    obtain ⟨es, ep, t, o, R⟩ := R
    exact R.few
  fresh := fun ho => ⟨#[], 0, _, _, ho, ⟨rfl, rfl, rfl⟩, rfl, rfl, ⟨List.Pairwise.nil, rfl, rfl, .inl rfl, (fun x hx => by cases hx), fun i h j hi => by simp [hs] at hi⟩, List.nodup_nil, (by
    show _ ∨ (!w.params.followText "set-order") = true
    cases w.params.followText "set-order"
    · exact .inr rfl
    · exact .inl rfl), (by show 0 * 5 < 7 * 3; decide), by show 0 < 64; decide⟩
  add := fun {A E s a L m v Q} R ht hk room hu hQ => by
    obtain ⟨es, ep, t, o, R⟩ := R
    obtain ⟨rfl, hx⟩ := hk
    unfold setAdd
    refine wpAny_holding (wpAny_bind (wpAny_pyHash_tuple hu hx ?_))
    refine add_tup (s := { s with toks := s.toks + (m.2.length + 1) }) R (fun p hp => ?_) hx hu room fun b h' L' es' ep' t' o' sb r c1 c2 => hQ b h' _ L' sb (Nat.le_add_right _ _) ⟨es', ep', t', o', r⟩ c1 c2
    obtain ⟨_, _, q⟩ := ht p hp
    exact q
  col := fun {A E s a L Q} R ht hh hQ => by
    obtain ⟨es, ep, t, o, R⟩ := R
    have few := R.few
    refine collect_set hh ⟨o, R.ho, R.hex.1, R.hd⟩ R.fit (by rw [rws_len R.rows]; unfold scanBound; omega) R.tab.ris R.led fun s' out k z g os pm => ?_
    have e : es.toList.map (·.2) = L.map fun p => Value.ref p.1 := by
      rw [R.rows]
      unfold rws
      rw [List.map_map] <;> rfl
    obtain ⟨L', q1, q2⟩ := perm_pre pm L e
    subst q2
    refine hQ s' _ L' k z g os q1 (each_map_of fun m hm => ⟨rfl, ?_⟩)
    obtain ⟨_, _, q⟩ := ht m (q1.mem_iff.mp hm)
    exact q
end KS
set_option maxHeartbeats 3200000
/-! rules over tracked heaps: set(xs), sorted(set), the comprehension's add -/
namespace KS
open PySem PySem.Spec PyProof.Rows L2

/-- the set at a with the members L -/
def SetO {P : Program} {w : World} {μ κ : Type} (Z : Kit P w μ κ) (a : Addr) (L : List μ) : HO := .ext fun h => Z.sp h a L
theorem setO_new {P : Program} {w : World} {μ κ : Type} {Z : Kit P w μ κ} {H : Hp} {h : Heap} {a : Addr} {L : List μ} (R : Z.sp h a L) : ObjOk P w H h a (SetO Z a L) := by
  have ⟨o, ho, _⟩ := Z.spEx R
  exact ⟨R, ⟨o, ho⟩, fun h1 h2 p k => Z.spAt p k⟩
/-- how members stand in a tracked heap -/
structure Lnk (X : Cx) {μ κ : Type} (Z : Kit X.prog X.w μ κ) where
  vOf : μ → V
  ok : Hp → μ → Prop
  get : ∀ {pins : List (Addr × Obj)} {σ : L2.St} {H : Hp} {s : Shared} {m : μ} {u : Value}, Inv X pins σ H s → ok H m → RelV (vOf m) u → Z.mv s.heap m u
  some_ : ∀ m, ∃ u, RelV (vOf m) u
  back : ∀ {h : Heap} {m : μ} {u : Value}, Z.mv h m u → RelV (vOf m) u
section
variable {X : Cx} {μ κ : Type} {Z : Kit X.prog X.w μ κ} (K : Lnk X Z)
def linkKey (X : Cx) : Lnk X (keyKit X.prog X.w) where
  vOf := kV
  ok := fun _ _ => True
  get := fun _ _ r => kV_is (P := X.prog) (w := X.w) r
  some_ := fun m => by
    cases m with
    | inl i => exact ⟨.int i 0, 0, rfl⟩
    | inr x => exact ⟨.str x 0, 0, rfl⟩
  back := fun {h m u} q => by
    rcases keyIs_shape (show keyIs m u = true from q) with ⟨i, t, rfl, rfl⟩ | ⟨x, t, rfl, rfl⟩ <;> exact ⟨t, rfl⟩
def linkTup (X : Cx) : Lnk X (tupKit X.prog X.w) where
  vOf := fun m => .ref m.1
  ok := fun H m => SqT X.K H m.1 (m.2.map kV)
  get := fun {pins σ H s m u} I h r => by
    cases r
    obtain ⟨its, rv, ⟨o, ho, hc, n, hd⟩, _⟩ := I.tuple h
    exact ⟨rfl, o, its.toArray, n, ho, hc, hd, by simpa using items_are rv⟩
  some_ := fun m => ⟨.ref m.1, rfl⟩
  back := fun q => q.1
theorem vals_each {pins : List (Addr × Obj)} {σ : L2.St} {H : Hp} {s : Shared} (I : Inv X pins σ H s) : ∀ {ms : List μ} {us : List Value}, (∀ m ∈ ms, K.ok H m) → Vals (ms.map K.vOf) us → PySem.W.EachIs (fun v m => Z.mv s.heap m v) us ms
  | [], _, _, r => by cases r; exact .nil
  | m :: ms, _, h, r => by
    cases r with
    | cons r t => exact .cons (K.get I (h m List.mem_cons_self) r) (vals_each I (fun x hx => h x (List.mem_cons_of_mem _ hx)) t)
theorem each_vals {h : Heap} : ∀ {us : List Value} {ms : List μ}, PySem.W.EachIs (fun v m => Z.mv h m v) us ms → Vals (ms.map K.vOf) us
  | _, _, .nil => .nil
  | _, _, .cons r t => .cons (K.back r) (each_vals t)
theorem all_mv {pins : List (Addr × Obj)} {σ : L2.St} {H : Hp} {s : Shared} (I : Inv X pins σ H s) {L : List μ} (h : ∀ m ∈ L, K.ok H m) : ∀ m ∈ L, ∃ v, Z.mv s.heap m v := fun m hm => by
  obtain ⟨u, hu⟩ := K.some_ m
  exact ⟨u, K.get I (h m hm) hu⟩
/-- set(xs), xs a list of members -/
def rSetOf : List V → Hp → VK → Prop := fun xs H Q => ∃ (l : Addr) (ms : List μ), xs = [V.ref l] ∧ SqL X.K H l (ms.map K.vOf) ∧ (∀ m ∈ ms, K.ok H m) ∧ ms.length < 64 ∧
  ∀ a L, H a = none → From Z ms ms.length L → (L.map Z.key).Nodup → Q (.ref a) (upd H a (SetO Z a L))
theorem cr_setOf (hc : X.calm = true) (hu : X.A.units + 3 < cLine) : CallR X (.type "set") (rSetOf K) := by
  intro pins s σ H xs us Q I r h
  obtain ⟨l, ms, rfl, hl, hk, hf, q⟩ := h
  rw [Vals.ref1 r]
  obtain ⟨its, rv, pl, hz⟩ := I.list hl
  refine call_set Z ms (I.ok.hd hc) pl.isList (by simpa using vals_each K I hk rv) hf hu fun h' tk L R g k => ?_
  exact ⟨.ref s.heap.objs.size, upd H s.heap.objs.size (SetO Z s.heap.objs.size L), I.laid (t' := tk) k (Nat.le_refl _) (setO_new R), rfl, q _ L (I.hok.fresh (Nat.le_refl _)) g (Z.spNd R)⟩
/-- sorted(set) -/
def rSortedK (enc : μ → PyData) : List V → Hp → VK → Prop := fun vs H Q => ∃ (a : Addr) (L : List μ), vs = [V.ref a] ∧ H a = some (SetO Z a L) ∧ (∀ m ∈ L, K.ok H m) ∧ PySem.W.AllAlike (L.map enc) ∧ PySem.W.Sortable (L.map enc) ∧
  ∀ (L1 : List μ) (p : Addr), L1.Perm L → (L.map Z.key).Nodup → H p = none → Q (.ref p) (upd H p (.lst ((L1.mergeSort (PySem.W.dataLe false enc)).map K.vOf)))
theorem cr_sortedK {enc : μ → PyData} (hc : X.calm = true) (rd : ∀ {h : Heap} {m : μ} {v : Value}, Z.mv h m v → Reads h v (enc m) []) (hu : ∀ m, X.A.in1.units + 1 + (enc m).depth < cLine) : CallR X (.builtin "sorted") (rSortedK K enc) := by
  intro pins s σ H vs us Q I r h
  obtain ⟨a, L, rfl, ha, hk, al, so, q⟩ := h
  have R : Z.sp s.heap a L := (I.hok a _ ha).1
  rw [Vals.ref1 r]
  refine sorted_kit Z rd R (all_mv K I hk) (I.ok.hd hc) al so (fun m _ => hu m) fun s' p out c L1 k g o hp hg pm ei => ?_
  have few : (L1.mergeSort (PySem.W.dataLe false enc)).length < 64 := by
    rw [List.length_mergeSort, pm.length_eq]
    exact Z.spFew R
  have hlen : ((L1.mergeSort (PySem.W.dataLe false enc)).map K.vOf).length ≤ sizeLine := by
    rw [List.length_map, sizeLine_eq]
    omega
  have hn : H p = none := I.hok.fresh hp
  have J : Inv X pins σ (upd H p (.lst ((L1.mergeSort (PySem.W.dataLe false enc)).map K.vOf))) { s with heap := s'.heap, gens := s'.gens, drawn := s'.drawn, toks := s'.toks } :=
    I.call (ch := []) (Un.laid k hp hn) (I.hok.laid k hp ⟨hlen, out.toList, c, each_vals K ei, hg⟩) (by rw [g]; exact I.bare) (fun _ z => nomatch z)
  have e : s' =
                { s with heap := s'.heap, gens := s'.gens, drawn := s'.drawn, toks := s'.toks } := by
    cases s'
    cases s
    cases o
    rfl
  rw [e]
  exact ⟨.ref p, _, J, rfl, q L1 p pm (Z.spNd R) hn⟩
end
section
variable {P : Program} {w : World} {A : Around} {E : Value → Shared → Prop} {s : Shared} {μ κ : Type} (Z : Kit P w μ κ)
/-- found.add(x) -/
theorem call_add {a : Addr} {L : List μ} {m : μ} {v : Value} {Q : Value → Shared → Prop} (R : Z.sp s.heap a L) (hm : ∀ m ∈ L, ∃ v, Z.mv s.heap m v) (hv : Z.mv s.heap m v) (room : L.length + 1 < 64) (hu : A.in1.units < cLine)
    (hQ : ∀ h' tk L', Heap.SameBut a s.heap h' → Z.sp h' a L' → (Z.key m ∈ L.map Z.key → L' = L) → (Z.key m ∉ L.map Z.key → L'.Perm (m :: L)) → Q .none { s with heap := h', toks := tk }) :
    wpAny (model P w) A (call (.builtin "set.add") [.ref a, v]) Q E s := by
  obtain ⟨o, ho, hc⟩ := Z.spEx R
  refine wpAny_call_entry F.slot_set_add ⟨o, ho, hc⟩ F.entry_set_add ?_ (F.args_set_add_2 _ _)
  unfold Builtin.«set.add» Builtin.Frozenset.oneOther
  simp only [List.isEmpty_nil, bind_assoc]
  unfold Builtin.Frozenset.addrOf
  refine wpAny_bind (wpAny_pure ?_)
  try dsimp only
  refine wpAny_bind (wpAny_pure ?_)
  try dsimp only
  refine wpAny_bind ?_
  refine Z.add R hm hv room hu fun b h' tk L' sb ht r c1 c2 => ?_
  show wpAny _ _ (ret Value.none) _ _ _
  exact wpAny_pure ⟨_, rfl, hQ h' tk L' sb r c1 c2⟩
end
section
variable {X : Cx} {μ κ : Type} {Z : Kit X.prog X.w μ κ} (K : Lnk X Z)
/-- L and m make L' -/
def Grow (Z : Kit X.prog X.w μ κ) (L : List μ) (m : μ) (L' : List μ) : Prop := (Z.key m ∈ L.map Z.key → L' = L) ∧ (Z.key m ∉ L.map Z.key → L'.Perm (m :: L))
theorem addK_ok {pins : List (Addr × Obj)} {σ : L2.St} {H : Hp} {s : Shared} {E : Value → Shared → Prop} {D : Addr} {L : List μ} {m : μ} {u : Value} {Q : Value → Shared → Prop} (I : Inv X pins σ H s) (hD : H D = some (SetO Z D L))
    (hk : ∀ m ∈ L, K.ok H m) (hm : K.ok H m) (ru : RelV (K.vOf m) u) (room : L.length + 1 < 64) (hu : X.A.in1.units < cLine)
    (h : ∀ s' L', Grow Z L m L' → Inv X pins σ (upd H D (SetO Z D L')) s' → Q .none s') : wpAny (model X.prog X.w) X.A (call (.builtin "set.add") [.ref D, u]) Q E s := by
  have R : Z.sp s.heap D L := (I.hok D _ hD).1
  refine call_add Z R (all_mv K I hk) (K.get I hm ru) room hu fun h' tk L' sb new c1 c2 => ?_
  have he : ∃ u, h'.get? D = some u := by
    have ⟨o, ho, _⟩ := Z.spEx new
    exact ⟨o, ho⟩
  exact h _ L' ⟨c1, c2⟩ (I.write (e := D) (t' := tk) (by rw [hD]; trivial) (.inl rfl) (fun b u hb hu => (sb.2 b hb).trans hu) he (setO_new new))
end
end KS
set_option maxHeartbeats 3200000
/-! {elt for tg in iter if ..} over a Kit -/
namespace KS
open PySem PySem.Spec PyProof.Rows L2
section
variable {X : Cx} {μ κ : Type} {Z : Kit X.prog X.w μ κ} (K : Lnk X Z)
/-- D the new set; W i m: what holds ahead of the i-th turn, m goes down -/
def tSetC (wi : TI) (g : TG) (tt : TT) (te : TE) (vs : List Nat) : TE := fun σ H Q => wi σ H fun J H1 => ∀ D, H1 D = none → ∃ W : Nat → Nat → Hp → Prop, (∃ m, W 0 m (upd H1 D (SetO Z D []))) ∧ ∀ i m H, W i m H →
  (J.stop i H ∧ Q (.ref D) H) ∨ (J.go i H ∧ ∃ Nx : Hp → Prop, (∀ H', Nx H' → ∃ m', m' < m ∧ W
                                                                                              (i + 1) m' H') ∧ ∀ x H', J.yld i H x H' → g x (wipe σ vs) H' fun σ2 H2 => wipe σ2 vs = wipe σ vs ∧ tt σ2 H2 fun b H3 =>
    if b = true then te σ2 H3 fun y H4 => ∃ (m : μ) (L : List μ), y = K.vOf m ∧ H4 D = some (SetO Z D L) ∧ K.ok H4 m ∧ (∀ x ∈ L, K.ok H4 x) ∧ L.length + 1 < 64 ∧ (∀ L', Grow Z L m L' → Nx (upd H4 D (SetO Z D L'))) else Nx H3)
theorem setc {pins : List (Addr × Obj)} {s : Shared} {σ : L2.St} {H : Hp} {Q : VK} {elt tg iter : Expr} {ifs : List Expr} {scope : Scope} {own : List (PySem.Str × Nat)} {pos pos' : Pos} {wi : TI} {g : TG} {tt : TT} {te : TE} {use : Option (Value → Sem Unit)} {Qf : Value → Shared → Prop}
    (hc : X.calm = true) (hu : X.A.in1.units < cLine) (hN : X.N.Nodup) (I : Inv X pins σ H s) (hi : PI X tg iter wi) (ok : BlkOk X.N X.env.scope scope own)
    (hg : ∀ (s : Shared) (H : Hp) (C : Addr) (cl : List (PySem.Str × Addr)) (fp : List Addr), PG (X.blk s H scope (compEnvC scope cl C X.env) fp) tg g)
                                                                                                                                                        (ht : ∀ (s : Shared) (H : Hp) (C : Addr) (cl : List (PySem.Str × Addr)) (fp : List Addr), PTs (X.blk s H scope (compEnvC scope cl C X.env) fp) ifs tt)
    (he : ∀ (s : Shared) (H : Hp) (C : Addr) (cl : List (PySem.Str × Addr)) (fp : List Addr), PE
                                                                                                 (X.blk s H scope (compEnvC scope cl C X.env) fp) elt te) (hs : ∀ x, foldedSetIterable iter X.env x = pure x)
    (hK : ∀ (s : Shared) (H : Hp) (env : Env) (fp : List Addr), ∃ K' : Lnk (X.blk s H scope env fp) Z, K'.vOf = K.vOf ∧ K'.ok = K.ok)
    (h : tSetC K wi g tt te (own.map (·.2)) σ H Q)
    (hRR : ∀ D C s' m H', Inv X pins σ H' s' → Q (.ref D) H' → s'.heap.Ns C m → FpOk X pins H' C → compPost
                                                                                                            (model X.prog X.w) X.A X.xe use Qf (.ref D) C (.ok .next) s') :
    wpAny (model X.prog X.w) X.A (comprehension (.SetComp elt [⟨tg, iter, ifs, 0⟩] scope pos) scope X.env pos'
                                                                                                               (newSet (.type "set")) false (eval iter X.env) use) Qf X.xe s := by
  have free : ∀ y ∈ scope.names, y.2 = .free → ∃ c, X.env.cells.lookup y.1 = some c := fun y hy e => (ok.free y hy e).elim (fun k => I.ok.has _ (.inl k)) fun k => I.ok.has _ (.inr k)
  refine wpAny_comprehension_free (use := use) rfl hs (closure_ok free) ok.kind (fun y hy e => by rw [ok.uniq y hy, e]) (thn (hi.run pins s σ H _ I h) fun xv s1 hx => thn hx fun itv s2 h2 => ?_)
  obtain ⟨it, fp, tn, J, H2, e, I2, T, st2, f2, q⟩ := h2
  subst e
  refine PpSet.newSet_ok (newEnv_comp ?_)
  generalize hD : s2.heap.objs.size = D
  obtain ⟨W, ⟨m0, w0⟩, turn⟩ := q D (I2.hok.fresh (Nat.le_of_eq hD))
  generalize hs3 : ({ s2 with heap := s2.heap.push (newObj0 X.w) } : Shared) = s3
  have hs3' : ({ s2 with heap := s2.heap.push { cls := .type "set", dict := none, data := .set #[] 0 (.fresh 0 0 (!X.w.params.followText "set-order")) } } : Shared) = s3 := hs3
  rw [hs3']
  have h3 : s3.heap = s2.heap.push (newObj0 X.w) := by rw [← hs3]
  have I3 : Inv X pins σ (upd H2 D (SetO Z D [])) s3 := by
    rw [← hs3]
    refine I2.laid (t' := s2.toks) (fun b o e => Heap.get?_push_of_some _ e) (Nat.le_of_eq hD) (setO_new (Z.fresh ?_))
    rw [← hD]
    exact Heap.get?_push_size _ rfl
  have lt : ∀ b ∈ fp, b < s2.heap.objs.size := fun b hb => by
    obtain ⟨o, e, _⟩ := T.obj _ _ st2 b hb
    exact Heap.lt_size e
  have f3 : ∀ b ∈ fp, FpOk X pins (upd H2 D (SetO Z D [])) b ∧ b < s3.heap.objs.size := fun b hb => by
    refine ⟨⟨?_, (f2 b hb).2⟩, by rw [h3, Heap.size_push]; exact Nat.lt_succ_of_lt (lt b hb)⟩
    rw [upd_ne (by rw [← hD]; exact Nat.ne_of_lt (lt b hb))]
    exact (f2 b hb).1
  have st3 : tn 0 s3.heap := T.keep _ _ _ st2 fun b _ o e => by rw [h3]; exact Heap.get?_push_of_some _ e
  generalize hH3 : upd H2 D (SetO Z D []) = H3 at I3 w0 f3
  have I4 := block_start I3 ok hN f3
  have pg := hg s3 H3 s3.heap.objs.size (cellsFrom (s3.heap.objs.size + 1) scope.names (cloFrom X.env.cells scope.names [])) fp
  have pt := ht s3 H3 s3.heap.objs.size (cellsFrom (s3.heap.objs.size + 1) scope.names (cloFrom X.env.cells scope.names [])) fp
  have pe := he s3 H3 s3.heap.objs.size (cellsFrom (s3.heap.objs.size + 1) scope.names (cloFrom X.env.cells scope.names [])) fp
  show codeAny _ _ (.compStart (.SetComp elt [⟨tg, iter, ifs, 0⟩] scope pos) 0 (.ref it) (.ref D) (compEnvC scope (cellsFrom (s3.heap.objs.size + 1) scope.names (cloFrom X.env.cells scope.names [])) s3.heap.objs.size X.env))
                                                                                                                                                                                                                                 (compPost (model X.prog X.w) X.A X.xe use Qf (.ref D) s3.heap.objs.size) { s3 with heap := pushCells (s3.heap.push { cls := .type "dict", data := .dict #[] }) scope.names }
  generalize hce : compEnvC scope (cellsFrom (s3.heap.objs.size + 1) scope.names
                                                                                 (cloFrom X.env.cells scope.names [])) s3.heap.objs.size X.env = ce at I4 pg pt pe ⊢
  have cL : ce.locals = s3.heap.objs.size := by subst hce; rfl
  obtain ⟨K', ev, eo⟩ := hK s3 H3 ce fp
  generalize hs4 : ({ s3 with heap := pushCells (s3.heap.push
                                                              { cls := .type "dict", data := .dict #[] }) scope.names } : Shared) = s4 at I4 ⊢
  have st4 : tn 0 s4.heap := T.keep _ _ _ st3 fun b _ o e => by rw [← hs4]; exact pushCells_keeps _ _ _ _
                                                                                                          (Heap.get?_push_of_some _ e)
  have stat : ∀ {σ' : L2.St} {H' : Hp} {s' : Shared}, Inv (X.blk s3 H3 scope ce fp) [] σ' H' s' →
                                                                                                  (∀ b ∈ fp, H' b = none) → ∀ b ∈ fp, FpOk (X.blk s3 H3 scope ce fp) [] H' b := fun {σ' H' s'} I' hn b hb =>
    ⟨hn b hb, (I'.ok.exf b hb).1, I'.ok.exfs b hb, .inl hb, fun x c e =>
                                                                         (I'.ok.exf b hb).2 x c e, fun p hp => absurd (show p ∈ ([] : List (Addr × Obj)) ++ [] from hp) (by simp)⟩
  have loop : codeAny (model X.prog X.w) X.A (.compLoop (.SetComp elt [⟨tg, iter, ifs, 0⟩] scope pos) 0
                                                                                                        (.ref it) (.ref D) ce) (compPost (model X.prog X.w) X.A X.xe use Qf (.ref D) s3.heap.objs.size) s4 := by
    refine PpSet.compLoopS_any (fun n s' => ∃ i H', Inv (X.blk s3 H3 scope ce fp) [] (wipe σ (own.map (·.2))) H' s' ∧ tn i s'.heap ∧ (∀ b ∈ fp, H' b = none) ∧ W i n H') ?_ m0 ⟨0, H3, I4, st4, fun b hb => (f3 b hb).1.1, w0⟩
    rintro n s5 ⟨i, H5, I5, st5, n5, w5⟩
    rcases turn i n H5 w5 with ⟨stop, qq⟩ | ⟨go, Nx, hNx, step⟩
    · have td := T.done (X.blk s3 H3 scope ce fp) rfl rfl rfl hc i [] s5 _ H5
                                                                              (fun _ _ => False) I5 (stat I5 n5) st5 stop
      refine thnF td fun r s6 ⟨hr, I6⟩ => ?_
      subst hr
      have I7 : Inv X pins σ H5 s6 := I3.call' (ch := fp) I6.os I6.base I6.hok I6.bare fun b hb =>
                                                                                                   ⟨(f3 b hb).1.2.2.2.1, (f3 b hb).1.2.1, (f3 b hb).1.2.2.2.2.1, (f3 b hb).1.2.2.2.2.2⟩
      have z : H5 ce.locals = none := I6.free
      obtain ⟨m, hn, _⟩ := I6.loc
      have hn : s6.heap.Ns ce.locals m := hn
      rw [cL] at hn z
      exact hRR D s3.heap.objs.size s6 m H5 I7 qq hn (I3.fpOk (Nat.le_refl _) z)
    · have ti := T.item (X.blk s3 H3 scope ce fp) rfl rfl rfl hc i [] s5 _ H5
                                                                              (fun _ _ => False) I5 (stat I5 n5) st5 go
      refine thnF ti fun r s6 ⟨u, hr, h6⟩ => ?_
      subst hr
      refine thnF h6 fun _ s7 ⟨x, H7, I7, r7, y7, st7, n7⟩ => ?_
      have P7 := I7.pinned (stat I7 n7) (T.obj _ _ st7)
      refine thnF (pg.run _ s7 _ H7 x u _ P7 r7 (step x H7 y7)) fun _ s8 ⟨σ8, H8, I8, hw8, q8⟩ => ?_
      refine thnF (pt.run _ s8 σ8 H8 _ I8 q8) fun b s9
                                                       ⟨H9, I9, q9⟩ => ?_
      have fin : ∀ {s' : Shared} {H' : Hp}, Inv (X.blk s3 H3 scope ce fp) ([] ++ pinsAt fp s7.heap) σ8 H' s' → Nx H' → ∃ m, m < n ∧ ∃ i H', Inv
                                                                                                                                                (X.blk s3 H3 scope ce fp) [] (wipe σ (own.map (·.2))) H' s' ∧ tn i s'.heap ∧ (∀ b ∈ fp, H' b = none) ∧ W i m H' := fun {s' H'} I' nx => by
        obtain ⟨m', hm, w'⟩ := hNx H' nx
        have pin : ∀ b ∈ fp, ∀ o, s7.heap.get? b = some o → s'.heap.get? b = some o ∧ H' b = none := fun b hb o e =>
          let z := I'.pin (b, o) (List.mem_append_right _
                                                          (List.mem_append_right _ (mem_pinsAt hb e)))
          ⟨z.1, z.2.1⟩
        refine ⟨m', hm, i + 1, H', (I'.unpinned (pins := [])).weak (by rw [← hw8, wipe_length]) (fun j v e => ?_), T.keep _ _ _ st7 fun b hb o e => (pin b hb o e).1, fun b hb => ?_, w'⟩
        · rw [← hw8] at e
          exact (wipe_some e).1
        · obtain ⟨o, e, _⟩ := T.obj _ _ st7 b hb
          exact (pin b hb o e).2
      cases b with
      | false =>
        simp only [Bool.false_eq_true, if_false] at q9 ⊢
        exact fin I9 q9
      | true =>
        simp only [if_true] at q9 ⊢
        refine thnF (pe.run _ s9 σ8 H9 _ I9 q9) fun z s10 ⟨yv, H10, I10, r10, m, L, ey, hD10, om, oL, room, nx⟩ => ?_
        subst ey
        exact addK_ok (X := X.blk s3 H3 scope ce fp) K' I10 hD10 (by rw [eo]; exact oL) (by rw [eo]; exact om) (by rw [ev]; exact r10) room hu fun s11 L' gr I11 => fin I11 (nx L' gr)
  exact PpSet.codeAny_compStart_set loop (T.self X.A 0 _ _ _ st4 loop)
/-- as a value -/
theorem pe_setc {elt tg iter : Expr} {ifs : List Expr} {scope : Scope} {own : List (PySem.Str × Nat)} {pos : Pos} {wi : TI} {g : TG} {tt : TT} {te : TE} (hc : X.calm = true) (hu : X.A.in1.units < cLine) (hN : X.N.Nodup) (hi : PI X tg iter wi) (ok : BlkOk X.N X.env.scope scope own)
    (hg : ∀ (s : Shared) (H : Hp) (C : Addr) (cl : List (PySem.Str × Addr)) (fp : List Addr), PG (X.blk s H scope (compEnvC scope cl C X.env) fp) tg g)
                                                                                                                                                        (ht : ∀ (s : Shared) (H : Hp) (C : Addr) (cl : List (PySem.Str × Addr)) (fp : List Addr), PTs (X.blk s H scope (compEnvC scope cl C X.env) fp) ifs tt)
    (he : ∀ (s : Shared) (H : Hp) (C : Addr) (cl : List (PySem.Str × Addr)) (fp : List Addr), PE (X.blk s H scope (compEnvC scope cl C X.env) fp) elt te)
    (hK : ∀ (s : Shared) (H : Hp) (env : Env) (fp : List Addr), ∃ K' : Lnk (X.blk s H scope env fp) Z, K'.vOf = K.vOf ∧ K'.ok = K.ok) (hs : ∀ x, foldedSetIterable iter X.env x = pure x := by intro _; rfl) :
    PE X (.SetComp elt [⟨tg, iter, ifs, 0⟩] scope pos) (tSetC K wi g tt te (own.map (·.2))) := by
  refine ⟨fun pins s σ H Q I h => ?_⟩
  rw [PpSet.eval_SetComp]
  refine setc K hc hu hN I hi ok hg ht he hs hK h fun D C s' m H' I' q hn f => ⟨m, hn, fun h'' sb => ?_⟩
  obtain ⟨f0, f1, f2, f3, f4, f5⟩ := f
  exact ⟨.ref D, H', I'.turned (t' := s'.toks)
                                               (fun b o hb e => (sb.2 b hb).trans e) f0 f1 f3 f4 f5, rfl, q⟩
end
end KS
/-! sets of texts; sets of pairs of a text and an int -/
namespace KS
open PySem PySem.Spec PyProof.Rows L2

section
variable {P : Program} {w : World} {μ κ ν κ' : Type}
theorem pull_mem {Z : Kit P w μ κ} {f : ν → μ} {key' : ν → κ'} (hk : ∀ a b, key' a = key' b ↔ Z.key (f a) = Z.key (f b)) {m : ν} {L : List ν} : key' m ∈ L.map key' ↔ Z.key (f m) ∈ (L.map f).map Z.key := by
  rw [List.mem_map, List.map_map, List.mem_map]
  exact ⟨fun ⟨x, hx, e⟩ => ⟨x, hx, (hk x m).1 e⟩, fun ⟨x, hx, e⟩ => ⟨x, hx, (hk x m).2 e⟩⟩
/-- a kind of members, told otherwise -/
def Kit.pull (Z : Kit P w μ κ) (f : ν → μ) (key' : ν → κ') (hk : ∀ a b, key' a = key' b ↔ Z.key (f a) = Z.key (f b)) : Kit P w ν κ' where
  key := key'
  mv := fun h n v => Z.mv h (f n) v
  sp := fun h a L => Z.sp h a (L.map f)
  mvK := Z.mvK
  spAt := Z.spAt
  spEx := Z.spEx
  spNd := fun {h a L} R => by
    have q := Z.spNd R
    rw [List.map_map] at q
    refine List.pairwise_map.mpr (List.Pairwise.imp (fun {x y} ne e => ne ?_) (List.pairwise_map.mp q))
    exact (hk x y).1 e
  spFew := fun R => by
    have q := Z.spFew R
    rw [List.length_map] at q
    exact q
  fresh := fun ho => Z.fresh ho
  add := fun {A E s a L m v Q} R hm hv room hu hQ => by
    refine Z.add R (fun x hx => ?_) hv (by rw [List.length_map]; exact room) hu fun b h' tk L' sb ht r c1 c2 => ?_
    · obtain ⟨y, hy, e⟩ := List.mem_map.mp hx
      rw [← e]
      exact hm y hy
    · by_cases c : Z.key (f m) ∈ (L.map f).map Z.key
      · have e := c1 c
        subst e
        exact hQ b h' tk L sb ht r (fun _ => rfl) fun z => absurd ((pull_mem hk).2 c) z
      · obtain ⟨L2, p2, e2⟩ := perm_pre (f := f) (c2 c) (m :: L) rfl
        subst e2
        exact hQ b h' tk L2 sb ht r (fun z => absurd ((pull_mem hk).1 z) c) fun _ => p2
  col := fun {A E s a L Q} R hm hh hQ => by
    refine Z.col R (fun x hx => ?_) hh fun s' out L' k z g o pm ei => ?_
    · obtain ⟨y, hy, e⟩ := List.mem_map.mp hx
      rw [← e]
      exact hm y hy
    · obtain ⟨L2, p2, e2⟩ := perm_pre (f := f) pm L rfl
      subst e2
      exact hQ s' out L2 k z g o p2 (each_un ei)
where each_un {R : Value → μ → Prop} : ∀ {vs : List Value} {ms : List ν}, PySem.W.EachIs R vs (ms.map f) → PySem.W.EachIs (fun v m => R v (f m)) vs ms
  | _, [], e => by cases e; exact .nil
  | _, m :: ms, e => by
    cases e with
    | cons r t => exact .cons r (each_un t)
end
/-- texts -/
def strKit (P : Program) (w : World) : Kit P w Str Str := (keyKit P w).pull Sum.inr id fun a b => by
  show a = b ↔ (Sum.inr a : Key) = Sum.inr b
  exact ⟨fun e => by rw [e], fun e => Sum.inr.inj e⟩
/-- pairs -/
def pairKit (P : Program) (w : World) : Kit P w (Addr × Str × Int) (Str × Int) := (tupKit P w).pull (fun m => (m.1, [.inr m.2.1, .inl m.2.2])) (fun m => m.2) fun a b => by
  obtain ⟨a1, a2, a3⟩ := a
  obtain ⟨b1, b2, b3⟩ := b
  show (a2, a3) = (b2, b3) ↔ ([.inr a2, .inl a3] : List Key) = [.inr b2, .inl b3]
  constructor
  · intro e
    injection e with e1 e2
    rw [e1, e2]
  · intro e
    injection e with e1 e2
    injection e2 with e2 _
    rw [Sum.inr.inj e1, Sum.inl.inj e2]
def linkStr (X : Cx) : Lnk X (strKit X.prog X.w) where
  vOf := V.str
  ok := fun _ _ => True
  get := fun _ _ r => (linkKey X).get (m := .inr _) (by assumption) True.intro r
  some_ := fun m => ⟨.str m 0, 0, rfl⟩
  back := fun {h m u} q => (linkKey X).back (h := h) (m := .inr m) q
def linkPair (X : Cx) : Lnk X (pairKit X.prog X.w) where
  vOf := fun m => .ref m.1
  ok := fun H m => SqT X.K H m.1 [.str m.2.1, .int m.2.2]
  get := fun I h r => (linkTup X).get (m := (_, [.inr _, .inl _])) I h r
  some_ := fun m => ⟨.ref m.1, rfl⟩
  back := fun q => q.1

/-! ### sorted -/
theorem rd_str {P : Program} {w : World} {h : Heap} {m : Str} {v : Value} (q : (strKit P w).mv h m v) : Reads h v (.str m) [] := by
  have q : keyIs (.inr m) v = true := q
  rcases keyIs_shape q with ⟨i, t, e, _⟩ | ⟨x, t, e, rfl⟩
  · cases e
  · cases e
    exact .str _ _
def encP (m : Addr × Str × Int) : PyData := .tuple [.str m.2.1, .int m.2.2]
theorem rd_pair {P : Program} {w : World} {h : Heap} {m : Addr × Str × Int} {v : Value} (q : (pairKit P w).mv h m v) : Reads h v (encP m) [] := by
  obtain ⟨a, x, i⟩ := m
  obtain ⟨rfl, o, its, n, ho, hc, hd, hi⟩ := q
  refine .tuple ho hc hd ?_
  cases hi' : its.toList with
  | nil => rw [hi'] at hi; cases hi
  | cons u us =>
    rw [hi'] at hi
    cases hi with
    | cons h1 h2 =>
      cases h2 with
      | cons h3 h4 =>
        cases h4
        rcases keyIs_shape (show keyIs (.inr x) u = true from h1) with ⟨j, t, e, _⟩ | ⟨y, t, e, rfl⟩
        · cases e
        · cases e
          rcases keyIs_shape (show keyIs (.inl i) _ = true from h3) with ⟨j, t2, e, rfl⟩ | ⟨y, t2, e, _⟩
          · cases e
            exact .cons (as := []) (bs := []) (.str _ _) (.cons (as := []) (bs := []) (.int _ _) .nil)
          · cases e
/-- ys are the members of xs, each once, ascending -/
def Srt (xs ys : List Str) : Prop := ys.Pairwise (fun a b => a.cps.toList < b.cps.toList) ∧ ∀ z, z ∈ ys ↔ z ∈ xs
theorem cps_ext {a b : Str} (h : a.cps.toList = b.cps.toList) : a = b := by
  obtain ⟨a⟩ := a
  obtain ⟨b⟩ := b
  exact congrArg Str.mk (Array.toList_inj.mp h)
theorem srt_unique {xs : List Str} : ∀ {ys zs : List Str}, ys.Pairwise (fun a b => a.cps.toList < b.cps.toList) → zs.Pairwise (fun a b => a.cps.toList < b.cps.toList) → (∀ z, z ∈ ys ↔ z ∈ zs) → ys = zs
  | [], [], _, _, _ => rfl
  | [], z :: zs, _, _, h => absurd ((h z).2 List.mem_cons_self) (by simp)
  | y :: ys, [], _, _, h => absurd ((h y).1 List.mem_cons_self) (by simp)
  | y :: ys, z :: zs, h1, h2, h => by
    obtain ⟨a1, a2⟩ := List.pairwise_cons.mp h1
    obtain ⟨b1, b2⟩ := List.pairwise_cons.mp h2
    have e : y = z := by
      rcases List.mem_cons.mp ((h y).1 List.mem_cons_self) with e | m1
      · exact e
      · rcases List.mem_cons.mp ((h z).2 List.mem_cons_self) with e | m2
        · exact e.symm
        · exact absurd (List.lt_trans (a1 z m2) (b1 y m1)) (List.lt_irrefl _)
    subst e
    refine congrArg _ (srt_unique (xs := xs) a2 b2 fun w => ⟨fun m => ?_, fun m => ?_⟩)
    · rcases List.mem_cons.mp ((h w).1 (List.mem_cons_of_mem _ m)) with e | m'
      · exact absurd (a1 w m) (by rw [e]; exact List.lt_irrefl _)
      · exact m'
    · rcases List.mem_cons.mp ((h w).2 (List.mem_cons_of_mem _ m)) with e | m'
      · exact absurd (b1 w m) (by rw [e]; exact List.lt_irrefl _)
      · exact m'
theorem Srt.eq {xs ys zs : List Str} (a : Srt xs ys) (b : Srt xs zs) : ys = zs := srt_unique (xs := xs) a.1 b.1 fun z => (a.2 z).trans (b.2 z).symm
theorem srt_of {xs L L1 : List Str} (nd : L.Nodup) (mem : ∀ z, z ∈ L ↔ z ∈ xs) (pm : L1.Perm L) : Srt xs (L1.mergeSort (PySem.W.dataLe false PyData.str)) := by
  have e : PySem.W.dataLe false PyData.str = fun a b : Str => decide (a.cps.toList ≤ b.cps.toList) := PySem.W.dataLe_str (fun b : Str => b)
  rw [e]
  have pp := List.mergeSort_perm L1 (fun a b : Str => decide (a.cps.toList ≤ b.cps.toList))
  have tr : ∀ a b c : Str, decide (a.cps.toList ≤ b.cps.toList) = true → decide (b.cps.toList ≤ c.cps.toList) = true → decide (a.cps.toList ≤ c.cps.toList) = true :=
    fun a b c h1 h2 => decide_eq_true (List.le_trans (of_decide_eq_true h1) (of_decide_eq_true h2))
  have tt : ∀ a b : Str, (decide (a.cps.toList ≤ b.cps.toList) || decide (b.cps.toList ≤ a.cps.toList)) = true := fun a b => by
    rcases List.le_total a.cps.toList b.cps.toList with h | h
    · rw [decide_eq_true h, Bool.true_or]
    · rw [decide_eq_true h, Bool.or_true]
  have st := List.pairwise_mergeSort (le := fun a b : Str => decide (a.cps.toList ≤ b.cps.toList)) tr tt L1
  have nd1 : (L1.mergeSort (fun a b : Str => decide (a.cps.toList ≤ b.cps.toList))).Nodup := (pp.trans pm).nodup_iff.mpr nd
  refine ⟨?_, fun z => by rw [(pp.trans pm).mem_iff]; exact mem z⟩
  have both := st.and nd1
  refine List.Pairwise.imp (fun {a b} h => ?_) both
  have h1 : a.cps.toList ≤ b.cps.toList := of_decide_eq_true h.1
  rcases Classical.em (a.cps.toList < b.cps.toList) with c | c
  · exact c
  · exact absurd (cps_ext (List.le_antisymm h1 c)) h.2
end KS
set_option maxHeartbeats 3200000
/-! set(xs) of a tuple over a Kit -/
namespace KS
open PySem PySem.Spec PyProof.Rows L2
section
variable {P : Program} {w : World} {A : Around} {E : Value → Shared → Prop} {s : Shared} {μ κ : Type} (Z : Kit P w μ κ)
/-- set(xs), xs a tuple -/
theorem call_setT {l : Addr} {items : Array Value} (ms : List μ) {Q : Value → Shared → Prop} (hh : A.handled = none) (hl : s.heap.IsTuple l items) (hi : PySem.W.EachIs (fun v m => Z.mv s.heap m v) items.toList ms)
    (few : ms.length < 64) (hu : A.units + 3 < cLine)
    (h : ∀ (h' : Heap) (tk : Nat) L, Z.sp h' s.heap.objs.size L → From Z ms ms.length L → (∀ b o, s.heap.get? b = some o → h'.get? b = some o) → Q (.ref s.heap.objs.size) { s with heap := h', toks := tk }) :
    wpAny (model P w) A (call
                              (.type "set") [.ref l]) Q E s := by
  have sz : items.size = ms.length := by
    have q := hi.length
    rw [Array.length_toList] at q
    exact q
  obtain ⟨c, tl, hmro⟩ := F.called_set.mro
  have hmade := F.called_set.made
  have hsub := F.called_set.sub
  refine wpAny_call (codeAny_of_tree ?_)
  show wpAny _ _ (callAny (.type "set") _) _ _ _
  refine wpAny_pure ⟨Code.quiet_builtin _
                                          (by decide +kernel), codeAny_builtin F.entry_type_call ?_⟩
  rw [Around.under_plain
                         (weight_type_call_type "set" [.ref l] []) rfl]
  have h1 := F.called_set.notType
  have h2 := F.called_set.canCreate
  have hct := F.typeCall_set_1 (.ref l)
  repeat (any_goals (first | assumption | wp_step))
  refine codeAny_mono (code_set_led1 (.ref l) (E := E) (Q₁ := fun obj s₁ => obj = .ref s.heap.objs.size ∧ s₁ = { s with heap := s.heap.push (newObj0 w) }) ⟨rfl, rfl⟩) fun r s₁ hr => ?_
  cases r with
  | error e => exact hr
  | ok fl =>
    cases fl with
    | ret obj =>
      obtain ⟨rfl, rfl⟩ := hr
      have hS : (s.heap.push (newObj0 w)).get? s.heap.objs.size = some (newObj0 w) := Heap.get?_push_size _ rfl
      have hT : Shared.TypeIs { s with heap := s.heap.push (newObj0 w) } (.ref s.heap.objs.size) "set" := ⟨_, hS, rfl⟩
      have hli := F.called_set.init.lookup
      have hbi := F.called_set.init.bind (.ref s.heap.objs.size)
      repeat (any_goals (first | assumption | wp_step))
      refine codeAny_mono (codeAny_call_builtin (R := wants (fun r s₂ => r = .none ∧ ∃ h' tk L, s₂ = { s with heap := h', toks := tk } ∧ Z.sp h' s.heap.objs.size L ∧ From Z ms ms.length L ∧
          (∀ b o, s.heap.get? b = some o → h'.get? b = some o)) E) F.called_set.init.plain F.entry_set_init
                                                                                                            (check_set_init_1 hT ?_)) fun r₂ s₂ hr₂ => ?_
      · obtain ⟨ol, hol, hcl, nl, hdl⟩ := hl
        obtain ⟨ocls, odict, odata, oslots⟩ := ol
        simp only at hcl hdl
        subst hcl; subst hdl
        have hol' : (s.heap.push (newObj0 w)).get? l = some { cls := .type "tuple", dict := odict, data := .seq items nl, slots := oslots } := Heap.get?_push_of_some _ hol
        have hsls := F.sub_tuple_set
        have hslf := F.sub_tuple_frozenset
        have hne :
                   (Value.type "tuple" == Value.type "dict") = false := by decide
        have hl1 : (s.heap.push (newObj0 w)).IsTuple l items := ⟨_, hol', rfl, nl, rfl⟩
        unfold Builtin.«set.__init__» noKeywords Builtin.Frozenset.updateFrom
        generalize hPI : pyIter = PI
        wp_walk
        subst hPI
        refine wpAny_pyIter_tuple hl1 ?_
        refine wpAny_bind (wpAny_runValue ?_)
        have lS : l < s.heap.objs.size := Heap.lt_size hol
        have hh3 : A.in1.in1.in1.handled = none := by simp [hh]
        have z1 : (s.heap.push (newObj0 w)).objs.size = s.heap.objs.size + 1 := Heap.size_push ..
        have neI : l ≠ (s.heap.push (newObj0 w)).objs.size := by
          rw [z1]
          exact Nat.ne_of_lt (Nat.lt_succ_of_lt lS)
        have nS : s.heap.objs.size ∉ [(s.heap.push (newObj0 w)).objs.size, l] := by
          rw [z1]
          simp only [List.mem_cons, List.mem_singleton, List.not_mem_nil, or_false, not_or]
          exact ⟨Nat.ne_of_lt (Nat.lt_succ_self _), Nat.ne_of_gt lS⟩
        have vals : ∀ (i : Nat) (v : Value), items[i]? = some v → ∃ m, ms[i]? = some m ∧ Z.mv s.heap m v := fun i v hv => each_get hi (by rw [Array.getElem?_toList]; exact hv)
        have out : ∀ b, s.heap.objs.size ≤ b → s.heap.get? b = none := fun b hb => by
          cases q : s.heap.get? b with
          | none => rfl
          | some o => exact absurd (Nat.lt_of_lt_of_le
                                                       (Heap.lt_size q) hb) (Nat.lt_irrefl _)
        refine fill_loop Z ((Walks.tuple hh3 _ l neI items).toS) s.heap.objs.size nS ms sz few s.heap vals (fun m hm => each_has hi hm) (out _ (Nat.le_refl _))
          (fun b hb => out b (by rw [List.mem_singleton.mp hb, z1]; exact Nat.le_succ _)) hu (items.size - 0) 0 _ (by omega) (Nat.zero_le _)
          ⟨⟨_, Heap.get?_push_size _ rfl, rfl, rfl⟩, (hl1.push _)⟩ (fun b o e => Heap.get?_push_of_some _ (Heap.get?_push_of_some _ e)) ⟨[], Z.fresh (Heap.get?_push_of_some _ hS), From.start Z ms⟩ ?_
        intro s3 L mv sp g kp
        obtain ⟨h3, g3, d3, tk3, os3⟩ := s3
        have eg : g3 = s.gens := mv.gens
        have ed : d3 = s.drawn := mv.drawn
        have eo : os3 = s.os := mv.os
        subst eg; subst ed; subst eo
        rw [sz] at g
        exact wpAny_pure (wpAny_pure ⟨rfl, h3, tk3, L, rfl, sp, g, kp⟩)
      · cases r₂ with
        | error e => exact hr₂
        | ok fl₂ =>
          cases fl₂ with
          | ret r =>
            obtain ⟨rfl, h', tk, L, rfl, sp, g, kp⟩ := hr₂
            repeat (any_goals (first | assumption | wp_step))
            exact h _ _ _ sp g kp
          | _ => exact hr₂.elim
    | _ => exact hr.elim
end
section
variable {X : Cx} {μ κ : Type} {Z : Kit X.prog X.w μ κ} (K : Lnk X Z)
/-- set(xs), xs a tuple of members -/
def rSetOfU : List V → Hp → VK → Prop := fun xs H Q => ∃ (l : Addr) (ms : List μ), xs = [V.ref l] ∧ SqT X.K H l (ms.map K.vOf) ∧ (∀ m ∈ ms, K.ok H m) ∧ ms.length < 64 ∧
  ∀ a L, H a = none → From Z ms ms.length L → (L.map Z.key).Nodup → Q (.ref a) (upd H a (SetO Z a L))
theorem cr_setOfU (hc : X.calm = true) (hu : X.A.units + 3 < cLine) : CallR X (.type "set") (rSetOfU K) := by
  intro pins s σ H xs us Q I r h
  obtain ⟨l, ms, rfl, hl, hk, hf, q⟩ := h
  rw [Vals.ref1 r]
  obtain ⟨its, rv, ⟨⟨cls, dd, data, sl⟩, ho, hc', m, hd⟩, _⟩ := I.tuple hl
  simp only at hc' hd
  subst hc' hd
  have ht : s.heap.IsTuple l its.toArray := ⟨_, ho, rfl, m, rfl⟩
  refine call_setT Z ms (I.ok.hd hc) ht (by simpa using vals_each K I hk rv) hf hu fun h' tk L R g k => ?_
  exact ⟨.ref s.heap.objs.size, upd H s.heap.objs.size (SetO Z s.heap.objs.size L), I.laid (t' := tk) k (Nat.le_refl _) (setO_new R), rfl, q _ L (I.hok.fresh (Nat.le_refl _)) g (Z.spNd R)⟩
end
end KS
namespace K38
open PySem L2
open PyProof.Rows PySem.Spec
theorem pe_fldK {X : Cx} {K : PySem.W.Frag} {e : Expr} {f : Str} {ta : TE} {pos : Pos} (hK : X.K = K) (he : PE X e ta) (hb : attributeBase e f X.env (eval e X.env) = eval e X.env) : PE X (.Attribute e f pos) (tFld K ta f) := by
  subst hK
  exact pe_fld he hb
theorem un2 {k : Nat} {A : Around} (r : Room k A) : A.in1.units + 1 + 0 < cLine := by
  have := r.un
  show A.units + 1 + 1 + 0 < cLine
  omega
theorem un3 {k : Nat} {A : Around} (r : Room k A) : A.units + 3 < cLine := by
  have := r.un
  omega
/-- what spans tell of a name -/
def spn (S : Rws) (n : Str) : Int × Int := (S.lookup n).getD (0, 0)
/-- how many values of some names are alive in a tick -/
def alvs (S : Rws) (t k : Int) (ns : List Str) (s : Int) : List Int := ns.map fun n => alv t ((spn S n).1 + k) (spn S n).2 s
def cnt (S : Rws) (t k : Int) (ns : List Str) (s : Int) : Int := (alvs S t k ns s).sum
theorem Cts.get {H : Hp} {t k : Int} {n : Str} : ∀ {L : List (Str × Addr)} {R : Rws}, Cts H t k L R → n ∈ R.map (·.1) → ∃ a, valV (Kvs L) (.inr n) = some (.ref a) ∧ H a = some (.lst (cntL t ((spn R n).1 + k) (spn R n).2))
  | _, _, .nil, h => by cases h
  | _, _, .cons (n := m) (a := a) (b := b) (e := e) (L := L) (R := R) h c, hn => by
    by_cases q : n = m
    · subst q
      have e1 : spn ((n, b, e) :: R) n = (b, e) := by unfold spn; simp
      rw [e1]
      exact ⟨a, valV_pos (p := ((Sum.inr n : Key), V.ref a)) rfl, h⟩
    · have e1 : spn ((m, b, e) :: R) n = spn R n := by
        unfold spn
        rw [List.lookup_cons]
        have : (n == m) = false := by simpa using q
        rw [this]
      rw [e1]
      rcases List.mem_cons.mp hn with z | z
      · exact absurd z q
      · obtain ⟨a', h1, h2⟩ := Cts.get c z
        exact ⟨a', (valV_neg (p := ((Sum.inr m : Key), V.ref a)) (fun z => q (Sum.inr.inj z).symm)).trans h1, h2⟩
theorem cntL_at {t b e : Int} {j : Nat} (h : j < t.toNat) : atI (cntL t b e) (0 + (j : Int)) = some (.int (alv t b e (j : Int))) := by
  rw [Int.zero_add]
  refine atI_nat ?_
  unfold cntL
  rw [List.getElem?_map, List.getElem?_range h]
  rfl
section
variable {P : Program} {w : World} {K : PySem.W.Frag}
                                                      {mg : Str → Option Value} {base : Heap}
def sp_rows (K : PySem.W.Frag) (C : Addr) : Sp := fun vs H Q _ => ∃ (p : Addr) (t : Int) (S : Rws) (r : Addr), vs = [.ref p] ∧ SpAt H C p t S r ∧ ∀ (q : Addr) (L : List (Str × Addr)), H q = none → Tups H L S → Q (.ref q) (upd H q (.dK (Kvs L)))
theorem ok_rows (T : T K mg) (U : UX K mg) : FnOk P w K mg base CX0 1 U.pr.g U.pr.d ["self"] (sp_rows K U.C) := by
  refine U.pr.F.ok sc_Spans_rows (fun vs H Q E h => ?_) (fun cdv A outer s H vs Q E hr h => ?_)
  · obtain ⟨p, t, S, r, rfl, _⟩ := h
    rfl
  · obtain ⟨p, t, S, r, rfl, ⟨g, so, dx, rd, nm, lv, cr, L, LL, LC, h1, h2, h3, h4, _⟩, k⟩ := h
    have hu := hu_of hr
    refine ⟨_, (pss_one (ps_ret (pe_callTy call_dictD (by rfl) T.z_dict (by decide +kernel) (pa_cons (pe_fld (pv 0) rfl) pa_nil)))), ?_⟩
    exact ⟨_, rfl, p, U.C, dx, _, .ref rd, rfl, h1, U.cl, U.n2, rfl, rd, Kvs L, rfl, .inl h2, fun q hq => k q L hq h3⟩
def lenR (S : Rws) : List Int := S.map fun r => r.2.2 - r.2.1
def sp_total (K : PySem.W.Frag) (C : Addr) : Sp := fun vs H Q _ => ∃ (p : Addr) (t : Int) (S : Rws) (r : Addr), vs = [.ref p] ∧ SpAt H C p t S r ∧ ∀ H', Same H H' → Q (.int (lenR S).sum) H'
theorem ok_total (T : T K mg) (U : UX K mg) : FnOk P w K mg base CX0 1 U.pt.g U.pt.d ["self"] (sp_total K U.C) := by
  refine U.pt.F.ok sc_Spans_total (fun vs H Q E h => ?_) (fun cdv A outer s H vs Q E hr h => ?_)
  · obtain ⟨p, t, S, r, rfl, _⟩ := h
    rfl
  · obtain ⟨p, t, S, r, rfl, ⟨g, so, dx, rd, nm, lv, cr, L, LL, LC, h1, h2, h3, h4, _⟩, k⟩ := h
    have hu := hu_of hr
    refine ⟨_, (pss_one (ps_ret (pe_callB (cr_sum rfl) (by rfl) T.z_sum (by decide +kernel) (pa_cons (pe_lock (pe_lc (own := [("begin", 1), ("end", 2)]) (g := gTup K 2 (gCons (gName 1) (gCons (gName 2) gNil))) rfl sc_Spans_total.nd (pi_values (pe_fld (pv 0) rfl)) (blkOk_by (N := ["self", "begin", "end"]) (sc := defScope s_Spans_total) (by decide +kernel)) (fun _ _ _ _ _ => (pg_tup rfl (pgs_cons (pg_name (i := 1) sc_Spans_total.nd rfl (Or.inl rfl)) (pgs_cons (pg_name (i := 2) sc_Spans_total.nd rfl (Or.inl rfl)) pgs_nil)))) (fun _ _ _ _ _ => pts_nil) (fun _ _ _ _ _ => (pe_op op_sub (pv 2) (pv 1))))) pa_nil)))), ?_⟩
    have ndp : rd ≠ p := fun z => by rw [z, h1] at h2; cases h2
    refine ⟨rd, _, h2, True.intro, fun od => ?_⟩
    have lk : (upd H rd (.frz od (.dK (Kvs L)))) rd = some (.frz od (.dK (Kvs L))) := upd_same
    have ktl : KT H (upd H rd (.frz od (.dK (Kvs L)))) := KT.put h2 (fun _ z => by cases z)
    refine ⟨_, rfl, p, U.C, dx, _, .ref rd, rfl, (by rw [upd_ne ndp.symm]; exact h1), U.cl, U.n2, rfl, rd, od, Kvs L, rfl, lk, fun G hG => ?_⟩
    have nG : G ≠ rd := fun z => by rw [z, upd_same] at hG; cases hG
    refine lc_it walk_values (fun i H' => Same (upd H rd (.frz od (.dK (Kvs L)))) H' ∧ H' G = some (.lst ((lenR (S.take i)).map V.int))) ⟨Same.new hG, upd_same⟩ (fun i H' _ h => h.1 _ _ lk) ?_ ?_
    · rintro i x Ha Hb hi ⟨Sa, eG⟩ ⟨rfl, kk, hx⟩
      obtain ⟨n, a, b, e, rfl, e2, e3, e4⟩ := tups_at (h3.keep (KT.trans ktl (KT.same Sa))) i x (by rw [hx]; rfl)
      refine ⟨a, _, rfl, SqT.of e3, rfl, _, _, rfl, _, _, rfl, rfl, ?_⟩
      refine ⟨rfl, ?_⟩
      unfold tYes
      dsimp only
      rw [if_pos rfl]
      refine ⟨_, rfl, _, rfl, _, _, rfl, rfl, ?_⟩
      have := g.l8
      have : i < S.length := (List.getElem?_eq_some_iff.mp e2).1
      refine ⟨_, eG, by rw [List.length_map]; unfold lenR; rw [List.length_map, List.length_take, sizeLine_eq]; omega, Same.at hG Sa, ?_⟩
      rw [upd_same, List.take_add_one, e2]
      unfold lenR
      simp
    · rintro Ha ⟨Sa, eG⟩
      refine ⟨Sa _ _ lk, ?_⟩
      have SH := same_lock h2 Sa
      refine ⟨G, lenR S, rfl, ?_, k _ SH⟩
      rw [kvs_len, h3.len, List.take_length] at eG
      exact SqL.of ((upd_ne nG).trans eG)
def sp_sums (K : PySem.W.Frag) (C : Addr) : Sp := fun vs H Q _ => ∃ (p cd nl : Addr) (t k : Int) (S : Rws) (r : Addr) (LL : List (Str × Addr)) (ns : List Str), vs = [.ref p, .ref cd, .ref nl] ∧ SpAt H C p t S r ∧ H cd = some (.dK (Kvs LL)) ∧ Cts H t k LL S ∧
  SqT K H nl (ns.map V.str) ∧ ns.length ≤ 63 ∧ (∀ n ∈ ns, n ∈ S.map (·.1)) ∧ ∀ q H', H q = none → Same H H' → H' q = some (.lst ((List.range t.toNat).map fun (s : Nat) => V.int (cnt S t k ns (s : Int)))) → Q (.ref q) H'
theorem ok_sums (T : T K mg) (U : UX K mg) : FnOk P w K mg base CX0 1 U.ms.f U.ms.d ["self", "counts", "names"] (sp_sums K U.C) := by
  refine U.ms.F.ok sc_Spans_sums (fun vs H Q E h => ?_) (fun cdv A outer s H vs Q E hr h => ?_)
  · obtain ⟨p, cd, nl, t, k, S, r, LL, ns, rfl, _⟩ := h
    rfl
  · obtain ⟨p, cd, nl, t, k, S, r, LL, ns, rfl, sp, hcd, ct, hnl, l63, hns, fin⟩ := h
    obtain ⟨g, so, dx, rd, nm, lv, cr, L, _, _, h1, _⟩ := id sp
    have hu := hu_of hr
    refine ⟨_, (pss_one (ps_ret (pe_lc (own := [("slot", 3)]) (g := gName 3) rfl sc_Spans_sums.nd (pi_range1 (by rfl) T.z_range (pa_cons (pe_fld (pv 0) rfl) pa_nil)) (blkOk_by (N := ["self", "counts", "names", "slot", "name"]) (sc := defScope s_Spans_sums) (by decide +kernel)) (fun _ _ _ _ _ => (pg_name (i := 3) sc_Spans_sums.nd rfl (Or.inr rfl))) (fun _ _ _ _ _ => pts_nil) (fun _ _ _ _ _ => (pe_callB (r := rSum K) (cr_sum rfl) (by rfl) T.z_sum (by decide +kernel) (pa_cons (pe_lc (wi := iTup K (tVar 2)) (own := [("name", 4)]) (g := gName 4) rfl sc_Spans_sums.nd (pi_tup (pv 2)) (blkOk_by (N := ["self", "counts", "names", "slot", "name"]) (sc := _) (by rfl)) (fun _ _ _ _ _ => (pg_name (i := 4) sc_Spans_sums.nd rfl (Or.inl rfl))) (fun _ _ _ _ _ => pts_nil) (fun _ _ _ _ _ => (pe_ix (r := rIx K) ix_seq (pe_dget (by exact hu) (pv 1) (pv 4) (fun _ _ => rfl)) (pv 3) (fun _ _ => rfl)))) pa_nil)))))), ?_⟩
    have g1 := g.t1
    have g2 := g.t2
    refine ⟨_, rfl, p, U.C, dx, _, .int t, rfl, h1, U.cl, U.n1, rfl, _, rfl, by omega, by omega, fun D hD => ?_⟩
    refine lc_range (n := t.toNat) (fun j H' => Same H H' ∧ H' D = some (.lst ((List.range j).map fun (s : Nat) => V.int (cnt S t k ns (s : Int))))) ⟨Same.new hD, upd_same⟩ ?_ ?_
    · rintro j Hc hj ⟨Sc, eD⟩
      refine ⟨rfl, ?_⟩
      unfold tYes
      dsimp only
      rw [if_pos rfl]
      have hnlc := Same.seqT Sc hnl
      refine ⟨_, rfl, nl, rfl, ⟨_, hnlc⟩, fun G hG => ?_⟩
      refine lc_it (tt := fun _ H Q => Q true H) (g := gName 4) (vs := [4]) (walk_tup (K := K) (a := nl) (xs := ns.map V.str)) (fun i H' => Same Hc H' ∧ H' G = some (.lst ((alvs S t k (ns.take i) (j : Int)).map V.int))) ⟨Same.new hG, upd_same⟩ (fun i H' _ h => Same.seqT h.1 hnlc) ?_ ?_
      · rintro i x Hd He hi ⟨Sd, eG⟩ ⟨rfl, hx⟩
        rw [List.getElem?_map] at hx
        cases e2 : ns[i]? with
        | none => rw [e2] at hx; cases hx
        | some n =>
          rw [e2] at hx
          cases hx
          have ii : i < ns.length := (List.getElem?_eq_some_iff.mp e2).1
          have Se := Same.trans Sc Sd
          obtain ⟨a, va, ha⟩ := (ct.same Se).get (hns n (List.mem_of_getElem? e2))
          refine ⟨rfl, ?_⟩
          dsimp only
          rw [if_pos rfl]
          refine ⟨_, rfl, _, rfl, cd, V.ref a, rfl, ?_, _, rfl, .inl ⟨a, _, _, _, rfl, rfl, SqL.of ha, cntL_at hj, ?_⟩⟩
          · have := DGet.k (k := Sum.inr n) (Se _ _ hcd)
            rw [va] at this
            exact this
          refine ⟨_, eG, by rw [List.length_map]; unfold alvs; rw [List.length_map, List.length_take, sizeLine_eq]; omega, Same.at hG Sd, ?_⟩
          rw [upd_same, List.take_add_one, e2]
          unfold alvs
          simp
      · rintro Hd ⟨Sd, eG⟩
        rw [List.length_map, List.take_length] at eG
        have eD2 := Sd _ _ eD
        refine ⟨G, _, rfl, SqL.of eG, _, eD2, by rw [List.length_map, List.length_range, sizeLine_eq]; omega, Same.at hD (Same.trans Sc Sd), ?_⟩
        rw [upd_same, List.range_succ, List.map_append]
        simp [cnt]
    · rintro Hd ⟨Sd, eD⟩
      exact fin D Hd hD Sd eD
end
end K38
namespace K38
open PySem L2
open PyProof.Rows PySem.Spec
section
variable {P : Program} {w : World} {K : PySem.W.Frag}
                                                      {mg : Str → Option Value} {base : Heap}
theorem okN {x qual : Str} {params : Arguments} {body : List Stmt} {scope : Scope} {dvs kws} {f : Addr} {fd : FuncData} {N ps : List Str} {k : Nat} {sp : Sp} (F : FunD K x qual params body scope dvs kws f fd) (S : FnScope N ps scope) (len : ∀ vs H Q E, sp vs H Q E → vs.length = ps.length)
    (hbody : ∀ (cdv : Value) (A : Around) (outer : List Env) (s : Shared) (H : Hp) (vs : List V) (Q : VK) (E : XK), Room k (A.deeper (PyProof.Rows.envOfC qual scope s.heap.objs.size f cdv)) → sp vs H Q E →
      ∃ t, PSs (cxOf CX0 P w K mg base N qual scope f cdv A outer s H E).nox body t ∧ t { nx := fun _ H' => Q .non H', rt := Q } (L2.start N vs) H) : FnOk P w K mg base CX0 (k + 1) f fd ps sp :=
  F.ok S len fun cdv A outer s H vs Q E hr h => by
    obtain ⟨t, h1, q⟩ := hbody cdv A outer s H vs Q E hr h
    exact ⟨t, h1.nox, q⟩
def sp_chosen (K : PySem.W.Frag) (C : Addr) : Sp := fun vs H Q _ => ∃ (p nl : Addr) (t : Int) (S : Rws) (r : Addr) (ns : List Str), vs = [.ref p, .ref nl] ∧ SpAt H C p t S r ∧ SqT K H nl (ns.map V.str) ∧ ns.length < 64 ∧ (∀ n ∈ ns, n ∈ S.map (·.1)) ∧
  ∀ q zs H', Same H H' → SqT K H' q (zs.map V.str) → KS.Srt ns zs → Q (.ref q) H'
theorem ok_chosen (T : T K mg) (U : UX K mg) : FnOk P w K mg base CX0 1 U.mh.f U.mh.d ["self", "names"] (sp_chosen K U.C) := by
  refine okN U.mh.F sc_Spans_chosen (fun vs H Q E h => ?_) (fun cdv A outer s H vs Q E hr h => ?_)
  · obtain ⟨p, nl, t, S, r, ns, rfl, _⟩ := h
    rfl
  · obtain ⟨p, nl, t, S, r, ns, rfl, sp, hnl, few, hns, k⟩ := h
    obtain ⟨g, so, dx, rd, nm, lv, cr, L0, LL, LC, h1, h2, h3, h4, _⟩ := id sp
    have hu := hu_of hr
    refine ⟨_, (pss_cons (ps_for PassesOwn.never rfl (pi_tup (pv 1)) (pg_name (i := 2) sc_Spans_chosen.nd rfl (Or.inl rfl))
      (pss_one (ps_if (pt_cmpR op_notIn_seq (pv 2) (pe_fld (pv 0) rfl) rfl)
      (pss_one ps_never)
      pss_nil)))
      (pss_one (ps_ret (pe_callTy call_tuple_of (by rfl) T.z_tuple (by decide +kernel) (pa_cons (pe_callB (KS.cr_sortedK (KS.linkStr _) (enc := PyData.str) rfl KS.rd_str (fun m => un2 hr)) (by rfl) T.z_sorted (by decide +kernel) (pa_cons (pe_callTy (KS.cr_setOfU (KS.linkStr _) rfl (un3 hr)) (by rfl) T.z_set (by decide +kernel) (pa_cons (pv 1) pa_nil)) pa_nil)) pa_nil))))), ?_⟩
    refine ⟨_, rfl, nl, rfl, ⟨_, hnl⟩, for_tup (xs := ns.map V.str) (fun i σ H' => (∃ v, σ = [some (.ref p), some (.ref nl), v]) ∧ H' = H) ⟨⟨none, rfl⟩, rfl⟩ (fun i σ H' _ h => by rw [h.2]; exact hnl) ?_ ?_⟩
    · rintro i x σ' H' hx ⟨⟨v, rfl⟩, rfl⟩
      rw [List.getElem?_map] at hx
      cases e2 : ns[i]? with
      | none => rw [e2] at hx; cases hx
      | some n =>
        rw [e2] at hx
        cases hx
        refine ⟨_, rfl, _, rfl, p, U.C, dx, _, .ref nm, rfl, h1, U.cl, U.n3, rfl, nm, _, rfl, .inr (SqT.of h4), rfl, flat_strs _, _, rfl, ?_⟩
        rw [inV_strs, decide_eq_true (hns n (List.mem_of_getElem? e2))]
        exact iteF ⟨⟨_, rfl⟩, rfl⟩
    rintro σ' H' ⟨⟨v, rfl⟩, rfl⟩
    refine ⟨_, rfl, nl, ns, rfl, hnl, fun _ _ => True.intro, few, fun a L ha fr nd => ?_⟩
    refine ⟨a, L, rfl, upd_same, fun _ _ => True.intro, PySem.W.AllAlike.of (enc := PyData.str) (fun b b' => by simp [PySem.W.alike]), PySem.W.Sortable.others (enc := PyData.str) (fun b => ⟨by simp, by simp⟩), fun L1 q pm nd' hq => ?_⟩
    have nd2 : L.Nodup := by
      have q : (L.map id).Nodup := nd
      rw [List.map_id] at q
      exact q
    have tk : ns.take ns.length = ns := List.take_length
    have mem : ∀ z, z ∈ L ↔ z ∈ ns := fun z => by
      constructor
      · intro m
        have q := fr.sub z m
        rw [tk] at q
        exact q
      · intro m
        have q : z ∈ L.map id := fr.all z (by rw [tk]; exact m)
        rw [List.map_id] at q
        exact q
    have A1 := Same.new (o := KS.SetO (KS.strKit P w) a L) ha
    refine ⟨q, _, rfl, .inl ⟨SqL.of upd_same, fun l hl => ?_⟩⟩
    exact k l _ _ (Same.trans A1 (Same.trans (Same.new hq) (Same.new hl))) (SqT.of upd_same) (KS.srt_of nd2 mem pm)
end
end K38
namespace K38
open PySem L2
open PyProof.Rows PySem.Spec
/-- the names that are asked for: all, if none is said -/
def chs (S : Rws) (ns zs : List Str) : List Str := if ns = [] then S.map (·.1) else zs
theorem or_join {K : PySem.W.Frag} {x : V} {H1 : Hp} {tb : TE} {σ : L2.St} {Qf : V → Hp → Prop} (k : Bool) (hk : TruV K x H1 k) (z : V) (e1 : k = true → z = x) (e2 : k = false → ∀ Q : V → Hp → Prop, Q z H1 → tb σ H1 Q) (h : Qf z H1) :
    ∃ k, TruV K x H1 k ∧ if k = true then Qf x H1 else tb σ H1 Qf := by
  refine ⟨k, hk, ?_⟩
  cases k with
  | true =>
    rw [if_pos rfl, ← e1 rfl]
    exact h
  | false =>
    rw [if_neg (by decide)]
    exact e2 rfl _ h
theorem srt_nil {zs : List Str} (h : KS.Srt [] zs) : zs = [] := by
  cases zs with
  | nil => rfl
  | cons z r => exact absurd ((h.2 z).mp List.mem_cons_self) (by simp)
theorem srt_ne {ns zs : List Str} (h : KS.Srt ns zs) (hn : ns ≠ []) : zs ≠ [] := fun e => by
  cases ns with
  | nil => exact hn rfl
  | cons n r =>
    have := (h.2 n).mpr List.mem_cons_self
    rw [e] at this
    cases this
theorem srt_nd {ns zs : List Str} (h : KS.Srt ns zs) : zs.Nodup := h.1.imp fun hab e => by
  rw [e] at hab
  exact List.lt_irrefl _ hab
theorem srt_len {ns zs X : List Str} (h : KS.Srt ns zs) (hs : ∀ n ∈ ns, n ∈ X) : zs.length ≤ X.length := (srt_nd h).length_le_of_subset fun z hz => hs z ((h.2 z).mp hz)
section
variable {P : Program} {w : World} {K : PySem.W.Frag}
                                                      {mg : Str → Option Value} {base : Heap}
theorem chs_in {S : Rws} {ns zs : List Str} (st : KS.Srt ns zs) (h : ∀ n ∈ ns, n ∈ S.map (·.1)) : ∀ n ∈ chs S ns zs, n ∈ S.map (·.1) := fun n hn => by
  unfold chs at hn
  split at hn
  · exact hn
  · exact h n ((st.2 n).mp hn)
def sp_alive (K : PySem.W.Frag) (C : Addr) : Sp := fun vs H Q _ => ∃ (p nl : Addr) (t i : Int) (S : Rws) (r : Addr) (ns : List Str), vs = [.ref p, .int i, .ref nl] ∧ SpAt H C p t S r ∧ H nl = some (.tup (ns.map V.str)) ∧ ns.length < 64 ∧ (∀ n ∈ ns, n ∈ S.map (·.1)) ∧ (-1000000000000 < i ∧ i < 1000000000000) ∧
  ∀ zs H', Same H H' → KS.Srt ns zs → Q (.int (cnt S t 0 (chs S ns zs) (i % t))) H'
/-- from outside: the names behind the tick are the promise's own -/
def sr_alive (K : PySem.W.Frag) (C : Addr) : Sp := fun vs H Q _ => ∃ (p : Addr) (t i : Int) (S : Rws) (r : Addr) (ns : List Str), vs = V.ref p :: .int i :: ns.map V.str ∧ SpAt H C p t S r ∧ ns.length < 64 ∧ (∀ n ∈ ns, n ∈ S.map (·.1)) ∧ (-1000000000000 < i ∧ i < 1000000000000) ∧
  ∀ zs H', Same H H' → KS.Srt ns zs → Q (.int (cnt S t 0 (chs S ns zs) (i % t))) H'
theorem ok_alive (T : T K mg) (U : UX K mg) : FnR P w K mg base CX0 4 U.ma.f (sr_alive K U.C) := by
  have G_check_integer : FnOk P w K mg base CX0 2 T.f_check_integer T.d_check_integer ["value"] (sp_check_integer K) := ok_check_integer T
  have G_chosen : FnOk P w K mg base CX0 1 U.mh.f U.mh.d ["self", "names"] (sp_chosen K U.C) := ok_chosen T U
  obtain ⟨oc, od, kV, doc, pm, an, cdv, ct, osl, hfd, lk, hcd⟩ := U.ma.F.ex
  rw [hfd] at lk
  refine (StX.fn_star (ps := ["self", "tick"]) (pv := "names") (sp := sp_alive K U.C) lk hcd sc_Spans_alive StX.cxUp_none ?_ ?_).imp ?_
  · intro us rest hl
    match us, hl with
    | [a, b], _ => cases rest <;> rfl
  · intro A outer s H vs Q E hr h
    obtain ⟨p, nl, t, i, S, r, ns, rfl, sp, hnl, few, hns, hi, k⟩ := h
    have hu := hu_of hr
    have hr_check_integer : Room 2 _ := hr.mono (by decide)
    obtain ⟨g, so, dx, rd, nm, lv, cr, L0, LL, LC, h1, h2, h3, h4, h5, h6, h7, h8, _⟩ := id sp
    refine ⟨_, (pss_cons (ps_expr (pe_call G_check_integer hr_check_integer rfl T.m_check_integer T.F_check_integer.kp T.b_check_integer .nil pass0 (pa_cons (pv 1) pa_nil)))
      (pss_cons (ps_set (i := 3) sc_Spans_alive.nd rfl (Or.inl rfl) (pe_orT (pe_meth (pv 0) U.cl U.mh.m G_chosen (hr.mono (by decide)) U.mh.b .nil pass0 (pa_cons (pv 2) pa_nil)) (pe_one (pe_fld (pv 0) rfl))))
      (pss_one (ps_ret (pe_callB (cr_sum rfl) (by rfl) T.z_sum (by decide +kernel) (pa_cons (pe_lc (own := [("name", 4)]) (g := gName 4) rfl sc_Spans_alive.nd (pi_tup (pv 3)) (blkOk_by (N := ["self", "tick", "names", "chosen", "name"]) (sc := defScope s_Spans_alive) (by decide +kernel)) (fun _ _ _ _ _ => (pg_name (i := 4) sc_Spans_alive.nd rfl (Or.inl rfl))) (fun _ _ _ _ _ => pts_nil) (fun _ _ _ _ _ => (pe_ix (r := rIx K) ix_seq (pe_dget (by exact hu) (pe_fldK (K := K) rfl (pv 0) rfl) (pv 4) (fun _ _ => rfl)) (pe_op op_mod (pv 1) (pe_fldK (K := K) rfl (pv 0) rfl)) (fun _ _ => rfl)))) pa_nil)))))), ?_⟩
    have g1 := g.t1
    refine ⟨_, rfl, i, rfl, hi, ?_⟩
    -- chosen
    refine ⟨_, rfl, p, dx, _, rfl, h1, rfl, _, rfl, p, nl, t, S, r, ns, rfl, sp, SqT.of hnl, few, hns, fun q zs H1 S1 hq st => ?_⟩
    have hq1 : SqT K H1 q (zs.map V.str) := hq
    obtain ⟨ch, hch, kk, hk, e1, e2⟩ : ∃ (ch : Addr) , SqT K H1 ch ((chs S ns zs).map V.str) ∧ ∃ kk : Bool, TruV K (.ref q) H1 kk ∧ (kk = true → V.ref ch = .ref q) ∧ (kk = false → ch = nm) := by
      by_cases c : ns = []
      · subst c
        obtain rfl := srt_nil st
        exact ⟨nm, SqT.of (S1 _ _ h4), false, .inr (.inl ⟨_, hq1, rfl⟩), (fun z => by cases z), fun _ => rfl⟩
      · refine ⟨q, by unfold chs; rw [if_neg c]; exact hq1, true, .inr (.inl ⟨_, hq1, ?_⟩), fun _ => rfl, fun z => by cases z⟩
        cases zs with
        | nil => exact absurd rfl (srt_ne st c)
        | cons _ _ => rfl
    refine or_join kk hk (.ref ch) e1 (fun z Q' q' => ?_) ?_
    · have e3 := e2 z
      subst e3
      exact ⟨_, rfl, p, U.C, dx, _, .ref ch, rfl, S1 _ _ h1, U.cl, U.n3, rfl, q'⟩
    have hin := chs_in st hns
    have lch : (chs S ns zs).length ≤ 63 := by
      unfold chs
      split
      · rw [List.length_map]
        have := g.l8
        omega
      · have := srt_len st hns
        rw [List.length_map] at this
        have := g.l8
        omega
    have kf := k zs
    generalize chs S ns zs = cs at hch hin lch kf
    have m0 := Int.emod_nonneg i (b := t) (by omega)
    have m1 := Int.emod_lt_of_pos i (b := t) (by omega)
    refine ⟨_, rfl, ch, rfl, ⟨_, hch⟩, fun G hG => ?_⟩
    refine lc_it (walk_tup (K := K) (a := ch) (xs := cs.map V.str)) (fun j H' => Same H1 H' ∧ H' G = some (.lst ((alvs S t 0 (cs.take j) (i % t)).map V.int))) ⟨Same.new hG, upd_same⟩ (fun j H' _ h => Same.seqT h.1 hch) ?_ ?_
    · rintro j x Hd He hj ⟨Sd, eG⟩ ⟨rfl, hx⟩
      rw [List.getElem?_map] at hx
      cases e4 : cs[j]? with
      | none => rw [e4] at hx; cases hx
      | some n =>
        rw [e4] at hx
        cases hx
        have jj : j < cs.length := (List.getElem?_eq_some_iff.mp e4).1
        have Se := Same.trans S1 Sd
        obtain ⟨a, va, ha⟩ := (h6.same Se).get (hin n (List.mem_of_getElem? e4))
        refine ⟨rfl, ?_⟩
        unfold tYes
        dsimp only
        rw [if_pos rfl]
        have pc := Se _ _ h1
        refine ⟨_, rfl, p, U.C, dx, _, .ref lv, rfl, pc, U.cl, U.n4, rfl, _, rfl, lv, V.ref a, rfl, ?_, _, rfl, _, rfl, p, U.C, dx, _, .int t, rfl, pc, U.cl, U.n1, rfl, _, _, rfl, rfl, by omega, .inl ⟨a, _, _, .int (alv t ((spn S n).1 + 0) (spn S n).2 (i % t)), rfl, rfl, SqL.of ha, ?_, ?_⟩⟩
        · have := DGet.k (k := Sum.inr n) (Se _ _ h5)
          rw [va] at this
          exact this
        · have := cntL_at (t := t) (b := (spn S n).1 + 0) (e := (spn S n).2) (j := (i % t).toNat) (by omega)
          rw [Int.zero_add, Int.toNat_of_nonneg m0] at this
          exact this
        refine ⟨_, eG, by rw [List.length_map]; unfold alvs; rw [List.length_map, List.length_take, sizeLine_eq]; omega, Same.at hG Sd, ?_⟩
        rw [upd_same, List.take_add_one, e4]
        unfold alvs
        simp
    · rintro Hd ⟨Sd, eG⟩
      rw [List.length_map, List.take_length] at eG
      exact ⟨G, _, rfl, SqL.of eG, kf _ (Same.trans S1 Sd) st⟩
  · rintro vs H Q E ⟨p, t, i, S, r, ns, rfl, sp, few, hns, hi, k⟩
    refine ⟨[.ref p, .int i], ns.map V.str, rfl, rfl, by rw [List.length_map, sizeLine_eq]; omega, fun q hq => ?_⟩
    exact ⟨p, q, t, i, S, r, ns, rfl, sp.same (Same.new hq), upd_same, few, hns, hi, fun zs H' s' st => k zs H' (Same.trans (Same.new hq) s') st⟩
def sp_across (K : PySem.W.Frag) (C : Addr) : Sp := fun vs H Q _ => ∃ (p nl : Addr) (t i : Int) (S : Rws) (r : Addr) (ns : List Str), vs = [.ref p, .int i, .ref nl] ∧ SpAt H C p t S r ∧ H nl = some (.tup (ns.map V.str)) ∧ ns.length < 64 ∧ (∀ n ∈ ns, n ∈ S.map (·.1)) ∧ (-1000000000000 < i ∧ i < 1000000000000) ∧
  ∀ zs H', Same H H' → KS.Srt ns zs → Q (.int (cnt S t 1 (chs S ns zs) (i % t))) H'
/-- from outside: the names behind the tick are the promise's own -/
def sr_across (K : PySem.W.Frag) (C : Addr) : Sp := fun vs H Q _ => ∃ (p : Addr) (t i : Int) (S : Rws) (r : Addr) (ns : List Str), vs = V.ref p :: .int i :: ns.map V.str ∧ SpAt H C p t S r ∧ ns.length < 64 ∧ (∀ n ∈ ns, n ∈ S.map (·.1)) ∧ (-1000000000000 < i ∧ i < 1000000000000) ∧
  ∀ zs H', Same H H' → KS.Srt ns zs → Q (.int (cnt S t 1 (chs S ns zs) (i % t))) H'
theorem ok_across (T : T K mg) (U : UX K mg) : FnR P w K mg base CX0 4 U.mc.f (sr_across K U.C) := by
  have G_check_integer : FnOk P w K mg base CX0 2 T.f_check_integer T.d_check_integer ["value"] (sp_check_integer K) := ok_check_integer T
  have G_chosen : FnOk P w K mg base CX0 1 U.mh.f U.mh.d ["self", "names"] (sp_chosen K U.C) := ok_chosen T U
  obtain ⟨oc, od, kV, doc, pm, an, cdv, ct, osl, hfd, lk, hcd⟩ := U.mc.F.ex
  rw [hfd] at lk
  refine (StX.fn_star (ps := ["self", "moment"]) (pv := "names") (sp := sp_across K U.C) lk hcd sc_Spans_across StX.cxUp_none ?_ ?_).imp ?_
  · intro us rest hl
    match us, hl with
    | [a, b], _ => cases rest <;> rfl
  · intro A outer s H vs Q E hr h
    obtain ⟨p, nl, t, i, S, r, ns, rfl, sp, hnl, few, hns, hi, k⟩ := h
    have hu := hu_of hr
    have hr_check_integer : Room 2 _ := hr.mono (by decide)
    obtain ⟨g, so, dx, rd, nm, lv, cr, L0, LL, LC, h1, h2, h3, h4, h5, h6, h7, h8, _⟩ := id sp
    refine ⟨_, (pss_cons (ps_expr (pe_call G_check_integer hr_check_integer rfl T.m_check_integer T.F_check_integer.kp T.b_check_integer .nil pass0 (pa_cons (pv 1) pa_nil)))
      (pss_cons (ps_set (i := 3) sc_Spans_across.nd rfl (Or.inl rfl) (pe_orT (pe_meth (pv 0) U.cl U.mh.m G_chosen (hr.mono (by decide)) U.mh.b .nil pass0 (pa_cons (pv 2) pa_nil)) (pe_one (pe_fld (pv 0) rfl))))
      (pss_one (ps_ret (pe_callB (cr_sum rfl) (by rfl) T.z_sum (by decide +kernel) (pa_cons (pe_lc (own := [("name", 4)]) (g := gName 4) rfl sc_Spans_across.nd (pi_tup (pv 3)) (blkOk_by (N := ["self", "moment", "names", "chosen", "name"]) (sc := defScope s_Spans_across) (by decide +kernel)) (fun _ _ _ _ _ => (pg_name (i := 4) sc_Spans_across.nd rfl (Or.inl rfl))) (fun _ _ _ _ _ => pts_nil) (fun _ _ _ _ _ => (pe_ix (r := rIx K) ix_seq (pe_dget (by exact hu) (pe_fldK (K := K) rfl (pv 0) rfl) (pv 4) (fun _ _ => rfl)) (pe_op op_mod (pv 1) (pe_fldK (K := K) rfl (pv 0) rfl)) (fun _ _ => rfl)))) pa_nil)))))), ?_⟩
    have g1 := g.t1
    refine ⟨_, rfl, i, rfl, hi, ?_⟩
    -- chosen
    refine ⟨_, rfl, p, dx, _, rfl, h1, rfl, _, rfl, p, nl, t, S, r, ns, rfl, sp, SqT.of hnl, few, hns, fun q zs H1 S1 hq st => ?_⟩
    have hq1 : SqT K H1 q (zs.map V.str) := hq
    obtain ⟨ch, hch, kk, hk, e1, e2⟩ : ∃ (ch : Addr) , SqT K H1 ch ((chs S ns zs).map V.str) ∧ ∃ kk : Bool, TruV K (.ref q) H1 kk ∧ (kk = true → V.ref ch = .ref q) ∧ (kk = false → ch = nm) := by
      by_cases c : ns = []
      · subst c
        obtain rfl := srt_nil st
        exact ⟨nm, SqT.of (S1 _ _ h4), false, .inr (.inl ⟨_, hq1, rfl⟩), (fun z => by cases z), fun _ => rfl⟩
      · refine ⟨q, by unfold chs; rw [if_neg c]; exact hq1, true, .inr (.inl ⟨_, hq1, ?_⟩), fun _ => rfl, fun z => by cases z⟩
        cases zs with
        | nil => exact absurd rfl (srt_ne st c)
        | cons _ _ => rfl
    refine or_join kk hk (.ref ch) e1 (fun z Q' q' => ?_) ?_
    · have e3 := e2 z
      subst e3
      exact ⟨_, rfl, p, U.C, dx, _, .ref ch, rfl, S1 _ _ h1, U.cl, U.n3, rfl, q'⟩
    have hin := chs_in st hns
    have lch : (chs S ns zs).length ≤ 63 := by
      unfold chs
      split
      · rw [List.length_map]
        have := g.l8
        omega
      · have := srt_len st hns
        rw [List.length_map] at this
        have := g.l8
        omega
    have kf := k zs
    generalize chs S ns zs = cs at hch hin lch kf
    have m0 := Int.emod_nonneg i (b := t) (by omega)
    have m1 := Int.emod_lt_of_pos i (b := t) (by omega)
    refine ⟨_, rfl, ch, rfl, ⟨_, hch⟩, fun G hG => ?_⟩
    refine lc_it (walk_tup (K := K) (a := ch) (xs := cs.map V.str)) (fun j H' => Same H1 H' ∧ H' G = some (.lst ((alvs S t 1 (cs.take j) (i % t)).map V.int))) ⟨Same.new hG, upd_same⟩ (fun j H' _ h => Same.seqT h.1 hch) ?_ ?_
    · rintro j x Hd He hj ⟨Sd, eG⟩ ⟨rfl, hx⟩
      rw [List.getElem?_map] at hx
      cases e4 : cs[j]? with
      | none => rw [e4] at hx; cases hx
      | some n =>
        rw [e4] at hx
        cases hx
        have jj : j < cs.length := (List.getElem?_eq_some_iff.mp e4).1
        have Se := Same.trans S1 Sd
        obtain ⟨a, va, ha⟩ := (h8.same Se).get (hin n (List.mem_of_getElem? e4))
        refine ⟨rfl, ?_⟩
        unfold tYes
        dsimp only
        rw [if_pos rfl]
        have pc := Se _ _ h1
        refine ⟨_, rfl, p, U.C, dx, _, .ref cr, rfl, pc, U.cl, U.n5, rfl, _, rfl, cr, V.ref a, rfl, ?_, _, rfl, _, rfl, p, U.C, dx, _, .int t, rfl, pc, U.cl, U.n1, rfl, _, _, rfl, rfl, by omega, .inl ⟨a, _, _, .int (alv t ((spn S n).1 + 1) (spn S n).2 (i % t)), rfl, rfl, SqL.of ha, ?_, ?_⟩⟩
        · have := DGet.k (k := Sum.inr n) (Se _ _ h7)
          rw [va] at this
          exact this
        · have := cntL_at (t := t) (b := (spn S n).1 + 1) (e := (spn S n).2) (j := (i % t).toNat) (by omega)
          rw [Int.zero_add, Int.toNat_of_nonneg m0] at this
          exact this
        refine ⟨_, eG, by rw [List.length_map]; unfold alvs; rw [List.length_map, List.length_take, sizeLine_eq]; omega, Same.at hG Sd, ?_⟩
        rw [upd_same, List.take_add_one, e4]
        unfold alvs
        simp
    · rintro Hd ⟨Sd, eG⟩
      rw [List.length_map, List.take_length] at eG
      exact ⟨G, _, rfl, SqL.of eG, kf _ (Same.trans S1 Sd) st⟩
  · rintro vs H Q E ⟨p, t, i, S, r, ns, rfl, sp, few, hns, hi, k⟩
    refine ⟨[.ref p, .int i], ns.map V.str, rfl, rfl, by rw [List.length_map, sizeLine_eq]; omega, fun q hq => ?_⟩
    exact ⟨p, q, t, i, S, r, ns, rfl, sp.same (Same.new hq), upd_same, few, hns, hi, fun zs H' s' st => k zs H' (Same.trans (Same.new hq) s') st⟩
end
end K38
namespace K38
open PySem L2
open PyProof.Rows PySem.Spec
/-- m is the greatest number of values of some names that are alive in a slot -/
def Mst (S : Rws) (t : Int) (ns : List Str) (m : Int) : Prop := m ∈ ((List.range t.toNat).map fun (s : Nat) => cnt S t 0 ns (s : Int)) ∧ ∀ y ∈ ((List.range t.toNat).map fun (s : Nat) => cnt S t 0 ns (s : Int)), y ≤ m
section
variable {P : Program} {w : World} {K : PySem.W.Frag}
                                                      {mg : Str → Option Value} {base : Heap}
theorem cnts_int (S : Rws) (t k : Int) (ns : List Str) : ((List.range t.toNat).map fun (s : Nat) => V.int (cnt S t k ns (s : Int))) = ((List.range t.toNat).map fun (s : Nat) => cnt S t k ns (s : Int)).map V.int := by
  rw [List.map_map]
  rfl
theorem cnts_len {S : Rws} {t k : Int} {ns : List Str} (h : 1 ≤ t) : 0 < ((List.range t.toNat).map fun (s : Nat) => cnt S t k ns (s : Int)).length := by
  rw [List.length_map, List.length_range]
  omega
def sp_full (K : PySem.W.Frag) (C : Addr) : Sp := fun vs H Q _ => ∃ (p nl : Addr) (t : Int) (S : Rws) (r : Addr) (ns : List Str), vs = [.ref p, .ref nl] ∧ SpAt H C p t S r ∧ SqT K H nl (ns.map V.str) ∧ ns.length ≤ 63 ∧ (∀ n ∈ ns, n ∈ S.map (·.1)) ∧
  ∀ m q H', Mst S t ns m → Same H H' → H' q = some (.lst ((List.range t.toNat).map fun (s : Nat) => V.bl (decide (cnt S t 1 ns (s : Int) = m)))) → Q (.ref q) H'
theorem ok_full (T : T K mg) (U : UX K mg) : FnOk P w K mg base CX0 3 U.mf.f U.mf.d ["self", "names"] (sp_full K U.C) := by
  have G_sums : FnOk P w K mg base CX0 1 U.ms.f U.ms.d ["self", "counts", "names"] (sp_sums K U.C) := ok_sums T U
  refine U.mf.F.ok sc_Spans_full_slots (fun vs H Q E h => ?_) (fun cdv A outer s H vs Q E hr h => ?_)
  · obtain ⟨p, nl, t, S, r, ns, rfl, _⟩ := h
    rfl
  · obtain ⟨p, nl, t, S, r, ns, rfl, sp, hnl, l63, hns, k⟩ := h
    obtain ⟨g, so, dx, rd, nm, lv, cr, L0, LL, LC, h1, h2, h3, h4, h5, h6, h7, h8, _⟩ := id sp
    have hu := hu_of hr
    have g1 := g.t1
    have g2 := g.t2
    refine ⟨_, (pss_cons (ps_set (i := 2) sc_Spans_full_slots.nd rfl (Or.inr rfl) (pe_callB (cr_max rfl) (by rfl) T.z_max (by decide +kernel) (pa_cons (pe_meth (pv 0) U.cl U.ms.m G_sums (hr.mono (by decide)) U.ms.b .nil pass0 (pa_cons (pe_fld (pv 0) rfl) (pa_cons (pv 1) pa_nil))) pa_nil)))
      (pss_one (ps_ret (pe_lc (own := [("many", 3)]) (g := gName 3) rfl sc_Spans_full_slots.nd (pi_list (pe_meth (pv 0) U.cl U.ms.m G_sums (hr.mono (by decide)) U.ms.b .nil pass0 (pa_cons (pe_fld (pv 0) rfl) (pa_cons (pv 1) pa_nil)))) (blkOk_by (N := ["self", "names", "most", "many"]) (sc := defScope s_Spans_full_slots) (by decide +kernel)) (fun _ _ _ _ _ => (pg_name (i := 3) sc_Spans_full_slots.nd rfl (Or.inl rfl))) (fun _ _ _ _ _ => pts_nil) (fun _ _ _ _ _ => (pe_cmpR op_eq (pv 3) (pv 2) (nomark _))))))), ?_⟩
    refine ⟨_, rfl, p, dx, _, rfl, h1, rfl, _, rfl, p, U.C, dx, _, .ref lv, rfl, h1, U.cl, U.n4, rfl, _, rfl, p, lv, nl, t, 0, S, r, LL, ns, rfl, sp, h5, h6, hnl, l63, hns, fun q H1 hq S1 eq => ?_⟩
    rw [cnts_int] at eq
    refine ⟨q, _, rfl, SqL.of eq, cnts_len g1, fun m hm hg => ?_⟩
    have mst : Mst S t ns m := ⟨hm, hg⟩
    refine ⟨_, rfl, p, dx, _, rfl, S1 _ _ h1, rfl, _, rfl, p, U.C, dx, _, .ref cr, rfl, S1 _ _ h1, U.cl, U.n5, rfl, _, rfl, p, cr, nl, t, 1, S, r, LC, ns, rfl, sp.same S1, S1 _ _ h7, h8.same S1, Same.seqT S1 hnl, l63, hns, fun q2 H2 hq2 S2 eq2 => ?_⟩
    refine ⟨q2, rfl, ⟨_, SqL.of eq2⟩, fun D hD => ?_⟩
    have S12 := Same.trans S1 S2
    refine lc_list (xs := (List.range t.toNat).map fun (s : Nat) => V.int (cnt S t 1 ns (s : Int))) (fun i H' => Same H2 H' ∧ H' D = some (.lst ((List.range i).map fun (s : Nat) => V.bl (decide (cnt S t 1 ns (s : Int) = m))))) ⟨Same.new hD, upd_same⟩ (fun i H' _ h => SqL.of (h.1 _ _ eq2)) ?_ ?_
    · rintro i x Hx hx ⟨Sx, eD⟩
      have ii : i < t.toNat := by
        have := (List.getElem?_eq_some_iff.mp hx).1
        rw [List.length_map, List.length_range] at this
        exact this
      rw [List.getElem?_map, List.getElem?_range ii] at hx
      cases hx
      refine ⟨rfl, ?_⟩
      unfold tYes
      dsimp only
      rw [if_pos rfl]
      refine ⟨_, rfl, _, rfl, rfl, ?_⟩
      refine ⟨_, eD, by rw [List.length_map, List.length_range, sizeLine_eq]; omega, Same.at hD Sx, ?_⟩
      rw [upd_same, List.range_succ, List.map_append]
      have e : decide (V.int (cnt S t 1 ns (i : Int)) = V.int m) = decide (cnt S t 1 ns (i : Int) = m) := by
        by_cases c : cnt S t 1 ns (i : Int) = m
        · rw [decide_eq_true c, decide_eq_true (congrArg _ c)]
        · rw [decide_eq_false c, decide_eq_false (fun z => c (V.int.inj z))]
      rw [e]
      rfl
    · rintro Hx ⟨Sx, eD⟩
      rw [List.length_map, List.length_range] at eD
      exact k m D Hx mst (Same.trans S12 Sx) eD
def sp_most (K : PySem.W.Frag) (C : Addr) : Sp := fun vs H Q _ => ∃ (p : Addr) (t : Int) (S : Rws) (r : Addr), vs = [.ref p] ∧ SpAt H C p t S r ∧ ∀ m H', Mst S t (S.map (·.1)) m → Same H H' → Q (.int m) H'
theorem ok_most (T : T K mg) (U : UX K mg) : FnOk P w K mg base CX0 3 U.pm.g U.pm.d ["self"] (sp_most K U.C) := by
  have G_sums : FnOk P w K mg base CX0 1 U.ms.f U.ms.d ["self", "counts", "names"] (sp_sums K U.C) := ok_sums T U
  refine U.pm.F.ok sc_Spans_most (fun vs H Q E h => ?_) (fun cdv A outer s H vs Q E hr h => ?_)
  · obtain ⟨p, t, S, r, rfl, _⟩ := h
    rfl
  · obtain ⟨p, t, S, r, rfl, sp, k⟩ := h
    obtain ⟨g, so, dx, rd, nm, lv, cr, L0, LL, LC, h1, h2, h3, h4, h5, h6, h7, h8, _⟩ := id sp
    have hu := hu_of hr
    refine ⟨_, (pss_one (ps_ret (pe_callB (cr_max rfl) (by rfl) T.z_max (by decide +kernel) (pa_cons (pe_meth (pv 0) U.cl U.ms.m G_sums (hr.mono (by decide)) U.ms.b .nil pass0 (pa_cons (pe_fld (pv 0) rfl) (pa_cons (pe_fld (pv 0) rfl) pa_nil))) pa_nil)))), ?_⟩
    refine ⟨_, rfl, p, dx, _, rfl, h1, rfl, _, rfl, p, U.C, dx, _, .ref lv, rfl, h1, U.cl, U.n4, rfl, _, rfl, p, U.C, dx, _, .ref nm, rfl, h1, U.cl, U.n3, rfl, p, lv, nm, t, 0, S, r, LL, S.map (·.1), rfl, sp, h5, h6, SqT.of h4, by rw [List.length_map]; have := g.l8; omega, fun _ h => h, fun q H1 hq S1 eq => ?_⟩
    rw [cnts_int] at eq
    exact ⟨q, _, rfl, SqL.of eq, cnts_len g.t1, fun m hm hg => k m H1 ⟨hm, hg⟩ S1⟩
def sp_most_of (K : PySem.W.Frag) (C : Addr) : Sp := fun vs H Q _ => ∃ (p nl : Addr) (t : Int) (S : Rws) (r : Addr) (ns : List Str), vs = [.ref p, .ref nl] ∧ SpAt H C p t S r ∧ H nl = some (.tup (ns.map V.str)) ∧ ns.length < 64 ∧ (∀ n ∈ ns, n ∈ S.map (·.1)) ∧
  ∀ zs m H', Same H H' → KS.Srt ns zs → Mst S t zs m → Q (.int m) H'
def sr_most_of (K : PySem.W.Frag) (C : Addr) : Sp := fun vs H Q _ => ∃ (p : Addr) (t : Int) (S : Rws) (r : Addr) (ns : List Str), vs = V.ref p :: ns.map V.str ∧ SpAt H C p t S r ∧ ns.length < 64 ∧ (∀ n ∈ ns, n ∈ S.map (·.1)) ∧
  ∀ zs m H', Same H H' → KS.Srt ns zs → Mst S t zs m → Q (.int m) H'
theorem ok_most_of (T : T K mg) (U : UX K mg) : FnR P w K mg base CX0 4 U.mo.f (sr_most_of K U.C) := by
  have G_sums : FnOk P w K mg base CX0 1 U.ms.f U.ms.d ["self", "counts", "names"] (sp_sums K U.C) := ok_sums T U
  have G_chosen : FnOk P w K mg base CX0 1 U.mh.f U.mh.d ["self", "names"] (sp_chosen K U.C) := ok_chosen T U
  obtain ⟨oc, od, kV, doc, pm, an, cdv, ct, osl, hfd, lk, hcd⟩ := U.mo.F.ex
  rw [hfd] at lk
  refine (StX.fn_star (ps := ["self"]) (pv := "names") (sp := sp_most_of K U.C) lk hcd sc_Spans_most_of StX.cxUp_none ?_ ?_).imp ?_
  · intro us rest hl
    match us, hl with
    | [a], _ => cases rest <;> rfl
  · intro A outer s H vs Q E hr h
    obtain ⟨p, nl, t, S, r, ns, rfl, sp, hnl, few, hns, k⟩ := h
    have hu := hu_of hr
    obtain ⟨g, so, dx, rd, nm, lv, cr, L0, LL, LC, h1, h2, h3, h4, h5, h6, h7, h8, _⟩ := id sp
    refine ⟨_, (pss_one (ps_ret (pe_callB (cr_max rfl) (by rfl) T.z_max (by decide +kernel) (pa_cons (pe_meth (pv 0) U.cl U.ms.m G_sums (hr.mono (by decide)) U.ms.b .nil pass0 (pa_cons (pe_fld (pv 0) rfl) (pa_cons (pe_meth (pv 0) U.cl U.mh.m G_chosen (hr.mono (by decide)) U.mh.b .nil pass0 (pa_cons (pv 1) pa_nil)) pa_nil))) pa_nil)))), ?_⟩
    refine ⟨_, rfl, p, dx, _, rfl, h1, rfl, _, rfl, p, U.C, dx, _, .ref lv, rfl, h1, U.cl, U.n4, rfl, _, rfl, p, dx, _, rfl, h1, rfl, _, rfl, p, nl, t, S, r, ns, rfl, sp, SqT.of hnl, few, hns, fun q zs H1 S1 hq st => ?_⟩
    have hz : ∀ n ∈ zs, n ∈ S.map (·.1) := fun n hn => hns n ((st.2 n).mp hn)
    have lz := srt_len st hns
    rw [List.length_map] at lz
    refine ⟨p, lv, q, t, 0, S, r, LL, zs, rfl, sp.same S1, S1 _ _ h5, h6.same S1, hq, by have := g.l8; omega, hz, fun q2 H2 hq2 S2 eq => ?_⟩
    rw [cnts_int] at eq
    exact ⟨q2, _, rfl, SqL.of eq, cnts_len g.t1, fun m hm hg => k zs m H2 (Same.trans S1 S2) st ⟨hm, hg⟩⟩
  · rintro vs H Q E ⟨p, t, S, r, ns, rfl, sp, few, hns, k⟩
    refine ⟨[.ref p], ns.map V.str, rfl, rfl, by rw [List.length_map, sizeLine_eq]; omega, fun q hq => ?_⟩
    exact ⟨p, q, t, S, r, ns, rfl, sp.same (Same.new hq), upd_same, few, hns, fun zs m H' s' st hm => k zs m H' (Same.trans (Same.new hq) s') st hm⟩
end
end K38
namespace K38
open PySem L2
open PyProof.Rows PySem.Spec
section
variable {P : Program} {w : World} {K : PySem.W.Frag}
                                                      {mg : Str → Option Value} {base : Heap}
def sp_is_full (K : PySem.W.Frag) (C : Addr) : Sp := fun vs H Q _ => ∃ (p nl : Addr) (t i : Int) (S : Rws) (r : Addr) (ns : List Str), vs = [.ref p, .int i, .ref nl] ∧ SpAt H C p t S r ∧ H nl = some (.tup (ns.map V.str)) ∧ ns.length < 64 ∧ (∀ n ∈ ns, n ∈ S.map (·.1)) ∧ (-1000000000000 < i ∧ i < 1000000000000) ∧
  ∀ zs m H', Same H H' → KS.Srt ns zs → Mst S t (chs S ns zs) m → Q (.bl (decide (cnt S t 1 (chs S ns zs) (i % t) = m))) H'
/-- from outside: the names behind the tick are the promise's own -/
def sr_is_full (K : PySem.W.Frag) (C : Addr) : Sp := fun vs H Q _ => ∃ (p : Addr) (t i : Int) (S : Rws) (r : Addr) (ns : List Str), vs = V.ref p :: .int i :: ns.map V.str ∧ SpAt H C p t S r ∧ ns.length < 64 ∧ (∀ n ∈ ns, n ∈ S.map (·.1)) ∧ (-1000000000000 < i ∧ i < 1000000000000) ∧
  ∀ zs m H', Same H H' → KS.Srt ns zs → Mst S t (chs S ns zs) m → Q (.bl (decide (cnt S t 1 (chs S ns zs) (i % t) = m))) H'
theorem ok_is_full (T : T K mg) (U : UX K mg) : FnR P w K mg base CX0 6 U.mi.f (sr_is_full K U.C) := by
  have G_check_integer : FnOk P w K mg base CX0 2 T.f_check_integer T.d_check_integer ["value"] (sp_check_integer K) := ok_check_integer T
  have G_chosen : FnOk P w K mg base CX0 1 U.mh.f U.mh.d ["self", "names"] (sp_chosen K U.C) := ok_chosen T U
  have G_full : FnOk P w K mg base CX0 3 U.mf.f U.mf.d ["self", "names"] (sp_full K U.C) := ok_full T U
  obtain ⟨oc, od, kV, doc, pm, an, cdv, ct, osl, hfd, lk, hcd⟩ := U.mi.F.ex
  rw [hfd] at lk
  refine (StX.fn_star (ps := ["self", "moment"]) (pv := "names") (sp := sp_is_full K U.C) lk hcd sc_Spans_is_full StX.cxUp_none ?_ ?_).imp ?_
  · intro us rest hl
    match us, hl with
    | [a, b], _ => cases rest <;> rfl
  · intro A outer s H vs Q E hr h
    obtain ⟨p, nl, t, i, S, r, ns, rfl, sp, hnl, few, hns, hi, k⟩ := h
    have hu := hu_of hr
    have hr_check_integer : Room 2 _ := hr.mono (by decide)
    obtain ⟨g, so, dx, rd, nm, lv, cr, L0, LL, LC, h1, h2, h3, h4, h5, h6, h7, h8, _⟩ := id sp
    refine ⟨_, (pss_cons (ps_expr (pe_call G_check_integer hr_check_integer rfl T.m_check_integer T.F_check_integer.kp T.b_check_integer .nil pass0 (pa_cons (pv 1) pa_nil)))
      (pss_cons (ps_set (i := 3) sc_Spans_is_full.nd rfl (Or.inl rfl) (pe_orT (pe_meth (pv 0) U.cl U.mh.m G_chosen (hr.mono (by decide)) U.mh.b .nil pass0 (pa_cons (pv 2) pa_nil)) (pe_one (pe_fld (pv 0) rfl))))
      (pss_one (ps_ret (pe_ix ix_seq (pe_meth (pv 0) U.cl U.mf.m G_full (hr.mono (by decide)) U.mf.b .nil pass0 (pa_cons (pv 3) pa_nil)) (pe_op op_mod (pv 1) (pe_fld (pv 0) rfl)) (fun _ _ => rfl)))))), ?_⟩
    have g1 := g.t1
    refine ⟨_, rfl, i, rfl, hi, ?_⟩
    -- chosen
    refine ⟨_, rfl, p, dx, _, rfl, h1, rfl, _, rfl, p, nl, t, S, r, ns, rfl, sp, SqT.of hnl, few, hns, fun q zs H1 S1 hq st => ?_⟩
    have hq1 : SqT K H1 q (zs.map V.str) := hq
    obtain ⟨ch, hch, kk, hk, e1, e2⟩ : ∃ (ch : Addr) , SqT K H1 ch ((chs S ns zs).map V.str) ∧ ∃ kk : Bool, TruV K (.ref q) H1 kk ∧ (kk = true → V.ref ch = .ref q) ∧ (kk = false → ch = nm) := by
      by_cases c : ns = []
      · subst c
        obtain rfl := srt_nil st
        exact ⟨nm, SqT.of (S1 _ _ h4), false, .inr (.inl ⟨_, hq1, rfl⟩), (fun z => by cases z), fun _ => rfl⟩
      · refine ⟨q, by unfold chs; rw [if_neg c]; exact hq1, true, .inr (.inl ⟨_, hq1, ?_⟩), fun _ => rfl, fun z => by cases z⟩
        cases zs with
        | nil => exact absurd rfl (srt_ne st c)
        | cons _ _ => rfl
    refine or_join kk hk (.ref ch) e1 (fun z Q' q' => ?_) ?_
    · have e3 := e2 z
      subst e3
      exact ⟨_, rfl, p, U.C, dx, _, .ref ch, rfl, S1 _ _ h1, U.cl, U.n3, rfl, q'⟩
    have hin := chs_in st hns
    have lch : (chs S ns zs).length ≤ 63 := by
      unfold chs
      split
      · rw [List.length_map]
        have := g.l8
        omega
      · have := srt_len st hns
        rw [List.length_map] at this
        have := g.l8
        omega
    have kf := k zs
    have m0 := Int.emod_nonneg i (b := t) (by omega)
    have m1 := Int.emod_lt_of_pos i (b := t) (by omega)
    refine ⟨_, rfl, p, dx, _, rfl, S1 _ _ h1, rfl, _, rfl, p, ch, t, S, r, chs S ns zs, rfl, sp.same S1, hch, lch, hin, fun m q2 H2 hm S2 eq2 => ?_⟩
    refine ⟨_, rfl, _, rfl, p, U.C, dx, _, .int t, rfl, S2 _ _ (S1 _ _ h1), U.cl, U.n1, rfl, _, _, rfl, rfl, by omega, .inl ⟨q2, _, _, .bl (decide (cnt S t 1 (chs S ns zs) (i % t) = m)), rfl, rfl, SqL.of eq2, ?_, ?_⟩⟩
    · have e : (((i % t).toNat : Nat) : Int) = i % t := Int.toNat_of_nonneg m0
      show atI _ (i % t) = _
      rw [← e]
      refine atI_nat ?_
      rw [List.getElem?_map, List.getElem?_range (by omega)]
      rfl
    · exact kf m H2 (Same.trans S1 S2) st hm
  · rintro vs H Q E ⟨p, t, i, S, r, ns, rfl, sp, few, hns, hi, k⟩
    refine ⟨[.ref p, .int i], ns.map V.str, rfl, rfl, by rw [List.length_map, sizeLine_eq]; omega, fun q hq => ?_⟩
    exact ⟨p, q, t, i, S, r, ns, rfl, sp.same (Same.new hq), upd_same, few, hns, hi, fun zs m H' s' st hm => k zs m H' (Same.trans (Same.new hq) s') st hm⟩
/-- the slots in which so many are alive -/
def pkS (S : Rws) (t m : Int) (j : Nat) : List Int := ((List.range j).filter fun (s : Nat) => decide (cnt S t 0 (S.map (·.1)) (s : Int) = m)).map fun (s : Nat) => (s : Int)
def sp_peaks (K : PySem.W.Frag) (C : Addr) : Sp := fun vs H Q _ => ∃ (p : Addr) (t : Int) (S : Rws) (r : Addr), vs = [.ref p] ∧ SpAt H C p t S r ∧ ∀ m q H', Mst S t (S.map (·.1)) m → Same H H' → H' q = some (.tup ((pkS S t m t.toNat).map V.int)) → Q (.ref q) H'
theorem ok_peaks (T : T K mg) (U : UX K mg) : FnOk P w K mg base CX0 3 U.pp.g U.pp.d ["self"] (sp_peaks K U.C) := by
  have G_sums : FnOk P w K mg base CX0 1 U.ms.f U.ms.d ["self", "counts", "names"] (sp_sums K U.C) := ok_sums T U
  refine U.pp.F.ok sc_Spans_peaks (fun vs H Q E h => ?_) (fun cdv A outer s H vs Q E hr h => ?_)
  · obtain ⟨p, t, S, r, rfl, _⟩ := h
    rfl
  · obtain ⟨p, t, S, r, rfl, sp, k⟩ := h
    obtain ⟨g, so, dx, rd, nm, lv, cr, L0, LL, LC, h1, h2, h3, h4, h5, h6, h7, h8, _⟩ := id sp
    have hu := hu_of hr
    have g2 := g.t2
    refine ⟨_, (pss_cons (ps_set (i := 1) sc_Spans_peaks.nd rfl (Or.inl rfl) (pe_meth (pv 0) U.cl U.ms.m G_sums (hr.mono (by decide)) U.ms.b .nil pass0 (pa_cons (pe_fld (pv 0) rfl) (pa_cons (pe_fld (pv 0) rfl) pa_nil))))
      (pss_cons (ps_set (i := 2) sc_Spans_peaks.nd rfl (Or.inr rfl) (pe_callB (cr_max rfl) (by rfl) T.z_max (by decide +kernel) (pa_cons (pv 1) pa_nil)))
      (pss_one (ps_ret (pe_callTy call_tuple_of (by rfl) T.z_tuple (by decide +kernel) (pa_cons (pe_lc (own := [("slot", 3), ("many", 4)]) (g := gTup K 2 (gCons (gName 3) (gCons (gName 4) gNil))) rfl sc_Spans_peaks.nd (pi_enum (by rfl) T.z_enumerate (pa_cons (pv 1) pa_nil)) (blkOk_by (N := ["self", "counts", "most", "slot", "many"]) (sc := defScope s_Spans_peaks) (by decide +kernel)) (fun _ _ _ _ _ => (pg_tup rfl (pgs_cons (pg_name (i := 3) sc_Spans_peaks.nd rfl (Or.inl rfl)) (pgs_cons (pg_name (i := 4) sc_Spans_peaks.nd rfl (Or.inl rfl)) pgs_nil)))) (fun _ _ _ _ _ => pts_one (pt_cmpR op_eq (pv 4) (pv 2) (nomark _))) (fun _ _ _ _ _ => (pv 3))) pa_nil)))))), ?_⟩
    refine ⟨_, rfl, p, dx, _, rfl, h1, rfl, _, rfl, p, U.C, dx, _, .ref lv, rfl, h1, U.cl, U.n4, rfl, _, rfl, p, U.C, dx, _, .ref nm, rfl, h1, U.cl, U.n3, rfl, p, lv, nm, t, 0, S, r, LL, S.map (·.1), rfl, sp, h5, h6, SqT.of h4, by rw [List.length_map]; have := g.l8; omega, fun _ h => h, fun q H1 hq S1 eq => ?_⟩
    have eq' := eq
    rw [cnts_int] at eq'
    refine ⟨_, rfl, q, _, rfl, SqL.of eq', cnts_len g.t1, fun m hm hg => ?_⟩
    have mst : Mst S t (S.map (·.1)) m := ⟨hm, hg⟩
    refine ⟨_, rfl, q, _, rfl, SqL.of eq, fun D hD => ?_⟩
    refine lc_it (walk_enum (K := K) (a := q) (xs := (List.range t.toNat).map fun (s : Nat) => V.int (cnt S t 0 (S.map (·.1)) (s : Int)))) (fun i H' => Same H1 H' ∧ H' D = some (.lst ((pkS S t m i).map V.int))) ⟨Same.new hD, upd_same⟩ (fun i H' _ h => SqL.of (h.1 _ _ eq)) ?_ ?_
    · rintro i x Hx Hy hi ⟨Sx, eD⟩ ⟨TT, x1, y1, rfl, hTT, rfl, ex1, ey1⟩
      rw [List.length_map, List.length_range] at hi
      dsimp only at ex1 ey1
      rw [List.getElem?_map, List.getElem?_range hi] at ey1
      cases ex1
      cases ey1
      have C1 := Same.new (o := .tup [V.int (i : Int), .int (cnt S t 0 (S.map (·.1)) (i : Int))]) hTT
      have eTT : (upd Hx TT (.tup [V.int (i : Int), .int (cnt S t 0 (S.map (·.1)) (i : Int))])) TT = some (.tup [V.int (i : Int), .int (cnt S t 0 (S.map (·.1)) (i : Int))]) := upd_same
      have eD2 := C1 _ _ eD
      generalize upd Hx TT (.tup [V.int (i : Int), .int (cnt S t 0 (S.map (·.1)) (i : Int))]) = Hy at C1 eTT eD2 ⊢
      refine ⟨TT, _, rfl, SqT.of eTT, rfl, _, _, rfl, _, _, rfl, rfl, ?_⟩
      refine ⟨rfl, ?_⟩
      have lp : (pkS S t m i).length ≤ i := by
        unfold pkS
        rw [List.length_map]
        exact Nat.le_trans (List.length_filter_le _ _) (by rw [List.length_range]; exact Nat.le_refl _)
      have e10 : pkS S t m (i + 1) = pkS S t m i ++ (if cnt S t 0 (S.map (·.1)) (i : Int) = m then [(i : Int)] else []) := by
        unfold pkS
        rw [List.range_succ, List.filter_append, List.map_append]
        congr 1
        by_cases c : cnt S t 0 (S.map (·.1)) (i : Int) = m <;> simp [c]
      refine ⟨_, rfl, _, rfl, rfl, _, rfl, ?_⟩
      by_cases c : cnt S t 0 (S.map (·.1)) (i : Int) = m
      · rw [decide_eq_true (congrArg V.int c)]
        rw [if_pos c] at e10
        refine iteT ⟨_, rfl, _, eD2, by rw [List.length_map, sizeLine_eq]; omega, Same.at hD (Same.trans Sx C1), ?_⟩
        rw [upd_same, e10, List.map_append]
        rfl
      · rw [decide_eq_false (fun z => c (V.int.inj z))]
        rw [if_neg c, List.append_nil] at e10
        rw [e10]
        exact iteF ⟨Same.trans Sx C1, eD2⟩
    · rintro Hx ⟨Sx, eD⟩
      rw [List.length_map, List.length_range] at eD
      refine ⟨D, _, rfl, .inl ⟨SqL.of eD, fun l hl => ?_⟩⟩
      exact k m l _ mst (Same.trans S1 (Same.trans Sx (Same.new hl))) upd_same
end
end K38
/-! o.m(..) of a method with a parameter for more -/
namespace MR
open PySem PySem.Spec PyProof.Rows L2
section
variable {X : Cx} {CX : CXT} {k : Nat} {C f : Addr} {m : Str} {sp : Sp} {E : XK} {o e : Expr} {es : List Expr} {ta : TE} {t : TA} {apos pos : Pos}
def tMethR (C : Addr) (m : Str) (sp : Sp) (E : XK) (ta : TE) (t : TA) : TE := fun σ H Q => ta σ H fun x H1 => ∃ a dx fs, x = .ref a ∧ H1 a = some
                                                                                                                                                  (.ins C dx fs) ∧ fs.lookup m = none ∧ t σ H1 fun vs H2 => sp (x :: vs) H2 Q E
theorem pe_methR {pl : Sem Bool} (he : PE X o ta) (c : Cls X.K C) (hm : Meth X.K C m f) (F : FnR X.prog X.w X.K X.mg X.base CX k f sp) (hr : Room k X.A) (hx : Passes CX X E)
    (ha : PA X (e :: es) t) (hst : starEach (e :: es) X.env = (false, eval e X.env) :: starEach es X.env := by rfl) (hpl : (backTo pos (starEach es X.env)).any (·.1) = false := by rfl)
    (ht : eval (.Call (.Attribute o m apos)
                                            (e :: es) [] pos) X.env = (do
      let ov ← eval o X.env
      standAt apos.atName
      let (g, front) ← holding [ov] (getMethod ov m pl)
      callWith pos g front (backTo pos (starEach (e :: es) X.env)) (backToKw pos (keywordEach [] X.env))) := by rfl) :
    PE X (.Call (.Attribute o m apos)
                                      (e :: es) [] pos) (tMethR C m sp E ta t) := by
  refine ⟨fun pins s σ H Q I h => ?_⟩
  refine PySem.W.methodCall_KW (pl := pl) (thn (he.run pins s σ H _ I h) fun u s1
                                                                                  ⟨x, H1, I1, rx, a, dx, fs, ex, ea, l, q⟩ => ?_) ht
  subst ex
  obtain rfl : u = Value.ref a := rx
  refine getmeth_ok I1 ea c hm l ?_
  exact PySem.W.callWith_K (first := [.ref a]) (h₀ := X.base) I.ok.mod.kin hm.kp (thn (ha.run pos pins s1 σ H1 _ I1 q) fun us s2 ⟨vs, H2, I2, r, q2⟩ =>
    ⟨I2.kIn, wpAny_call (codeAny_mono (run_fnR (us := .ref a :: us) (vs := .ref a :: vs) F hr hx I2 (.cons rfl r) q2) fun r' s' z => by
      cases r' with
      | error e => exact z
      | ok fl => cases fl <;> exact z)⟩) hst hpl
theorem pe_methR0 {pl : Sem Bool} (he : PE X o ta) (c : Cls X.K C) (hm : Meth X.K C m f) (F : FnR X.prog X.w X.K X.mg X.base CX k f sp) (hr : Room k X.A) (hx : Passes CX X E)
    (ht : eval (.Call
                      (.Attribute o m apos) [] [] pos) X.env = (do
      let ov ← eval o X.env
      standAt apos.atName
      let (g, front) ← holding [ov] (getMethod ov m pl)
      callWith pos g front (backTo pos (starEach [] X.env)) (backToKw pos (keywordEach [] X.env))) := by rfl) :
    PE X (.Call (.Attribute o m apos) [] [] pos) (tMethR C m sp E ta tNil) := by
  refine ⟨fun pins s σ H Q I h => ?_⟩
  refine PySem.W.methodCall_KW (pl := pl) (thn (he.run pins s σ H _ I h) fun u s1
                                                                                  ⟨x, H1, I1, rx, a, dx, fs, ex, ea, l, q⟩ => ?_) ht
  subst ex
  obtain rfl : u = Value.ref a := rx
  refine getmeth_ok I1 ea c hm l ?_
  exact PySem.W.callWith_K0 (first := [.ref a]) I1.kIn hm.kp (wpAny_call (codeAny_mono (run_fnR (us := [.ref a]) (vs := [.ref a]) F hr hx I1 (.cons rfl .nil) q) fun r' s' z => by
      cases r' with
      | error e => exact z
      | ok fl => cases fl <;> exact z))
end
end MR
namespace K38
open PySem L2
open PyProof.Rows PySem.Spec
section
variable {P : Program} {w : World} {K : PySem.W.Frag}
                                                      {mg : Str → Option Value} {base : Heap}
def sp_w_most (K : PySem.W.Frag) (C : Addr) : Sp := fun vs H Q _ => ∃ (p so : Addr) (t : Int) (S : Rws) (r : Addr) (ns : List Str), vs = [.ref p, .ref so] ∧ SpAt H C p t S r ∧ H so = some (.lst (ns.map V.str)) ∧ ns.length ≤ 3 ∧ (∀ n ∈ ns, n ∈ S.map (·.1)) ∧
  ∀ zs m H', Same H H' → KS.Srt ns zs → Mst S t zs m → Q (.int m) H'
theorem ok_w_most (T : T K mg) (U : UX K mg) : FnOk P w K mg base CX0 5 T.f_w_most T.d_w_most ["spans", "some"] (sp_w_most K U.C) := by
  have G : FnR P w K mg base CX0 4 U.mo.f (sr_most_of K U.C) := ok_most_of T U
  refine T.F_w_most.ok sc_w_most (fun vs H Q E h => ?_) (fun cdv A outer s H vs Q E hr h => ?_)
  · obtain ⟨p, so, t, S, r, ns, rfl, _⟩ := h
    rfl
  · obtain ⟨p, so, t, S, r, ns, rfl, sp, hso, l3, hns, k⟩ := h
    have hu := hu_of hr
    obtain ⟨g, so', dx, rd, nm, lv, cr, L0, LL, LC, h1, _⟩ := id sp
    refine ⟨_, (pss_cons (ps_if (pt_cmpR op_eq (pe_callB call_len (by rfl) T.z_len (by decide +kernel) (pa_cons (pv 1) pa_nil)) pe_int (nomark _))
      (pss_one (ps_ret (MR.pe_methR0 (pv 0) U.cl U.mo.m G (hr.mono (by decide)) pass0)))
      pss_nil)
      (pss_cons (ps_if (pt_cmpR op_eq (pe_callB call_len (by rfl) T.z_len (by decide +kernel) (pa_cons (pv 1) pa_nil)) pe_int (nomark _))
      (pss_one (ps_ret (MR.pe_methR (pv 0) U.cl U.mo.m G (hr.mono (by decide)) pass0 (pa_cons (pe_ix ix_seq (pv 1) pe_int (fun _ _ => rfl)) pa_nil))))
      pss_nil)
      (pss_cons (ps_if (pt_cmpR op_eq (pe_callB call_len (by rfl) T.z_len (by decide +kernel) (pa_cons (pv 1) pa_nil)) pe_int (nomark _))
      (pss_one (ps_ret (MR.pe_methR (pv 0) U.cl U.mo.m G (hr.mono (by decide)) pass0 (pa_cons (pe_ix ix_seq (pv 1) pe_int (fun _ _ => rfl)) (pa_cons (pe_ix ix_seq (pv 1) pe_int (fun _ _ => rfl)) pa_nil)))))
      pss_nil)
      (pss_one (ps_ret (MR.pe_methR (pv 0) U.cl U.mo.m G (hr.mono (by decide)) pass0 (pa_cons (pe_ix ix_seq (pv 1) pe_int (fun _ _ => rfl)) (pa_cons (pe_ix ix_seq (pv 1) pe_int (fun _ _ => rfl)) (pa_cons (pe_ix ix_seq (pv 1) pe_int (fun _ _ => rfl)) pa_nil))))))))), ?_⟩
    have fin : ∃ (p' : Addr) (t' : Int) (S' : Rws) (r' : Addr) (ns' : List Str), (V.ref p :: ns.map V.str) = V.ref p' :: ns'.map V.str ∧ SpAt H U.C p' t' S' r' ∧ ns'.length < 64 ∧ (∀ n ∈ ns', n ∈ S'.map (·.1)) ∧ ∀ zs m H', Same H H' → KS.Srt ns' zs → Mst S' t' zs m → Q (.int m) H' :=
      ⟨p, t, S, r, ns, rfl, sp, by omega, hns, k⟩
    refine ⟨_, rfl, _, _, rfl, .inl ⟨_, SqL.of hso, rfl⟩, rfl, _, rfl, ?_⟩
    rcases ns with _ | ⟨a, _ | ⟨b, _ | ⟨c, _ | ⟨d, ns⟩⟩⟩⟩
    · skip
      refine iteT ?_
      exact ⟨_, rfl, p, dx, _, rfl, h1, rfl, fin⟩
    · skip
      refine iteF ?_
      refine ⟨_, rfl, _, _, rfl, .inl ⟨_, SqL.of hso, rfl⟩, rfl, _, rfl, iteT ?_⟩
      exact ⟨_, rfl, p, dx, _, rfl, h1, rfl, _, rfl, .inl ⟨so, _, _, _, rfl, rfl, SqL.of hso, atI_nat (j := 0) rfl, fin⟩⟩
    · skip
      refine iteF ?_
      refine ⟨_, rfl, _, _, rfl, .inl ⟨_, SqL.of hso, rfl⟩, rfl, _, rfl, iteF ?_⟩
      refine ⟨_, rfl, _, _, rfl, .inl ⟨_, SqL.of hso, rfl⟩, rfl, _, rfl, iteT ?_⟩
      exact ⟨_, rfl, p, dx, _, rfl, h1, rfl, _, rfl, .inl ⟨so, _, _, _, rfl, rfl, SqL.of hso, atI_nat (j := 0) rfl, _, rfl, .inl ⟨so, _, _, _, rfl, rfl, SqL.of hso, atI_nat (j := 1) rfl, fin⟩⟩⟩
    · skip
      refine iteF ?_
      refine ⟨_, rfl, _, _, rfl, .inl ⟨_, SqL.of hso, rfl⟩, rfl, _, rfl, iteF ?_⟩
      refine ⟨_, rfl, _, _, rfl, .inl ⟨_, SqL.of hso, rfl⟩, rfl, _, rfl, iteF ?_⟩
      exact ⟨_, rfl, p, dx, _, rfl, h1, rfl, _, rfl, .inl ⟨so, _, _, _, rfl, rfl, SqL.of hso, atI_nat (j := 0) rfl, _, rfl, .inl ⟨so, _, _, _, rfl, rfl, SqL.of hso, atI_nat (j := 1) rfl, _, rfl, .inl ⟨so, _, _, _, rfl, rfl, SqL.of hso, atI_nat (j := 2) rfl, fin⟩⟩⟩⟩
    · simp at l3
end
end K38
/-! for loops in generators -/
namespace PySem
open PyProof.Rows
section
variable {prog : Program} {w : World} {A : Around} {R : GenEnd} {Y : Protocol} {n : Nat} {s₀ : Shared} {c : Code} {fs : List Frame} {s : Shared} {env : Env} {K : Flow → Sem Fin} {H : Value → Sem Fin} {gd : Bool → Bool} {lv : List Value → List Value}
theorem seg_ForG {target iter : Expr} {body orelse : List Stmt} {pos : Pos}
    (h : wpAny (model prog w) (A.over c fs) (eval iter env) (fun x s₁ => wpAny (model prog w) (A.over c fs) (pyIter x) (fun it s₂ => ∀ p, Seg (model prog w) A R Y n s₀ (.forLoop target it body orelse env) ((model prog w).den (.forLoop target it body orelse env))
      (.ret (fun r => ((match r with | .ok f =>
                                                (.pure f : Sem Flow) | .error e => .raise e).onRaise fun (x : Value) => do
        if (← field x 1) == Value.none then unsupported "frame.own-activation:exception-without-traceback"
        setFlight x env.frame).wrap K H gd lv) none (gd false) (lv []) c p [] :: fs) s₂) (fun x s' => Seg (model prog w) A R Y n s₀ c (H x) fs s') s₁) (fun x s' => Seg (model prog w) A R Y n s₀ c (H x) fs s') s)
    (hs : ∀ x, foldedSetIterable iter env x = pure x) :
    Seg (model prog w) A R Y n s₀ c ((exec (.For target iter body orelse pos) env).wrap K H gd lv) fs s := by
  rw [exec_For]
  refine seg_at ?_
  show Seg _ _ _ _ _ _ _ ((eval iter env >>= fun v => (foldedSetIterable iter env v >>= fun x => (standAt iter.pos >>= fun _ => (holding [x] (pyIter x) >>= fun it => runOwn (.forLoop target it body orelse env) env)))).wrap K H gd lv) fs s
  rw [Sem.bind_eq_wrap', Sem.wrap_wrap]
  refine seg_wrap (wpAny_mono h (fun x s1 h1 => ?_) fun _ _ q => q)
  rw [hs x]
  show Seg _ _ _ _ _ _ _ ((standAt iter.pos >>= fun _ => (holding [x] (pyIter x) >>= fun it => runOwn (.forLoop target it body orelse env) env)).wrap K H gd lv) fs s1
  refine seg_at ?_
  show Seg _ _ _ _ _ _ _ ((holding [x] (pyIter x) >>= fun it => runOwn (.forLoop target it body orelse env) env).wrap K H gd lv) fs s1
  rw [Sem.bind_eq_wrap', Sem.wrap_wrap]
  refine seg_wrap (wpAny_holding (wpAny_mono h1 (fun it s2 h2 => ?_) fun _ _ q => q))
  exact seg_call h2
def turnB (target : Expr) (it : Value) (body orelse : List Stmt) (env : Env) (r : Option Value) : Sem Fin := do
  match r with
  | none => again (.block orelse env)
  | some v =>
    letOwnedTupleGo target it v
    assign target env v
    match ← execs body env with
    | .next | .cont => again
                             (.forLoop target it body orelse env)
    | .brk => pure (.done .next)
    | .ret v => pure (.done (.ret v))
theorem forTurn_eq (target : Expr) (it : Value) (body orelse : List Stmt) (env : Env) : forTurn target it body orelse env = (standAt target.pos >>= fun _ => ((pyNext it).onRaise (fun _ => standAt { target.pos with line := 0 }) >>= fun r => turnB target it body orelse env r)) := rfl
theorem seg_forLoopG {target : Expr} {it : Value} {body orelse : List Stmt}
    (h : wpAny (model prog w) (A.over (.forLoop target it body orelse env) fs) (pyNext it) (fun r s1 => match r with
        | none => Seg (model prog w) A R Y n s₀ (.block orelse env) ((model prog w).den (.block orelse env)) fs s1
        | some v => wpAny (model prog w) (A.over (.forLoop target it body orelse env) fs) (letOwnedTupleGo target it v) (fun _ s1' => wpAny (model prog w) (A.over (.forLoop target it body orelse env) fs) (assign target env v) (fun _ s2 =>
          Seg (model prog w) A R Y n s₀ (.forLoop target it body orelse env) ((execs body env).wrap (fun f => match f with
            | .next | .cont => .pure (.again (.forLoop target it body orelse env))
            | .brk => .pure (.done .next)
            | .ret v => .pure (.done (.ret v))) (fun e => (do noteFrame e env; theTreesLotGoes e : Sem Unit).wrap (fun _ => .raise e) .raise id id) id id) fs s2)
          (fun x s' => Seg (model prog w) A R Y n s₀ (.forLoop target it body orelse env) ((do noteFrame x env; theTreesLotGoes x : Sem Unit).wrap (fun _ => .raise x) .raise id id) fs s') s1')
          (fun x s' => Seg (model prog w) A R Y n s₀ (.forLoop target it body orelse env) ((do noteFrame x env; theTreesLotGoes x : Sem Unit).wrap (fun _ => .raise x) .raise id id) fs s') s1)
      (fun x s' => Seg (model prog w) A R Y n s₀ (.forLoop target it body orelse env) ((do noteFrame x env; theTreesLotGoes x : Sem Unit).wrap (fun _ => .raise x) .raise id id) fs s') s) :
    Seg (model prog w) A R Y n s₀ (.forLoop target it body orelse env) ((model prog w).den (.forLoop target it body orelse env)) fs s := by
  show Seg _ A R Y n s₀ _ ((forTurn target it body orelse env).onRaise (fun x => do noteFrame x env; theTreesLotGoes x)) fs s
  have bad : ∀ (x : Value) (s' : Shared), Seg (model prog w) A R Y n s₀ (.forLoop target it body orelse env) ((do noteFrame x env; theTreesLotGoes x : Sem Unit).wrap (fun _ => .raise x) .raise id id) fs s' →
      Seg (model prog w) A R Y n s₀ (.forLoop target it body orelse env) ((do noteFrame x env; theTreesLotGoes x : Sem Unit).bind fun _ => .raise x) fs s' := fun x s' hx => by
    rw [Sem.bind_eq_wrap]
    exact hx
  rw [forTurn_eq, Sem.onRaise_eq_wrap]
  refine seg_at ?_
  show Seg _ A R Y n s₀ _ (((pyNext it).onRaise (fun _ => standAt { target.pos with line := 0 }) >>= fun r => turnB target it body orelse env r).wrap Sem.pure (fun e => (do noteFrame e env; theTreesLotGoes e : Sem Unit).bind fun _ => .raise e) id id) fs s
  rw [Sem.bind_eq_wrap', Sem.wrap_wrap]
  refine seg_wrap (wpAny_onRaise (wpAny_mono h (fun r s1 h1 => ?_) fun x s' hx => wpAny_standAt (bad x s' hx)))
  cases r with
  | none => exact seg_again rfl h1
  | some v =>
    dsimp only [turnB]
    rw [Sem.bind_eq_wrap', Sem.wrap_wrap]
    refine seg_wrap (wpAny_mono h1 (fun _ s1' h1' => ?_) fun x s' hx => bad x s' hx)
    rw [Sem.bind_eq_wrap', Sem.wrap_wrap]
    refine seg_wrap (wpAny_mono h1' (fun _ s2 h2 => ?_) fun x s' hx => bad x s' hx)
    rw [Sem.bind_eq_wrap', Sem.wrap_wrap]
    rw [Sem.wrap_congr (execs body env) _ _
                                            (K' := fun f => match f with
            | .next | .cont => .pure (.again (.forLoop target it body orelse env))
            | .brk => .pure (.done .next)
            | .ret v => .pure (.done (.ret v))) (H' := (fun e =>
                                                                 (do noteFrame e env; theTreesLotGoes e : Sem Unit).wrap (fun _ => .raise e) .raise id id))
        (fun f => by cases f <;> rfl)
        (fun e => by first | exact Sem.bind_eq_wrap _ _ | (show
                                                                (do noteFrame e env; theTreesLotGoes e : Sem Unit).bind (fun _ => .raise e) = _; rw [Sem.bind_eq_wrap]))]
    exact h2
end
end PySem
namespace L2
open PySem PySem.Spec PyProof.Rows GenW
section
variable {X : Cx}
def tGFor (wi : TI) (g : TG) (tb : TGn) : TGn := fun D ys σ H => wi σ H fun J H2 => ∃ W : Nat → Nat → List V → St → Hp → Prop, (∃ m, W 0 m ys σ H2) ∧ ∀ i m ys σ H, W i m ys σ H →
  (J.stop i H ∧ D.nx ys σ H) ∨ (J.go i H ∧ ∃ N : List V → St → Hp → Prop, (∀ ys' σ' H', N ys' σ' H' → ∃ m', m' < m ∧ W (i + 1) m' ys' σ' H') ∧ ∀ x H', J.yld i H x H' → g x σ H' fun σ2 H2 => tb { D with nx := N, ct := N, bk := D.nx } ys σ2 H2)
theorem gs_for {tg iter : Expr} {body : List Stmt} {wi : TI} {g : TG} {tb : TGn} {pos : Pos} (hp : PassesOwn (model X.prog X.w) X.A X.env X.xe) (hc : X.calm = true) (hi : PI X tg iter wi) (hg : PG X tg g) (hb : GSs X body tb)
    (hs : ∀ x, foldedSetIterable iter X.env x = pure x := by intro _; rfl) : GS X (.For tg iter body [] pos) (tGFor wi g tb) := by
  refine ⟨fun A S ip R n ys s₀ c fs K J gd lv s σ H D g' hn k hI ht => ?_⟩
  obtain ⟨acc, cc, r, I⟩ := hI
  refine seg_ForG ?_ hs
  rw [g'.over]
  refine wpAny_mono (hi.run _ s σ H _ I ht) (fun v s1 h1 => wpAny_mono h1 (fun itv s2 h2 => ?_) fun x s' hx => k.exc n s₀ x s' hx) fun x s' hx => k.exc n s₀ x s' hx
  obtain ⟨it, fp, tn, JJ, H2, e, I2, T, st2, f2, W, ⟨m0, w0⟩, turn⟩ := h2
  subst e
  intro p
  have stat : ∀ {acc' : Array Value} {cc' : Nat} {H' : Hp}, (∀ b ∈ fp, H' b = none) → ∀ b ∈ fp, FpOk X ((S, lstObj acc' cc') :: ip) H' b := fun {acc' cc' H'} hn b hb => by
    obtain ⟨a0, a1, a2, a3, a4, a5⟩ := f2 b hb
    refine ⟨hn b hb, a1, a2, a3, a4, fun q hq => ?_⟩
    rcases List.mem_append.mp hq with hq | hq
    · exact a5 q (List.mem_append_left _ hq)
    · rcases List.mem_cons.mp hq with hq | hq
      · rw [hq]
        exact a5 (S, lstObj acc cc) (List.mem_append_right _ List.mem_cons_self)
      · exact a5 q (List.mem_append_right _ (List.mem_cons_of_mem _ hq))
  have fpS : ∀ b ∈ fp, b ≠ S := fun b hb z => by
    obtain ⟨_, _, _, _, _, a5⟩ := f2 b hb
    exact a5 (S, lstObj acc cc) (List.mem_append_right _ List.mem_cons_self) z.symm
  have gl := fun (kk : Result → Sem PySem.Fin) => gc_loop (k := kk) (c' := .forLoop tg (.ref it) body [] X.env) (l := lv []) (kp := []) (p := p) g' rfl rfl
  have loop : ∀ (m i n : Nat) (ys : List V) (s₀ s : Shared) (σ : St) (H : Hp), n + ys.length = sizeLine → W i m ys σ H → GI X S ip ys σ H s → tn i s.heap → (∀ b ∈ fp, H b = none) →
      Seg (model X.prog X.w) A R (GY X S) n s₀ (.forLoop tg (.ref it) body [] X.env) ((model X.prog X.w).den (.forLoop tg (.ref it) body [] X.env))
        (.ret (fun r => ((match r with | .ok f => (.pure f : Sem Flow) | .error e => .raise e).onRaise
                                                                                                       (cameBack X.env)).wrap K J gd lv) none (gd false) (lv []) c p [] :: fs) s := by
    intro m
    induction m using Nat.strongRecOn with
    | ind m ih =>
      intro i n ys s₀ s σ H hn w hI st fr
      have ee : ∀ (n : Nat) (s₀ : Shared) (x : Value) (s' : Shared), X.xe x s' → Seg (model X.prog X.w) A R (GY X S) n s₀ (.forLoop tg (.ref it) body [] X.env)
          ((do noteFrame x X.env; theTreesLotGoes x : Sem Unit).wrap
                                                                     (fun _ => .raise x) .raise id id)
          (.ret (fun r => ((match r with | .ok f => (.pure f : Sem Flow) | .error e => .raise e).onRaise
                                                                                                         (cameBack X.env)).wrap K J gd lv) none (gd false) (lv []) c p [] :: fs) s' := fun n s₀ x s' hx => by
        refine seg_wrap ?_
        rw [(gl _).over]
        refine wpAny_bind (wpAny_mono (hp x s' hx)
                                                   (fun _ s'' hcb => wpAny_theTreesLotGoes ?_) fun y s'' hcb => ?_)
        · exact seg_leaf (.error x) (seg_cameBack g' k hcb)
        · exact seg_leaf (.error y) (seg_cameBack g' k hcb)
      refine seg_forLoopG ?_
      rw [(gl _).over]
      obtain ⟨acc, cc, r, I⟩ := hI
      rcases turn i m ys σ H w with ⟨stop, qn⟩ | ⟨go, N, hN, step⟩
      · refine wpAny_mono (T.done X rfl rfl rfl hc i _ s σ H X.xe I (stat fr) st stop) (fun r' s4 z => ?_) fun x s' hx => ee n s₀ x s' hx
        obtain ⟨hr, I4⟩ := z
        subst hr
        exact seg_leaf (.ok .next) (k.ok n ys s₀ s4 .next hn ⟨σ, H, ⟨acc, cc, r, I4⟩, qn⟩)
      · refine wpAny_mono (T.item X rfl rfl rfl hc i _ s σ H X.xe I (stat fr) st go) (fun r' s4 z => ?_) fun x s' hx => ee n s₀ x s' hx
        obtain ⟨u, hr, h4⟩ := z
        subst hr
        refine wpAny_mono h4 (fun _ s5 z => ?_) fun x s' hx => ee n s₀ x s' hx
        obtain ⟨x, H5, I5, r5, y5, st5, fr5⟩ := z
        have I5' := I5.pinned (stat fr5) (T.obj _ _ st5)
        refine wpAny_mono (hg.run _ s5 σ H5 x u _ I5' r5 (step x H5 y5)) (fun _ s6 z => ?_) fun x s' hx => ee n s₀ x s' hx
        obtain ⟨σ6, H6, I6, q6⟩ := z
        have gl2 : ∀ kk : Result → Sem PySem.Fin, GC X S (ip ++ pinsAt fp s5.heap) A (.forLoop tg (.ref it) body [] X.env) (.ret kk none (gd false) (lv []) c p [] :: fs) id := fun kk =>
          ⟨(gl kk).pn, fun q hq => by
            rcases List.mem_append.mp hq with hq | hq
            · exact (gl kk).ip q hq
            · exact fpS _ (of_pinsAt hq).1, (gl kk).apart, (gl kk).over, (gl kk).split, (gl kk).guard, (gl kk).gd⟩
        have back : ∀ {ys' : List V} {σ3 : St} {H3 : Hp} {s3 : Shared}, GI X S (ip ++ pinsAt fp s5.heap) ys' σ3 H3 s3 → GI X S ip ys' σ3 H3 s3 ∧ tn (i + 1) s3.heap ∧ ∀ b ∈ fp, H3 b = none := fun {ys' σ3 H3 s3} hI => by
          obtain ⟨acc', cc', r', I'⟩ := hI
          have I' : Inv X (((S, lstObj acc' cc') :: ip) ++ pinsAt fp s5.heap) σ3 H3 s3 := I'
          refine ⟨⟨acc', cc', r', I'.unpinned⟩, T.keep _ _ _ st5 fun b hb o e => (I'.pin (b, o) (List.mem_append_right _ (List.mem_append_right _ (mem_pinsAt hb e)))).1, fun b hb => ?_⟩
          obtain ⟨o, e, d⟩ := T.obj _ _ st5 b hb
          exact (I'.pin (b, o) (List.mem_append_right _ (List.mem_append_right _ (mem_pinsAt hb e)))).2.1
        refine hb.run A S (ip ++ pinsAt fp s5.heap) R n ys s₀ _ _ _ _ id id s6 σ6 H6 { D with nx := N, ct := N, bk := D.nx } (gl2 _) hn ⟨fun n' ys' s₀' s3 f hn' hs => ?_, fun n' s₀' x s3 hx => ee n' s₀' x s3 hx⟩ ⟨acc, cc, r, I6⟩ q6
        cases f with
        | next =>
          obtain ⟨σ3, H3, I3, n3⟩ := hs
          obtain ⟨m', hm, w3⟩ := hN ys' σ3 H3 n3
          obtain ⟨b1, b2, b3⟩ := back I3
          exact seg_again rfl (ih m' hm (i + 1) n' ys' s₀' s3 σ3 H3 hn' w3 b1 b2 b3)
        | cont =>
          obtain ⟨σ3, H3, I3, n3⟩ := hs
          obtain ⟨m', hm, w3⟩ := hN ys' σ3 H3 n3
          obtain ⟨b1, b2, b3⟩ := back I3
          exact seg_again rfl (ih m' hm (i + 1) n' ys' s₀' s3 σ3 H3 hn' w3 b1 b2 b3)
        | brk =>
          obtain ⟨σ3, H3, I3, n3⟩ := hs
          exact seg_leaf (.ok .next) (k.ok n' ys' s₀' s3 .next hn' ⟨σ3, H3, (back I3).1, n3⟩)
        | ret v =>
          obtain ⟨v3, σ3, H3, I3, r3, n3⟩ := hs
          exact seg_leaf (.ok (.ret v)) (k.ok n' ys' s₀' s3 (.ret v) hn' ⟨v3, σ3, H3, (back I3).1, r3, n3⟩)
  exact loop m0 0 n ys s₀ s2 σ H2 hn w0 ⟨acc, cc, r, I2⟩ st2 fun b hb => (f2 b hb).1
def tGLock (t : TGn) : TGn := fun D ys σ H => ∃ d u, H d = some u ∧ Mut (some u) ∧ ∀ od, t ⟨fun ys' σ' H' => H' d = some (.frz od u) ∧ D.nx ys' σ' (upd H' d u), fun ys' v H' => H' d = some (.frz od u) ∧ D.rt ys' v (upd H' d u), fun ys' σ' H' => H' d = some (.frz od u) ∧ D.bk ys' σ' (upd H' d u), fun ys' σ' H' => H' d = some (.frz od u) ∧ D.ct ys' σ' (upd H' d u)⟩ ys σ (upd H d (.frz od u))
theorem gs_lock {st : Stmt} {t : TGn} (h : GS X st t) : GS X st (tGLock t) := by
  refine ⟨fun A S ip R n ys s₀ c fs K J gd lv s σ H D g hn k hI ht => ?_⟩
  obtain ⟨d, u, hd, mu, hw⟩ := ht
  obtain ⟨acc, cc, r, I⟩ := hI
  obtain ⟨od, I1⟩ := I.lock hd mu
  refine h.run A S ip R n ys s₀ c fs K J gd lv s σ _ _ g hn ⟨fun n' ys' s₀' s' f hn' hs => k.ok n' ys' s₀' s' f hn' ?_, k.exc⟩ ⟨acc, cc, r, I1⟩ (hw od)
  cases f with
  | next => obtain ⟨σ', H', ⟨a, c', r', I2⟩, e, q⟩ := hs; exact ⟨σ', _, ⟨a, c', r', I2.unlock e (I.nofrz hd mu)⟩, q⟩
  | brk => obtain ⟨σ', H', ⟨a, c', r', I2⟩, e, q⟩ := hs; exact ⟨σ', _, ⟨a, c', r', I2.unlock e (I.nofrz hd mu)⟩, q⟩
  | cont => obtain ⟨σ', H', ⟨a, c', r', I2⟩, e, q⟩ := hs; exact ⟨σ', _, ⟨a, c', r', I2.unlock e (I.nofrz hd mu)⟩, q⟩
  | ret v => obtain ⟨x, σ', H', ⟨a, c', r', I2⟩, r3, e, q⟩ := hs; exact ⟨x, σ', _, ⟨a, c', r', I2.unlock e (I.nofrz hd mu)⟩, r3, q⟩
theorem gfor_it {J : It} {n : Nat} {G : Hp → Prop} {Y : Nat → Hp → V → Hp → Prop} (w : Walk J n G Y) {g : TG} {tb : TGn} {D : GEnds} {ys : List V} {σ : St} {H1 : Hp} (Pv : Nat → List V → St → Hp → Prop) (h0 : Pv 0 ys σ H1) (hG : ∀ i ys σ H, i ≤ n → Pv i ys σ H → G H)
    (hs : ∀ i x ys σ H H', i < n → Pv i ys σ H → Y i H x H' → g x σ H' fun σ2 H2 => tb { D with nx := Pv (i + 1), ct := Pv (i + 1), bk := D.nx } ys σ2 H2) (hd : ∀ ys σ H, Pv n ys σ H → D.nx ys σ H) :
    ∃ W : Nat → Nat → List V → St → Hp → Prop, (∃ m, W 0 m ys σ H1) ∧ ∀ i m ys σ H, W i m ys σ H →
      (J.stop i H ∧ D.nx ys σ H) ∨ (J.go i H ∧ ∃ N : List V → St → Hp → Prop, (∀ ys' σ' H', N ys' σ' H' → ∃ m', m' < m ∧ W (i + 1) m' ys' σ' H') ∧ ∀ x H', J.yld i H x H' → g x σ H' fun σ2 H2 => tb { D with nx := N, ct := N, bk := D.nx } ys σ2 H2) := by
  refine ⟨fun i m ys σ H => m = n - i ∧ i ≤ n ∧ Pv i ys σ H, ⟨n, by simp, Nat.zero_le _, h0⟩, ?_⟩
  rintro i m ys σ H ⟨rfl, hi, p⟩
  have q := hG i ys σ H hi p
  by_cases lt : i < n
  · exact .inr ⟨w.goes i H lt q, Pv (i + 1), fun ys' σ' H' p' => ⟨n - (i + 1), by omega, rfl, lt, p'⟩, fun x H' y => hs i x ys σ H H' lt p (w.yields i H x H' lt q y)⟩
  · obtain rfl : i = n := by omega
    exact .inl ⟨w.stops H q, hd ys σ H p⟩
end
end L2
namespace K38
open PySem L2
open PyProof.Rows PySem.Spec
/-- the values of a name that are alive in a tick -/
def turnsOf (t i : Int) (r : Str × Int × Int) : List (Str × Int) := (List.range (alv t r.2.1 r.2.2 (i % t)).toNat).map fun (s : Nat) => (r.1, (i - r.2.1) / t - alv t r.2.1 r.2.2 (i % t) + 1 + (s : Int))
def eachL (t i : Int) (S : Rws) : List (Str × Int) := S.flatMap (turnsOf t i)
/-- pairs, as told -/
def OutAt (H : Hp) (xs : List V) (L : List (Str × Int)) : Prop := Paired (fun (x : V) (q : Str × Int) => ∃ a, x = V.ref a ∧ H a = some (.tup [.str q.1, .int q.2])) xs L
theorem OutAt.keep {H H' : Hp} (k : KT H H') {xs : List V} {L : List (Str × Int)} (h : OutAt H xs L) : OutAt H' xs L := Paired.mapP h fun _ _ ⟨a, e, q⟩ => ⟨a, e, k _ _ q⟩
theorem OutAt.snoc {H : Hp} {a : Addr} {n : Str} {v : Int} (q : H a = some (.tup [.str n, .int v])) : ∀ {xs : List V} {L : List (Str × Int)}, OutAt H xs L → OutAt H (xs ++ [V.ref a]) (L ++ [(n, v)])
  | _, _, .nil => .cons ⟨a, rfl, q⟩ .nil
  | _, _, .cons h t => .cons h (OutAt.snoc q t)
theorem OutAt.len {H : Hp} : ∀ {xs : List V} {L : List (Str × Int)}, OutAt H xs L → xs.length = L.length
  | _, _, .nil => rfl
  | _, _, .cons _ t => by rw [List.length_cons, List.length_cons, OutAt.len t]
theorem alv_le {t b e s : Int} (h : 0 < t) (h8 : e - b ≤ 8 * t) : alv t b e s ≤ 8 := by
  have h1 : (s - b) / t ≤ (s - e + 8 * t) / t := Int.ediv_le_ediv h (by omega)
  rw [Int.add_mul_ediv_right _ _ (by omega)] at h1
  unfold alv
  omega
theorem alv_nn {t b e s : Int} (h : 0 < t) (h8 : 1 ≤ e - b) : 0 ≤ alv t b e s := by
  have h1 : (s - e) / t ≤ (s - b) / t := Int.ediv_le_ediv h (by omega)
  unfold alv
  omega
theorem spn_at {n : Str} {b e : Int} : ∀ {S : Rws}, (S.map (·.1)).Nodup → (n, b, e) ∈ S → spn S n = (b, e)
  | (m, c, d) :: S, nd, h => by
    rw [List.map_cons, List.nodup_cons] at nd
    cases h with
    | head => unfold spn; simp
    | tail _ h =>
      have ne : ¬n = m := fun z => nd.1 (List.mem_map.mpr ⟨_, h, z⟩)
      rw [← spn_at nd.2 h]
      unfold spn
      rw [List.lookup_cons, show (n == m) = false from by rw [beq_eq_false_iff_ne]; exact ne]
theorem cts_tups {H : Hp} {t k : Int} : ∀ {L LL : List (Str × Addr)} {S : Rws}, Tups H L S → Cts H t k LL S → 1 ≤ S.length → Kvs L ≠ Kvs LL
  | _, _, [], _, _, h => by cases h
  | _, _, _ :: _, a, c, _ => by
    cases a with
    | cons x _ =>
      cases c with
      | cons y _ =>
        intro z
        unfold Kvs at z
        rw [List.map_cons, List.map_cons] at z
        have z1 := congrArg List.head? z
        simp only [List.head?_cons] at z1
        injection z1 with z1
        injection z1 with _ z1
        injection z1 with z1
        subst z1
        unfold TupAt at x
        rw [x] at y
        cases y
section
variable {P : Program} {w : World} {K : PySem.W.Frag}
                                                      {mg : Str → Option Value} {base : Heap}
def sp_each (K : PySem.W.Frag) (C : Addr) : SpG := fun vs H Q _ => ∃ (p : Addr) (t i : Int) (S : Rws) (r : Addr), vs = [.ref p, .int i] ∧ SpAt H C p t S r ∧ (-1000000000000 < i ∧ i < 1000000000000) ∧ ∀ xs H', Same H H' → OutAt H' xs (eachL t i S) → Q xs H'
theorem ok_each (T : T K mg) (U : UX K mg) : GFn P w K mg base 4 U.me.f U.me.d ["self", "tick"] (sp_each K U.C) := by
  have G_check_integer : FnOk P w K mg base CX0 2 T.f_check_integer T.d_check_integer ["value"] (sp_check_integer K) := ok_check_integer T
  obtain ⟨oc, od, dV, kV, doc, pm, an, cdv, ct, osl, e, lk, hcd, _, _⟩ := U.me.F.ex
  rw [e] at lk ⊢
  refine gfn_of lk hcd gc_Spans_each_alive (fun vs H Q E h => ?_) (fun A outer s H vs Q E pn hr h => ?_)
  · obtain ⟨p, t, i, S, r, rfl, _⟩ := h
    rfl
  · obtain ⟨p, t, i, S, r, rfl, sp, hi, k⟩ := h
    have hu := hu_of hr
    have hr_check_integer : Room 2 _ := hr.mono (by decide)
    obtain ⟨g, so, dx, rd, nm, lv, cr, L0, LL, LC, h1, h2, h3, h4, h5, h6, _⟩ := id sp
    refine ⟨_, (gss_cons (gs_ps (ps_expr (pe_call G_check_integer hr_check_integer rfl T.m_check_integer T.F_check_integer.kp T.b_check_integer .nil pass0 (pa_cons (pv 1) pa_nil))))
      (gss_cons (gs_lock (gs_for owns_gcx rfl (pi_items (pe_fld (pv 0) rfl)) (pg_tup rfl (pgs_cons (pg_name (i := 2) gc_Spans_each_alive.nd rfl (Or.inl rfl)) (pgs_cons (pg_tup rfl (pgs_cons (pg_name (i := 3) gc_Spans_each_alive.nd rfl (Or.inl rfl)) (pgs_cons (pg_name (i := 4) gc_Spans_each_alive.nd rfl (Or.inl rfl)) pgs_nil))) pgs_nil)))
        (gss_cons (gs_ps (ps_set (i := 5) gc_Spans_each_alive.nd rfl (Or.inl rfl) (pe_op op_fdivW (pe_op op_sub (pv 1) (pv 3)) (pe_fld (pv 0) rfl))))
        (gss_cons (gs_ps (ps_set (i := 6) gc_Spans_each_alive.nd rfl (Or.inl rfl) (pe_ix ix_seq (pe_dget (by exact hu) (pe_fld (pv 0) rfl) (pv 2) (fun _ _ => rfl)) (pe_op op_mod (pv 1) (pe_fld (pv 0) rfl)) (fun _ _ => rfl))))
        (gss_cons (gs_for owns_gcx rfl (pi_range2 (by rfl) T.z_range (pa_cons (pe_op op_add (pe_op op_sub (pv 5) (pv 6)) pe_int) (pa_cons (pe_op op_add (pv 5) pe_int) pa_nil))) (pg_name (i := 7) gc_Spans_each_alive.nd rfl (Or.inl rfl))
          (gss_cons (gs_yield (pe_tup (pa_cons (pv 2) (pa_cons (pv 7) pa_nil)))) gss_nil)) gss_nil))))) gss_nil)), ?_⟩
    have g3 := g.t2
    have g4 := g.t1
    have g8 := g.l8
    have m0 := Int.emod_nonneg i (b := t) (by omega)
    have m1 := Int.emod_lt_of_pos i (b := t) (by omega)
    refine ⟨_, rfl, i, rfl, hi, ?_⟩
    refine ⟨rd, _, h2, True.intro, fun od => ?_⟩
    have lk : (upd H rd (.frz od (.dK (Kvs L0)))) rd = some (.frz od (.dK (Kvs L0))) := upd_same
    have ktl : KT H (upd H rd (.frz od (.dK (Kvs L0)))) := KT.put h2 (fun _ z => by cases z)
    have nrp : p ≠ rd := fun z => by rw [z, h2] at h1; cases h1
    have nrl : lv ≠ rd := fun z => by
      rw [z, h2] at h5
      injection h5 with h5
      injection h5 with h5
      exact cts_tups h3 h6 g.l1 h5
    refine ⟨_, rfl, p, U.C, dx, _, .ref rd, rfl, (by rw [upd_ne nrp]; exact h1), U.cl, U.n2, rfl, rd, od, Kvs L0, rfl, lk, ?_⟩
    refine gfor_it walk_items (fun j ys σ H' => (∃ x2 x3 x4 x5 x6 x7, σ = [some (V.ref p), some (V.int i), x2, x3, x4, x5, x6, x7]) ∧ Same (upd H rd (.frz od (.dK (Kvs L0)))) H' ∧ OutAt H' ys (eachL t i (S.take j)) ∧ ys.length ≤ 9 * j) ⟨⟨_, _, _, _, _, _, rfl⟩, Same.refl _, .nil, Nat.zero_le _⟩ (fun j ys σ H' _ h => h.2.1 _ _ lk) ?_ ?_
    · rintro j x ys σ Ha Hb hj ⟨⟨x2, x3, x4, x5, x6, x7, rfl⟩, Sa, oa, la⟩ ⟨TT, x1, y1, rfl, hTT, rfl, ex1, ey1⟩
      have Sn : Same Ha (upd Ha TT (.tup [x1, y1])) := Same.new hTT
      obtain ⟨n, a, b, e, rfl, e2, hab, e4⟩ := tups_at (h3.keep (KT.trans ktl (KT.same (Same.trans Sa Sn)))) j y1 ey1
      obtain rfl : V.str n = x1 := by
        unfold Kvs at ex1
        dsimp only at ex1
        rw [List.getElem?_map, e4] at ex1
        exact Option.some.inj ex1
      have Sb : Same (upd H rd (.frz od (.dK (Kvs L0)))) (upd Ha TT (.tup [V.str n, V.ref a])) := Same.trans Sa Sn
      have eTT : (upd Ha TT (.tup [V.str n, V.ref a])) TT = some (.tup [V.str n, V.ref a]) := upd_same
      have ob := oa.keep (KT.same Sn)
      generalize upd Ha TT (.tup [V.str n, V.ref a]) = Hc at Sb eTT hab ob ⊢
      have hS : (n, b, e) ∈ S := List.mem_of_getElem? e2
      have g1 := g.nr _ hS
      have g2 := g.sp _ hS
      unfold Near at g1
      unfold SpOk at g2
      simp only at g1 g2
      have pc : Hc p = some (HO.ins U.C dx (spF t rd nm (V.ref lv) (V.ref cr))) := Sb _ _ (by rw [upd_ne nrp]; exact h1)
      refine ⟨TT, _, rfl, SqT.of eTT, rfl, _, _, rfl, _, _, rfl, a, _, rfl, SqT.of hab, rfl, _, _, rfl, _, _, rfl, rfl, rfl, ?_⟩
      have pin : n ∈ S.map (·.1) := List.mem_map.mpr ⟨(n, b, e), hS, rfl⟩
      have esp : spn S n = (b, e) := spn_at g.nd hS
      have cl0 : Cts Hc t 0 LL S := Cts.same Sb (Cts.put h2 (fun _ z => by cases z) h6)
      obtain ⟨la2, va, ha⟩ := cl0.get pin
      rw [esp, Int.add_zero] at ha
      refine ⟨_, rfl, _, rfl, _, _, rfl, rfl, ?_⟩
      refine ⟨_, rfl, p, U.C, dx, _, .int t, rfl, pc, U.cl, U.n1, rfl, _, _, rfl, rfl, wide_div (b := 6) (by omega) (by omega) (by decide) (by decide), ?_⟩
      refine ⟨_, rfl, p, U.C, dx, _, .ref lv, rfl, pc, U.cl, U.n4, rfl, _, rfl, lv, V.ref la2, rfl, ?_, _, rfl, _, rfl, p, U.C, dx, _, .int t, rfl, pc, U.cl, U.n1, rfl, _, _, rfl, rfl, by omega, .inl ⟨la2, _, _, .int (alv t b e (i % t)), rfl, rfl, SqL.of ha, ?_, ?_⟩⟩
      · have := DGet.k (k := Sum.inr n) (Sb _ _ ((upd_ne nrl).trans h5))
        rw [va] at this
        exact this
      · have := cntL_at (t := t) (b := b) (e := e) (j := (i % t).toNat) (by omega)
        rw [Int.zero_add, Int.toNat_of_nonneg m0] at this
        exact this
      have m8 : alv t b e (i % t) ≤ 8 := alv_le (by omega) (by omega)
      have mz : 0 ≤ alv t b e (i % t) := alv_nn (by omega) (by omega)
      have q1 : (i - b) / t ≤ 2000000000000 := Int.ediv_le_of_le_mul (by omega) (by omega)
      have q2 : -2000000000000 ≤ (i - b) / t := Int.le_ediv_of_mul_le (by omega) (by omega)
      have jl : j < S.length := (List.getElem?_eq_some_iff.mp e2).1
      have eL : eachL t i (S.take (j + 1)) = eachL t i (S.take j) ++ turnsOf t i (n, b, e) := by
        unfold eachL
        rw [List.take_add_one, e2, List.flatMap_append]
        simp
      have lT : (turnsOf t i (n, b, e)).length = (alv t b e (i % t)).toNat := by unfold turnsOf; rw [List.length_map, List.length_range]
      refine ⟨_, rfl, _, rfl, _, _, rfl, rfl, _, _, rfl, rfl, _, rfl, _, _, rfl, rfl, _, _, rfl, ⟨by omega, by omega, by omega, by omega⟩, ?_⟩
      refine gfor_it walk_range (fun j2 ys' σ' H' => (∃ x7, σ' = [some (V.ref p), some (V.int i), some (V.str n), some (V.int b), some (V.int e), some (V.int ((i - b) / t)), some (V.int (alv t b e (i % t))), x7]) ∧ Same (upd H rd (.frz od (.dK (Kvs L0)))) H' ∧ OutAt H' ys' (eachL t i (S.take j) ++ (turnsOf t i (n, b, e)).take j2) ∧ ys'.length = ys.length + j2) ⟨⟨_, rfl⟩, Sb, by rw [List.take_zero, List.append_nil]; exact ob, rfl⟩ (fun _ _ _ _ _ _ => True.intro) ?_ ?_
      · rintro j2 x ys2 σ2 Hd He hj2 ⟨⟨x7', rfl⟩, Sd, od2, ld⟩ ⟨rfl, rfl⟩
        refine ⟨by rw [sizeLine_eq]; omega, _, rfl, _, rfl, by rw [sizeLine_eq]; simp, fun T2 hT2 => ?_⟩
        have hq : (turnsOf t i (n, b, e))[j2]? = some (n, (i - b) / t - alv t b e (i % t) + 1 + (j2 : Int)) := by
          unfold turnsOf
          rw [List.getElem?_map, List.getElem?_range (by show j2 < (alv t b e (i % t)).toNat; omega)]
          rfl
        refine ⟨⟨_, rfl⟩, Same.trans Sd (Same.new hT2), ?_, by rw [List.length_append, ld]; rfl⟩
        rw [List.take_add_one, hq, ← List.append_assoc]
        exact OutAt.snoc upd_same (od2.keep (KT.same (Same.new hT2)))
      · rintro ys2 σ2 H2 ⟨⟨x7', rfl⟩, Sd, od2, ld⟩
        refine ⟨⟨_, _, _, _, _, _, rfl⟩, Sd, ?_, by omega⟩
        rw [List.take_of_length_le (l := turnsOf t i (n, b, e)) (by rw [lT]; omega)] at od2
        rw [eL]
        exact od2
    · rintro ys σ H' ⟨_, Sa, oa, _⟩
      rw [List.take_of_length_le (by
        have := congrArg List.length h3.names
        rw [List.length_map, List.length_map] at this
        unfold Kvs
        rw [List.length_map]
        omega)] at oa
      refine ⟨Sa _ _ lk, k _ _ (same_lock h2 Sa) (oa.keep fun a xs e => ?_)⟩
      rw [upd_ne (fun z => by rw [z, Sa _ _ lk] at e; cases e)]
      exact e
end
end K38
namespace K38
open PySem L2
open PyProof.Rows PySem.Spec
/-- how many values of some names there are -/
def ofL (L : List (Str × Int)) (ns : List Str) : Nat := (L.filter fun q => decide (q.1 ∈ ns)).length
theorem OutAt.at {H : Hp} : ∀ {xs : List V} {L : List (Str × Int)} (j : Nat) {x : V}, OutAt H xs L → xs[j]? = some x → ∃ n v a, x = V.ref a ∧ L[j]? = some (n, v) ∧ H a = some (.tup [.str n, .int v])
  | _, _, 0, _, .cons ⟨a, e, q⟩ _, h => by cases h; exact ⟨_, _, a, e, rfl, q⟩
  | _, _, j + 1, _, .cons _ t, h => OutAt.at j t h
section
variable {P : Program} {w : World} {K : PySem.W.Frag}
                                                      {mg : Str → Option Value} {base : Heap}
def sp_w_of (K : PySem.W.Frag) : Sp := fun vs H Q _ => ∃ (va na : Addr) (xs : List V) (L : List (Str × Int)) (ns : List Str), vs = [.ref va, .ref na] ∧ H va = some (.lst xs) ∧ OutAt H xs L ∧ L.length ≤ 1000 ∧ H na = some (.lst (ns.map V.str)) ∧ ∀ H', Same H H' → Q (.int (ofL L ns)) H'
theorem ok_w_of (T : T K mg) : FnOk P w K mg base CX0 1 T.f_w_of T.d_w_of ["values", "names"] (sp_w_of K) := by
  refine T.F_w_of.ok sc_w_of (fun vs H Q E h => ?_) (fun cdv A outer s H vs Q E hr h => ?_)
  · obtain ⟨va, na, xs, L, ns, rfl, _⟩ := h
    rfl
  · obtain ⟨va, na, xs, L, ns, rfl, hva, oa, l1, hna, k⟩ := h
    have hu := hu_of hr
    refine ⟨_, (pss_one (ps_ret (pe_callB call_len (by rfl) T.z_len (by decide +kernel) (pa_cons (pe_lc (own := [("value", 2)]) (g := gName 2) rfl sc_w_of.nd (pi_list (pv 0)) (blkOk_by (N := ["values", "names", "value"]) (sc := defScope s_w_of) (by decide +kernel)) (fun _ _ _ _ _ => (pg_name (i := 2) sc_w_of.nd rfl (Or.inl rfl))) (fun _ _ _ _ _ => pts_one (pt_cmpR (r := rIn K false) op_in_seq (pe_ix (r := rIx K) ix_seq (pv 2) pe_int (fun _ _ => rfl)) (pv 1) (by with_unfolding_all rfl))) (fun _ _ _ _ _ => (pv 2))) pa_nil)))), ?_⟩
    have ll := oa.len
    refine ⟨_, rfl, va, rfl, ⟨_, SqL.of hva⟩, fun G hG => ?_⟩
    refine lc_it (walk_list (K := K) (a := va) (xs := xs)) (fun j H' => Same H H' ∧ ∃ ys, H' G = some (.lst ys) ∧ ys.length = ofL (L.take j) ns) ⟨Same.new hG, [], upd_same, rfl⟩ (fun j H' _ h => SqL.of (h.1 _ _ hva)) ?_ ?_
    · rintro j x Hd He hj ⟨Sd, ys, eG, ly⟩ ⟨rfl, hx⟩
      obtain ⟨n, v, a, rfl, e2, ha⟩ := oa.at j hx
      have e3 : ofL (L.take (j + 1)) ns = ofL (L.take j) ns + (if n ∈ ns then 1 else 0) := by
        unfold ofL
        rw [List.take_add_one, e2, List.filter_append, List.length_append]
        by_cases hc : n ∈ ns <;> simp [hc]
      have jl : ofL (L.take j) ns ≤ 1000 := Nat.le_trans (List.length_filter_le _ _) (by rw [List.length_take]; omega)
      refine ⟨rfl, ?_⟩
      refine ⟨_, rfl, .inr (.inl ⟨a, _, _, _, rfl, rfl, SqT.of (Sd _ _ ha), atI_nat (j := 0) rfl, _, rfl, na, _, rfl, .inl (SqL.of (Sd _ _ hna)), rfl, flat_strs _, _, rfl, ?_⟩)⟩
      show if inV (.str n) (ns.map V.str) = true then _ else _
      rw [inV_strs, e3]
      by_cases hc : n ∈ ns
      · rw [if_pos (decide_eq_true hc), if_pos hc]
        exact ⟨_, rfl, ys, eG, by rw [sizeLine_eq]; omega, Same.at hG Sd, _, upd_same, by rw [List.length_append, ly]; rfl⟩
      · rw [if_neg (by rw [decide_eq_false hc]; exact Bool.false_ne_true), if_neg hc]
        exact ⟨Sd, ys, eG, ly⟩
    · rintro Hd ⟨Sd, ys, eG, ly⟩
      rw [List.take_of_length_le (by omega)] at ly
      have e9 := k Hd Sd
      rw [← ly] at e9
      exact ⟨_, _, rfl, .inl ⟨_, SqL.of eG, rfl⟩, e9⟩
end
end K38
namespace K38
open PySem L2
open PyProof.Rows PySem.Spec
theorem alv_mod {t b e i : Int} (h : 0 < t) : alv t b e (i % t) = (i - b) / t - (i - e) / t := by
  have h1 : i - b = i % t - b + t * (i / t) := by have := Int.mul_ediv_add_emod i t; omega
  have h2 : i - e = i % t - e + t * (i / t) := by have := Int.mul_ediv_add_emod i t; omega
  rw [h1, h2, Int.add_mul_ediv_left _ _ (by omega), Int.add_mul_ediv_left _ _ (by omega)]
  unfold alv
  omega
theorem in_turns {t b e i v : Int} (h : 0 < t) : (b ≤ i - t * v ∧ i - t * v < e) ↔ ((i - e) / t < v ∧ v ≤ (i - b) / t) := by
  rw [Int.le_ediv_iff_mul_le h, Int.ediv_lt_iff_lt_mul h, Int.mul_comm v t]
  omega
/-- the turns up to some place of a range -/
def kT (lo q2 q1 : Int) (j : Nat) : Nat := (min (lo + (j : Int) - 1 - q2) (q1 - q2)).toNat
def tnL (q2 : Int) (k : Nat) : List Int := (List.range k).map fun (s : Nat) => q2 + 1 + (s : Int)
theorem kT_in {lo q2 q1 : Int} {j : Nat} (h1 : q2 < lo + j) (h2 : lo + j ≤ q1) : kT lo q2 q1 (j + 1) = kT lo q2 q1 j + 1 ∧ q2 + 1 + (kT lo q2 q1 j : Int) = lo + j := by
  unfold kT
  omega
theorem kT_out {lo q2 q1 : Int} {j : Nat} (h : ¬(q2 < lo + j ∧ lo + j ≤ q1)) (h0 : q2 ≤ q1) : kT lo q2 q1 (j + 1) = kT lo q2 q1 j := by
  unfold kT
  omega
theorem OutAt.app {H : Hp} {ys : List V} {M : List (Str × Int)} (h2 : OutAt H ys M) : ∀ {xs : List V} {L : List (Str × Int)}, OutAt H xs L → OutAt H (xs ++ ys) (L ++ M)
  | _, _, .nil => h2
  | _, _, .cons h t => .cons h (OutAt.app h2 t)
theorem take_pick {R : Rws} {ys : List Str} {j : Nat} {n : Str} {p : Int × Int} (h : ys[j]? = some n) (hp : R.lookup n = some p) : pickR R (ys.take (j + 1)) = pickR R (ys.take j) ++ [(n, p)] := by
  rw [List.take_add_one, h]
  exact pickR_snoc R _ n hp
section
variable {P : Program} {w : World} {K : PySem.W.Frag}
                                                      {mg : Str → Option Value} {base : Heap}
def sp_w_alive (K : PySem.W.Frag) : Sp := fun vs H Q _ => ∃ (d : Addr) (L : List (Str × Addr)) (R : Rws) (t i : Int), vs = [.ref d, .int t, .int i] ∧ H d = some (.dK (Kvs L)) ∧ Tups H L R ∧ Good t R ∧ (∀ x ∈ R, Fin1 t x) ∧ (-t - 1 ≤ i ∧ i ≤ 2 * t) ∧
  ∀ r ys xs H', Same H H' → H r = none → H' r = some (.lst xs) → List.Perm ys (R.map (·.1)) → sortedS ys = true → OutAt H' xs (eachL t i (pickR R ys)) → Q (.ref r) H'
theorem ok_w_alive (T : T K mg) : FnOk P w K mg base CX0 1 T.f_w_alive T.d_w_alive ["rows", "interval", "tick"] (sp_w_alive K) := by
  refine T.F_w_alive.ok sc_w_alive (fun vs H Q E h => ?_) (fun cdv A outer s H vs Q E hr h => ?_)
  · obtain ⟨d, L, R, t, i, rfl, _⟩ := h
    rfl
  · obtain ⟨d, L, R, t, i, rfl, hd, ts, g, fin, hi, k⟩ := h
    have hu := hu_of hr
    refine ⟨_, (pss_cons (ps_set (i := 3) sc_w_alive.nd rfl (Or.inl rfl) (pe_lst pa_nil))
      (pss_cons (ps_for PassesOwn.never rfl (pi_list (pe_callB (call_sortedD rfl) (by rfl) T.z_sorted (by decide +kernel) (pa_cons (pv 0) pa_nil))) (pg_name (i := 4) sc_w_alive.nd rfl (Or.inr rfl))
      (pss_cons (ps_asg (pe_dget (by exact hu) (pv 0) (pv 4) (fun _ _ => rfl)) (pg_tup rfl (pgs_cons (pg_name (i := 5) sc_w_alive.nd rfl (Or.inr rfl)) (pgs_cons (pg_name (i := 6) sc_w_alive.nd rfl (Or.inr rfl)) pgs_nil))))
      (pss_cons (ps_setLc (i := 7) (own := [("turn", 8)]) (g := gName 8) rfl sc_w_alive.nd rfl rfl (sw_true rfl rfl rfl (by decide +kernel)) (pi_range2 (by rfl) T.z_range (pa_cons (pe_un un_neg pe_int) (pa_cons pe_int pa_nil))) (blkOk_by (N := ["rows", "interval", "tick", "found", "name", "begin", "end", "turns", "turn"]) (sc := defScope s_w_alive) (by decide +kernel)) (fun _ _ _ _ _ => (pg_name (i := 8) sc_w_alive.nd rfl (Or.inl rfl))) (fun _ _ _ _ _ => pts_one (pt_chain op_le op_lt (pv 5) (pe_op op_sub (pv 2) (pe_op op_mul (pv 1) (pv 8))) (pv 6))) (fun _ _ _ _ _ => (pv 8)))
      (pss_one (ps_expr (pe_bm PySem.F.plainAttrs_list PySem.F.slot_list_extend PySem.F.type_list_extend mt_extend (pv 3) (pa_cons (pe_lc (own := [("turn", 8)]) (g := gName 8) rfl sc_w_alive.nd (pi_list (pv 7)) (blkOk_by (N := ["rows", "interval", "tick", "found", "name", "begin", "end", "turns", "turn"]) (sc := defScope s_w_alive) (by decide +kernel)) (fun _ _ _ _ _ => (pg_name (i := 8) sc_w_alive.nd rfl (Or.inl rfl))) (fun _ _ _ _ _ => pts_nil) (fun _ _ _ _ _ => (pe_tup (pa_cons (pv 4) (pa_cons (pv 8) pa_nil))))) pa_nil)))))))
      (pss_one (ps_ret (pv 3))))), ?_⟩
    refine ⟨by rw [sizeLine_eq]; simp, fun F hF => ?_⟩
    refine ⟨_, rfl, d, _, L.map (·.1), rfl, .inl (by rw [upd_ne (ne_of_none hd hF)]; exact hd), kvs_keys L, by rw [List.length_map, ts.len]; have := g.l8; omega, fun ys p pm so hp => ?_⟩
    have g8 := g.l8
    have g3 := g.t2
    have g4 := g.t1
    rw [ts.names] at pm
    have ly : ys.length ≤ 8 := by rw [pm.length_eq, List.length_map]; exact g8
    have eF0 : (upd H F (.lst [])) F = some (.lst []) := upd_same
    have npF : F ≠ p := ne_of_none eF0 hp
    have S1 : Same H (upd (upd H F (.lst [])) p (.lst (ys.map V.str))) := Same.trans (Same.new hF) (Same.new hp)
    have ep : (upd (upd H F (.lst [])) p (.lst (ys.map V.str))) p = some (.lst (ys.map V.str)) := upd_same
    have eF : (upd (upd H F (.lst [])) p (.lst (ys.map V.str))) F = some (.lst []) := by rw [upd_ne npF]; exact eF0
    generalize upd (upd H F (.lst [])) p (.lst (ys.map V.str)) = H1 at S1 ep eF ⊢
    refine ⟨p, rfl, ⟨_, SqL.of ep⟩, ?_⟩
    refine for_list (xs := ys.map V.str) (fun j σ H' => (∃ x4 x5 x6 x7 x8, σ = [some (V.ref d), some (V.int t), some (V.int i), some (V.ref F), x4, x5, x6, x7, x8]) ∧ (∀ b v, b ≠ F → H1 b = some v → H' b = some v) ∧ ∃ xs, H' F = some (.lst xs) ∧ OutAt H' xs (eachL t i (pickR R (ys.take j))) ∧ xs.length ≤ 9 * j) ⟨⟨_, _, _, _, _, rfl⟩, fun _ _ _ h => h, [], eF, .nil, Nat.zero_le _⟩ (fun j σ H' _ h => SqL.of (h.2.1 _ _ npF.symm ep)) ?_ ?_
    · rintro j x σ Ha hx ⟨⟨x4, x5, x6, x7, x8, rfl⟩, Oa, xs, eFa, oa, la⟩
      rw [List.getElem?_map] at hx
      cases e2 : ys[j]? with
      | none => rw [e2] at hx; cases hx
      | some n =>
      rw [e2] at hx
      cases hx
      have hn : n ∈ R.map (·.1) := pm.mem_iff.mp (List.mem_of_getElem? e2)
      have kF : ∀ {b v}, H b = some v → Ha b = some v := fun {b v} h => Oa _ _ (ne_of_none h hF) (S1 _ _ h)
      have ts2 := ts.keep (H' := Ha) (fun _ _ h => kF h)
      obtain ⟨u, b, e, hv, hu2, hm⟩ := ts2.get hn
      have g1 := fin _ hm
      have g2 := g.sp _ hm
      unfold Fin1 Near at g1
      unfold SpOk at g2
      simp only at g1 g2
      have jl : j < ys.length := (List.getElem?_eq_some_iff.mp e2).1
      have q1 : (i - b) / t ≤ 8 := Int.ediv_le_of_le_mul (by omega) (by omega)
      have q2 : -15 ≤ (i - e) / t := Int.le_ediv_of_mul_le (by omega) (by omega)
      have qq : (i - e) / t ≤ (i - b) / t := Int.ediv_le_ediv (by omega) (by omega)
      have q8 : (i - b) / t - (i - e) / t ≤ 8 := by
        have := alv_le (t := t) (b := b) (e := e) (s := i % t) (by omega) (by omega)
        rw [alv_mod (by omega)] at this
        exact this
      refine ⟨_, rfl, _, rfl, d, V.ref u, rfl, ?_, u, _, rfl, SqT.of hu2, rfl, _, _, rfl, _, _, rfl, rfl, ?_⟩
      · have := DGet.k (k := Sum.inr n) (kF hd)
        rw [hv] at this
        exact this
      refine ⟨_, rfl, _, _, rfl, ⟨by omega, by omega, by omega, by omega⟩, fun G hG => ?_⟩
      refine lc_range (lo := -14) (vs := [8]) (n := 23) (fun j2 H' => Same Ha H' ∧ H' G = some (.lst ((tnL ((i - e) / t) (kT (-14) ((i - e) / t) ((i - b) / t) j2)).map V.int))) ⟨Same.new hG, by rw [show kT (-14) ((i - e) / t) ((i - b) / t) 0 = 0 from by unfold kT; omega]; exact upd_same⟩ ?_ ?_
      · rintro j2 Hd hj2 ⟨Sd, eG⟩
        refine ⟨rfl, ?_⟩
        have iff := in_turns (t := t) (b := b) (e := e) (i := i) (v := -14 + (j2 : Int)) (by omega)
        have fin2 : ∀ {c : Bool}, (c = true ↔ ((i - e) / t < -14 + (j2 : Int) ∧ -14 + (j2 : Int) ≤ (i - b) / t)) → if c = true then (∃ v, (some (some (V.int (-14 + (j2 : Int)))) : Option (Option V)) = some (some v) ∧ ∃ acc, Hd G = some (.lst acc) ∧ acc.length < sizeLine ∧ (Same Ha (upd Hd G (.lst (acc ++ [v]))) ∧ (upd Hd G (.lst (acc ++ [v]))) G = some (.lst ((tnL ((i - e) / t) (kT (-14) ((i - e) / t) ((i - b) / t) (j2 + 1))).map V.int)))) else (Same Ha Hd ∧ Hd G = some (.lst ((tnL ((i - e) / t) (kT (-14) ((i - e) / t) ((i - b) / t) (j2 + 1))).map V.int))) := fun {c} hc => by
          by_cases h : (i - e) / t < -14 + (j2 : Int) ∧ -14 + (j2 : Int) ≤ (i - b) / t
          · obtain ⟨z1, z2⟩ := kT_in h.1 h.2
            rw [if_pos (hc.mpr h)]
            refine ⟨_, rfl, _, eG, ?_, Same.at hG Sd, ?_⟩
            · unfold tnL
              rw [List.length_map, List.length_map, List.length_range, sizeLine_eq]
              unfold kT
              omega
            · rw [upd_same, z1]
              unfold tnL
              rw [List.range_succ, List.map_append, List.map_append]
              simp only [List.map_cons, List.map_nil]
              rw [z2]
          · rw [if_neg (fun z => h (hc.mp z)), kT_out h qq]
            exact ⟨Sd, eG⟩
        refine ⟨_, rfl, _, rfl, _, rfl, _, rfl, _, _, rfl, rfl, ?_, _, _, rfl, rfl, _, _, rfl, rfl, _, rfl, ?_⟩
        · exact .inl ⟨by omega, by omega⟩
        by_cases hb : b ≤ i - t * (-14 + (j2 : Int))
        · rw [if_pos (decide_eq_true hb)]
          refine ⟨_, rfl, _, _, rfl, rfl, _, rfl, ?_⟩
          exact fin2 ⟨fun z => iff.mp ⟨hb, of_decide_eq_true z⟩, fun z => decide_eq_true (iff.mpr z).2⟩
        · rw [if_neg (by rw [decide_eq_false hb]; exact Bool.false_ne_true)]
          refine ⟨_, rfl, ?_⟩
          exact fin2 ⟨fun z => (by cases z), fun z => absurd (iff.mpr z).1 hb⟩
      · rintro Hd ⟨Sd, eG⟩
        have ek : kT (-14) ((i - e) / t) ((i - b) / t) 23 = ((i - b) / t - (i - e) / t).toNat := by unfold kT; omega
        rw [ek] at eG
        have nGF : G ≠ F := fun z => by rw [z, eFa] at hG; cases hG
        have lT : (tnL ((i - e) / t) ((i - b) / t - (i - e) / t).toNat).length ≤ 8 := by unfold tnL; rw [List.length_map, List.length_range]; omega
        have eT : turnsOf t i (n, b, e) = (tnL ((i - e) / t) ((i - b) / t - (i - e) / t).toNat).map fun v => (n, v) := by
          unfold turnsOf tnL
          dsimp only
          rw [List.map_map, alv_mod (by omega)]
          refine List.map_congr_left fun s _ => ?_
          show (n, (i - b) / t - ((i - b) / t - (i - e) / t) + 1 + (s : Int)) = (n, (i - e) / t + 1 + (s : Int))
          rw [show (i - b) / t - ((i - b) / t - (i - e) / t) + 1 + (s : Int) = (i - e) / t + 1 + (s : Int) from by omega]
        rw [take_pick e2 (lookup_mem g.nd hm)]
        have eX : eachL t i (pickR R (ys.take j) ++ [(n, b, e)]) = eachL t i (pickR R (ys.take j)) ++ turnsOf t i (n, b, e) := by
          unfold eachL
          rw [List.flatMap_append]
          simp
        rw [eX, eT]
        generalize tnL ((i - e) / t) ((i - b) / t - (i - e) / t).toNat = vs at eG lT ⊢
        refine ⟨_, rfl, ?_⟩
        refine ⟨.inl ⟨rfl, _, SqL.of (Sd _ _ eFa)⟩, _, rfl, G, rfl, ⟨_, SqL.of eG⟩, fun G2 hG2 => ?_⟩
        have nG2F : G2 ≠ F := fun z => by rw [z, Sd _ _ eFa] at hG2; cases hG2
        refine lc_list (xs := vs.map V.int) (fun j2 H' => Same Hd H' ∧ ∃ ps, H' G2 = some (.lst ps) ∧ OutAt H' ps ((vs.take j2).map fun v => (n, v))) ⟨Same.new hG2, [], upd_same, .nil⟩ (fun j2 H' _ h => SqL.of (h.1 _ _ eG)) ?_ ?_
        · rintro j2 x He hx ⟨Se, ps, ep2, op⟩
          rw [List.getElem?_map] at hx
          cases e5 : vs[j2]? with
          | none => rw [e5] at hx; cases hx
          | some v =>
          rw [e5] at hx
          cases hx
          refine ⟨rfl, ?_⟩
          unfold tYes
          dsimp only
          rw [if_pos rfl]
          refine ⟨_, rfl, _, rfl, by rw [sizeLine_eq]; simp, fun q hq => ?_⟩
          have nGq : G2 ≠ q := ne_of_none ep2 hq
          have lps := op.len
          rw [List.length_map, List.length_take] at lps
          refine ⟨ps, (by rw [upd_ne nGq]; exact ep2), by rw [sizeLine_eq]; omega, Same.at hG2 (Same.trans Se (Same.new hq)), ps ++ [V.ref q], upd_same, ?_⟩
          rw [List.take_add_one, e5, List.map_append]
          have kt : KT He (upd (upd He q (.tup [V.str n, V.int v])) G2 (.lst (ps ++ [V.ref q]))) := KT.trans (KT.new hq) (KT.put (u := .lst ps) (by rw [upd_ne nGq]; exact ep2) (fun _ z => by cases z))
          exact (op.keep kt).snoc (by rw [upd_ne nGq.symm, upd_same])
        · rintro He ⟨Se, ps, ep2, op⟩
          rw [List.length_map, List.take_length] at op
          have lps := op.len
          rw [List.length_map] at lps
          have eFe := Se _ _ (Sd _ _ eFa)
          refine ⟨F, G2, xs, ps, rfl, rfl, eFe, ep2, by rw [sizeLine_eq]; omega, ⟨_, _, _, _, _, rfl⟩, fun b v n h => by rw [upd_ne n]; exact Se _ _ (Sd _ _ (Oa _ _ n h)), xs ++ ps, upd_same, ?_, by rw [List.length_append]; omega⟩
          have kt : KT He (upd He F (.lst (xs ++ ps))) := KT.put (u := .lst xs) eFe (fun _ z => by cases z)
          exact OutAt.app (op.keep kt) ((oa.keep (KT.same (Same.trans Sd Se))).keep kt)
    · rintro σ H' ⟨⟨x4, x5, x6, x7, x8, rfl⟩, Oa, xs, eFa, oa, la⟩
      rw [List.take_of_length_le (by rw [List.length_map]; exact Nat.le_refl _)] at oa
      exact ⟨_, rfl, k F ys xs H' (fun b v h => Oa _ _ (ne_of_none h hF) (S1 _ _ h)) hF eFa pm so oa⟩
end
end K38
namespace K38
open PySem L2
open PyProof.Rows PySem.Spec
section
variable {P : Program} {w : World} {K : PySem.W.Frag}
                                                      {mg : Str → Option Value} {base : Heap}
/-- what is told of a tick and some names -/
def tolds (S : Rws) (t i : Int) (ns zs : List Str) (m : Int) : List V := [.int (cnt S t 0 (chs S ns zs) (i % t)), .int (cnt S t 1 (chs S ns zs) (i % t)), .bl (decide (cnt S t 1 (chs S ns zs) (i % t) = m))]
def sp_w_told (K : PySem.W.Frag) (C : Addr) : Sp := fun vs H Q _ => ∃ (p so : Addr) (t i : Int) (S : Rws) (r : Addr) (ns : List Str), vs = [.ref p, .int i, .ref so] ∧ SpAt H C p t S r ∧ H so = some (.lst (ns.map V.str)) ∧ ns.length ≤ 3 ∧ (∀ n ∈ ns, n ∈ S.map (·.1)) ∧ (-1000000000000 < i ∧ i < 1000000000000) ∧
  ∀ q zs m H', Same H H' → H q = none → H' q = some (.lst (tolds S t i ns zs m)) → KS.Srt ns zs → Mst S t (chs S ns zs) m → Q (.ref q) H'
theorem ok_w_told (T : T K mg) (U : UX K mg) : FnOk P w K mg base CX0 7 T.f_w_told T.d_w_told ["spans", "tick", "some"] (sp_w_told K U.C) := by
  have G1 : FnR P w K mg base CX0 4 U.ma.f (sr_alive K U.C) := ok_alive T U
  have G2 : FnR P w K mg base CX0 4 U.mc.f (sr_across K U.C) := ok_across T U
  have G3 : FnR P w K mg base CX0 6 U.mi.f (sr_is_full K U.C) := ok_is_full T U
  refine T.F_w_told.ok sc_w_told (fun vs H Q E h => ?_) (fun cdv A outer s H vs Q E hr h => ?_)
  · obtain ⟨p, so, t, i, S, r, ns, rfl, _⟩ := h
    rfl
  · obtain ⟨p, so, t, i, S, r, ns, rfl, sp, hso, l3, hns, hi, k⟩ := h
    have hu := hu_of hr
    obtain ⟨g, so', dx, rd, nm, lv, cr, L0, LL, LC, h1, _⟩ := id sp
    refine ⟨_, (pss_cons (ps_if (pt_cmpR op_eq (pe_callB call_len (by rfl) T.z_len (by decide +kernel) (pa_cons (pv 2) pa_nil)) pe_int (nomark _))
      (pss_one (ps_ret (pe_lst (pa_cons (MR.pe_methR (pv 0) U.cl U.ma.m G1 (hr.mono (by decide)) pass0 (pa_cons (pv 1) pa_nil)) (pa_cons (MR.pe_methR (pv 0) U.cl U.mc.m G2 (hr.mono (by decide)) pass0 (pa_cons (pv 1) pa_nil)) (pa_cons (MR.pe_methR (pv 0) U.cl U.mi.m G3 (hr.mono (by decide)) pass0 (pa_cons (pv 1) pa_nil)) pa_nil))))))
      pss_nil)
      (pss_cons (ps_if (pt_cmpR op_eq (pe_callB call_len (by rfl) T.z_len (by decide +kernel) (pa_cons (pv 2) pa_nil)) pe_int (nomark _))
      (pss_one (ps_ret (pe_lst (pa_cons (MR.pe_methR (pv 0) U.cl U.ma.m G1 (hr.mono (by decide)) pass0 (pa_cons (pv 1) (pa_cons (pe_ix ix_seq (pv 2) pe_int (fun _ _ => rfl)) pa_nil))) (pa_cons (MR.pe_methR (pv 0) U.cl U.mc.m G2 (hr.mono (by decide)) pass0 (pa_cons (pv 1) (pa_cons (pe_ix ix_seq (pv 2) pe_int (fun _ _ => rfl)) pa_nil))) (pa_cons (MR.pe_methR (pv 0) U.cl U.mi.m G3 (hr.mono (by decide)) pass0 (pa_cons (pv 1) (pa_cons (pe_ix ix_seq (pv 2) pe_int (fun _ _ => rfl)) pa_nil))) pa_nil))))))
      pss_nil)
      (pss_cons (ps_par3 (i := 3) (j := 4) (l := 5) rfl sc_w_told.nd rfl rfl rfl (by decide) (by decide) (by decide) rfl rfl rfl (pa_cons (pe_ix ix_seq (pv 2) pe_int (fun _ _ => rfl)) (pa_cons (pe_ix ix_seq (pv 2) pe_int (fun _ _ => rfl)) (pa_cons (pe_ix ix_seq (pv 2) (pe_un un_neg pe_int) (fun _ _ => rfl)) pa_nil))) rfl)
      (pss_cons (ps_if (pt_cmpR op_eq (pe_callB call_len (by rfl) T.z_len (by decide +kernel) (pa_cons (pv 2) pa_nil)) pe_int (nomark _))
      (pss_cons (ps_set (i := 6) sc_w_told.nd rfl (Or.inl rfl) (pe_lst (pa_cons (MR.pe_methR (pv 0) U.cl U.ma.m G1 (hr.mono (by decide)) pass0 (pa_cons (pv 1) (pa_cons (pv 3) (pa_cons (pv 4) pa_nil)))) (pa_cons (MR.pe_methR (pv 0) U.cl U.mc.m G2 (hr.mono (by decide)) pass0 (pa_cons (pv 1) (pa_cons (pv 3) (pa_cons (pv 4) pa_nil)))) pa_nil))))
      (pss_one (ps_ret (pe_op op_cat (pv 6) (pe_lst (pa_cons (MR.pe_methR (pv 0) U.cl U.mi.m G3 (hr.mono (by decide)) pass0 (pa_cons (pv 1) (pa_cons (pv 3) (pa_cons (pv 4) pa_nil)))) pa_nil))))))
      pss_nil)
      (pss_cons (ps_set (i := 6) sc_w_told.nd rfl (Or.inl rfl) (pe_lst (pa_cons (MR.pe_methR (pv 0) U.cl U.ma.m G1 (hr.mono (by decide)) pass0 (pa_cons (pv 1) (pa_cons (pv 3) (pa_cons (pv 4) (pa_cons (pv 5) pa_nil))))) (pa_cons (MR.pe_methR (pv 0) U.cl U.mc.m G2 (hr.mono (by decide)) pass0 (pa_cons (pv 1) (pa_cons (pv 3) (pa_cons (pv 4) (pa_cons (pv 5) pa_nil))))) pa_nil))))
      (pss_one (ps_ret (pe_op op_cat (pv 6) (pe_lst (pa_cons (MR.pe_methR (pv 0) U.cl U.mi.m G3 (hr.mono (by decide)) pass0 (pa_cons (pv 1) (pa_cons (pv 3) (pa_cons (pv 4) (pa_cons (pv 5) pa_nil))))) pa_nil)))))))))), ?_⟩
    have fin : ∀ {z1 z2 z3 : List Str} {m : Int} {Hc : Hp} {q : Addr}, Same H Hc → Hc q = none → KS.Srt ns z1 → KS.Srt ns z2 → KS.Srt ns z3 → Mst S t (chs S ns z3) m → Q (.ref q) (upd Hc q (.lst [.int (cnt S t 0 (chs S ns z1) (i % t)), .int (cnt S t 1 (chs S ns z2) (i % t)), .bl (decide (cnt S t 1 (chs S ns z3) (i % t) = m))])) := fun {z1 z2 z3 m Hc q} Sc hq e1 e2 e3 em => by
      obtain rfl := e1.eq e3
      obtain rfl := e2.eq e1
      refine k q _ m _ (Same.trans Sc (Same.new hq)) ?_ upd_same e1 em
      cases hz : H q with
      | none => rfl
      | some v => rw [Sc _ _ hz] at hq; cases hq
    refine ⟨_, rfl, _, _, rfl, .inl ⟨_, SqL.of hso, rfl⟩, rfl, _, rfl, ?_⟩
    rcases ns with _ | ⟨a, _ | ⟨b, _ | ⟨c, _ | ⟨d, ns⟩⟩⟩⟩
    · skip
      refine iteT ?_
      refine ⟨_, rfl, p, dx, _, rfl, h1, rfl, _, rfl, ?_⟩
      refine ⟨p, t, i, S, r, [], rfl, sp.same (Same.refl _), by simp, hns, hi, fun z1 Ha Sa e1 => ?_⟩
      refine ⟨_, rfl, p, dx, _, rfl, Sa _ _ h1, rfl, _, rfl, ?_⟩
      refine ⟨p, t, i, S, r, [], rfl, sp.same Sa, by simp, hns, hi, fun z2 Hb Sb e2 => ?_⟩
      refine ⟨_, rfl, p, dx, _, rfl, Sb _ _ (Sa _ _ h1), rfl, _, rfl, ?_⟩
      refine ⟨p, t, i, S, r, [], rfl, sp.same (Same.trans Sa Sb), by simp, hns, hi, fun z3 m Hc Sc e3 em => ?_⟩
      exact ⟨by rw [sizeLine_eq]; simp, fun q hq => fin (Same.trans Sa (Same.trans Sb Sc)) hq e1 e2 e3 em⟩
    · skip
      refine iteF ?_
      refine ⟨_, rfl, _, _, rfl, .inl ⟨_, SqL.of hso, rfl⟩, rfl, _, rfl, iteT ?_⟩
      refine ⟨_, rfl, p, dx, _, rfl, h1, rfl, _, rfl, _, rfl, .inl ⟨so, _, _, _, rfl, rfl, SqL.of hso, atI_nat (j := 0) rfl, ?_⟩⟩
      refine ⟨p, t, i, S, r, [a], rfl, sp.same (Same.refl _), by simp, hns, hi, fun z1 Ha Sa e1 => ?_⟩
      refine ⟨_, rfl, p, dx, _, rfl, Sa _ _ h1, rfl, _, rfl, _, rfl, .inl ⟨so, _, _, _, rfl, rfl, SqL.of (Sa _ _ hso), atI_nat (j := 0) rfl, ?_⟩⟩
      refine ⟨p, t, i, S, r, [a], rfl, sp.same Sa, by simp, hns, hi, fun z2 Hb Sb e2 => ?_⟩
      refine ⟨_, rfl, p, dx, _, rfl, Sb _ _ (Sa _ _ h1), rfl, _, rfl, _, rfl, .inl ⟨so, _, _, _, rfl, rfl, SqL.of (Sb _ _ (Sa _ _ hso)), atI_nat (j := 0) rfl, ?_⟩⟩
      refine ⟨p, t, i, S, r, [a], rfl, sp.same (Same.trans Sa Sb), by simp, hns, hi, fun z3 m Hc Sc e3 em => ?_⟩
      exact ⟨by rw [sizeLine_eq]; simp, fun q hq => fin (Same.trans Sa (Same.trans Sb Sc)) hq e1 e2 e3 em⟩
    · skip
      refine iteF ?_
      refine ⟨_, rfl, _, _, rfl, .inl ⟨_, SqL.of hso, rfl⟩, rfl, _, rfl, iteF ?_⟩
      refine ⟨_, rfl, .inl ⟨so, _, _, _, rfl, rfl, SqL.of hso, atI_nat (j := 0) rfl, _, rfl, .inl ⟨so, _, _, _, rfl, rfl, SqL.of hso, atI_nat (j := 1) rfl, _, rfl, _, rfl, .inl ⟨so, _, _, .str b, rfl, rfl, SqL.of hso, rfl, _, _, _, rfl, ?_⟩⟩⟩⟩
      refine ⟨_, rfl, _, _, rfl, .inl ⟨_, SqL.of hso, rfl⟩, rfl, _, rfl, iteT ?_⟩
      refine ⟨_, rfl, p, dx, _, rfl, h1, rfl, _, rfl, _, rfl, _, rfl, ?_⟩
      refine ⟨p, t, i, S, r, [a, b], rfl, sp.same (Same.refl _), by simp, hns, hi, fun z1 Ha Sa e1 => ?_⟩
      refine ⟨_, rfl, p, dx, _, rfl, Sa _ _ h1, rfl, _, rfl, _, rfl, _, rfl, ?_⟩
      refine ⟨p, t, i, S, r, [a, b], rfl, sp.same Sa, by simp, hns, hi, fun z2 Hb Sb e2 => ?_⟩
      refine ⟨by rw [sizeLine_eq]; simp, fun u hu2 => ?_⟩
      have Sd : Same H (upd Hb u (.lst [.int (cnt S t 0 (chs S [a, b] z1) (i % t)), .int (cnt S t 1 (chs S [a, b] z2) (i % t))])) := Same.trans (Same.trans Sa Sb) (Same.new hu2)
      have eu : (upd Hb u (.lst [.int (cnt S t 0 (chs S [a, b] z1) (i % t)), .int (cnt S t 1 (chs S [a, b] z2) (i % t))])) u = some (.lst [.int (cnt S t 0 (chs S [a, b] z1) (i % t)), .int (cnt S t 1 (chs S [a, b] z2) (i % t))]) := upd_same
      generalize upd Hb u (.lst [.int (cnt S t 0 (chs S [a, b] z1) (i % t)), .int (cnt S t 1 (chs S [a, b] z2) (i % t))]) = Hd at Sd eu ⊢
      refine ⟨_, rfl, _, rfl, p, dx, _, rfl, Sd _ _ h1, rfl, _, rfl, _, rfl, _, rfl, ?_⟩
      refine ⟨p, t, i, S, r, [a, b], rfl, sp.same Sd, by simp, hns, hi, fun z3 m Hc Sc e3 em => ?_⟩
      exact ⟨by rw [sizeLine_eq]; simp, fun v hv => ⟨u, v, _, _, rfl, rfl, Same.new hv _ _ (Sc _ _ eu), upd_same, by rw [sizeLine_eq]; simp, fun q hq => fin (Same.trans Sd (Same.trans Sc (Same.new hv))) hq e1 e2 e3 em⟩⟩
    · skip
      refine iteF ?_
      refine ⟨_, rfl, _, _, rfl, .inl ⟨_, SqL.of hso, rfl⟩, rfl, _, rfl, iteF ?_⟩
      refine ⟨_, rfl, .inl ⟨so, _, _, _, rfl, rfl, SqL.of hso, atI_nat (j := 0) rfl, _, rfl, .inl ⟨so, _, _, _, rfl, rfl, SqL.of hso, atI_nat (j := 1) rfl, _, rfl, _, rfl, .inl ⟨so, _, _, .str c, rfl, rfl, SqL.of hso, rfl, _, _, _, rfl, ?_⟩⟩⟩⟩
      refine ⟨_, rfl, _, _, rfl, .inl ⟨_, SqL.of hso, rfl⟩, rfl, _, rfl, iteF ?_⟩
      refine ⟨_, rfl, p, dx, _, rfl, h1, rfl, _, rfl, _, rfl, _, rfl, _, rfl, ?_⟩
      refine ⟨p, t, i, S, r, [a, b, c], rfl, sp.same (Same.refl _), by simp, hns, hi, fun z1 Ha Sa e1 => ?_⟩
      refine ⟨_, rfl, p, dx, _, rfl, Sa _ _ h1, rfl, _, rfl, _, rfl, _, rfl, _, rfl, ?_⟩
      refine ⟨p, t, i, S, r, [a, b, c], rfl, sp.same Sa, by simp, hns, hi, fun z2 Hb Sb e2 => ?_⟩
      refine ⟨by rw [sizeLine_eq]; simp, fun u hu2 => ?_⟩
      have Sd : Same H (upd Hb u (.lst [.int (cnt S t 0 (chs S [a, b, c] z1) (i % t)), .int (cnt S t 1 (chs S [a, b, c] z2) (i % t))])) := Same.trans (Same.trans Sa Sb) (Same.new hu2)
      have eu : (upd Hb u (.lst [.int (cnt S t 0 (chs S [a, b, c] z1) (i % t)), .int (cnt S t 1 (chs S [a, b, c] z2) (i % t))])) u = some (.lst [.int (cnt S t 0 (chs S [a, b, c] z1) (i % t)), .int (cnt S t 1 (chs S [a, b, c] z2) (i % t))]) := upd_same
      generalize upd Hb u (.lst [.int (cnt S t 0 (chs S [a, b, c] z1) (i % t)), .int (cnt S t 1 (chs S [a, b, c] z2) (i % t))]) = Hd at Sd eu ⊢
      refine ⟨_, rfl, _, rfl, p, dx, _, rfl, Sd _ _ h1, rfl, _, rfl, _, rfl, _, rfl, _, rfl, ?_⟩
      refine ⟨p, t, i, S, r, [a, b, c], rfl, sp.same Sd, by simp, hns, hi, fun z3 m Hc Sc e3 em => ?_⟩
      exact ⟨by rw [sizeLine_eq]; simp, fun v hv => ⟨u, v, _, _, rfl, rfl, Same.new hv _ _ (Sc _ _ eu), upd_same, by rw [sizeLine_eq]; simp, fun q hq => fin (Same.trans Sd (Same.trans Sc (Same.new hv))) hq e1 e2 e3 em⟩⟩
    · simp at l3
end
end K38
namespace K38
open PySem L2
open PyProof.Rows PySem.Spec
theorem ofL_app (L M : List (Str × Int)) (ns : List Str) : ofL (L ++ M) ns = ofL L ns + ofL M ns := by
  unfold ofL
  rw [List.filter_append, List.length_append]
theorem ofL_turns (t i : Int) (r : Str × Int × Int) (ns : List Str) : ofL (turnsOf t i r) ns = if r.1 ∈ ns then (alv t r.2.1 r.2.2 (i % t)).toNat else 0 := by
  unfold ofL turnsOf
  rw [List.filter_map, List.length_map]
  by_cases h : r.1 ∈ ns
  · rw [if_pos h, List.filter_eq_self.mpr (fun x _ => by simp [h]), List.length_range]
  · rw [if_neg h, List.filter_eq_nil_iff.mpr (fun x _ => by simp [h])]
    rfl
/-- the values of an instant, counted by names, are the counts that are kept -/
theorem ofL_each {t i : Int} (ht : 0 < t) {ns : List Str} : ∀ {S : Rws}, (∀ x ∈ S, SpOk t x) → (ofL (eachL t i S) ns : Int) = ((S.filter fun r => decide (r.1 ∈ ns)).map fun r => alv t r.2.1 r.2.2 (i % t)).sum
  | [], _ => rfl
  | r :: S, h => by
    have e : eachL t i (r :: S) = turnsOf t i r ++ eachL t i S := by unfold eachL; rw [List.flatMap_cons]
    have h1 := h r List.mem_cons_self
    unfold SpOk at h1
    have nn := alv_nn (t := t) (b := r.2.1) (e := r.2.2) (s := i % t) ht h1.1
    rw [e, ofL_app, ofL_turns, Int.natCast_add, ofL_each ht (fun x hx => h x (List.mem_cons_of_mem _ hx))]
    by_cases hm : r.1 ∈ ns
    · rw [if_pos hm, List.filter_cons_of_pos (by simp [hm]), List.map_cons, List.sum_cons, Int.toNat_of_nonneg nn]
    · rw [if_neg hm, List.filter_cons_of_neg (by simp [hm])]
      simp
theorem sum_perm {L M : List Int} (p : L.Perm M) : L.sum = M.sum := by
  induction p with
  | nil => rfl
  | cons _ _ ih => rw [List.sum_cons, List.sum_cons, ih]
  | swap => simp only [List.sum_cons]; omega
  | trans _ _ a b => rw [a, b]
theorem cnt_filter {t i : Int} {S : Rws} (nd : (S.map (·.1)).Nodup) {ns zs : List Str} (sz : KS.Srt ns zs) (ndz : zs.Nodup) (sub : ∀ n ∈ ns, n ∈ S.map (·.1)) : ((S.filter fun r => decide (r.1 ∈ ns)).map fun r => alv t r.2.1 r.2.2 (i % t)).sum = cnt S t 0 zs (i % t) := by
  have ndf : ((S.filter fun r => decide (r.1 ∈ ns)).map (·.1)).Nodup := nd.sublist (List.Sublist.map _ List.filter_sublist)
  have pm : ((S.filter fun r => decide (r.1 ∈ ns)).map (·.1)).Perm zs := by
    refine (List.perm_ext_iff_of_nodup ndf ndz).mpr fun z => ?_
    rw [sz.2 z, List.mem_map]
    constructor
    · rintro ⟨r, hr, rfl⟩
      exact of_decide_eq_true (List.mem_filter.mp hr).2
    · intro hz
      obtain ⟨r, hr, e⟩ := List.mem_map.mp (sub z hz)
      exact ⟨r, List.mem_filter.mpr ⟨hr, decide_eq_true (by rw [e]; exact hz)⟩, e⟩
  unfold cnt alvs
  rw [← sum_perm (pm.map fun n => alv t ((spn S n).1 + 0) (spn S n).2 (i % t)), List.map_map]
  congr 1
  refine List.map_congr_left fun r hr => ?_
  show _ = alv t ((spn S r.1).1 + 0) (spn S r.1).2 (i % t)
  rw [spn_at (n := r.1) (b := r.2.1) (e := r.2.2) nd (List.mem_filter.mp hr).1, Int.add_zero]
end K38
namespace K38
open PySem L2
open PyProof.Rows PySem.Spec
theorem range_lt (k : Nat) : ∀ m : Nat, ((List.range m).filter fun s => decide (s < k)).length = min k m
  | 0 => by simp
  | m + 1 => by
    rw [List.range_succ, List.filter_append, List.length_append, range_lt k m]
    by_cases h : m < k
    · rw [List.filter_cons_of_pos (by simp [h])]
      simp
      omega
    · rw [List.filter_cons_of_neg (by simp [h])]
      simp
      omega
theorem mem_turns {t i : Int} (ht : 0 < t) {r : Str × Int × Int} (h : SpOk t r) {n : Str} {v : Int} : (n, v) ∈ turnsOf t i r ↔ n = r.1 ∧ (i - r.2.2) / t < v ∧ v ≤ (i - r.2.1) / t := by
  unfold SpOk at h
  have nn := alv_nn (t := t) (b := r.2.1) (e := r.2.2) (s := i % t) ht h.1
  have e := alv_mod (t := t) (b := r.2.1) (e := r.2.2) (i := i) ht
  unfold turnsOf
  rw [List.mem_map]
  constructor
  · rintro ⟨s, hs, w⟩
    rw [List.mem_range] at hs
    have w1 := congrArg Prod.fst w
    have w2 := congrArg Prod.snd w
    dsimp only at w1 w2
    exact ⟨w1.symm, by omega, by omega⟩
  · rintro ⟨rfl, h1, h2⟩
    refine ⟨(v - (i - r.2.2) / t - 1).toNat, List.mem_range.mpr (by omega), ?_⟩
    rw [show (i - r.2.1) / t - alv t r.2.1 r.2.2 (i % t) + 1 + ((v - (i - r.2.2) / t - 1).toNat : Int) = v from by omega]
theorem mem_each {t i : Int} (ht : 0 < t) {S : Rws} (h : ∀ x ∈ S, SpOk t x) (nd : (S.map (·.1)).Nodup) {r : Str × Int × Int} (hr : r ∈ S) {v : Int} : (r.1, v) ∈ eachL t i S ↔ (i - r.2.2) / t < v ∧ v ≤ (i - r.2.1) / t := by
  unfold eachL
  rw [List.mem_flatMap]
  constructor
  · rintro ⟨x, hx, m⟩
    obtain ⟨e1, e2⟩ := (mem_turns ht (h x hx)).mp m
    have a1 := spn_at (n := r.1) (b := r.2.1) (e := r.2.2) nd hr
    have a2 := spn_at (n := x.1) (b := x.2.1) (e := x.2.2) nd hx
    rw [← e1, a1] at a2
    injection a2 with b1 b2
    rw [b1, b2]
    exact e2
  · intro w
    exact ⟨r, hr, (mem_turns ht (h r hr)).mpr ⟨rfl, w⟩⟩
theorem both_turns {t i : Int} (ht : 0 < t) {S : Rws} (h : ∀ x ∈ S, SpOk t x) (nd : (S.map (·.1)).Nodup) {r : Str × Int × Int} (hr : r ∈ S) : (((turnsOf t i r).filter fun q => decide (q ∈ eachL t (i - 1) S)).length : Int) = alv t (r.2.1 + 1) r.2.2 (i % t) := by
  have h1 := h r hr
  unfold SpOk at h1
  have nn := alv_nn (t := t) (b := r.2.1) (e := r.2.2) (s := i % t) ht h1.1
  have e := alv_mod (t := t) (b := r.2.1) (e := r.2.2) (i := i) ht
  have e2 := alv_mod (t := t) (b := r.2.1 + 1) (e := r.2.2) (i := i) ht
  have m1 : (i - r.2.2) / t ≤ (i - (r.2.1 + 1)) / t := Int.ediv_le_ediv ht (by omega)
  have m2 : (i - 1 - r.2.2) / t ≤ (i - r.2.2) / t := Int.ediv_le_ediv ht (by omega)
  have m3 : (i - (r.2.1 + 1)) / t ≤ (i - r.2.1) / t := Int.ediv_le_ediv ht (by omega)
  have m4 : i - 1 - r.2.1 = i - (r.2.1 + 1) := by omega
  unfold turnsOf
  rw [List.filter_map, List.length_map]
  have ef : (List.range (alv t r.2.1 r.2.2 (i % t)).toNat).filter ((fun q => decide (q ∈ eachL t (i - 1) S)) ∘ fun (s : Nat) => (r.1, (i - r.2.1) / t - alv t r.2.1 r.2.2 (i % t) + 1 + (s : Int))) = (List.range (alv t r.2.1 r.2.2 (i % t)).toNat).filter fun s => decide (s < ((i - (r.2.1 + 1)) / t - (i - r.2.2) / t).toNat) := by
    refine List.filter_congr fun s _ => ?_
    show decide _ = decide _
    refine decide_eq_decide.mpr ?_
    rw [mem_each ht h nd hr, m4]
    omega
  rw [ef, range_lt]
  omega
/-- the values alive in two instants that follow each other, counted by names -/
theorem ofL_both {t i : Int} (ht : 0 < t) {S : Rws} (h : ∀ x ∈ S, SpOk t x) (nd : (S.map (·.1)).Nodup) {ns : List Str} : ∀ {S' : Rws}, (∀ x ∈ S', x ∈ S) → (ofL ((eachL t i S').filter fun q => decide (q ∈ eachL t (i - 1) S)) ns : Int) = ((S'.filter fun r => decide (r.1 ∈ ns)).map fun r => alv t (r.2.1 + 1) r.2.2 (i % t)).sum
  | [], _ => rfl
  | r :: S', sub => by
    have e : eachL t i (r :: S') = turnsOf t i r ++ eachL t i S' := by unfold eachL; rw [List.flatMap_cons]
    have b := both_turns (i := i) ht h nd (sub r List.mem_cons_self)
    rw [e, List.filter_append, ofL_app, Int.natCast_add, ofL_both ht h nd (fun x hx => sub x (List.mem_cons_of_mem _ hx))]
    have hn : ∀ q ∈ (turnsOf t i r).filter (fun q => decide (q ∈ eachL t (i - 1) S)), q.1 = r.1 := fun q hq => by
      have := (List.mem_filter.mp hq).1
      unfold turnsOf at this
      obtain ⟨s, _, e⟩ := List.mem_map.mp this
      rw [← e]
    by_cases hm : r.1 ∈ ns
    · rw [List.filter_cons_of_pos (by simp [hm]), List.map_cons, List.sum_cons, ← b]
      unfold ofL
      rw [List.filter_eq_self.mpr (fun q hq => by rw [hn q hq]; exact decide_eq_true hm)]
    · rw [List.filter_cons_of_neg (by simp [hm])]
      unfold ofL
      rw [List.filter_eq_nil_iff.mpr (fun q hq => by rw [hn q hq]; simp [hm])]
      simp
/-- the counts across the moments -/
theorem cnt1_filter {t i : Int} {S : Rws} (nd : (S.map (·.1)).Nodup) {ns zs : List Str} (sz : KS.Srt ns zs) (ndz : zs.Nodup) (sub : ∀ n ∈ ns, n ∈ S.map (·.1)) : ((S.filter fun r => decide (r.1 ∈ ns)).map fun r => alv t (r.2.1 + 1) r.2.2 (i % t)).sum = cnt S t 1 zs (i % t) := by
  have ndf : ((S.filter fun r => decide (r.1 ∈ ns)).map (·.1)).Nodup := nd.sublist (List.Sublist.map _ List.filter_sublist)
  have pm : ((S.filter fun r => decide (r.1 ∈ ns)).map (·.1)).Perm zs := by
    refine (List.perm_ext_iff_of_nodup ndf ndz).mpr fun z => ?_
    rw [sz.2 z, List.mem_map]
    constructor
    · rintro ⟨r, hr, rfl⟩
      exact of_decide_eq_true (List.mem_filter.mp hr).2
    · intro hz
      obtain ⟨r, hr, e⟩ := List.mem_map.mp (sub z hz)
      exact ⟨r, List.mem_filter.mpr ⟨hr, decide_eq_true (by rw [e]; exact hz)⟩, e⟩
  unfold cnt alvs
  rw [← sum_perm (pm.map fun n => alv t ((spn S n).1 + 1) (spn S n).2 (i % t)), List.map_map]
  congr 1
  refine List.map_congr_left fun r hr => ?_
  show _ = alv t ((spn S r.1).1 + 1) (spn S r.1).2 (i % t)
  rw [spn_at (n := r.1) (b := r.2.1) (e := r.2.2) nd (List.mem_filter.mp hr).1]
end K38
namespace K38
open PySem L2
def sumR (g : Nat → Int) : Nat → Int
  | 0 => 0
  | n + 1 => sumR g n + g n
theorem sumR_eq (g : Nat → Int) : ∀ n, ((List.range n).map g).sum = sumR g n
  | 0 => rfl
  | n + 1 => by
    rw [List.range_succ, List.map_append, List.sum_append, sumR_eq g n]
    simp [sumR]
theorem sumR_shift (g : Nat → Int) : ∀ n, sumR (fun s => g (s + 1)) n + g 0 = sumR g n + g n
  | 0 => by simp [sumR]
  | n + 1 => by
    have := sumR_shift g n
    simp only [sumR]
    omega
theorem sumR_congr {f g : Nat → Int} : ∀ {n : Nat}, (∀ s, s < n → f s = g s) → sumR f n = sumR g n
  | 0, _ => rfl
  | n + 1, h => by
    simp only [sumR]
    rw [sumR_congr (n := n) fun s hs => h s (by omega), h n (by omega)]
theorem sumR_zero : ∀ n, sumR (fun _ => 0) n = 0
  | 0 => rfl
  | n + 1 => by simp only [sumR]; rw [sumR_zero n]; rfl
theorem sumR_sub (f g : Nat → Int) : ∀ n, sumR (fun s => f s - g s) n = sumR f n - sumR g n
  | 0 => by simp [sumR]
  | n + 1 => by
    have := sumR_sub f g n
    simp only [sumR]
    omega
/-- the floors of t numbers that follow each other, each divided by t, are together the first of them -/
theorem floors {t : Nat} (ht : 0 < t) (x : Int) : sumR (fun s => (x + (s : Int)) / (t : Int)) t = x := by
  have step : ∀ x : Int, sumR (fun s => (x + 1 + (s : Int)) / (t : Int)) t = sumR (fun s => (x + (s : Int)) / (t : Int)) t + 1 := fun x => by
    have h := sumR_shift (fun s => (x + (s : Int)) / (t : Int)) t
    have e : sumR (fun s => (x + ((s + 1 : Nat) : Int)) / (t : Int)) t = sumR (fun s => (x + 1 + (s : Int)) / (t : Int)) t := sumR_congr fun s _ => by
      show _ = _
      rw [show x + ((s + 1 : Nat) : Int) = x + 1 + (s : Int) from by omega]
    rw [e] at h
    have e1 : (x + (t : Int)) / (t : Int) = x / (t : Int) + 1 := Int.add_ediv_of_dvd_right (Int.dvd_refl _) |>.trans (by rw [Int.ediv_self (by omega)])
    rw [e1] at h
    simp only [Int.natCast_zero, Int.add_zero] at h
    omega
  have zero : sumR (fun s => ((0 : Int) + (s : Int)) / (t : Int)) t = 0 := by
    rw [sumR_congr (g := fun _ => 0) fun s hs => by
      show _ = (0 : Int)
      rw [Int.zero_add]
      exact Int.ediv_eq_zero_of_lt (by omega) (by omega), sumR_zero]
  have up : ∀ n : Nat, sumR (fun s => ((n : Int) + (s : Int)) / (t : Int)) t = n := fun n => by
    induction n with
    | zero => exact zero
    | succ n ih =>
      have := step (n : Int)
      rw [ih] at this
      rw [Int.natCast_succ]
      exact this
  have dn : ∀ n : Nat, sumR (fun s => (-(n : Int) + (s : Int)) / (t : Int)) t = -n := fun n => by
    induction n with
    | zero => exact zero
    | succ n ih =>
      have := step (-((n + 1 : Nat) : Int))
      rw [show -((n + 1 : Nat) : Int) + 1 = -(n : Int) from by omega, ih] at this
      omega
  rcases Int.eq_nat_or_neg x with ⟨n, rfl | rfl⟩
  · exact up n
  · exact dn n
/-- a value is alive as many ticks as its span is long -/
theorem alv_sum {t : Int} (ht : 0 < t) (b e : Int) : ((List.range t.toNat).map fun (s : Nat) => alv t b e (s : Int)).sum = e - b := by
  obtain ⟨n, rfl⟩ : ∃ n : Nat, t = (n : Int) := ⟨t.toNat, by omega⟩
  rw [sumR_eq, Int.toNat_natCast]
  have h1 := floors (t := n) (by omega) (-b)
  have h2 := floors (t := n) (by omega) (-e)
  have e1 : sumR (fun s => alv (n : Int) b e (s : Int)) n = sumR (fun s => (-b + (s : Int)) / (n : Int) - (-e + (s : Int)) / (n : Int)) n := sumR_congr fun s _ => by
    unfold alv
    rw [show (s : Int) - b = -b + (s : Int) from by omega, show (s : Int) - e = -e + (s : Int) from by omega]
  rw [e1, sumR_sub, h1, h2]
  omega
end K38
namespace K38
open PySem L2
theorem Mst.eq {S : Rws} {t : Int} {ns : List Str} {m m' : Int} (a : Mst S t ns m) (b : Mst S t ns m') : m = m' := by
  have h1 := a.2 _ b.1
  have h2 := b.2 _ a.1
  omega
theorem Mst.le {S : Rws} {t : Int} {ns : List Str} {m : Int} (ht : 0 < t) (a : Mst S t ns m) (i : Int) : cnt S t 0 ns (i % t) ≤ m := by
  have m0 := Int.emod_nonneg i (b := t) (by omega)
  have m1 := Int.emod_lt_of_pos i ht
  refine a.2 _ (List.mem_map.mpr ⟨(i % t).toNat, List.mem_range.mpr (by omega), ?_⟩)
  show cnt S t 0 ns (((i % t).toNat : Nat) : Int) = _
  rw [Int.toNat_of_nonneg m0]
theorem Mst.at {S : Rws} {t : Int} {ns : List Str} {m : Int} (a : Mst S t ns m) : ∃ s : Int, 0 ≤ s ∧ s < t ∧ cnt S t 0 ns (s % t) = m := by
  obtain ⟨s, hs, e⟩ := List.mem_map.mp a.1
  rw [List.mem_range] at hs
  refine ⟨(s : Int), by omega, by omega, ?_⟩
  rw [Int.emod_eq_of_lt (by omega) (by omega)]
  exact e
/-- the greatest of the counts of drawn ticks -/
theorem Mst.of {S : Rws} {t : Int} {ns : List Str} {m : Int} (ht : 0 < t) (a : Mst S t ns m) {is : List Int} (h : ∀ s : Int, 0 ≤ s → s < t → s ∈ is) {x : Int} (hx : x ∈ is.map fun i => cnt S t 0 ns (i % t)) (mx : ∀ y ∈ is.map (fun i => cnt S t 0 ns (i % t)), y ≤ x) : x = m := by
  obtain ⟨i, _, rfl⟩ := List.mem_map.mp hx
  obtain ⟨s, h0, h1, e⟩ := a.at
  have h2 := mx _ (List.mem_map.mpr ⟨s, h s h0 h1, rfl⟩)
  have h3 := a.le ht i
  omega
end K38
/-! a generator whose values, pairs of a text and an int, are walked by a list comprehension: the list stands at D, the block's names at C; each value is made into a new tuple, its int raised by k -/
namespace GC2
open PySem PySem.Spec PyProof.Rows GenW L2
/-- the object of a tuple of a text and an int -/
def Tob (n : Str) (v : Int) (o : Obj) : Prop := o.cls = .type "tuple" ∧ ∃ t1 t2 m, o.data = .seq #[Value.str n t1, Value.int v t2] m
/-- while the generator sleeps, a new tuple is put behind the list, and the block's names change -/
structure Slp (D C : Addr) (n : Str) (v : Int) (s s' : Shared) : Prop where
  os : s'.os = s.os
  bare : AllBare s'.gens
  keep : ∀ b o, b ≠ D → b ≠ C → s.heap.get? b = some o → s'.heap.get? b = some o
  own : ∀ acc c, s.heap.get? D = some (lstObj acc c) → ∃ c' q oq, s'.heap.get? D = some (lstObj (acc.push (.ref q)) c') ∧ s.heap.get? q = none ∧ C < q ∧ s'.heap.get? q = some oq ∧ Tob n v oq
  env : ∃ oC, s'.heap.get? C = some oC ∧ ∀ x, oC.data ≠ .cell x
/-- the objects of the consumer: its list, its names, its tuples so far -/
def Pp (D C : Addr) (L : List (Str × Int)) (k : Int) (j : Nat) (pp : List (Addr × Obj)) : Prop :=
  ∃ acc c oC pt, pp = (D, lstObj acc c) :: (C, oC) :: pt ∧ acc.toList = pt.map (fun p => Value.ref p.1) ∧ (∀ x, oC.data ≠ .cell x) ∧ Paired (fun (q : Str × Int) (p : Addr × Obj) => Tob q.1 (q.2 + k) p.2) (L.take j) pt ∧ (∀ p ∈ pt, p.1 ≠ D ∧ p.1 ≠ C) ∧ pt.length = j ∧ (pt.map (·.1)).Nodup
/-- away from what the generator uses -/
def Far (X : Cx) (ip : List (Addr × Obj)) (b : Addr) : Prop := (∀ r ∈ X.pn ++ ip, r.1 ≠ b) ∧ X.s_0.heap.objs.size ≤ b ∧ b ≠ X.env.locals ∧ ∀ x c, X.env.cells.lookup x = some c → c ≠ b
/-- what all of it is about -/
structure Ct where
  D : Addr
  C : Addr
  L : List (Str × Int)
  k : Int
def GI2 (X : Cx) (T : Ct) (s₀ : Shared) (ip : List (Addr × Obj)) (ys : List V) (σ : L2.St) (H : Hp) (s : Shared) : Prop :=
  ∃ pp, Pp T.D T.C T.L T.k ys.length pp ∧ (∀ p ∈ pp, Far X ip p.1) ∧ (∀ p ∈ pp, s₀.heap.get? p.1 = some p.2) ∧ Inv X (pp ++ ip) σ H s
theorem Tob.nocell {n : Str} {v : Int} {o : Obj} (h : Tob n v o) : ∀ x, o.data ≠ .cell x := fun x e => by
  obtain ⟨_, t1, t2, m, z⟩ := h
  rw [z] at e
  cases e
theorem paired_snoc {α β : Type} {F : α → β → Prop} {a : α} {b : β} (h : F a b) : ∀ {xs : List α} {ys : List β}, Paired F xs ys → Paired F (xs ++ [a]) (ys ++ [b])
  | _, _, .nil => .cons h .nil
  | _, _, .cons q t => .cons q (paired_snoc h t)
/-- woken again -/
theorem GI2.woken {X : Cx} {T : Ct} {s₀ s s' : Shared} {ip : List (Addr × Obj)} {ys : List V} {x : V} {σ : L2.St} {H : Hp} {n : Str} {v : Int} (h : GI2 X T s₀ ip ys σ H s) (hx : T.L[ys.length]? = some (n, v)) (z : Slp T.D T.C n (v + T.k) s s') :
    GI2 X T s' ip (ys ++ [x]) σ H s' := by
  obtain ⟨pp, ⟨acc, c, oC, pt, rfl, ea, hC, hp, hne, hl, hnd⟩, far, _, I⟩ := h
  obtain ⟨z1, z2, z3, z4, oC', eC', hC'⟩ := z
  have pinD := I.pin (T.D, lstObj acc c) (List.mem_append_right _ List.mem_cons_self)
  have pinC := I.pin (T.C, oC) (List.mem_append_right _ (List.mem_cons_of_mem _ List.mem_cons_self))
  obtain ⟨c', q, oq, eD', hq, hCq, eq', hT⟩ := z4 acc c pinD.1
  have nq : ∀ {b : Addr} {o : Obj}, s.heap.get? b = some o → q ≠ b := fun e w => by rw [w, e] at hq; cases hq
  have nDq : q ≠ T.D := nq pinD.1
  have nCq : q ≠ T.C := nq pinC.1
  have farD := far _ (List.mem_cons_self (a := (T.D, lstObj acc c)))
  have farC := far (T.C, oC) (List.mem_cons_of_mem _ List.mem_cons_self)
  have pinT : ∀ p ∈ pt ++ ip, s.heap.get? p.1 = some p.2 ∧ H p.1 = none ∧ p.1 ≠ X.env.locals ∧ p.1 ∉ X.fs ∧ ∀ v, p.2.data ≠ .cell v := fun p hp => I.pin p (List.mem_append_right _ (List.mem_cons_of_mem _ (List.mem_cons_of_mem _ hp)))
  have I0 : Inv X (pt ++ ip) σ H s := I.pins_of pinT
  have fq : FpOk X (pt ++ ip) H q := by
    refine ⟨I.hok.gone hq, ?_, fun hb => ?_, .inr (Nat.le_trans farC.2.1 (Nat.le_of_lt hCq)), fun x c e z => ?_, fun p hp z => nq (I0.pin p hp).1 z.symm⟩
    · obtain ⟨m, ⟨o, _, _, e, _⟩, _⟩ := I.loc
      exact nq e
    · obtain ⟨_, o, e, _⟩ := I.funs.mem hb
      exact nq e rfl
    · obtain ⟨v, o, e2, _⟩ := I.cell x c e
      exact nq e2 z.symm
  have nD : ∀ b u, H b = some u → b ≠ T.D := fun b u e w => by rw [w, pinD.2.1] at e; cases e
  have nC : ∀ b u, H b = some u → b ≠ T.C := fun b u e w => by rw [w, pinC.2.1] at e; cases e
  obtain ⟨hh, g, d, t, o⟩ := s'
  have ho : o = s.os := z1
  subst ho
  have nch : ∀ b, b ∉ [T.D, T.C] → b ≠ T.D ∧ b ≠ T.C := fun b hb => ⟨fun e => hb (by rw [e]; exact List.mem_cons_self), fun e => hb (by rw [e]; exact List.mem_cons_of_mem _ List.mem_cons_self)⟩
  have kp : ∀ b ob, b ∉ [T.D, T.C] → s.heap.get? b = some ob → hh.get? b = some ob := fun b ob hb e => z3 b ob (nch b hb).1 (nch b hb).2 e
  have J : Inv X (pt ++ ip) σ H { s with heap := hh, gens := g, drawn := d, toks := t } := by
    refine I0.step (g' := g) (t' := t) (d' := d) (ch := [T.D, T.C]) (fun b hb => ?_)
      (fun b ob _ _ hc q _ => kp b ob hc q) (fun b ob _ _ hc q _ => ⟨ob.slots, kp b ob hc q⟩) (fun _ _ _ _ n => n) (fun b ob hc q => ⟨ob, kp b ob hc q⟩)
      (fun _ _ q => q) (fun _ _ _ q => q) (fun b ps q =>
                                                         ⟨#[], by rw [q]; simp⟩) (fun m hm => ?_) (fun b u q => ?_) z2
    · have pts : ∀ p ∈ pt ++ ip, p.1 ≠ b := fun p hp w => by
        rcases List.mem_append.mp hp with hp | hp
        · rcases List.mem_cons.mp hb with e | e
          · exact (hne p hp).1 (w.trans e)
          · exact (hne p hp).2 (w.trans (List.mem_singleton.mp e))
        · rcases List.mem_cons.mp hb with e | e
          · exact farD.1 p (List.mem_append_right _ hp) (w.trans e)
          · exact farC.1 p (List.mem_append_right _ hp) (w.trans (List.mem_singleton.mp e))
      have pns : ∀ p ∈ X.pn, p.1 ≠ b := fun p hp w => by
        rcases List.mem_cons.mp hb with e | e
        · exact farD.1 p (List.mem_append_left _ hp) (w.trans e)
        · exact farC.1 p (List.mem_append_left _ hp) (w.trans (List.mem_singleton.mp e))
      have fb : X.s_0.heap.objs.size ≤ b ∧ b ≠ X.env.locals ∧ ∀ x c, X.env.cells.lookup x = some c → c ≠ b := by
        rcases List.mem_cons.mp hb with e | e
        · rw [e]; exact farD.2
        · rw [List.mem_singleton.mp e]; exact farC.2
      exact ⟨.inr fb.1, fb.2.1, fb.2.2, fun p hp => (List.mem_append.mp hp).elim (pns p) (pts p)⟩
    · obtain ⟨ob, es, ep, ho, r⟩ := hm
      exact ⟨ob, es, ep, kp _ ob (fun hb => by
        rcases List.mem_cons.mp hb with e | e
        · exact farD.2.2.1 e.symm
        · exact farC.2.2.1 (List.mem_singleton.mp e).symm) ho, r⟩
    · refine (I0.hok b u q).stay (fun c v hc y => z3 c v ?_ ?_ y) (fun _ y => y) fun _ _ y => y
      · rcases hc with y | y
        · rw [y]; exact nD b u q
        · exact nD c _ y
      · rcases hc with y | y
        · rw [y]; exact nC b u q
        · exact nC c _ y
  refine ⟨(T.D, lstObj (acc.push (.ref q)) c') :: (T.C, oC') :: (pt ++ [(q, oq)]), ⟨acc.push (.ref q), c', oC', pt ++ [(q, oq)], rfl, ?_, hC', ?_, ?_, ?_, ?_⟩, ?_, ?_, J.pins_of ?_⟩
  · rw [Array.toList_push, ea, List.map_append]
    rfl
  · rw [List.length_append, List.length_singleton, List.take_add_one, hx]
    exact paired_snoc (a := (n, v)) (b := (q, oq)) hT hp
  · intro p hp
    rcases List.mem_append.mp hp with hp | hp
    · exact hne p hp
    · rw [List.mem_singleton.mp hp]; exact ⟨nDq, nCq⟩
  · rw [List.length_append, List.length_append, hl]; rfl
  · rw [List.map_append, List.nodup_append]
    refine ⟨hnd, by simp, fun a ha b hb => ?_⟩
    rw [List.map_cons, List.map_nil, List.mem_singleton] at hb
    obtain ⟨p, hp2, rfl⟩ := List.mem_map.mp ha
    rw [hb]
    exact fun z => nq (I0.pin p (List.mem_append_right _ (List.mem_append_left _ hp2))).1 z.symm
  · intro p hp
    rcases List.mem_cons.mp hp with e | hp
    · rw [e]; exact farD
    rcases List.mem_cons.mp hp with e | hp
    · rw [e]; exact farC
    rcases List.mem_append.mp hp with hp | hp
    · exact far p (List.mem_cons_of_mem _ (List.mem_cons_of_mem _ hp))
    · rw [List.mem_singleton.mp hp]
      obtain ⟨f0, f1, f2, f3, f4, f5⟩ := fq
      refine ⟨fun r hr => ?_, Nat.le_trans farC.2.1 (Nat.le_of_lt hCq), f1, f4⟩
      rcases List.mem_append.mp hr with hr | hr
      · exact f5 r (List.mem_append_left _ hr)
      · exact f5 r (List.mem_append_right _ (List.mem_append_right _ hr))
  · intro p hp
    rcases List.mem_cons.mp hp with e | hp
    · rw [e]; exact eD'
    rcases List.mem_cons.mp hp with e | hp
    · rw [e]; exact eC'
    rcases List.mem_append.mp hp with hp | hp
    · exact (J.pin p (List.mem_append_right _ (List.mem_append_left _ hp))).1
    · rw [List.mem_singleton.mp hp]; exact eq'
  · intro p hp
    rcases List.mem_cons.mp hp with e | hp
    · rw [e]; exact ⟨eD', pinD.2.1, pinD.2.2.1, pinD.2.2.2.1, fun v q => by cases q⟩
    rcases List.mem_cons.mp hp with e | hp
    · rw [e]; exact ⟨eC', pinC.2.1, pinC.2.2.1, pinC.2.2.2.1, hC'⟩
    rcases List.mem_append.mp hp with hp | hp
    · rcases List.mem_append.mp hp with hp | hp
      · exact J.pin p (List.mem_append_right _ (List.mem_append_left _ hp))
      · rw [List.mem_singleton.mp hp]
        exact ⟨eq', fq.1, fq.2.1, fq.2.2.1, hT.nocell⟩
    · exact J.pin p (List.mem_append_right _ (List.mem_append_right _ hp))
end GC2
namespace GC2
open PySem PySem.Spec PyProof.Rows GenW L2
/-- what is handed out and when it goes on -/
def GY2 (X : Cx) (T : Ct) : Protocol := fun m s₀ v s kap =>
  ∃ ys x ip σ H a n i, m + 1 + ys.length = sizeLine ∧ RelV x v ∧ x = .ref a ∧ T.L[ys.length]? = some (n, i) ∧ H a = some (.tup [.str n, .int i]) ∧ GI2 X T s₀ ip ys σ H s ∧ ∀ s', Slp T.D T.C n (i + T.k) s s' → kap (.send .none) s'
def GR2 (X : Cx) (T : Ct) (Q : List V → VK) (F : Value → Shared → Prop) : GenEnd := fun n s₀ r s => match r with
  | .ok (.ret u) => ∃ ys v ip σ H, n + ys.length = sizeLine ∧ GI2 X T s₀ ip ys σ H s ∧ RelV v u ∧ Q ys v H
  | .ok _ => False
  | .error e => F e s
def GSP2 (X : Cx) (T : Ct) (s₀ : Shared) (ip : List (Addr × Obj)) (D : GEnds) (ys : List V) (f : Flow) (s : Shared) : Prop :=
  match f with
  | .next => ∃ σ H, GI2 X T s₀ ip ys σ H s ∧ D.nx ys σ H
  | .brk => ∃ σ H, GI2 X T s₀ ip ys σ H s ∧ D.bk ys σ H
  | .cont => ∃ σ H, GI2 X T s₀ ip ys σ H s ∧ D.ct ys σ H
  | .ret u => ∃ v σ H, GI2 X T s₀ ip ys σ H s ∧ RelV v u ∧ D.rt ys v H
/-- the place in the generator's code -/
structure At2 (X : Cx) (A : Around) (c : Code) (fs : List Frame) (gd : Bool → Bool) : Prop where
  over : A.over c fs = X.A
  split : splitAtGen fs = none
  guard : fs.any Frame.guarded = false
  gd : gd false = false
/-- the rest of the generator's run -/
structure Go2 (X : Cx) (T : Ct) (ip : List (Addr × Obj)) (A : Around) (R : GenEnd) (c : Code) (fs : List Frame) (K : Flow → Sem PySem.Fin) (J : Value → Sem PySem.Fin) (D : GEnds) : Prop where
  ok : ∀ (n : Nat) (ys : List V) (s₀ s : Shared) (f : Flow), n + ys.length = sizeLine → GSP2 X T s₀ ip D ys f s → Seg (model X.prog X.w) A R (GY2 X T) n s₀ c (K f) fs s
  exc : ∀ (n : Nat) (s₀ : Shared) (e : Value) (s : Shared), X.xe e s → Seg (model X.prog X.w) A R (GY2 X T) n s₀ c (J e) fs s
structure Gs2 (X : Cx) (T : Ct) (st : Stmt) (t : TGn) : Prop where
  run : ∀ (A : Around) (ip : List (Addr × Obj)) (R : GenEnd) (n : Nat) (ys : List V) (s₀ : Shared) (c : Code) (fs : List Frame) (K : Flow → Sem PySem.Fin) (J : Value → Sem PySem.Fin) (gd : Bool → Bool) (lv : List Value → List Value) (s : Shared) (σ : L2.St) (H : Hp) (D : GEnds),
    At2 X A c fs gd → n + ys.length = sizeLine → Go2 X T ip A R c fs K J D → GI2 X T s₀ ip ys σ H s → t D ys σ H →
    Seg (model X.prog X.w) A R (GY2 X T) n s₀ c ((exec st X.env).wrap K J gd lv) fs s
structure Gss2 (X : Cx) (T : Ct) (st : List Stmt) (t : TGn) : Prop where
  run : ∀ (A : Around) (ip : List (Addr × Obj)) (R : GenEnd) (n : Nat) (ys : List V) (s₀ : Shared) (c : Code) (fs : List Frame) (K : Flow → Sem PySem.Fin) (J : Value → Sem PySem.Fin) (gd : Bool → Bool) (lv : List Value → List Value) (s : Shared) (σ : L2.St) (H : Hp) (D : GEnds),
    At2 X A c fs gd → n + ys.length = sizeLine → Go2 X T ip A R c fs K J D → GI2 X T s₀ ip ys σ H s → t D ys σ H →
    Seg (model X.prog X.w) A R (GY2 X T) n s₀ c ((execs st X.env).wrap K J gd lv) fs s
section
variable {X : Cx} {T : Ct} {st : Stmt} {rest : List Stmt}
theorem s2_plain {t : TS} (h : PS X st t) : Gs2 X T st (tPlain t) := by
  constructor
  intro A ip R n ys s₀ c fs K J gd lv s σ H D g hn k hI ht
  obtain ⟨pp, hp, far, ag, I⟩ := hI
  refine seg_wrap ?_
  rw [g.over]
  refine wpAny_mono (h.run _ s σ H (D.at ys) I ht) (fun f s' hs => k.ok n ys s₀ s' f hn ?_) fun x s' hx => k.exc n s₀ x s' hx
  cases f with
  | next =>
    obtain ⟨σ', H', I', q⟩ := hs
    exact ⟨σ', H', ⟨pp, hp, far, ag, I'⟩, q⟩
  | brk =>
    obtain ⟨σ', H', I', q⟩ := hs
    exact ⟨σ', H', ⟨pp, hp, far, ag, I'⟩, q⟩
  | cont =>
    obtain ⟨σ', H', I', q⟩ := hs
    exact ⟨σ', H', ⟨pp, hp, far, ag, I'⟩, q⟩
  | ret u =>
    obtain ⟨v, σ', H', I', r1, q⟩ := hs
    exact ⟨v, σ', H', ⟨pp, hp, far, ag, I'⟩, r1, q⟩
theorem s2_nil : Gss2 X T [] tG0 := ⟨fun A ip R n ys s₀ c fs K J gd lv s σ H D g hn k hI ht => seg_execs_nil (k.ok n ys s₀ s .next hn ⟨σ, H, hI, ht⟩)⟩
theorem s2_cons {t u : TGn} (a : Gs2 X T st t) (b : Gss2 X T rest u) : Gss2 X T (st :: rest) (tGThen t u) := by
  constructor
  intro A ip R n ys s₀ c fs K J gd lv s σ H D g hn k hI ht
  refine seg_execs_cons (a.run A ip R n ys s₀ c fs _ J gd lv s σ H { D with nx := fun ys' σ' H' => u D ys' σ' H' } g hn ⟨?_, k.exc⟩ hI ht)
  intro m zs s₁ s' f hm hs
  cases f with
  | next =>
    obtain ⟨σ', H', I', q⟩ := hs
    exact b.run A ip R m zs s₁ c fs K J gd lv s' σ' H' D g hm k I' q
  | brk => exact k.ok m zs s₁ s' .brk hm hs
  | cont => exact k.ok m zs s₁ s' .cont hm hs
  | ret u => exact k.ok m zs s₁ s' (.ret u) hm hs
/-- a value is handed out: the tuple that is due -/
def tGOut (T : Ct) (te : TE) : TGn := fun D ys σ H => ys.length < sizeLine ∧ te σ H fun x H1 => (∃ a n i, x = .ref a ∧ T.L[ys.length]? = some (n, i) ∧ H1 a = some (.tup [.str n, .int i])) ∧ D.nx (ys ++ [x]) σ H1
theorem s2_yield {e : Expr} {yp pos : Pos} {te : TE} (he : PE X e te) (hco : X.env.scope.isCoroutine = false := by rfl) (hi : interactive X.env = false := by rfl) : Gs2 X T (.Expr (.Yield (some e) yp) pos) (tGOut T te) := by
  constructor
  intro A ip R n ys s₀ c fs K J gd lv s σ H D g hn k hI ht
  obtain ⟨hlt, ht⟩ := ht
  obtain ⟨m, rfl⟩ : ∃ m, n = m + 1 := ⟨n - 1, by omega⟩
  obtain ⟨pp, hp, far, ag, I⟩ := hI
  refine seg_Expr_Yield g.split g.gd g.guard ?_ hco hi
  rw [g.over]
  refine wpAny_mono (he.run _ s σ H _ I ht)
                                            (fun v s' hv => ?_) fun x s' hx => k.exc _ s₀ x s' hx
  obtain ⟨x, H1, I1, rv, ⟨a, nm, i, ex, hL, ha⟩, q⟩ := hv
  have G1 : GI2 X T s₀ ip ys σ H1 s' := ⟨pp, hp, far, ag, I1⟩
  intro kap hk
  refine ⟨ys, x, ip, σ, H1, a, nm, i, hn, rv, ex, hL, ha, G1, fun s'' z => hk .none s'' ?_⟩
  refine k.ok m (ys ++ [x]) s'' s'' .next ?_ ⟨σ, H1, G1.woken hL z, q⟩
  rw [List.length_append, List.length_singleton]
  omega
theorem s2_lock {t : TGn} (h : Gs2 X T st t) : Gs2 X T st (tGLock t) := by
  constructor
  intro A ip R n ys s₀ c fs K J gd lv s σ H D g hn k hI ht
  obtain ⟨d, u, hd, mu, hw⟩ := ht
  obtain ⟨pp, hp, far, ag, I⟩ := hI
  obtain ⟨od, I1⟩ := I.lock hd mu
  refine h.run A ip R n ys s₀ c fs K J gd lv s σ _ _ g hn ⟨fun m zs s₁ s' f hm hs => k.ok m zs s₁ s' f hm ?_, k.exc⟩ ⟨pp, hp, far, ag, I1⟩ (hw od)
  have un : ∀ {σ' : L2.St} {H' : Hp}, GI2 X T s₁ ip zs σ' H' s' → H' d = some (.frz od u) → GI2 X T s₁ ip zs σ' (upd H' d u) s' := fun {σ' H'} g2 e => by
    obtain ⟨pp', hp', far', ag', I'⟩ := g2
    exact ⟨pp', hp', far', ag', I'.unlock e (I.nofrz hd mu)⟩
  cases f with
  | next =>
    obtain ⟨σ', H', g2, e, q⟩ := hs
    exact ⟨σ', _, un g2 e, q⟩
  | brk =>
    obtain ⟨σ', H', g2, e, q⟩ := hs
    exact ⟨σ', _, un g2 e, q⟩
  | cont =>
    obtain ⟨σ', H', g2, e, q⟩ := hs
    exact ⟨σ', _, un g2 e, q⟩
  | ret v =>
    obtain ⟨x, σ', H', g2, r3, e, q⟩ := hs
    exact ⟨x, σ', _, un g2 e, r3, q⟩
theorem at2_loop {A : Around} {c c' : Code} {fs : List Frame} {gd : Bool → Bool} {k : Result → Sem PySem.Fin} {l kp : List Value} {p : Pos} (g : At2 X A c fs gd) (hw : c'.weight = 0) (hu : c'.cUnits = 0) :
    At2 X A c' (.ret k none (gd false) l c p kp :: fs) id := by
  refine ⟨(over_loop hw hu).trans g.over, ?_, ?_, rfl⟩
  · show (splitAtGen fs).map _ = none
    rw [g.split]
    rfl
  · show (gd false || fs.any Frame.guarded) = false
    rw [g.gd, g.guard]
    rfl
theorem seg_back2 {ip : List (Addr × Obj)} {A : Around} {R : GenEnd} {c : Code} {fs : List Frame} {K : Flow → Sem PySem.Fin} {J : Value → Sem PySem.Fin} {gd : Bool → Bool} {lv : List Value → List Value} {D : GEnds} {n : Nat} {s₀ s : Shared} {e : Value}
    (g : At2 X A c fs gd) (k : Go2 X T ip A R c fs K J D) (h : cameBackBy (model X.prog X.w) X.A X.env X.xe e s) :
    Seg (model X.prog X.w) A R (GY2 X T) n s₀ c (((Sem.raise e : Sem Flow).onRaise (cameBack X.env)).wrap K J gd lv) fs s := by
  show Seg _ _ _ _ _ _ _ (((cameBack X.env e).bind fun _ =>
                                                            (Sem.raise e : Sem Flow)).wrap K J gd lv) _ _
  rw [Sem.bind_eq_wrap, Sem.wrap_wrap]
  refine seg_wrap ?_
  rw [g.over]
  exact wpAny_mono h
                     (fun _ s' hx => k.exc n s₀ e s' hx) fun x s' hx => k.exc n s₀ x s' hx
theorem s2_for {tg iter : Expr} {body : List Stmt} {wi : TI} {g : TG} {tb : TGn} {pos : Pos} (hp : PassesOwn (model X.prog X.w) X.A X.env X.xe) (hc : X.calm = true) (hi : PI X tg iter wi) (hg : PG X tg g) (hb : Gss2 X T body tb)
    (hs : ∀ x, foldedSetIterable iter X.env x = pure x := by intro _; rfl) : Gs2 X T (.For tg iter body [] pos) (tGFor wi g tb) := by
  constructor
  intro A ip R n ys s₀ c fs K J gd lv s σ H D g' hn k hI ht
  obtain ⟨pp0, hp0, far0, ag0, I⟩ := hI
  refine seg_ForG ?_ hs
  rw [g'.over]
  refine wpAny_mono (hi.run _ s σ H _ I ht) (fun v s1 h1 => wpAny_mono h1 (fun itv s2 h2 => ?_) fun x s' hx => k.exc n s₀ x s' hx) fun x s' hx => k.exc n s₀ x s' hx
  obtain ⟨it, fp, tn, JJ, H2, e, I2, Tu, st2, f2, W, ⟨m0, w0⟩, turn⟩ := h2
  subst e
  intro p
  have f2ip : ∀ b ∈ fp, ∀ q ∈ X.pn ++ ip, q.1 ≠ b := fun b hb q hq => by
    obtain ⟨_, _, _, _, _, a5⟩ := f2 b hb
    rcases List.mem_append.mp hq with hq | hq
    · exact a5 q (List.mem_append_left _ hq)
    · exact a5 q (List.mem_append_right _ (List.mem_append_right _ hq))
  have f2pp : ∀ b ∈ fp, ∀ q ∈ pp0, q.1 ≠ b := fun b hb q hq => by
    obtain ⟨_, _, _, _, _, a5⟩ := f2 b hb
    exact a5 q (List.mem_append_right _ (List.mem_append_left _ hq))
  have stat : ∀ {pp : List (Addr × Obj)} {H' : Hp}, (∀ q ∈ pp, ∀ b ∈ fp, q.1 ≠ b) → (∀ b ∈ fp, H' b = none) → ∀ b ∈ fp, FpOk X (pp ++ ip) H' b := fun {pp H'} hq' hn b hb => by
    obtain ⟨a0, a1, a2, a3, a4, _⟩ := f2 b hb
    refine ⟨hn b hb, a1, a2, a3, a4, fun q hq => ?_⟩
    rcases List.mem_append.mp hq with hq | hq
    · exact f2ip b hb q (List.mem_append_left _ hq)
    rcases List.mem_append.mp hq with hq | hq
    · exact hq' q hq b hb
    · exact f2ip b hb q (List.mem_append_right _ hq)
  have gl := fun (kk : Result → Sem PySem.Fin) => at2_loop (k := kk) (c' := .forLoop tg (.ref it) body [] X.env) (l := lv []) (kp := []) (p := p) g' rfl rfl
  have loop : ∀ (m i n : Nat) (ys : List V) (s₀ s : Shared) (σ : L2.St) (H : Hp) (pp : List (Addr × Obj)), n + ys.length = sizeLine → W i m ys σ H → Pp T.D T.C T.L T.k ys.length pp → (∀ p ∈ pp, Far X ip p.1) → (∀ p ∈ pp, s₀.heap.get? p.1 = some p.2) → (∀ q ∈ pp, ∀ b ∈ fp, q.1 ≠ b) → Inv X (pp ++ ip) σ H s → tn i s.heap → (∀ b ∈ fp, H b = none) →
      Seg (model X.prog X.w) A R (GY2 X T) n s₀ (.forLoop tg (.ref it) body [] X.env) ((model X.prog X.w).den (.forLoop tg (.ref it) body [] X.env))
        (.ret (fun r => ((match r with | .ok f => (.pure f : Sem Flow) | .error e => .raise e).onRaise
                                                                                                       (cameBack X.env)).wrap K J gd lv) none (gd false) (lv []) c p [] :: fs) s := by
    intro m
    induction m using Nat.strongRecOn with
    | ind m ih =>
      intro i n ys s₀ s σ H pp hn w hpp far ag dis I st fr
      have ee : ∀ (n : Nat) (s₀ : Shared) (x : Value) (s' : Shared), X.xe x s' → Seg (model X.prog X.w) A R (GY2 X T) n s₀ (.forLoop tg (.ref it) body [] X.env)
          ((do noteFrame x X.env; theTreesLotGoes x : Sem Unit).wrap
                                                                     (fun _ => .raise x) .raise id id)
          (.ret (fun r => ((match r with | .ok f => (.pure f : Sem Flow) | .error e => .raise e).onRaise
                                                                                                         (cameBack X.env)).wrap K J gd lv) none (gd false) (lv []) c p [] :: fs) s' := fun n s₀ x s' hx => by
        refine seg_wrap ?_
        rw [(gl _).over]
        refine wpAny_bind (wpAny_mono (hp x s' hx)
                                                   (fun _ s'' hcb => wpAny_theTreesLotGoes ?_) fun y s'' hcb => ?_)
        · exact seg_leaf (.error x) (seg_back2 g' k hcb)
        · exact seg_leaf (.error y) (seg_back2 g' k hcb)
      refine seg_forLoopG ?_
      rw [(gl _).over]
      rcases turn i m ys σ H w with ⟨stop, qn⟩ | ⟨go, N, hN, step⟩
      · refine wpAny_mono (Tu.done X rfl rfl rfl hc i _ s σ H X.xe I (stat dis fr) st stop) (fun r' s4 z => ?_) fun x s' hx => ee n s₀ x s' hx
        obtain ⟨hr, I4⟩ := z
        subst hr
        exact seg_leaf (.ok .next) (k.ok n ys s₀ s4 .next hn ⟨σ, H, ⟨pp, hpp, far, ag, I4⟩, qn⟩)
      · refine wpAny_mono (Tu.item X rfl rfl rfl hc i _ s σ H X.xe I (stat dis fr) st go) (fun r' s4 z => ?_) fun x s' hx => ee n s₀ x s' hx
        obtain ⟨u, hr, h4⟩ := z
        subst hr
        refine wpAny_mono h4 (fun _ s5 z => ?_) fun x s' hx => ee n s₀ x s' hx
        obtain ⟨x, H5, I5, r5, y5, st5, fr5⟩ := z
        have I5' := I5.pinned (stat dis fr5) (Tu.obj _ _ st5)
        refine wpAny_mono (hg.run _ s5 σ H5 x u _ I5' r5 (step x H5 y5)) (fun _ s6 z => ?_) fun x s' hx => ee n s₀ x s' hx
        obtain ⟨σ6, H6, I6, q6⟩ := z
        have far6 : ∀ q ∈ pp, Far X (ip ++ pinsAt fp s5.heap) q.1 := fun q hq => by
          obtain ⟨z1, z2⟩ := far q hq
          refine ⟨fun r hr => ?_, z2⟩
          rcases List.mem_append.mp hr with hr | hr
          · exact z1 r (List.mem_append_left _ hr)
          rcases List.mem_append.mp hr with hr | hr
          · exact z1 r (List.mem_append_right _ hr)
          · exact fun w => dis q hq r.1 (of_pinsAt hr).1 w.symm
        have back : ∀ {ys' : List V} {σ3 : L2.St} {H3 : Hp} {s3 s₁ : Shared}, GI2 X T s₁ (ip ++ pinsAt fp s5.heap) ys' σ3 H3 s3 → GI2 X T s₁ ip ys' σ3 H3 s3 ∧
            ∃ pp', Pp T.D T.C T.L T.k ys'.length pp' ∧ (∀ p ∈ pp', Far X ip p.1) ∧ (∀ p ∈ pp', s₁.heap.get? p.1 = some p.2) ∧ (∀ q ∈ pp', ∀ b ∈ fp, q.1 ≠ b) ∧ Inv X (pp' ++ ip) σ3 H3 s3 ∧ tn (i + 1) s3.heap ∧ ∀ b ∈ fp, H3 b = none := fun {ys' σ3 H3 s3 s₁} hI => by
          obtain ⟨pp', hpp', far', ag', I'⟩ := hI
          rw [← List.append_assoc] at I'
          have far3 : ∀ p ∈ pp', Far X ip p.1 := fun p hp => ⟨fun r hr => (far' p hp).1 r ((List.mem_append.mp hr).elim (List.mem_append_left _) fun z => List.mem_append_right _ (List.mem_append_left _ z)), (far' p hp).2⟩
          have dis3 : ∀ q ∈ pp', ∀ b ∈ fp, q.1 ≠ b := fun q hq b hb w => by
            obtain ⟨o, e, _⟩ := Tu.obj _ _ st5 b hb
            exact (far' q hq).1 (b, o) (List.mem_append_right _ (List.mem_append_right _ (mem_pinsAt hb e))) w.symm
          refine ⟨⟨pp', hpp', far3, ag', I'.unpinned⟩, pp', hpp', far3, ag', dis3, I'.unpinned, Tu.keep _ _ _ st5 fun b hb o e => (I'.pin (b, o) (List.mem_append_right _ (List.mem_append_right _ (mem_pinsAt hb e)))).1, fun b hb => ?_⟩
          obtain ⟨o, e, d⟩ := Tu.obj _ _ st5 b hb
          exact (I'.pin (b, o) (List.mem_append_right _ (List.mem_append_right _ (mem_pinsAt hb e)))).2.1
        refine hb.run A (ip ++ pinsAt fp s5.heap) R n ys s₀ _ _ _ _ id id s6 σ6 H6 { D with nx := N, ct := N, bk := D.nx } (gl _) hn ⟨fun n' ys' s₀' s3 f hn' hs => ?_, fun n' s₀' x s3 hx => ee n' s₀' x s3 hx⟩ ⟨pp, hpp, far6, ag, by rw [← List.append_assoc]; exact I6⟩ q6
        cases f with
        | next =>
          obtain ⟨σ3, H3, I3, n3⟩ := hs
          obtain ⟨m', hm, w3⟩ := hN ys' σ3 H3 n3
          obtain ⟨_, pp', b1, b2, b3, b4, b5, b6, b7⟩ := back I3
          exact seg_again rfl (ih m' hm (i + 1) n' ys' s₀' s3 σ3 H3 pp' hn' w3 b1 b2 b3 b4 b5 b6 b7)
        | cont =>
          obtain ⟨σ3, H3, I3, n3⟩ := hs
          obtain ⟨m', hm, w3⟩ := hN ys' σ3 H3 n3
          obtain ⟨_, pp', b1, b2, b3, b4, b5, b6, b7⟩ := back I3
          exact seg_again rfl (ih m' hm (i + 1) n' ys' s₀' s3 σ3 H3 pp' hn' w3 b1 b2 b3 b4 b5 b6 b7)
        | brk =>
          obtain ⟨σ3, H3, I3, n3⟩ := hs
          exact seg_leaf (.ok .next) (k.ok n' ys' s₀' s3 .next hn' ⟨σ3, H3, (back I3).1, n3⟩)
        | ret v =>
          obtain ⟨v3, σ3, H3, I3, r3, n3⟩ := hs
          exact seg_leaf (.ok (.ret v)) (k.ok n' ys' s₀' s3 (.ret v) hn' ⟨v3, σ3, H3, (back I3).1, r3, n3⟩)
  exact loop m0 0 n ys s₀ s2 σ H2 pp0 hn w0 hp0 far0 ag0 (fun q hq b hb => f2pp b hb q hq) I2 st2 fun b hb => (f2 b hb).1
end
end GC2
namespace GC2
open PySem PySem.Spec PyProof.Rows GenW L2
abbrev noE : XK := fun _ _ _ => False
/-- the run is over -/
def Fin2 (P : Program) (w : World) (outer : List Env) (H : Hp) (s : Shared) (T : Ct) (Q : List V → Hp → Prop) (s₀ s1 : Shared) : Prop := ∃ H' ys acc c pt, s1.os = s.os ∧ AllBare s1.gens ∧ Un (frs outer) [] H H' s.heap s1.heap ∧ HOk P w H' s1.heap ∧ H' T.D = none ∧ H' T.C = none ∧ s1.heap.get? T.D = some (lstObj acc c) ∧
    acc.toList = pt.map (fun p => Value.ref p.1) ∧ Paired (fun (q : Str × Int) (p : Addr × Obj) => Tob q.1 (q.2 + T.k) p.2) (T.L.take ys.length) pt ∧ (∀ p ∈ pt, s1.heap.get? p.1 = some p.2 ∧ H' p.1 = none ∧ p.1 ≠ T.D ∧ p.1 ≠ T.C ∧ s.heap.objs.size ≤ p.1) ∧ (pt.map (·.1)).Nodup ∧ ys.length ≤ sizeLine ∧ s1.heap.get? T.C = s₀.heap.get? T.C ∧ Q ys H'
def End2 (P : Program) (w : World) (outer : List Env) (H : Hp) (s : Shared) (T : Ct) (Q : List V → Hp → Prop) : GenEnd := fun n s₀ r s1 => ((r = .ok (.ret .none) ∨ r = .ok .next) ∧ Fin2 P w outer H s T Q s₀ s1) ∨ ∃ e, r = .error e ∧ False
/-- a value is there -/
def Item2 (s : Shared) (T : Ct) (a : Addr) (g : Nat) : Protocol := fun m s₀ v s1 kap =>
  s1.os = s.os ∧ AllBare s1.gens ∧ s1.heap.NoLimit ∧ s1.heap.IsGen a g ∧ s1.heap.get? T.C = s₀.heap.get? T.C ∧ ∃ (j : Nat) (ta : Addr) (n : Str) (i : Int) (t1 t2 : Tok) (acc : Array Value) (c : Nat), m + 1 + j = sizeLine ∧ v = .ref ta ∧ T.L[j]? = some (n, i) ∧ IsTup s1.heap ta #[.str n t1, .int i t2] ∧
    s1.heap.get? T.D = some (lstObj acc c) ∧ acc.size = j ∧ ∀ s', Slp T.D T.C n (i + T.k) s1 s' → kap (.send .none) s'
/-- a generator that has not begun -/
def Made2 (P : Program) (w : World) (k : Nat) (outer : List Env) (H : Hp) (s : Shared) (L : List (Str × Int)) (kk : Int) (Q : List V → Hp → Prop) (u : Value) (s' : Shared) : Prop :=
  ∃ (a : Addr) (g : Nat) (c : Code), u = .ref a ∧ s.heap.objs.size ≤ a ∧ a < s'.heap.objs.size ∧ s'.heap.IsGen a g ∧ s'.gens[g]? = some
                                                                                                                                        (.fresh c) ∧ s'.os = s.os ∧ AllBare s'.gens ∧ s'.heap.NoLimit ∧ (∀ b o, s.heap.get? b = some o → s'.heap.get? b = some o) ∧
    ∀ (A : Around) (D C : Addr) (s2 : Shared), Room k A → A.frames = some outer → s'.heap.objs.size ≤ D → s'.heap.objs.size ≤ C → (∀ b o, s'.heap.get? b = some o → s2.heap.get? b = some o) → (∃ c, s2.heap.get? D = some (lstObj #[] c)) →
      (∃ oC, s2.heap.get? C = some oC ∧ ∀ x, oC.data ≠ .cell x) → s2.os = s.os → AllBare s2.gens → Seg (model P w) A (End2 P w outer H s ⟨D, C, L, kk⟩ Q) (Item2 s ⟨D, C, L, kk⟩ a g) sizeLine s2 c ((model P w).den c) [] s2
/-- the arguments, the heap, what is handed out, what is wanted at the end -/
abbrev Sp2 := List V → Hp → List (Str × Int) → (List V → Hp → Prop) → Prop
structure Fn2 (P : Program) (w : World) (K : PySem.W.Frag) (mg : Str → Option Value) (base : Heap) (k : Nat) (f : Addr) (fd : FuncData) (ps : List Str) (sp : Sp2) : Prop where
  len : ∀ vs H L Q, sp vs H L Q → vs.length = ps.length
  run : ∀ (A : Around) (outer : List Env) (s : Shared) (H : Hp) (args : Args) (us : List Value) (vs : List V) (L : List (Str × Int)) (kk : Int) (Q : List V → Hp → Prop), Room k A → Env0 P w K mg base A outer s H → BindsTo s fd args (ps.zip us) → Vals vs us → sp vs H L Q →
    codeAny (model P w) A (.call (.ref f) args) (fun r s' => match r with | .ok (.ret u) => Made2 P w k outer H s L kk Q u s' | _ => False) s
/-- a protocol and an end that ask for less -/
theorem seg_weak {M : Model} {A : Around} {R R' : GenEnd} {Y Y' : Protocol} (hR : ∀ n s₀ r s, R n s₀ r s → R' n s₀ r s) (hY : ∀ n s₀ v s kap kap', (∀ r s', kap r s' → kap' r s') → Y n s₀ v s kap → Y' n s₀ v s kap') :
    ∀ (n : Nat) {s₀ : Shared} {c : Code} {t : Sem PySem.Fin} {fs : List Frame} {s : Shared}, Seg M A R Y n s₀ c t fs s → Seg M A R' Y' n s₀ c t fs s := L2.seg_imp hR hY
theorem fn2_of {P : Program} {w : World} {K : PySem.W.Frag} {mg : Str → Option Value} {base : Heap} {k : Nat} {f : Addr} {name qual : Str} {params : Arguments} {body : List Stmt} {scope : Scope} {dV kV doc pm cdv ct oc : Value} {an od : Option Addr} {osl : Array (Option Value)} {N ps : List Str} {sp : Sp2}
    (lk : K.lookup f = some ⟨oc, od, .func (PySem.W.fnOf name qual params body scope dV kV doc pm an cdv ct), osl⟩) (hcd : PySem.W.codeIn K cdv qual = true) (S : GScope N ps scope) (len : ∀ vs H L Q, sp vs H L Q → vs.length = ps.length)
    (hbody : ∀ (A : Around) (outer : List Env) (s : Shared) (H : Hp) (vs : List V) (L : List (Str × Int)) (Q : List V → Hp → Prop) (pn : List (Addr × Obj)) (D C : Addr) (kk : Int), Room k (A.deeper (envOfC qual scope s.heap.objs.size f cdv)) → sp vs H L Q →
      ∃ t, Gss2 (gcxOf P w K mg base N qual scope f cdv A outer s H noE pn) ⟨D, C, L, kk⟩ body t ∧ t { nx := fun ys _ H' => Q ys H', rt := fun ys v H' => v = .non ∧ Q ys H' } [] (start N vs) H) :
    Fn2 P w K mg base (k + 1) f (PySem.W.fnOf name qual params body scope dV kV doc pm an cdv ct) ps sp := by
  refine ⟨len, fun A outer s H args us vs L kk Q hr e0 hb r hsp => ?_⟩
  have hl := len _ _ _ _ hsp
  have KX : K.In s.heap := e0.mod.kin.keeps fun b o e =>
                                                         (e0.bs b o e).1
  have lim : s.heap.NoLimit := e0.mod.nolimit.keeps fun b o e =>
                                                                 (e0.bs b o e).1
  have hkind : ∀ y ∈ ps.zip us, scope.names.lookup y.1 = some .local ∨ (scope.names.lookup y.1 = some .cell ∧ ((cellsFrom (s.heap.objs.size + 1) scope.names []).lookup y.1).isSome = true) := fun ⟨n, v⟩ hy =>
    (S.par n (List.of_mem_zip hy).1).imp id fun q => ⟨q, PySem.W.cellsFrom_some _ _ _ (.inl q)⟩
  refine codeAny_call_generator hr.depth (KX _ _ lk) rfl S.co S.gen rfl
                                                                        (PySem.W.codeRec_of KX hcd) (hb _ _ _ _ ?_)
  refine wpAny_newFunctionEnv_cells S.kind hkind fun env he s1 x => ?_
  subst he
  have lim1 : s1.heap.NoLimit := lim.keeps x.toInCall.keep
  refine ⟨lim1, ?_⟩
  obtain ⟨h1, tk, es1, hk1⟩ := x.done
  have os1 : s1.os = s.os := by rw [es1]
  have gen1 : s1.gens = s.gens := by rw [es1]
  have lt1 : s.heap.objs.size < s1.heap.objs.size := x.toInCall.ns.lt
  have kp1 : ∀ b o, s.heap.get? b = some o → s1.heap.get? b = some o := x.toInCall.keep
  have main : ∀ (go : Obj) (nm qn : Value) (tk2 : Nat), go.cls = .type "generator" → go.data = .fields #[.int s1.gens.size 0, nm, qn] → go.slots = #[] →
                                                                                                                                                         (∀ h : Heap, (h.push go).get? h.objs.size = some go) →
      Made2 P w (k + 1) outer H s L kk Q (.ref s1.heap.objs.size) { s1 with gens := s1.gens.push (.fresh (.func body (envOfC qual scope s.heap.objs.size f cdv))), toks := tk2, heap := s1.heap.push go } := by
    intro go nm qn tk2 hgc hgd0 hgs hgp
    have hgen : ∀ h : Heap, h.get? s1.heap.objs.size = some go → h.IsGen s1.heap.objs.size s1.gens.size := fun h e =>
                                                                                                                      ⟨go, nm, qn, e, hgc, hgd0, hgs⟩
    have hpushed :
                   (s1.heap.push go).get? s1.heap.objs.size = some go := hgp _
    refine ⟨s1.heap.objs.size, s1.gens.size, _, rfl, Nat.le_of_lt lt1, ?_, hgen _ hpushed, Array.getElem?_push_size .., os1, ?_, lim1.keeps fun b o e => Heap.get?_push_of_some _ e, fun b o e => Heap.get?_push_of_some _ (kp1 b o e), ?_⟩
    · show _ < (s1.heap.push _).objs.size
      rw [Heap.size_push]
      exact Nat.lt_succ_self _
    · exact AllBare.push (by rw [gen1]; exact e0.bare) rfl
    intro Aw D C s2 hrw hfr hD hC hk2 hDo hCo hos hba
    have e0w : Env0 P w K mg base Aw outer s H :=
                                                  ⟨hfr, e0.mod, e0.bs, e0.bsz, e0.funs, e0.frf, e0.hok, e0.bare⟩
    obtain ⟨t, ht, hq⟩ := hbody Aw outer s H vs L Q [(s1.heap.objs.size, go)] D C kk (hrw.deeper _) hsp
    have I1 : Inv (gcxOf P w K mg base N qual scope f cdv Aw outer s H noE []) [] (start N vs) H s1 := inv_startG S hrw.hd e0w hl r x
    have kp2 : ∀ b o, s1.heap.get? b = some o → s2.heap.get? b = some o := fun b o e => hk2 b o
                                                                                                (Heap.get?_push_of_some _ e)
    have I2 : Inv (gcxOf P w K mg base N qual scope f cdv Aw outer s H noE []) [] (start N vs) H s2 :=
      I1.call' (ch := []) (hos.trans os1.symm)
                                               (Un.kept kp2) (I1.hok.kept kp2) hba fun b z => by simp at z
    have big : ∀ b, (s1.heap.push go).objs.size ≤ b → s1.heap.objs.size < b := fun b h => by rw [Heap.size_push] at h; exact h
    have hD' := big D hD
    have hC' := big C hC
    obtain ⟨cD, heD⟩ := hDo
    obtain ⟨oC, heC, hoC⟩ := hCo
    have hea : s2.heap.get? s1.heap.objs.size = some go := hk2 s1.heap.objs.size go hpushed
    have hgd : ∀ v, go.data ≠ .cell v := fun v q => by rw [hgd0] at q; cases q
    have young : ∀ b, s1.heap.objs.size ≤ b → H b = none ∧ b ≠ s.heap.objs.size ∧ b ∉ frs outer ∧ s.heap.objs.size ≤ b ∧ ∀ y c,
                                                                                                                                (cellsFrom (s.heap.objs.size + 1) scope.names []).lookup y = some c → c ≠ b := fun b hb => by
      refine ⟨I1.hok.fresh hb, Nat.ne_of_gt (Nat.lt_of_lt_of_le lt1 hb), I1.nofs hb, Nat.le_trans (Nat.le_of_lt lt1) hb, fun y c e z => ?_⟩
      obtain ⟨v, ob, ho, _⟩ := I1.cell y c e
      have := Heap.lt_size ho
      rw [z] at this
      exact absurd (Nat.lt_of_lt_of_le this hb) (Nat.lt_irrefl _)
    have hG : GI2 (gcxOf P w K mg base N qual scope f cdv Aw outer s H noE [(s1.heap.objs.size, go)]) ⟨D, C, L, kk⟩ s2 [] [] (start N vs) H s2 := by
      have pins : ∀ p ∈ [(D, lstObj #[] cD), (C, oC)], s1.heap.objs.size < p.1 ∧ s2.heap.get? p.1 = some p.2 ∧ ∀ v, p.2.data ≠ .cell v := fun p hp => by
        rcases List.mem_cons.mp hp with e | e
        · rw [e]; exact ⟨hD', heD, fun v q => by cases q⟩
        · rw [List.mem_singleton.mp e]; exact ⟨hC', heC, hoC⟩
      refine ⟨[(D, lstObj #[] cD), (C, oC)], ⟨#[], cD, oC, [], rfl, rfl, hoC, .nil, (fun p hp => by cases hp), rfl, List.nodup_nil⟩, fun p hp => ?_, fun p hp => (pins p hp).2.1, Inv.pinnedG I2 fun p hp => ?_⟩
      · have lt := (pins p hp).1
        obtain ⟨_, y2, _, y4, y5⟩ := young p.1 (Nat.le_of_lt lt)
        refine ⟨fun r hr => ?_, y4, y2, y5⟩
        rw [List.append_nil] at hr
        have hr : r ∈ [(s1.heap.objs.size, go)] := hr
        rw [List.mem_singleton.mp hr]
        exact Nat.ne_of_lt lt
      · rcases List.mem_append.mp hp with z | z
        · rw [List.mem_singleton.mp z]
          obtain ⟨y1, y2, y3, _, _⟩ := young s1.heap.objs.size
                                                               (Nat.le_refl _)
          exact ⟨hea, y1, y2, y3, hgd⟩
        · rw [List.append_nil] at z
          obtain ⟨lt, e, d⟩ := pins p z
          obtain ⟨y1, y2, y3, _, _⟩ := young p.1 (Nat.le_of_lt lt)
          exact ⟨e, y1, y2, y3, d⟩
    have pinned : ∀ {ip : List (Addr × Obj)} {ys : List V} {s' s₁ : Shared} {σ' : L2.St} {H' : Hp}, GI2 (gcxOf P w K mg base N qual scope f cdv Aw outer s H noE [(s1.heap.objs.size, go)]) ⟨D, C, L, kk⟩ s₁ ip ys σ' H' s' → s'.heap.IsGen s1.heap.objs.size s1.gens.size := fun {ip ys s' s₁ σ' H'} hI => by
      obtain ⟨_, _, _, _, J⟩ := hI
      exact hgen _ (J.pin (s1.heap.objs.size, go)
                                                  (List.mem_append_left _ (List.mem_singleton.mpr rfl))).1
    refine seg_func ?_
    refine seg_weak (R := GR2 (gcxOf P w K mg base N qual scope f cdv Aw outer s H noE [(s1.heap.objs.size, go)]) ⟨D, C, L, kk⟩ (fun ys v H' => v = .non ∧ Q ys H') fun e s' => CX P w outer H s noE e s')
      (Y := GY2 (gcxOf P w K mg base N qual scope f cdv Aw outer s H noE [(s1.heap.objs.size, go)]) ⟨D, C, L, kk⟩) (fun n s₀ r s1' hR => ?_) (fun n s₀ v s1' kap kap' hkk hY => ?_) sizeLine ?_
    · cases r with
      | error e =>
        have hR : CX P w outer H s noE e s1' := hR
        obtain ⟨a, B, H', cls, d, _, _, _, _, _, _, _, hW⟩ := hR
        exact False.elim hW
      | ok fl =>
        cases fl with
        | next => exact False.elim hR
        | brk => exact False.elim hR
        | cont => exact False.elim hR
        | ret u =>
          obtain ⟨ys, v, ip, σ', H', hn, hI, rv, ev, hQ⟩ := hR
          subst ev
          have eu : u = Value.none := rv
          subst eu
          obtain ⟨pp, ⟨acc, c, oC', pt, rfl, ea, hC2, hp, hne, hl2, hnd⟩, far, ag, J⟩ := hI
          have pinD := J.pin (D, lstObj acc c) (List.mem_append_right _ List.mem_cons_self)
          have pinC := J.pin (C, oC') (List.mem_append_right _ (List.mem_cons_of_mem _ List.mem_cons_self))
          refine .inl ⟨.inl rfl, H', ys, acc, c, pt, J.os, J.bare, J.base, J.hok, pinD.2.1, pinC.2.1, pinD.1, ea, hp, fun p hp2 => ?_, hnd, by omega, ?_, hQ⟩
          · have q := J.pin p (List.mem_append_right _ (List.mem_cons_of_mem _ (List.mem_cons_of_mem _ (List.mem_append_left _ hp2))))
            exact ⟨q.1, q.2.1, (hne p hp2).1, (hne p hp2).2, (far p (List.mem_cons_of_mem _ (List.mem_cons_of_mem _ hp2))).2.1⟩
          · exact pinC.1.trans (ag (C, oC') (List.mem_cons_of_mem _ List.mem_cons_self)).symm
    · obtain ⟨ys, xx, ip, σ', H', ta, nn, ii, hn, h2, ex, hL, hta, hI, h3⟩ := hY
      have hg := pinned hI
      obtain ⟨pp, ⟨acc, c, oC', pt, rfl, ea, hC2, hp, hne, hl2, hnd⟩, far, ag, J⟩ := hI
      have pinD := J.pin (D, lstObj acc c) (List.mem_append_right _ List.mem_cons_self)
      have pinC := J.pin (C, oC') (List.mem_append_right _ (List.mem_cons_of_mem _ List.mem_cons_self))
      subst ex
      have ev : v = Value.ref ta := h2
      obtain ⟨_, its, rv, ht⟩ := J.hok ta _ hta
      cases rv with
      | cons r1 rr =>
        cases rr with
        | cons r2 rr =>
          cases rr
          obtain ⟨t1, rfl⟩ := r1
          obtain ⟨t2, rfl⟩ := r2
          have sz : acc.size = ys.length := by
            have e1 := congrArg List.length ea
            rw [List.length_map, Array.length_toList] at e1
            omega
          exact ⟨J.os, J.bare, J.nolimit, hg, pinC.1.trans (ag (C, oC') (List.mem_cons_of_mem _ List.mem_cons_self)).symm, ys.length, ta, nn, ii, t1, t2, acc, c, hn, ev, hL, ht, pinD.1, sz, fun s' z => hkk _ _ (h3 s' z)⟩
    · refine ht.run Aw [] _ sizeLine [] s2 _ [] _ _ id id s2 (start N vs) H _ ⟨over_func, rfl, rfl, rfl⟩ (Nat.add_zero _) ⟨fun n ys s₀ s' fl hn hs => ?_, fun n s₀ e s' hx => ?_⟩ hG hq
      · cases fl with
        | next =>
          obtain ⟨σ', H', hI, hQ⟩ := hs
          exact seg_end (.ok (.ret .none))
                                           ⟨ys, .non, [], σ', H', hn, hI, rfl, rfl, hQ⟩
        | brk => obtain ⟨_, _, _, q⟩ := hs; exact False.elim q
        | cont => obtain ⟨_, _, _, q⟩ := hs; exact False.elim q
        | ret u =>
          obtain ⟨v, σ', H', hI, rv, ev, hQ⟩ := hs
          exact seg_end (.ok (.ret u))
                                       ⟨ys, v, [], σ', H', hn, hI, rv, ev, hQ⟩
      · refine seg_wrap ?_
        rw [over_func]
        refine wpAny_mono (show wpAny (model P w) (Aw.deeper (envOfC qual scope s.heap.objs.size f cdv)) (leaving (envOfC qual scope s.heap.objs.size f cdv) e) (fun _ s'' => CX P w outer H s noE e s'' ∧ ∀ p ∈ [(s1.heap.objs.size, go)], s''.heap.get? p.1 = some p.2) (fun _ _ => False) s' from hx) (fun _ s'' q => ?_) fun _ s'' q => q.elim
        exact seg_end (.error e) q.1
  exact main _ _ _ _ rfl rfl rfl fun h => Heap.get?_push_size _ rfl
end GC2
namespace GC2
open PySem PySem.Spec PyProof.Rows GenW L2
section
variable {prog : Program} {w : World} {A : Around}
                                                   {E : Value → Shared → Prop} {env : Env}
/-- a turn of the comprehension: two names, a new tuple, the list -/
theorem turn2 {s : Shared} {x y : Str} {p1 p2 p3 p4 p5 q1 q2 q3 : Pos} {n1 n2 : Nat} {j : Nat} {kk i : Int} {D ta : Addr} {m : Str → Option Value} {n : Str} {t1 t2 : Tok} {acc : Array Value} {c : Nat} {Q N : Shared → Prop}
    (hh : A.handled = none) (hk : env.scope.kind = .function) (hx : env.kindOf x = some .local) (hy : env.kindOf y = some .local) (hxy : x ≠ y) (hdx : (x == ("__debug__" : Str)) = false) (hdy : (y == ("__debug__" : Str)) = false)
    (hn : s.heap.Ns env.locals m) (ht : IsTup s.heap ta #[.str n t1, .int i t2]) (hD : s.heap.get? D = some (lstObj acc c)) (hDC : D ≠ env.locals) (hsz : acc.size ≤ sizeLine)
    (h : ∀ hp tk m' q oq c', (∀ b o, b ≠ D → b ≠ env.locals → s.heap.get? b = some o → hp.get? b = some o) → hp.get? D = some (lstObj (acc.push (.ref q)) c') → s.heap.get? q = none → env.locals < q → hp.get? q = some oq → Tob n (i + kk) oq → hp.Ns env.locals m' → Q { s with heap := hp, toks := tk }) :
    wpAny (model prog w) A (assign (.Tuple [.Name x q1, .Name y q2] n2 q3) env (.ref ta)) (fun _ s2 => wpAny (model prog w) A (forIn ([] : List Expr) true fun c r => if r = true then do let ok ← isTrue c env (eval c env); pure (ForInStep.yield ok) else pure (ForInStep.yield r)) (fun ok s3 =>
      if ok = true then wpAny (model prog w) A (eval (.Tuple [.Name x p1, .BinOp (.Name y p2) .Add (.Constant (.int kk) j p3) p4] n1 p5) env) (fun z s4 => wpAny (model prog w) A (call (.builtin "list.append") [.ref D, z]) (fun _ s5 => Q s5) E s4) E s3 else N s3) E s2) E s := by
  have hcls : (env.scope.kind == .class || (env.scope.kind == .module && env.locals != env.globals)) = false := by rw [hk]; rfl
  refine assign_Tuple_tuple hh ht rfl rfl fun h1 e1 => ?_
  obtain ⟨oL, _, _, hoL, _⟩ := id hn
  have lt : ∀ b o, s.heap.get? b = some o → b ≠ s.heap.objs.size := fun b o e => Nat.ne_of_lt (Heap.lt_size e)
  have k1 : ∀ b o, s.heap.get? b = some o → h1.get? b = some o := fun b o e => e1 b o (lt b o e) e
  have n1' : h1.Ns env.locals m := hn.at' fun o e => k1 _ o e
  show wpAny _ A (assignInOrder [assign (.Name x q1) env, assign (.Name y q2) env] [.str n t1, .int i t2]) _ E _
  refine assignInOrder_cons (wpAny_assign_Name (wpAny_storeName_local hx n1' (fun h2 n2' e2 => ?_) hcls))
  refine assignInOrder_cons (wpAny_assign_Name (wpAny_storeName_local (m := fun z => if z = x then some (.str n t1) else m z) hy n2' (fun h3 n3' e3 => ?_) hcls))
  refine assignInOrder_nil (wpAny_tests_nil ?_)
  rw [if_pos rfl]
  have k3 : ∀ b o, b ≠ env.locals → s.heap.get? b = some o → h3.get? b = some o := fun b o hb e => (e3.2 b hb).trans ((e2.2 b hb).trans (k1 b o e))
  have hmx : (fun z => if z = y then some (Value.int i t2) else if z = x then some (.str n t1) else m z) x = some (.str n t1) := by
    dsimp only
    rw [if_neg hxy, if_pos rfl]
  have hmy : (fun z => if z = y then some (Value.int i t2) else if z = x then some (.str n t1) else m z) y = some (.int i t2) := by
    dsimp only
    rw [if_pos rfl]
  refine wpAny_Tuple_spliced ?_
  show wpAny _ A (spliced [(false, eval (.Name x p1) env), (false, eval (.BinOp (.Name y p2) .Add (.Constant (.int kk) j p3) p4) env)]) _ E _
  refine Calls.spliced_cons (wpAny_Name (wpAny_loadName_local hk hx n3' hmx ?_) hdx)
  refine Calls.spliced_cons (wpAny_BinOp (wpAny_Name (wpAny_loadName_local hk hy n3' hmy ?_) hdy))
  refine wpAny_Constant_int (PyProof.Rows.add_int ?_)
  refine Calls.spliced_nil ⟨by show 2 ≤ sizeLine; decide, ?_⟩
  have hD4 : (h3.push { cls := .type "tuple", data := .seq #[Value.str n t1, Value.int (i + kk) (s.toks + 1 + 1 + 1)] }).get? D = some (lstObj acc c) := Heap.get?_push_of_some _ (k3 D _ hDC hD)
  refine append_at (hsz := hsz) hD4 fun h5 e5 eD5 => ?_
  have ltq : ∀ {b : Addr} {o : Obj}, h3.get? b = some o → h3.objs.size ≠ b := fun e w => absurd (Heap.lt_size e) (by rw [w]; exact Nat.lt_irrefl _)
  have ltL : env.locals < h3.objs.size := n3'.lt
  have gone : s.heap.get? h3.objs.size = none := by
    cases e : s.heap.get? h3.objs.size with
    | none => rfl
    | some o => exact absurd rfl (ltq (k3 _ o (Nat.ne_of_gt ltL) e))
  have nqD : h3.objs.size ≠ D := fun z => absurd (Heap.lt_size (k3 D _ hDC hD)) (by rw [z]; exact Nat.lt_irrefl _)
  have push5 : ∀ b o, b ≠ D → h3.get? b = some o → h5.get? b = some o := fun b o hb e => (e5.2 b hb).trans (Heap.get?_push_of_some _ e)
  refine h h5 _ (fun z => if z = y then some (Value.int i t2) else if z = x then some (.str n t1) else m z) h3.objs.size _ _ (fun b o hb hc e => push5 b o hb (k3 b o hc e)) eD5 gone ltL ((e5.2 _ nqD).trans (Heap.get?_push_size _ rfl)) ⟨rfl, _, _, _, rfl⟩ (n3'.at' fun o e => push5 _ o hDC.symm e)
end
end GC2
namespace GC2
open PySem PySem.Spec PyProof.Rows GenW L2
/-- an expression whose value is a generator that has not begun, and what it will hand out -/
abbrev TGen2 := L2.St → Hp → List (Str × Int) → (List V → Hp → Prop) → Prop
structure Pg2 (X : Cx) (k : Nat) (e : Expr) (tg : TGen2) : Prop where
  run : ∀ (pins : List (Addr × Obj)) (s : Shared) (σ : L2.St) (H : Hp) (L : List (Str × Int)) (kk : Int) (cont : List V → Hp → Prop), Inv X pins σ H s → tg σ H L cont → wpAny (model X.prog X.w) X.A (eval e X.env)
    (fun u s' => ∃ H1 sc, Inv X pins σ H1 sc ∧ Made2 X.prog X.w k X.stack H1 sc L kk cont u s') X.xe s
section
variable {X : Cx} {k : Nat} {f C : Addr} {fd : FuncData} {ps : List Str} {sp : Sp2} {x m : Str} {p pos pos' apos : Pos} {o : Expr} {ta : TE}
theorem run_fn2 {pins : List (Addr × Obj)} {σ : L2.St} {H : Hp} {s : Shared} {us : List Value} {vs : List V} {L : List (Str × Int)} {kk : Int} {cont : List V → Hp → Prop} {E1 : Value → Shared → Prop} (F : Fn2 X.prog X.w X.K X.mg X.base k f fd ps sp) (hr : Room k X.A) (hb : Binds X.K fd ps [])
    (I : Inv X pins σ H s) (r : Vals vs us) (h : sp vs H L cont) :
    wpAny (model X.prog X.w) X.A (call (.ref f) us) (fun u s' => ∃ H1 sc, Inv X pins σ H1 sc ∧ Made2 X.prog X.w k X.stack H1 sc L kk cont u s') E1 s := by
  have hl : (us ++ []).length = ps.length := by rw [List.append_nil, ← r.length]; exact F.len _ _ _ _ h
  have bt := hb s us I.kIn hl
  rw [List.append_nil] at bt
  refine wpAny_call (codeAny_mono (F.run X.A X.stack s H ⟨us, []⟩ us vs L kk cont hr I.env0 bt r h) fun r s' hq => ?_)
  cases r with
  | error e => exact False.elim hq
  | ok fl =>
    cases fl with
    | ret u => exact ⟨H, s, I, hq⟩
    | next => exact False.elim hq
    | brk => exact False.elim hq
    | cont => exact False.elim hq
def tMeth2 (C : Addr) (m : Str) (sp : Sp2) (ta : TE) (t : TA) : TGen2 := fun σ H L cont => ta σ H fun x H1 => ∃ a dx fs, x = .ref a ∧ H1 a = some (.ins C dx fs) ∧ fs.lookup m = none ∧ t σ H1 fun vs H2 => sp (x :: vs) H2 L cont
theorem pg2_meth {pl : Sem Bool} {e : Expr} {es : List Expr} {t : TA} (he : PE X o ta) (c : Cls X.K C) (hm : Meth X.K C m f) (F : Fn2 X.prog X.w X.K X.mg X.base k f fd ps sp) (hr : Room k X.A) (hb : Binds X.K fd ps []) (ha : PA X (e :: es) t)
    (hst : starEach (e :: es) X.env = (false, eval e X.env) :: starEach es X.env := by rfl)
                                                                                            (hpl : (backTo pos' (starEach es X.env)).any (·.1) = false := by rfl)
    (ht : eval (.Call (.Attribute o m apos)
                                            (e :: es) [] pos') X.env = (do
      let ov ← eval o X.env
      standAt apos.atName
      let (f, first) ← holding [ov] (getMethod ov m pl)
      callWith pos' f first (backTo pos' (starEach (e :: es) X.env))
                                                                     (backToKw pos' (keywordEach [] X.env))) := by rfl) :
    Pg2 X k (.Call (.Attribute o m apos) (e :: es) [] pos') (tMeth2 C m sp ta t) := by
  constructor
  intro pins s σ H L kk cont I h
  refine PySem.W.methodCall_KW (pl := pl) (thn (he.run pins s σ H _ I h) fun u s1
                                                                                  ⟨x, H1, I1, rx, a, dx, fs, ex, ea, l, q⟩ => ?_) ht
  subst ex
  obtain rfl : u = Value.ref a := rx
  refine getmeth_ok I1 ea c hm l (PySem.W.callWith_K (first := [.ref a]) (h₀ := X.base) I.ok.mod.kin hm.kp (thn (ha.run pos' pins s1 σ H1 _ I1 q) fun us s2 ⟨vs, H2, I2, r, q2⟩ => ⟨I2.kIn, ?_⟩) hst hpl)
  exact run_fn2 (us := .ref a :: us) (vs := .ref a :: vs) F hr hb I2 (.cons rfl r) q2
end
/-- a list's values are tuples -/
def Tls (H : Hp) (kk : Int) (xs : List V) (L : List (Str × Int)) : Prop := Paired (fun (v : V) (q : Str × Int) => ∃ a, v = .ref a ∧ H a = some (.tup [.str q.1, .int (q.2 + kk)])) xs L
def laidT (kk : Int) (H : Hp) : List (Str × Int) → List (Addr × Obj) → Hp
  | q :: L, p :: pt => upd (laidT kk H L pt) p.1 (.tup [.str q.1, .int (q.2 + kk)])
  | [], _ => H
  | _ :: _, [] => H
theorem laidT_ne {kk : Int} {H : Hp} {b : Addr} : ∀ {L : List (Str × Int)} {pt : List (Addr × Obj)}, (∀ p ∈ pt, p.1 ≠ b) → laidT kk H L pt b = H b
  | [], _, _ => by unfold laidT; rfl
  | _ :: _, [], _ => rfl
  | q :: L, p :: pt, h => by
    show upd (laidT kk H L pt) p.1 _ b = _
    rw [upd_ne (h p List.mem_cons_self).symm, laidT_ne fun p hp => h p (List.mem_cons_of_mem _ hp)]
theorem Tls.mono {H H' : Hp} {kk : Int} {L : List (Str × Int)} {xs : List V} (h : Tls H kk xs L) (k : ∀ a, V.ref a ∈ xs → H' a = H a) : Tls H' kk xs L := by
  unfold Tls at *
  induction h with
  | nil => exact .nil
  | cons r t ih =>
    obtain ⟨a, e, q⟩ := r
    exact .cons ⟨a, e, (k a (by rw [e]; exact List.mem_cons_self)).trans q⟩ (ih fun b hb => k b (List.mem_cons_of_mem _ hb))
theorem laidT_tls {kk : Int} {H : Hp} : ∀ {L : List (Str × Int)} {pt : List (Addr × Obj)}, Paired (fun (q : Str × Int) (p : Addr × Obj) => Tob q.1 (q.2 + kk) p.2) L pt → (pt.map (·.1)).Nodup → Tls (laidT kk H L pt) kk (pt.map fun p => V.ref p.1) L
  | _, _, .nil, _ => .nil
  | q :: L, p :: pt, .cons r t, nd => by
    rw [List.map_cons, List.nodup_cons] at nd
    refine .cons ⟨p.1, rfl, upd_same⟩ (Tls.mono (laidT_tls (H := H) t nd.2) fun a ha => upd_ne fun e => nd.1 ?_)
    obtain ⟨p2, h2, e2⟩ := List.mem_map.mp ha
    exact List.mem_map.mpr ⟨p2, h2, (V.ref.inj e2).trans e⟩
theorem laidT_ok {P : Program} {w : World} {kk : Int} {H : Hp} {h : Heap} (ok : HOk P w H h) : ∀ {L : List (Str × Int)} {pt : List (Addr × Obj)}, Paired (fun (q : Str × Int) (p : Addr × Obj) => Tob q.1 (q.2 + kk) p.2) L pt → (pt.map (·.1)).Nodup → (∀ p ∈ pt, h.get? p.1 = some p.2 ∧ H p.1 = none) → HOk P w (laidT kk H L pt) h
  | _, _, .nil, _, _ => ok
  | q :: L, p :: pt, .cons r t, nd, hp => by
    rw [List.map_cons, List.nodup_cons] at nd
    have hp0 := hp p List.mem_cons_self
    obtain ⟨rc, t1, t2, m, rd⟩ := r
    refine HOk.laidN (laidT_ok ok t nd.2 fun p hq => hp p (List.mem_cons_of_mem _ hq)) (fun _ _ e => e) ?_ ⟨by show 2 ≤ sizeLine; decide, [Value.str q.1 t1, Value.int (q.2 + kk) t2], .cons ⟨_, rfl⟩ (.cons ⟨_, rfl⟩ .nil), p.2, hp0.1, rc, m, rd⟩
    rw [laidT_ne fun p2 h2 e => nd.1 (List.mem_map.mpr ⟨p2, h2, e⟩)]
    exact hp0.2
theorem vals_refs : ∀ pt : List (Addr × Obj), Vals (pt.map fun p => V.ref p.1) (pt.map fun p => Value.ref p.1)
  | [] => .nil
  | p :: pt => .cons rfl (vals_refs pt)
/-- [(x, y + k) for x, y in g]: the generator may hand out what it has told -/
def tLcGen (tg : TGen2) (kk : Int) : TE := fun σ H Q => ∃ L, tg σ H L fun out H2 => ∀ D xs H3, Same H2 H3 → H2 D = none → H3 D = some (.lst xs) → Tls H3 kk xs (L.take out.length) → Q (.ref D) H3
theorem lcg_core {X : Cx} {k : Nat} {iter : Expr} {tg : TGen2} {x y : Str} {p1 p2 p3 p4 p5 q1 q2 q3 : Pos} {n1 n2 j : Nat} {kk : Int} {scope : Scope} {own : List (Str × Nat)} {pos pos' : Pos} {use : Option (Value → Sem Unit)} {Qf : Value → Shared → Prop} {pins : List (Addr × Obj)} {s : Shared} {σ : L2.St} {H : Hp} {Q : VK}
    (hc : X.calm = true) (hN : X.N.Nodup) (I : Inv X pins σ H s) (h : Pg2 X k iter tg) (hr : Room (k + 3) X.A) (ok : BlkOk X.N X.env.scope scope own) (hx : scope.names.lookup x = some .local) (hy : scope.names.lookup y = some .local) (hxy : x ≠ y) (hdx : (x == ("__debug__" : Str)) = false)
    (hdy : (y == ("__debug__" : Str)) = false) (hs : ∀ z, foldedSetIterable iter X.env z = pure z) (h0 : tLcGen tg kk σ H Q) (hRR : ∀ D C s' m H', Inv X pins σ H' s' → Q (.ref D) H' → s'.heap.Ns C m → FpOk X pins H' C → compPost (model X.prog X.w) X.A X.xe use Qf (.ref D) C (.ok .next) s') :
    wpAny (model X.prog X.w) X.A (comprehension (.ListComp (.Tuple [.Name x p1, .BinOp (.Name y p2) .Add (.Constant (.int kk) j p3) p4] n1 p5) [⟨.Tuple [.Name x q1, .Name y q2] n2 q3, iter, [], 0⟩] scope pos) scope X.env pos' (newList []) false (eval iter X.env) use) Qf X.xe s := by
  obtain ⟨L, hL⟩ := h0
  obtain ⟨cont, hco⟩ : ∃ cont : List V → Hp → Prop, cont = fun out H2 => ∀ D xs H3, Same H2 H3 → H2 D = none → H3 D = some (.lst xs) → Tls H3 kk xs (L.take out.length) → Q (.ref D) H3 := ⟨_, rfl⟩
  rw [← hco] at hL
  have hfree : ∀ y ∈ scope.names, y.2 = .free → ∃ c, X.env.cells.lookup y.1 = some c := fun y hy e => by
    rcases ok.free y hy e with k | k
    · exact I.ok.has _ (.inl k)
    · exact I.ok.has _ (.inr k)
  refine wpAny_comprehension_free (use := use) rfl hs (closure_ok hfree) ok.kind (fun y hy e => by rw [ok.uniq y hy, e]) (thn (h.run pins s σ H L kk cont I hL) fun u s1 hM => ?_)
  obtain ⟨H1, sc, I1, a, g, c, rfl, ha1, ha2, hg, hgs, hos, hb, hl, hkp, wake⟩ := hM
  refine wpAny_pyIter_gen hg ?_
  have hlim : cStatics < s1.heap.objs.size := let ⟨_, hn, _⟩ := hl; hn.lt
  have hsc : sc.heap.objs.size ≤ s1.heap.objs.size := Nat.le_trans ha1 (Nat.le_of_lt ha2)
  have I2 : Inv X pins σ H1 s1 := I1.call' (ch := []) hos (Un.kept hkp) (I1.hok.kept hkp) hb fun b z => by simp at z
  refine wpAny_newObj_type (newEnv_comp ?_)
                                            (by show 0 ≤ sizeLine; decide)
  generalize hD : s1.heap.objs.size = D
  have hDn : H1 D = none := I2.hok.fresh (Nat.le_of_eq hD)
  generalize hs3 : ({ s1 with heap := s1.heap.push { cls := .type "list", data := .seq ([] : List Value).toArray } } : Shared) = s3
  have I3 : Inv X pins σ (upd H1 D (.lst [])) s3 := by
    rw [← hs3]
    refine I2.laid (t' := s1.toks) (fun b o e => Heap.get?_push_of_some _ e) (Nat.le_of_eq hD) ⟨Nat.zero_le _, [], 0, .nil, ?_⟩
    rw [← hD]
    exact Heap.get?_push_size _ rfl
  have h3 : s3.heap = s1.heap.push { cls := .type "list", data := .seq ([] : List Value).toArray } := by rw [← hs3]
  have eD3 : s3.heap.get? D = some (lstObj #[] 0) := by
    rw [h3, ← hD]
    exact Heap.get?_push_size _ rfl
  have k13 : ∀ b o, s1.heap.get? b = some o → s3.heap.get? b = some o := fun b o e => by rw [h3]; exact Heap.get?_push_of_some _ e
  have ltD : D < s3.heap.objs.size := by
    rw [h3, Heap.size_push, ← hD]
    exact Nat.lt_succ_self _
  have I4 := block_start (fp := []) I3 ok hN (fun b hb => by cases hb)
  generalize hce : compEnvC scope (cellsFrom (s3.heap.objs.size + 1) scope.names (cloFrom X.env.cells scope.names [])) s3.heap.objs.size X.env = ce at I4
  have cL : ce.locals = s3.heap.objs.size := by rw [← hce]; rfl
  have cS : ce.scope = relS scope X.env.scope := by rw [← hce]; rfl
  have cK : ce.scope.kind = .function := I4.ok.kind
  have cx : ce.kindOf x = some .local := by
    unfold Env.kindOf
    rw [cS]
    exact lookup_relS_keep (by decide) hx
  have cy : ce.kindOf y = some .local := by
    unfold Env.kindOf
    rw [cS]
    exact lookup_relS_keep (by decide) hy
  have k34 : ∀ b o, s3.heap.get? b = some o → (pushCells (s3.heap.push { cls := .type "dict", data := .dict #[] }) scope.names).get? b = some o := fun b o e => pushCells_keeps _ _ _ _ (Heap.get?_push_of_some _ e)
  show codeAny _ _ (.compStart (.ListComp _ _ scope pos) 0 (.ref a) (.ref D) (compEnvC scope (cellsFrom (s3.heap.objs.size + 1) scope.names (cloFrom X.env.cells scope.names [])) s3.heap.objs.size X.env)) (compPost (model X.prog X.w) X.A X.xe use _ (.ref D) s3.heap.objs.size) { s3 with heap := pushCells (s3.heap.push { cls := .type "dict", data := .dict #[] }) scope.names }
  rw [hce]
  have os3 : s3.os = s1.os := by rw [← hs3]
  have gens3 : s3.gens = s1.gens := by rw [← hs3]
  generalize hs4 : ({ s3 with heap := pushCells (s3.heap.push
                                                              { cls := .type "dict", data := .dict #[] }) scope.names } : Shared) = s4 at I4 ⊢
  have k34' : ∀ b o, s3.heap.get? b = some o → s4.heap.get? b = some o := fun b o e => by rw [← hs4]; exact k34 b o e
  have os4 : s4.os = sc.os := by rw [← hs4]; exact os3.trans hos
  have gens4 : s4.gens = s1.gens := by rw [← hs4]; exact gens3
  have k14 : ∀ b o, s1.heap.get? b = some o → s4.heap.get? b = some o := fun b o e => k34' b o (k13 b o e)
  obtain ⟨m0, hn0, _⟩ := I4.loc
  have hn0 : s4.heap.Ns ce.locals m0 := hn0
  generalize hC : ce.locals = C at *
  have hDC : D ≠ C := by rw [cL]; exact Nat.ne_of_lt ltD
  have leC : s1.heap.objs.size ≤ C := by rw [cL, hD]; exact Nat.le_of_lt ltD
  have naD : a ≠ D := by rw [← hD]; exact Nat.ne_of_lt ha2
  have naC : a ≠ C := Nat.ne_of_lt (Nat.lt_of_lt_of_le ha2 leC)
  have nsD : cStatics ≠ D := by rw [← hD]; exact Nat.ne_of_lt hlim
  have nsC : cStatics ≠ C := Nat.ne_of_lt (Nat.lt_of_lt_of_le hlim leC)
  rw [← cL]
  clear hce cS I4 I3 k34 hs4 hs3 h3
  have room : Room k X.A.in1 := ⟨hr.hd, by have := hr.dp; show X.A.depth + 3 * k + 5 < _; omega, by have := hr.un; show X.A.units + 1 + 16 * k + 200 < _; omega⟩
  have loop : codeAny (model X.prog X.w) X.A (.compLoop (.ListComp (.Tuple [.Name x p1, .BinOp (.Name y p2) .Add (.Constant (.int kk) j p3) p4] n1 p5) [⟨.Tuple [.Name x q1, .Name y q2] n2 q3, iter, [], 0⟩] scope pos) 0 (.ref a) (.ref D) ce) (compPost (model X.prog X.w) X.A X.xe use Qf (.ref D) C) s4 := by
    refine compLoop_any (fun n s' => s'.heap.IsGen a g ∧ s'.heap.NoLimit ∧ (∃ gs, s'.gens[g]? = some gs ∧ gs.Goes (model X.prog X.w) X.A.in1 (End2 X.prog X.w X.stack H1 sc ⟨D, C, L, kk⟩ cont) (Item2 sc ⟨D, C, L, kk⟩ a g) n (.send .none) (s'.setGen g .running)) ∧ s'.os = sc.os ∧ AllBare s'.gens ∧ ∃ m, s'.heap.Ns C m) ?_ sizeLine
      ⟨hg.keeps k14, hl.keeps k14, ⟨.fresh c, by rw [gens4]; exact hgs, rfl, wake X.A.in1 D C (s4.setGen g .running) room I1.ok.frames (Nat.le_of_eq hD) leC k14 ⟨0, k34' D _ eD3⟩ ?_ os4 (allBare_setGen (by rw [gens4]; exact hb) rfl)⟩, os4, by rw [gens4]; exact hb, m0, hn0⟩
    · rintro n s5 ⟨ig, lim, ⟨gs, egs, goes⟩, os5, hb5, m, hn5⟩
      have hgl : g < s5.gens.size := (Array.getElem?_eq_some_iff.mp egs).1
      refine wpAny_gsz (n := g + 1) hgl (next_genG (A := X.A) (F := fun _ s₀ s1 => Fin2 X.prog X.w X.stack H1 sc ⟨D, C, L, kk⟩ cont s₀ s1) (Er := fun _ _ => False) (I.ok.hd hc) lim hr.depth ig egs goes (fun v s₁ gs' hbare hv => ?_) (fun s₁ hp h' hk => ?_) fun e s₁ he => he.elim)
      · intro hsz
        obtain ⟨os1, hb1, hl1, hg1, eC, jj, ta, nn, i, t1, t2, acc, cc, hj, rfl, hLj, htup, eD, hacc, hk⟩ := hv
        obtain ⟨og, _, _, eg, cg, dg, _⟩ := id hg1
        have hsz1 : g < s₁.gens.size := by
          have q : (s₁.setGen g gs').gens.size = s₁.gens.size := setGen_size _ _ _
          have hsz' : g + 1 ≤ (s₁.setGen g gs').gens.size := hsz
          omega
        have hn1 : s₁.heap.Ns ce.locals m := by
          rw [hC]
          exact hn5.at' fun o e => eC.trans e
        refine go_of (s := s₁.setGen g gs') eg cg dg (by decide) ?_
        refine turn2 (kk := kk) (D := D) (s := s₁.setGen g gs') (I.ok.hd hc) cK cx cy hxy hdx hdy hn1 htup eD (by rw [hC]; exact hDC) (by omega) fun hp tk m' q oq c' kp eD' gone ltq eq' tob hn' => ?_
        rw [hC] at kp ltq hn'
        have slp : Slp D C nn (i + kk) s₁ (Shared.setGen { s₁.setGen g gs' with heap := hp, toks := tk } g .running) := by
          refine ⟨rfl, allBare_setGen (s := s₁.setGen g gs') (allBare_setGen hb1 hbare) rfl, kp, fun acc2 c2 e2 => ?_, ?_⟩
          · rw [eD] at e2
            cases e2
            exact ⟨c', q, oq, eD', gone, ltq, eq', tob⟩
          · obtain ⟨o, _, _, e, d, _⟩ := id hn'
            exact ⟨o, e, fun v z => by rw [d] at z; cases z⟩
        cases n with
        | zero => exact (hk _ slp).elim
        | succ n =>
          refine ⟨n, Nat.lt_succ_self _, ?_, ?_, ⟨gs', setGen_at hsz1, hk _ slp⟩, os1, allBare_setGen hb1 hbare, m', hn'⟩
          · obtain ⟨o, nm, qn, ho, rr⟩ := hg1
            exact ⟨o, nm, qn, kp a o naD naC ho, rr⟩
          · obtain ⟨mc, hns, hnn⟩ := hl1
            exact ⟨mc, hns.at' fun o e => kp _ o nsD nsC e, hnn⟩
      · intro hsz
        obtain ⟨H', ys, acc, cc, pt, os1, hb1, un, hok, hDn', hCn', eD, eacc, hp, hpt, nd, hle, eC, hcont⟩ := hp
        have hn1 : s₁.heap.Ns C m := hn5.at' fun o e => eC.trans e
        rw [hco] at hcont
        have hpt' : ∀ p ∈ pt, h'.get? p.1 = some p.2 ∧ H' p.1 = none := fun p hp2 => ⟨hk _ _ (hpt p hp2).1, (hpt p hp2).2.1⟩
        have okT : HOk X.prog X.w (laidT kk H' (L.take ys.length) pt) h' := laidT_ok (hok.kept hk) hp nd hpt'
        have nD : laidT kk H' (L.take ys.length) pt D = none := by rw [laidT_ne fun p hp2 => (hpt p hp2).2.2.1]; exact hDn'
        have lpt : pt.length ≤ sizeLine := by
          have e1 := Paired.length hp
          rw [List.length_take] at e1
          omega
        have okD : HOk X.prog X.w (upd (laidT kk H' (L.take ys.length) pt) D (.lst (pt.map fun p => V.ref p.1))) h' := by
          refine HOk.laidN okT (fun _ _ e => e) nD ⟨by rw [List.length_map]; exact lpt, acc.toList, cc, by rw [eacc]; exact vals_refs pt, ?_⟩
          exact hk _ _ eD
        have same : Same H' (upd (laidT kk H' (L.take ys.length) pt) D (.lst (pt.map fun p => V.ref p.1))) := fun b o e => by
          rw [upd_ne (ne_of_none e hDn'), laidT_ne fun p hp2 z => by rw [← z, (hpt p hp2).2.1] at e; cases e]
          exact e
        have un3 : Un (frs X.stack) [] H1 (upd (laidT kk H' (L.take ys.length) pt) D (.lst (pt.map fun p => V.ref p.1))) sc.heap h' := by
          have u := un.trans (Un.kept hk)
          refine ⟨u.keep, u.slot, fun b o e n hx => ?_, u.there, fun b xs e => same _ _ (u.tups b xs e), fun b o xs e => same _ _ (u.frzs b o xs e), fun b ps e => ?_⟩
          · have lt := Heap.lt_size e
            rw [upd_ne (by rw [← hD]; exact Nat.ne_of_lt (Nat.lt_of_lt_of_le lt hsc)), laidT_ne fun p hp2 z => absurd (hpt p hp2).2.2.2.2 (by rw [z]; exact Nat.not_le_of_lt lt)]
            exact u.free b o e n hx
          · obtain ⟨more, q⟩ := u.tbls b ps e
            exact ⟨more, same _ _ q⟩
        have nC : (upd (laidT kk H' (L.take ys.length) pt) D (.lst (pt.map fun p => V.ref p.1))) C = none := by
          rw [upd_ne hDC.symm, laidT_ne fun p hp2 => (hpt p hp2).2.2.2.1]
          exact hCn'
        have I9 : Inv X pins σ (upd (laidT kk H' (L.take ys.length) pt) D (.lst (pt.map fun p => V.ref p.1))) { s₁.setGen g .finished with heap := h' } := I1.call' (ch := []) os1 un3 okD (allBare_setGen hb1 rfl) fun b z => by simp at z
        refine hRR D C _ m _ I9 (hcont D _ _ same hDn' upd_same ?_) (hn1.at' fun o e => hk _ _ e) (I1.fpOk (Nat.le_trans hsc leC) nC)
        refine Tls.mono (laidT_tls (H := H') hp nd) fun b hb => upd_ne fun e => ?_
        obtain ⟨p2, h2, e2⟩ := List.mem_map.mp hb
        exact (hpt p2 h2).2.2.1 ((V.ref.inj e2).trans e)
    · obtain ⟨o, _, _, e, d, _⟩ := id hn0
      exact ⟨o, e, fun v z => by rw [d] at z; cases z⟩
  exact codeAny_compStart_list loop (wpAny_pyIter_gen (hg.keeps k14) loop)
section
variable {X : Cx} {k : Nat} {iter : Expr} {tg : TGen2} {x y : Str} {p1 p2 p3 p4 p5 q1 q2 q3 : Pos} {n1 n2 j : Nat} {kk : Int} {scope : Scope} {own : List (Str × Nat)} {pos : Pos}
theorem pe_lcGen (hc : X.calm = true) (hN : X.N.Nodup) (h : Pg2 X k iter tg) (hr : Room (k + 3) X.A) (ok : BlkOk X.N X.env.scope scope own) (hx : scope.names.lookup x = some .local) (hy : scope.names.lookup y = some .local) (hxy : x ≠ y) (hdx : (x == ("__debug__" : Str)) = false)
    (hdy : (y == ("__debug__" : Str)) = false) (hs : ∀ z, foldedSetIterable iter X.env z = pure z := by intro _; rfl) :
    PE X (.ListComp (.Tuple [.Name x p1, .BinOp (.Name y p2) .Add (.Constant (.int kk) j p3) p4] n1 p5) [⟨.Tuple [.Name x q1, .Name y q2] n2 q3, iter, [], 0⟩] scope pos) (tLcGen tg kk) := by
  refine ⟨fun pins s σ H Q I h0 => ?_⟩
  rw [eval_ListComp]
  refine lcg_core hc hN I h hr ok hx hy hxy hdx hdy hs h0 fun D C s' m H' I' q hn f => ⟨m, hn, fun h'' sb => ?_⟩
  obtain ⟨f0, f1, f2, f3, f4, f5⟩ := f
  exact ⟨.ref D, H', I'.turned (t' := s'.toks)
                                               (fun b o hb e => (sb.2 b hb).trans e) f0 f1 f3 f4 f5, rfl, q⟩
/-- z = [(x, y + k) for x, y in g] on one line -/
theorem ps_setLcGen {i : Nat} {z : Str} {pz spos : Pos} (hc : X.calm = true) (hN : X.N.Nodup) (hz : X.N[i]? = some z) (hzl : X.env.scope.names.lookup z = some .local) (hsw : swapsWith (.ListComp (.Tuple [.Name x p1, .BinOp (.Name y p2) .Add (.Constant (.int kk) j p3) p4] n1 p5) [⟨.Tuple [.Name x q1, .Name y q2] n2 q3, iter, [], 0⟩] scope pos) (some (.Name z pz)) spos.line X.env = pure true)
    (h : Pg2 X k iter tg) (hr : Room (k + 3) X.A) (ok : BlkOk X.N X.env.scope scope own) (hx : scope.names.lookup x = some .local) (hy : scope.names.lookup y = some .local) (hxy : x ≠ y) (hdx : (x == ("__debug__" : Str)) = false)
    (hdy : (y == ("__debug__" : Str)) = false) (hs : ∀ z, foldedSetIterable iter X.env z = pure z := by intro _; rfl) :
    PS X (.Assign [.Name z pz] (.ListComp (.Tuple [.Name x p1, .BinOp (.Name y p2) .Add (.Constant (.int kk) j p3) p4] n1 p5) [⟨.Tuple [.Name x q1, .Name y q2] n2 q3, iter, [], 0⟩] scope pos) spos) (tAsg (tLcGen tg kk) (gName i)) := by
  refine ⟨fun pins s σ H D I h0 => ?_⟩
  rw [exec_Assign_Name_used _ _ _ _ hsw]
  refine wpAny_bind (wpAny_standAt (wpAny_bind ?_))
  have h0 : tLcGen tg kk σ H (fun x H1 => gName i x σ H1 D.nx) := h0
  refine wpAny_bind (thn (lcg_core (Qf := fun _ s' => SP X pins D .next s') (use := some (assign (.Name z pz) X.env)) hc hN I h hr ok hx hy hxy hdx hdy hs h0 fun L C s' m H' I' q hn f => ?_) fun _ s' hq => wpAny_pure (wpAny_pure hq))
  refine wpAny_assign_Name (store_ok2 (v := V.ref L) I' hN hz (.inl hzl) rfl (fun s2 I2 ⟨a, sb, ha⟩ => ?_) (.inr hzl))
  obtain ⟨f0, f1, f2, f3, f4, f5⟩ := f
  have haC : C ≠ a := by
    rcases ha with w | w
    · rw [w]; exact f1
    · exact fun e => f4 z a w e.symm
  refine ⟨m, hn.sameBut sb haC, fun h3 sb3 => ⟨_, H', I2.turned (t' := s2.toks) (fun b o hb e => (sb3.2 b hb).trans e) f0 f1 f3 f4 f5, q⟩⟩
end
end GC2
namespace K38
open PySem L2
open PyProof.Rows PySem.Spec
section
variable {P : Program} {w : World} {K : PySem.W.Frag}
                                                      {mg : Str → Option Value} {base : Heap}
/-- each_alive, for a comprehension -/
def sp_each2 (K : PySem.W.Frag) (C : Addr) : GC2.Sp2 := fun vs H L Q => ∃ (p : Addr) (t i : Int) (S : Rws) (r : Addr), vs = [.ref p, .int i] ∧ SpAt H C p t S r ∧ (-1000000000000 < i ∧ i < 1000000000000) ∧ L = eachL t i S ∧ ∀ xs H', Same H H' → xs.length = L.length → Q xs H'
theorem ok_each2 (T : T K mg) (U : UX K mg) : GC2.Fn2 P w K mg base 4 U.me.f U.me.d ["self", "tick"] (sp_each2 K U.C) := by
  have G_check_integer : FnOk P w K mg base CX0 2 T.f_check_integer T.d_check_integer ["value"] (sp_check_integer K) := ok_check_integer T
  obtain ⟨oc, od, dV, kV, doc, pm, an, cdv, ct, osl, e, lk, hcd, _, _⟩ := U.me.F.ex
  rw [e] at lk ⊢
  refine GC2.fn2_of lk hcd gc_Spans_each_alive (fun vs H Q E h => ?_) (fun A outer s H vs LL0 Q pn D0 C0 kk hr h => ?_)
  · obtain ⟨p, t, i, S, r, rfl, _⟩ := h
    rfl
  · obtain ⟨p, t, i, S, r, rfl, sp, hi, rfl, k⟩ := h
    have hu := hu_of hr
    have hr_check_integer : Room 2 _ := hr.mono (by decide)
    obtain ⟨g, so, dx, rd, nm, lv, cr, L0, LL, LC, h1, h2, h3, h4, h5, h6, _⟩ := id sp
    refine ⟨_, (GC2.s2_cons (GC2.s2_plain (ps_expr (pe_call G_check_integer hr_check_integer rfl T.m_check_integer T.F_check_integer.kp T.b_check_integer .nil pass0 (pa_cons (pv 1) pa_nil))))
      (GC2.s2_cons (GC2.s2_lock (GC2.s2_for owns_gcx rfl (pi_items (pe_fld (pv 0) rfl)) (pg_tup rfl (pgs_cons (pg_name (i := 2) gc_Spans_each_alive.nd rfl (Or.inl rfl)) (pgs_cons (pg_tup rfl (pgs_cons (pg_name (i := 3) gc_Spans_each_alive.nd rfl (Or.inl rfl)) (pgs_cons (pg_name (i := 4) gc_Spans_each_alive.nd rfl (Or.inl rfl)) pgs_nil))) pgs_nil)))
        (GC2.s2_cons (GC2.s2_plain (ps_set (i := 5) gc_Spans_each_alive.nd rfl (Or.inl rfl) (pe_op op_fdivW (pe_op op_sub (pv 1) (pv 3)) (pe_fld (pv 0) rfl))))
        (GC2.s2_cons (GC2.s2_plain (ps_set (i := 6) gc_Spans_each_alive.nd rfl (Or.inl rfl) (pe_ix ix_seq (pe_dget (by exact hu) (pe_fld (pv 0) rfl) (pv 2) (fun _ _ => rfl)) (pe_op op_mod (pv 1) (pe_fld (pv 0) rfl)) (fun _ _ => rfl))))
        (GC2.s2_cons (GC2.s2_for owns_gcx rfl (pi_range2 (by rfl) T.z_range (pa_cons (pe_op op_add (pe_op op_sub (pv 5) (pv 6)) pe_int) (pa_cons (pe_op op_add (pv 5) pe_int) pa_nil))) (pg_name (i := 7) gc_Spans_each_alive.nd rfl (Or.inl rfl))
          (GC2.s2_cons (GC2.s2_yield (pe_tup (pa_cons (pv 2) (pa_cons (pv 7) pa_nil)))) GC2.s2_nil)) GC2.s2_nil))))) GC2.s2_nil)), ?_⟩
    have g3 := g.t2
    have g4 := g.t1
    have g8 := g.l8
    have m0 := Int.emod_nonneg i (b := t) (by omega)
    have m1 := Int.emod_lt_of_pos i (b := t) (by omega)
    refine ⟨_, rfl, i, rfl, hi, ?_⟩
    refine ⟨rd, _, h2, True.intro, fun od => ?_⟩
    have lk : (upd H rd (.frz od (.dK (Kvs L0)))) rd = some (.frz od (.dK (Kvs L0))) := upd_same
    have ktl : KT H (upd H rd (.frz od (.dK (Kvs L0)))) := KT.put h2 (fun _ z => by cases z)
    have nrp : p ≠ rd := fun z => by rw [z, h2] at h1; cases h1
    have nrl : lv ≠ rd := fun z => by
      rw [z, h2] at h5
      injection h5 with h5
      injection h5 with h5
      exact cts_tups h3 h6 g.l1 h5
    refine ⟨_, rfl, p, U.C, dx, _, .ref rd, rfl, (by rw [upd_ne nrp]; exact h1), U.cl, U.n2, rfl, rd, od, Kvs L0, rfl, lk, ?_⟩
    refine gfor_it walk_items (fun j ys σ H' => (∃ x2 x3 x4 x5 x6 x7, σ = [some (V.ref p), some (V.int i), x2, x3, x4, x5, x6, x7]) ∧ Same (upd H rd (.frz od (.dK (Kvs L0)))) H' ∧ OutAt H' ys (eachL t i (S.take j)) ∧ ys.length ≤ 9 * j) ⟨⟨_, _, _, _, _, _, rfl⟩, Same.refl _, .nil, Nat.zero_le _⟩ (fun j ys σ H' _ h => h.2.1 _ _ lk) ?_ ?_
    · rintro j x ys σ Ha Hb hj ⟨⟨x2, x3, x4, x5, x6, x7, rfl⟩, Sa, oa, la⟩ ⟨TT, x1, y1, rfl, hTT, rfl, ex1, ey1⟩
      have Sn : Same Ha (upd Ha TT (.tup [x1, y1])) := Same.new hTT
      obtain ⟨n, a, b, e, rfl, e2, hab, e4⟩ := tups_at (h3.keep (KT.trans ktl (KT.same (Same.trans Sa Sn)))) j y1 ey1
      obtain rfl : V.str n = x1 := by
        unfold Kvs at ex1
        dsimp only at ex1
        rw [List.getElem?_map, e4] at ex1
        exact Option.some.inj ex1
      have Sb : Same (upd H rd (.frz od (.dK (Kvs L0)))) (upd Ha TT (.tup [V.str n, V.ref a])) := Same.trans Sa Sn
      have eTT : (upd Ha TT (.tup [V.str n, V.ref a])) TT = some (.tup [V.str n, V.ref a]) := upd_same
      have ob := oa.keep (KT.same Sn)
      generalize upd Ha TT (.tup [V.str n, V.ref a]) = Hc at Sb eTT hab ob ⊢
      have hS : (n, b, e) ∈ S := List.mem_of_getElem? e2
      have g1 := g.nr _ hS
      have g2 := g.sp _ hS
      unfold Near at g1
      unfold SpOk at g2
      simp only at g1 g2
      have pc : Hc p = some (HO.ins U.C dx (spF t rd nm (V.ref lv) (V.ref cr))) := Sb _ _ (by rw [upd_ne nrp]; exact h1)
      refine ⟨TT, _, rfl, SqT.of eTT, rfl, _, _, rfl, _, _, rfl, a, _, rfl, SqT.of hab, rfl, _, _, rfl, _, _, rfl, rfl, rfl, ?_⟩
      have pin : n ∈ S.map (·.1) := List.mem_map.mpr ⟨(n, b, e), hS, rfl⟩
      have esp : spn S n = (b, e) := spn_at g.nd hS
      have cl0 : Cts Hc t 0 LL S := Cts.same Sb (Cts.put h2 (fun _ z => by cases z) h6)
      obtain ⟨la2, va, ha⟩ := cl0.get pin
      rw [esp, Int.add_zero] at ha
      refine ⟨_, rfl, _, rfl, _, _, rfl, rfl, ?_⟩
      refine ⟨_, rfl, p, U.C, dx, _, .int t, rfl, pc, U.cl, U.n1, rfl, _, _, rfl, rfl, wide_div (b := 6) (by omega) (by omega) (by decide) (by decide), ?_⟩
      refine ⟨_, rfl, p, U.C, dx, _, .ref lv, rfl, pc, U.cl, U.n4, rfl, _, rfl, lv, V.ref la2, rfl, ?_, _, rfl, _, rfl, p, U.C, dx, _, .int t, rfl, pc, U.cl, U.n1, rfl, _, _, rfl, rfl, by omega, .inl ⟨la2, _, _, .int (alv t b e (i % t)), rfl, rfl, SqL.of ha, ?_, ?_⟩⟩
      · have := DGet.k (k := Sum.inr n) (Sb _ _ ((upd_ne nrl).trans h5))
        rw [va] at this
        exact this
      · have := cntL_at (t := t) (b := b) (e := e) (j := (i % t).toNat) (by omega)
        rw [Int.zero_add, Int.toNat_of_nonneg m0] at this
        exact this
      have m8 : alv t b e (i % t) ≤ 8 := alv_le (by omega) (by omega)
      have mz : 0 ≤ alv t b e (i % t) := alv_nn (by omega) (by omega)
      have q1 : (i - b) / t ≤ 2000000000000 := Int.ediv_le_of_le_mul (by omega) (by omega)
      have q2 : -2000000000000 ≤ (i - b) / t := Int.le_ediv_of_mul_le (by omega) (by omega)
      have jl : j < S.length := (List.getElem?_eq_some_iff.mp e2).1
      have eL : eachL t i (S.take (j + 1)) = eachL t i (S.take j) ++ turnsOf t i (n, b, e) := by
        unfold eachL
        rw [List.take_add_one, e2, List.flatMap_append]
        simp
      have lT : (turnsOf t i (n, b, e)).length = (alv t b e (i % t)).toNat := by unfold turnsOf; rw [List.length_map, List.length_range]
      refine ⟨_, rfl, _, rfl, _, _, rfl, rfl, _, _, rfl, rfl, _, rfl, _, _, rfl, rfl, _, _, rfl, ⟨by omega, by omega, by omega, by omega⟩, ?_⟩
      refine gfor_it walk_range (fun j2 ys' σ' H' => (∃ x7, σ' = [some (V.ref p), some (V.int i), some (V.str n), some (V.int b), some (V.int e), some (V.int ((i - b) / t)), some (V.int (alv t b e (i % t))), x7]) ∧ Same (upd H rd (.frz od (.dK (Kvs L0)))) H' ∧ OutAt H' ys' (eachL t i (S.take j) ++ (turnsOf t i (n, b, e)).take j2) ∧ ys'.length = ys.length + j2) ⟨⟨_, rfl⟩, Sb, by rw [List.take_zero, List.append_nil]; exact ob, rfl⟩ (fun _ _ _ _ _ _ => True.intro) ?_ ?_
      · rintro j2 x ys2 σ2 Hd He hj2 ⟨⟨x7', rfl⟩, Sd, od2, ld⟩ ⟨rfl, rfl⟩
        refine ⟨by rw [sizeLine_eq]; omega, _, rfl, _, rfl, by rw [sizeLine_eq]; simp, fun T2 hT2 => ?_⟩
        have hq : (turnsOf t i (n, b, e))[j2]? = some (n, (i - b) / t - alv t b e (i % t) + 1 + (j2 : Int)) := by
          unfold turnsOf
          rw [List.getElem?_map, List.getElem?_range (by show j2 < (alv t b e (i % t)).toNat; omega)]
          rfl
        have hL2 : (eachL t i S)[ys2.length]? = some (n, (i - b) / t - alv t b e (i % t) + 1 + (j2 : Int)) := by
          have e5 : eachL t i S = eachL t i (S.take j) ++ (turnsOf t i (n, b, e) ++ eachL t i (S.drop (j + 1))) := by
            unfold eachL
            conv => lhs; rw [← List.take_append_drop (j + 1) S]
            rw [List.flatMap_append, List.take_add_one, e2, List.flatMap_append]
            simp
          have l5 := od2.len
          rw [List.length_append, List.length_take, lT] at l5
          have l6 : j2 < (alv t b e (i % t)).toNat := by omega
          rw [e5, List.getElem?_append_right (by omega), List.getElem?_append_left (by rw [lT]; omega), show ys2.length - (eachL t i (S.take j)).length = j2 by omega]
          exact hq
        refine ⟨⟨T2, n, _, rfl, hL2, upd_same⟩, ⟨_, rfl⟩, Same.trans Sd (Same.new hT2), ?_, by rw [List.length_append, ld]; rfl⟩
        rw [List.take_add_one, hq, ← List.append_assoc]
        exact OutAt.snoc upd_same (od2.keep (KT.same (Same.new hT2)))
      · rintro ys2 σ2 H2 ⟨⟨x7', rfl⟩, Sd, od2, ld⟩
        refine ⟨⟨_, _, _, _, _, _, rfl⟩, Sd, ?_, by omega⟩
        rw [List.take_of_length_le (l := turnsOf t i (n, b, e)) (by rw [lT]; omega)] at od2
        rw [eL]
        exact od2
    · rintro ys σ H' ⟨_, Sa, oa, _⟩
      rw [List.take_of_length_le (by
        have := congrArg List.length h3.names
        rw [List.length_map, List.length_map] at this
        unfold Kvs
        rw [List.length_map]
        omega)] at oa
      exact ⟨Sa _ _ lk, k _ _ (same_lock h2 Sa) oa.len⟩
end
end K38
namespace K38
open PySem L2
open PyProof.Rows PySem.Spec
/-- data whose text is short -/
structure TL (d : PyData) (n : Nat) : Prop where
  sh : d.showable = true
  ls : d.leavesShort 13 = true
  bk : d.bulk ≤ n
  dp : d.depth ≤ 10
structure TLs (k : Nat) (ds : List PyData) (n : Nat) : Prop where
  sh : PyData.showableAll ds = true
  ls : PyData.leavesShortAll 13 ds = true
  bk : PyData.bulkAll ds ≤ n
  dp : PyData.depthAll ds ≤ k
structure TD (k : Nat) (d : PyData) (n : Nat) : Prop where
  sh : d.showable = true
  ls : d.leavesShort 13 = true
  bk : d.bulk ≤ n
  dp : d.depth ≤ k
theorem TLs.nil {k : Nat} : TLs k [] 0 := ⟨by simp [PyData.showableAll], by simp [PyData.leavesShortAll], by simp [PyData.bulkAll], by simp [PyData.depthAll]⟩
theorem TLs.cons {k : Nat} {d : PyData} {ds : List PyData} {a b : Nat} (h : TD k d a) (t : TLs k ds b) : TLs k (d :: ds) (a + 1 + b) := by
  obtain ⟨h1, h2, h3, h4⟩ := h
  obtain ⟨t1, t2, t3, t4⟩ := t
  refine ⟨by simp [PyData.showableAll, h1, t1], by simp [PyData.leavesShortAll, h2, t2], ?_, ?_⟩
  · simp only [PyData.bulkAll]
    omega
  · simp only [PyData.depthAll]
    omega
theorem TD.list {k : Nat} {ds : List PyData} {a : Nat} (t : TLs k ds a) : TD (k + 1) (.list ds) a := by
  obtain ⟨t1, t2, t3, t4⟩ := t
  exact ⟨by simpa [PyData.showable] using t1, by simpa [PyData.leavesShort] using t2, by simpa [PyData.bulk] using t3, by simp only [PyData.depth]; omega⟩
theorem TD.tup {k : Nat} {ds : List PyData} {a : Nat} (t : TLs k ds a) : TD (k + 1) (.tuple ds) a := by
  obtain ⟨t1, t2, t3, t4⟩ := t
  exact ⟨by simpa [PyData.showable] using t1, by simpa [PyData.leavesShort] using t2, by simpa [PyData.bulk] using t3, by simp only [PyData.depth]; omega⟩
theorem TD.up {k : Nat} {d : PyData} {a : Nat} (t : TD k d a) : TD (k + 1) d a := ⟨t.sh, t.ls, t.bk, Nat.le_succ_of_le t.dp⟩
theorem TD.int {i : Int} (h1 : -999999999999 ≤ i) (h2 : i ≤ 999999999999) : TD 0 (.int i) 0 := by
  refine ⟨?_, ?_, by simp [PyData.bulk], by simp [PyData.depth]⟩
  · simp only [PyData.showable, decide_eq_true_eq]
    have : i.natAbs.log2 < 40 := by
      refine PySem.Flt.log2_lt_of (by decide) ?_
      omega
    omega
  · simp only [PyData.leavesShort, decide_eq_true_eq]
    exact PyData.shown_int_le2 h1 h2
theorem TD.name {z : Str} (h : nmC z = true) : TD 0 (.str z) 8 := by
  have nl := nmC_len h
  refine ⟨by simp [PyData.showable], ?_, ?_, by simp [PyData.depth]⟩
  · simp only [PyData.leavesShort, List.all_eq_true, decide_eq_true_eq]
    have ok := nm_ok h
    unfold PyData.strOk at ok
    rw [← Array.all_toList, List.all_eq_true] at ok
    intro c hc
    have := of_decide_eq_true (ok c hc)
    have e : (16 : Nat) ^ 8 = 4294967296 := by decide
    omega
  · simp only [PyData.bulk]
    exact nl.2
theorem TD.span {b e : Int} (h : Near 900000000000 (n, b, e)) (h2 : 1 ≤ e - b) : TD 1 (.tuple [.int b, .int e]) 2 := by
  unfold Near at h
  simp only at h
  exact TD.tup (TLs.cons (TD.int (by omega) (by omega)) (TLs.cons (TD.int (by omega) (by omega)) TLs.nil))
theorem TLs.mapd {α : Type} {k m : Nat} {f : α → PyData} : ∀ {xs : List α}, (∀ x ∈ xs, TD k (f x) m) → TLs k (xs.map f) ((m + 1) * xs.length)
  | [], _ => TLs.nil
  | x :: xs, h => by
    have t := TLs.cons (h x List.mem_cons_self) (TLs.mapd (f := f) (xs := xs) fun y hy => h y (List.mem_cons_of_mem _ hy))
    refine ⟨t.sh, t.ls, Nat.le_trans t.bk ?_, t.dp⟩
    rw [List.length_cons, Nat.mul_add]
    omega
theorem TD.rows {t : Int} {R : Rws} (g : Good t R) : TD 2 (rowsD R) 96 := by
  have key : ∀ R : Rws, (∀ x ∈ R, nmC x.1 = true) → (∀ x ∈ R, SpOk t x) → (∀ x ∈ R, Near 900000000000 x) → PyData.showableKv (R.map rowD) = true ∧ PyData.leavesShortKv 13 (R.map rowD) = true ∧ PyData.bulkKv (R.map rowD) ≤ 12 * R.length ∧ PyData.depthKv (R.map rowD) ≤ 1 := by
    intro R
    induction R with
    | nil => intro _ _ _; exact ⟨by simp [PyData.showableKv], by simp [PyData.leavesShortKv], by simp [PyData.bulkKv], by simp [PyData.depthKv]⟩
    | cons x R ih =>
      intro h1 h2 h3
      obtain ⟨i1, i2, i3, i4⟩ := ih (fun y hy => h1 y (List.mem_cons_of_mem _ hy)) (fun y hy => h2 y (List.mem_cons_of_mem _ hy)) (fun y hy => h3 y (List.mem_cons_of_mem _ hy))
      obtain ⟨n, b0, e0⟩ := x
      have a : TD 0 (.str n) 8 := TD.name (h1 (n, b0, e0) List.mem_cons_self)
      have b : TD 1 (.tuple [.int b0, .int e0]) 2 := TD.span (h3 (n, b0, e0) List.mem_cons_self) (h2 (n, b0, e0) List.mem_cons_self).1
      refine ⟨?_, ?_, ?_, ?_⟩
      · simp only [List.map_cons, rowD, PyData.showableKv, a.sh, b.sh, Bool.true_and]
        exact i1
      · simp only [List.map_cons, rowD, PyData.leavesShortKv, a.ls, b.ls, Bool.true_and]
        exact i2
      · have := a.bk
        have := b.bk
        simp only [List.map_cons, rowD, PyData.bulkKv, List.length_cons]
        omega
      · have := a.dp
        have := b.dp
        simp only [List.map_cons, rowD, PyData.depthKv]
        omega
  obtain ⟨k1, k2, k3, k4⟩ := key R g.nm g.sp g.nr
  have := g.l8
  unfold rowsD
  exact ⟨by simpa [PyData.showable] using k1, by simpa [PyData.leavesShort] using k2, by simp only [PyData.bulk]; omega, by simp only [PyData.depth]; omega⟩
theorem TD.names {ns : List Str} (h : ∀ n ∈ ns, nmC n = true) : TD 1 (.tuple (ns.map PyData.str)) (9 * ns.length) := TD.tup (TLs.mapd fun x hx => TD.name (h x hx))
theorem TD.tell {k n : Nat} {d : PyData} (t : TD k d n) (h1 : n ≤ 1000) (h2 : k ≤ 60) : d.showable = true ∧ d.shown.length ≤ sizeLine ∧ d.depth ≤ 60 :=
  ⟨t.sh, PyData.shown_fits_bulk (by decide) (by decide) t.ls (Nat.le_trans (Nat.le_trans t.bk h1) (by decide)), Nat.le_trans t.dp h2⟩
theorem dss_app1 {K : PySem.W.Frag} {H : Hp} {v : V} {d : PyData} (h : RL.DS K H v d) : ∀ {vs : List V} {ds : List PyData}, RL.DSs K H vs ds → RL.DSs K H (vs ++ [v]) (ds ++ [d])
  | _, _, .nil => .cons h .nil
  | _, _, .cons a t => .cons a (dss_app1 h t)
/-- pairs as data -/
def qD (q : Str × Int) : PyData := .tuple [.str q.1, .int q.2]
def outD (L : List (Str × Int)) : PyData := .list (L.map qD)
theorem out_dss {K : PySem.W.Frag} {H : Hp} : ∀ {xs : List V} {L : List (Str × Int)}, OutAt H xs L → RL.DSs K H xs (L.map qD)
  | _, _, .nil => .nil
  | _, _, .cons ⟨a, e, q⟩ t => .cons (by rw [e]; exact .tup (SqT.of q) (.cons (.str _) (.cons (.int _) .nil))) (out_dss t)
theorem q_dp {K : PySem.W.Frag} {H : Hp} {a : Addr} {q : Str × Int} (h : H a = some (.tup [.str q.1, .int q.2])) : Dp K H (.ref a) (qD q) := .tup (SqT.of h) (.cons (.str _) (.cons (.int _) .nil))
theorem out_dpa {K : PySem.W.Frag} {H : Hp} : ∀ {xs : List V} {L : List (Str × Int)}, OutAt H xs L → DpAll K H xs (L.map qD)
  | _, _, .nil => .nil
  | _, _, .cons ⟨a, e, q⟩ t => .cons (by rw [e]; exact q_dp q) (out_dpa t)
theorem q_lay {q : Str × Int} (h : nmC q.1 = true) : (qD q).canLay0 = true := by
  simp [qD, PyData.canLay0, PyData.canLayAll0, nm_ok h]
theorem outs_lay : ∀ {L : List (Str × Int)}, (∀ q ∈ L, nmC q.1 = true) → PyData.canLayAll0 (L.map qD) = true
  | [], _ => rfl
  | q :: L, h => by
    rw [List.map_cons, PyData.canLayAll0, q_lay (h q List.mem_cons_self), outs_lay fun x hx => h x (List.mem_cons_of_mem _ hx)]
    rfl
theorem outs_dep : ∀ L : List (Str × Int), PyData.depthAll (L.map qD) ≤ 1
  | [] => by simp [PyData.depthAll]
  | q :: L => by
    have := outs_dep L
    simp only [List.map_cons, PyData.depthAll, qD, PyData.depth]
    omega
theorem shaped_out {L : List (Str × Int)} (h : ∀ q ∈ L, nmC q.1 = true) : SeqAt.shaped (outD L) = true := by
  have h1 := outs_lay h
  have h2 := outs_dep L
  unfold SeqAt.shaped outD
  rw [Bool.and_eq_true, decide_eq_true_eq]
  refine ⟨by simpa [PyData.canLay0] using h1, ?_⟩
  simp only [PyData.depth]
  omega
theorem shaped_q {q : Str × Int} (h : nmC q.1 = true) : SeqAt.shaped (qD q) = true := by
  unfold SeqAt.shaped
  rw [Bool.and_eq_true, decide_eq_true_eq]
  refine ⟨q_lay h, ?_⟩
  simp [qD, PyData.depth, PyData.depthAll]
theorem eqv_out {L : List (Str × Int)} (h : ∀ q ∈ L, nmC q.1 = true) : PyData.eqv (outD L) (outD L) = true := by
  have := shaped_out h
  unfold SeqAt.shaped at this
  rw [Bool.and_eq_true] at this
  exact PySem.SeqAt.eqv_refl _ this.1
theorem eqv_q (a b : Str × Int) : PyData.eqv (qD a) (qD b) = decide (a = b) := by
  obtain ⟨n, v⟩ := a
  obtain ⟨m, u⟩ := b
  rw [Bool.eq_iff_iff]
  simp [qD, PyData.eqv, PyData.eqvAll]
theorem any_q (L : List (Str × Int)) (q : Str × Int) : ((L.map qD).any fun z => PyData.eqv z (qD q)) = decide (q ∈ L) := by
  induction L with
  | nil => simp
  | cons a L ih =>
    rw [List.map_cons, List.any_cons, ih, eqv_q, Bool.eq_iff_iff]
    simp only [Bool.or_eq_true, decide_eq_true_eq, List.mem_cons]
    exact or_congr_left eq_comm
theorem TD.out {L : List (Str × Int)} (h : ∀ q ∈ L, nmC q.1 = true) (hv : ∀ q ∈ L, -999999999999 ≤ q.2 ∧ q.2 ≤ 999999999999) : TD 2 (outD L) (11 * L.length) := by
  refine TD.list (TLs.mapd fun q hq => ?_)
  exact TD.tup (TLs.cons (TD.name (h q hq)) (TLs.cons (TD.int (hv q hq).1 (hv q hq).2) TLs.nil))
/-- the lists of all drawn ticks: one a tick, none of them at r -/
def LsAt (H : Hp) (t : Int) (S : Rws) (r : Addr) (as : List Addr) : Prop := (as.length : Int) = 3 * t + 2 ∧ ∀ (j : Nat) a, as[j]? = some a → a ≠ r ∧ ∃ xs, H a = some (.lst xs) ∧ OutAt H xs (eachL t ((j : Int) - t - 1) S)
theorem LsAt.same {H H' : Hp} {t : Int} {S : Rws} {r : Addr} {as : List Addr} (s : Same H H') (h : LsAt H t S r as) : LsAt H' t S r as := ⟨h.1, fun j a e => by
  obtain ⟨n, xs, q, oa⟩ := h.2 j a e
  exact ⟨n, xs, s _ _ q, oa.keep (KT.same s)⟩⟩
theorem LsAt.only {H H' : Hp} {t : Int} {S : Rws} {r : Addr} {as : List Addr} (o : Only r H H') (hr : Rl H r) (h : LsAt H t S r as) : LsAt H' t S r as := ⟨h.1, fun j a e => by
  obtain ⟨n, xs, q, oa⟩ := h.2 j a e
  exact ⟨n, xs, o _ _ n q, oa.keep (KT.only o hr)⟩⟩
theorem each_names {t i : Int} {S : Rws} {q : Str × Int} (h : q ∈ eachL t i S) : q.1 ∈ S.map (·.1) := by
  unfold eachL turnsOf at h
  obtain ⟨r, hr, h2⟩ := List.mem_flatMap.mp h
  obtain ⟨s, _, rfl⟩ := List.mem_map.mp h2
  exact List.mem_map.mpr ⟨r, hr, rfl⟩
theorem each_nm {t i : Int} {S : Rws} (g : Good t S) : ∀ q ∈ eachL t i S, nmC q.1 = true := fun q h => by
  obtain ⟨r, hr, e⟩ := List.mem_map.mp (each_names h)
  rw [← e]
  exact g.nm r hr
theorem each_len {t i : Int} (ht : 0 < t) : ∀ {S : Rws}, (∀ x ∈ S, SpOk t x) → (eachL t i S).length ≤ 8 * S.length
  | [], _ => Nat.le_refl _
  | r :: S, h => by
    have ih := each_len ht (i := i) fun x hx => h x (List.mem_cons_of_mem _ hx)
    have h1 := h r List.mem_cons_self
    unfold SpOk at h1
    have m8 := alv_le (t := t) (b := r.2.1) (e := r.2.2) (s := i % t) ht (by omega)
    have e : eachL t i (r :: S) = turnsOf t i r ++ eachL t i S := by unfold eachL; rw [List.flatMap_cons]
    rw [e, List.length_append, List.length_cons]
    unfold turnsOf
    rw [List.length_map, List.length_range]
    omega
/-- the values of a tick that is so many intervals later -/
theorem each_later {t i m : Int} (ht : 0 < t) : ∀ S : Rws, eachL t (i + m * t) S = (eachL t i S).map fun q => (q.1, q.2 + m)
  | [] => rfl
  | r :: S => by
    have e : ∀ j, eachL t j (r :: S) = turnsOf t j r ++ eachL t j S := fun j => by unfold eachL; rw [List.flatMap_cons]
    rw [e, e, List.map_append, each_later ht S]
    congr 1
    unfold turnsOf
    rw [List.map_map, Int.add_mul_emod_self_right]
    refine List.map_congr_left fun s _ => ?_
    show (_, _) = (_, _)
    have e2 : (i + m * t - r.2.1) / t = (i - r.2.1) / t + m := by
      rw [show i + m * t - r.2.1 = i - r.2.1 + m * t by omega, Int.add_mul_ediv_right _ _ (by omega)]
    rw [e2]
    show _ = (r.1, (i - r.2.1) / t - alv t r.2.1 r.2.2 (i % t) + 1 + (s : Int) + m)
    congr 1
    omega
/-- the turns are small for a drawn tick -/
theorem each_small {t i : Int} (ht : 0 < t) (t6 : t ≤ 32) {S : Rws} (hs : ∀ x ∈ S, SpOk t x) (hn : ∀ x ∈ S, Near 900000000000 x) (hi : -1000 ≤ i ∧ i ≤ 1000) : ∀ q ∈ eachL t i S, -999999999999 ≤ q.2 ∧ q.2 ≤ 999999999999 := fun q h => by
  unfold eachL at h
  obtain ⟨r, hr, h2⟩ := List.mem_flatMap.mp h
  obtain ⟨_, h3, h4⟩ := (mem_turns ht (hs r hr) (n := q.1) (v := q.2)).mp h2
  have g := hn r hr
  unfold Near at g
  have q1 : (i - r.2.1) / t ≤ 900000001000 := Int.ediv_le_of_le_mul ht (by
    have : 900000001000 * 1 ≤ 900000001000 * t := by omega
    omega)
  have q2 : -900000001000 ≤ (i - r.2.2) / t := Int.le_ediv_of_mul_le ht (by
    have : 900000001000 * 1 ≤ 900000001000 * t := by omega
    omega)
  omega
end K38
namespace K38
open PySem L2
open PyProof.Rows PySem.Spec
abbrev NR : List Str := ["tray", "interval", "rows", "spans", "lists", "sizes", "peaks", "turn", "some", "counted", "most", "at", "tick", "both", "due", "far", "later", "values", "slot", "value", "name"]
/-- the n-th statement -/
def nthS : Nat → List Stmt → Stmt
  | _, [] => s_w_right
  | 0, a :: _ => a
  | n + 1, _ :: l => nthS n l
def forB : Stmt → List Stmt
  | .For _ _ b _ _ => b
  | _ => []
/-- what the names stand for behind the first statements -/
def SR (r : Addr) (t : Int) (d p ll : Addr) (σ : L2.St) : Prop := ∃ x5 x6 x7 x8 x9 x10 x11 x12 x13 x14 x15 x16 x17 x18 x19 x20, σ = [some (.ref r), some (.int t), some (.ref d), some (.ref p), some (.ref ll), x5, x6, x7, x8, x9, x10, x11, x12, x13, x14, x15, x16, x17, x18, x19, x20]
section
variable {P : Program} {w : World} {K : PySem.W.Frag}
                                                      {mg : Str → Option Value} {base : Heap}
abbrev XR (P : Program) (w : World) (K : PySem.W.Frag) (mg : Str → Option Value) (base : Heap) (f : Addr) (cdv : Value) (A : Around) (outer : List Env) (s : Shared) (H : Hp) (E : XK) : Cx := (cxOf CX0 P w K mg base NR "_law_right" (defScope s_w_right) f cdv A outer s H E).nox
theorem tls_out {H H' : Hp} {m : Int} (kt : KT H H') : ∀ {xs : List V} {L : List (Str × Int)}, GC2.Tls H m xs L → OutAt H' xs (L.map fun q => (q.1, q.2 + m))
  | _, _, .nil => .nil
  | _, _, .cons ⟨a, e, q⟩ t => .cons ⟨a, e, kt _ _ q⟩ (tls_out kt t)
theorem passF {X : Cx} : Passes (CX X.prog X.w) X GC2.noE := fun pins σ H s e s' I h => by
  obtain ⟨a, B, H', cls, d, _, _, _, _, _, _, _, hW⟩ := h
  exact False.elim hW
theorem noStopF : NoStop K GC2.noE := fun cls d H h => False.elim h
theorem loopC (T : T K mg) (U : UX K mg) {cdv : Value} {A : Around} {outer : List Env} {s : Shared} {H0 : Hp} {E : XK} (hg : A.guards = some []) (hr : Room 12 (A.deeper (PyProof.Rows.envOfC "_law_right" (defScope s_w_right) s.heap.objs.size T.f_w_right cdv))) :
    ∃ t, PS (XR P w K mg base T.f_w_right cdv A outer s H0 E) (nthS 8 (defBody s_w_right)) t ∧ ∀ (D : Ends) (σ : L2.St) (H : Hp) (r : Addr) (tt : Int) (d p ll : Addr) (S : Rws) (as : List Addr), SR r tt d p ll σ → SpAt H U.C p tt S r → H ll = some (.lst (as.map V.ref)) → LsAt H tt S r as → tt ≤ 32 →
      (∀ σ' H', SR r tt d p ll σ' → Same H H' → D.nx σ' H') → t D σ H := by
  have hu := hu_of hr
  have hgd : (XR P w K mg base T.f_w_right cdv A outer s H0 E).A.guards = some [] := hg
  have G := ok_each (P := P) (w := w) (base := base) T U
  have G2 := ok_each2 (P := P) (w := w) (base := base) T U
  refine ⟨_, (ps_for PassesOwn.never rfl (pi_range1 (by rfl) T.z_range (pa_cons (pe_callB call_len (by rfl) T.z_len (by decide +kernel) (pa_cons (pv 4) pa_nil)) pa_nil)) (pg_name (i := 11) sc_w_right.nd rfl (Or.inr rfl))
      (pss_cons (ps_set (i := 12) sc_w_right.nd rfl (Or.inl rfl) (pe_op op_sub (pe_op op_sub (pv 11) (pv 1)) pe_int))
      (pss_cons (ps_if (pt_cmpR op_ne (pe_callB (RL.cr_reprD hgd (un64 hr)) (by rfl) T.z_repr (by decide +kernel) (pa_cons (pe_listG (pgen_meth (E := GC2.noE) (pv 3) U.cl U.me.m G (hr.mono (by decide)) U.me.b .nil (pa_cons (pv 12) pa_nil)) passF noStopF (hr.mono (by decide)) (by rfl) T.z_list (by decide +kernel)) pa_nil)) (pe_callB (RL.cr_reprD hgd (un64 hr)) (by rfl) T.z_repr (by decide +kernel) (pa_cons (pe_ix (r := rIx K) ix_seq (pv 4) (pv 11) (fun _ _ => rfl)) pa_nil)) (nomark _))
      (pss_one (ps_ret pe_bl))
      pss_nil)
      (pss_cons (GC2.ps_setLcGen (i := 16) (own := [("name", 20), ("turn", 7)]) rfl sc_w_right.nd rfl rfl (sw_true rfl rfl rfl (by decide +kernel)) (GC2.pg2_meth (pv 3) U.cl U.me.m G2 (hr.mono (by decide)) U.me.b (pa_cons (pv 12) pa_nil)) (hr.mono (by decide)) (blkOk_by (N := NR) (sc := defScope s_w_right) (by decide +kernel)) rfl rfl (by decide) (by decide) (by decide))
      (pss_one (ps_if (pt_cmpR (op_neD (un64 hr)) (pe_listG (pgen_meth (E := GC2.noE) (pv 3) U.cl U.me.m G (hr.mono (by decide)) U.me.b .nil (pa_cons (pe_op op_add (pv 12) (pe_op op_mul pe_int (pv 1))) pa_nil)) passF noStopF (hr.mono (by decide)) (by rfl) T.z_list (by decide +kernel)) (pv 16) (nomark _))
      (pss_one (ps_ret pe_bl))
      pss_nil)))))), ?_⟩
  rintro D σ H r tt d p ll S as ⟨x5, x6, x7, x8, x9, x10, x11, x12, x13, x14, x15, x16, x17, x18, x19, x20, rfl⟩ sp hll ls t32 k
  obtain ⟨g, so', dx, rd, nm, lv, cr, L0, LL, LC, h1, _⟩ := id sp
  have g1 := g.t1
  refine ⟨_, rfl, _, _, rfl, .inl ⟨_, SqL.of hll, rfl⟩, _, rfl, by rw [List.length_map]; omega, by rw [List.length_map]; have := ls.1; omega, ?_⟩
  refine for_range (n := (((as.map V.ref).length : Nat) : Int).toNat) (fun j σ' H' => SR r tt d p ll σ' ∧ Same H H') ⟨⟨_, _, _, _, _, _, _, _, _, _, _, _, _, _, _, _, rfl⟩, Same.refl _⟩ ?_ ?_
  · rintro j σ' Ha hj ⟨⟨y5, y6, y7, y8, y9, y10, y11, y12, y13, y14, y15, y16, y17, y18, y19, y20, rfl⟩, Sa⟩
    have hj : j < as.length := by simpa using hj
    have l3 := ls.1
    rw [Int.zero_add]
    have sa := sp.same Sa
    have hlla := Sa _ _ hll
    have h1a := Sa _ _ h1
    have lsa := ls.same Sa
    obtain ⟨a, ea⟩ : ∃ a, as[j]? = some a := ⟨_, List.getElem?_eq_getElem hj⟩
    obtain ⟨_, xs, ha, oa⟩ := lsa.2 j a ea
    have nmS := each_nm (t := tt) (i := (j : Int) - tt - 1) g
    have smS := each_small (t := tt) (i := (j : Int) - tt - 1) (by omega) t32 g.sp g.nr ⟨by omega, by omega⟩
    have lnS := each_len (t := tt) (i := (j : Int) - tt - 1) (by omega) g.sp
    have td := (TD.out nmS smS).tell (Nat.le_trans (Nat.mul_le_mul_left 11 lnS) (by have := g.l8; omega)) (by decide)
    refine ⟨_, rfl, _, rfl, _, _, rfl, rfl, _, _, rfl, rfl, ?_⟩
    -- the values, as told
    refine ⟨_, rfl, p, dx, _, rfl, h1a, rfl, _, rfl, ?_⟩
    refine ⟨p, tt, (j : Int) - tt - 1, S, r, rfl, sa, ⟨by omega, by omega⟩, fun ys Hb Sb ob => fun q hq => ?_⟩
    have A1 := Same.new (o := .lst ys) hq
    have Sc := Same.trans Sb A1
    have eq1 : (upd Hb q (.lst ys)) q = some (.lst ys) := upd_same
    have ob1 := ob.keep (KT.same A1)
    generalize upd Hb q (.lst ys) = Hc at A1 Sc eq1 ob1 ⊢
    refine ⟨q, _, rfl, .lst (SqL.of eq1) (out_dss ob1), td.1, td.2.1, td.2.2, ?_⟩
    refine ⟨_, rfl, _, rfl, .inl ⟨ll, _, _, .ref a, rfl, rfl, SqL.of (Sc _ _ hlla), atI_nat (by rw [List.getElem?_map, ea]; rfl), ?_⟩⟩
    refine ⟨a, _, rfl, .lst (SqL.of (Sc _ _ ha)) (out_dss (oa.keep (KT.same Sc))), td.1, td.2.1, td.2.2, ?_⟩
    refine ⟨rfl, _, rfl, ?_⟩
    rw [decide_eq_true rfl]
    refine iteF ?_
    clear eq1 ob1 A1 ob hq
    -- the later ones
    refine ⟨eachL tt ((j : Int) - tt - 1) S, _, rfl, p, dx, _, rfl, Sc _ _ h1a, rfl, _, rfl, ?_⟩
    refine ⟨p, tt, (j : Int) - tt - 1, S, r, rfl, sa.same Sc, ⟨by omega, by omega⟩, rfl, fun out Hd Sd lo => fun D0 zs He Se hD eD tl => ?_⟩
    have Sf := Same.trans Sc (Same.trans Sd Se)
    rw [lo, List.take_length] at tl
    refine ⟨_, rfl, p, dx, _, rfl, Sf _ _ h1a, rfl, _, rfl, _, rfl, _, _, rfl, rfl, .inl ⟨by decide, by decide⟩, _, _, rfl, rfl, ?_⟩
    refine ⟨p, tt, (j : Int) - tt - 1 + 1000 * tt, S, r, rfl, sa.same Sf, ⟨by omega, by omega⟩, fun us Hg Sg og => fun q2 hq2 => ?_⟩
    rw [each_later (by omega)] at og
    have A2 := Same.new (o := .lst us) hq2
    have nm2 : ∀ q ∈ (eachL tt ((j : Int) - tt - 1) S).map (fun q => (q.1, q.2 + 1000)), nmC q.1 = true := fun q hq => by
      obtain ⟨q0, h0, rfl⟩ := List.mem_map.mp hq
      exact nmS q0 h0
    have tl2 : OutAt (upd Hg q2 (.lst us)) zs ((eachL tt ((j : Int) - tt - 1) S).map fun q => (q.1, q.2 + 1000)) := tls_out (KT.same (Same.trans Sg A2)) tl
    refine ⟨_, rfl, _, _, .lst (SqL.of upd_same) (out_dpa (og.keep (KT.same A2))), .lst (SqL.of (A2 _ _ (Sg _ _ eD))) (out_dpa tl2), shaped_out nm2, shaped_out nm2, _, rfl, ?_⟩
    rw [show PyData.eqv (.list (((eachL tt ((j : Int) - tt - 1) S).map fun q => (q.1, q.2 + 1000)).map qD)) (.list (((eachL tt ((j : Int) - tt - 1) S).map fun q => (q.1, q.2 + 1000)).map qD)) = true from eqv_out nm2]
    refine iteF ?_
    exact ⟨⟨_, _, _, _, _, _, _, _, _, _, _, _, _, _, _, _, rfl⟩, Same.trans Sa (Same.trans Sf (Same.trans Sg A2))⟩
  · rintro σ' Ha ⟨sr, Sa⟩
    exact k _ _ sr Sa
end
end K38
namespace K38
open PySem L2
open PyProof.Rows PySem.Spec
/-- sorted names, each once, are what a set of them sorted gives -/
theorem srt_self {S : Rws} (nd : (S.map (·.1)).Nodup) (so : sortedS (S.map (·.1)) = true) : KS.Srt (S.map (·.1)) (S.map (·.1)) := by
  refine ⟨?_, fun z => Iff.rfl⟩
  have pw := sortedS_pw so
  refine (List.pairwise_and_iff.mpr ⟨pw, nd⟩).imp fun {a b} h => ?_
  obtain ⟨h1, h2⟩ := h
  rw [ltCps_eq, decide_eq_false_iff_not] at h1
  exact Std.lt_of_le_of_ne (List.not_lt.mp h1) fun e => h2 (str_ext e)
def cntd (S : Rws) (ns : List Str) : List Str := if ns = [] then S.map (·.1) else ns
theorem cntd_srt {S : Rws} (nd : (S.map (·.1)).Nodup) (so : sortedS (S.map (·.1)) = true) {ns zs : List Str} (h : KS.Srt ns zs) : KS.Srt (cntd S ns) (chs S ns zs) := by
  unfold cntd chs
  split
  · exact srt_self nd so
  · exact h
theorem cntd_in {S : Rws} {ns : List Str} (h : ∀ n ∈ ns, n ∈ S.map (·.1)) : ∀ n ∈ cntd S ns, n ∈ S.map (·.1) := fun n hn => by
  unfold cntd at hn
  split at hn
  · exact hn
  · exact h n hn
theorem of_cnt0 {t i : Int} (ht : 0 < t) {S : Rws} (g : Good t S) (so : sortedS (S.map (·.1)) = true) {ns zs : List Str} (h : KS.Srt ns zs) (hn : ∀ n ∈ ns, n ∈ S.map (·.1)) : (ofL (eachL t i S) (cntd S ns) : Int) = cnt S t 0 (chs S ns zs) (i % t) := by
  have sr := cntd_srt g.nd so h
  rw [ofL_each ht g.sp]
  exact cnt_filter g.nd sr (srt_nd sr) (cntd_in hn)
/-- the values of an instant that were there one tick before -/
def bothL (t i : Int) (S : Rws) : List (Str × Int) := (eachL t i S).filter fun q => decide (q ∈ eachL t (i - 1) S)
theorem of_cnt1 {t i : Int} (ht : 0 < t) {S : Rws} (g : Good t S) (so : sortedS (S.map (·.1)) = true) {ns zs : List Str} (h : KS.Srt ns zs) (hn : ∀ n ∈ ns, n ∈ S.map (·.1)) : (ofL (bothL t i S) (cntd S ns) : Int) = cnt S t 1 (chs S ns zs) (i % t) := by
  have sr := cntd_srt g.nd so h
  unfold bothL
  rw [ofL_both ht g.sp g.nd fun x hx => hx]
  exact cnt1_filter g.nd sr (srt_nd sr) (cntd_in hn)
theorem far_bd {t f : Int} (h1 : 1 ≤ t) (h6 : t ≤ 6) (f1 : -1000000000 ≤ f) (f2 : f ≤ 1000000000) : -6000000000 ≤ t * f ∧ t * f ≤ 6000000000 := by
  have : t = 1 ∨ t = 2 ∨ t = 3 ∨ t = 4 ∨ t = 5 ∨ t = 6 := by omega
  rcases this with rfl | rfl | rfl | rfl | rfl | rfl <;> omega
theorem TD.bool {b : Bool} : TD 0 (.bool b) 0 := ⟨by simp [PyData.showable], by cases b <;> decide +kernel, by simp [PyData.bulk], by simp [PyData.depth]⟩
/-- what is due of a tick, as data -/
def dueD (a b : Nat) (m : Int) : PyData := .list [.int a, .int b, .bool (decide (V.int b = V.int m))]
theorem dueD_td {a b : Nat} {m : Int} (h1 : a ≤ 1000) (h2 : b ≤ 1000) : TD 1 (dueD a b m) (0 + 1 + (0 + 1 + (0 + 1 + 0))) := TD.list (TLs.cons (TD.int (by omega) (by omega)) (TLs.cons (TD.int (by omega) (by omega)) (TLs.cons TD.bool TLs.nil)))
theorem due_ds {K : PySem.W.Frag} {H : Hp} {q : Addr} {a b : Nat} {m : Int} (h : H q = some (.lst [.int a, .int b, .bl (decide (V.int b = V.int m))])) : RL.DS K H (.ref q) (dueD a b m) := .lst (SqL.of h) (.cons (.int _) (.cons (.int _) (.cons (.bl _) .nil)))
theorem un65 {k : Nat} {A : Around} (r : Room k A) : A.units + 65 < cLine := by
  have := r.un
  omega
def SR2 (r : Addr) (t : Int) (d p ll so co : Addr) (m : Int) (σ : L2.St) : Prop := ∃ x5 x6 x7 x11 x12 x13 x14 x15 x16 x17 x18 x19 x20, σ = [some (.ref r), some (.int t), some (.ref d), some (.ref p), some (.ref ll), x5, x6, x7, some (.ref so), some (.ref co), some (.int m), x11, x12, x13, x14, x15, x16, x17, x18, x19, x20]
section
variable {P : Program} {w : World} {K : PySem.W.Frag}
                                                      {mg : Str → Option Value} {base : Heap}
theorem loopA (T : T K mg) (U : UX K mg) {cdv : Value} {A : Around} {outer : List Env} {s : Shared} {H0 : Hp} {E : XK} (hg : A.guards = some []) (hr : Room 12 (A.deeper (PyProof.Rows.envOfC "_law_right" (defScope s_w_right) s.heap.objs.size T.f_w_right cdv))) :
    ∃ t, PS (XR P w K mg base T.f_w_right cdv A outer s H0 E) (nthS 5 (forB (nthS 7 (defBody s_w_right)))) t ∧ ∀ (D : Ends) (σ : L2.St) (H : Hp) (r : Addr) (tt : Int) (d p ll so co : Addr) (m : Int) (S : Rws) (as : List Addr) (ns : List Str), SR2 r tt d p ll so co m σ → Rl H r → SpAt H U.C p tt S r → H ll = some (.lst (as.map V.ref)) → ll ≠ r → LsAt H tt S r as → tt ≤ 6 →
      H so = some (.lst (ns.map V.str)) → so ≠ r → ns.length ≤ 3 → (∀ n ∈ ns, n ∈ S.map (·.1)) → H co = some (.lst ((cntd S ns).map V.str)) → co ≠ r → (∀ zs, KS.Srt ns zs → Mst S tt (chs S ns zs) m) →
      (∀ σ' H', SR2 r tt d p ll so co m σ' → Rl H' r → Only r H H' → D.nx σ' H') → t D σ H := by
  have hu := hu_of hr
  have hgd : (XR P w K mg base T.f_w_right cdv A outer s H0 E).A.guards = some [] := hg
  have G_w_of : FnOk P w K mg base CX0 1 T.f_w_of T.d_w_of ["values", "names"] (sp_w_of K) := ok_w_of T
  have G_w_pick : FnOk P w K mg base CX0 2 T.f_w_pick T.d_w_pick ["tray", "items"] (sp_w_pick K) := ok_w_pick T
  have G_w_told : FnOk P w K mg base CX0 7 T.f_w_told T.d_w_told ["spans", "tick", "some"] (sp_w_told K U.C) := ok_w_told T U
  have hr_w_of : Room 1 _ := hr.mono (by decide)
  have hr_w_pick : Room 2 _ := hr.mono (by decide)
  have hr_w_told : Room 7 _ := hr.mono (by decide)
  refine ⟨_, (ps_for PassesOwn.never rfl (pi_range2 (by rfl) T.z_range (pa_cons pe_int (pa_cons (pe_callB call_len (by rfl) T.z_len (by decide +kernel) (pa_cons (pv 4) pa_nil)) pa_nil))) (pg_name (i := 11) sc_w_right.nd rfl (Or.inr rfl))
      (pss_cons (ps_par (i := 12) (j := 13) (by rfl) sc_w_right.nd rfl rfl (by decide) rfl rfl (pa_cons (pe_op op_sub (pe_op op_sub (pv 11) (pv 1)) pe_int) (pa_cons (pe_lc (own := [("value", 19)]) (g := gName 19) rfl sc_w_right.nd (pi_list (pe_ix (r := rIx K) ix_seq (pv 4) (pv 11) (fun _ _ => rfl))) (blkOk_by (N := NR) (sc := defScope s_w_right) (by decide +kernel)) (fun _ _ _ _ _ => (pg_name (i := 19) sc_w_right.nd rfl (Or.inl rfl))) (fun _ _ _ _ _ => pts_one (pt_cmpR (r := rInD K) (op_inD (un65 hr)) (pv 19) (pe_ix (r := rIx K) ix_seq (pv 4) (pe_op op_sub (pv 11) pe_int) (fun _ _ => rfl)) (by with_unfolding_all rfl))) (fun _ _ _ _ _ => (pv 19))) pa_nil)) (by rfl))
      (pss_cons (ps_set (i := 14) sc_w_right.nd rfl (Or.inl rfl) (pe_lst (pa_cons (pe_call G_w_of hr_w_of rfl T.m_w_of T.F_w_of.kp T.b_w_of .nil pass0 (pa_cons (pe_ix (r := rIx K) ix_seq (pv 4) (pv 11) (fun _ _ => rfl)) (pa_cons (pv 9) pa_nil))) (pa_cons (pe_call G_w_of hr_w_of rfl T.m_w_of T.F_w_of.kp T.b_w_of .nil pass0 (pa_cons (pv 13) (pa_cons (pv 9) pa_nil))) (pa_cons (pe_cmpR op_eq (pe_call G_w_of hr_w_of rfl T.m_w_of T.F_w_of.kp T.b_w_of .nil pass0 (pa_cons (pv 13) (pa_cons (pv 9) pa_nil))) (pv 10) (nomark _)) pa_nil)))))
      (pss_cons (ps_set (i := 15) sc_w_right.nd rfl (Or.inl rfl) (pe_op op_add (pv 12) (pe_op op_mul (pv 1) (pe_call G_w_pick hr_w_pick rfl T.m_w_pick T.F_w_pick.kp T.b_w_pick .nil pass0 (pa_cons (pv 0) (pa_cons (pe_lst (pa_cons (pe_op op_pow pe_int pe_int) (pa_cons (pe_un un_neg (pe_op op_pow pe_int pe_int)) (pa_cons pe_int (pa_cons pe_int pa_nil))))) pa_nil))))))
      (pss_one (ps_if (pt_cmpR op_ne (pe_callB (RL.cr_reprD hgd (un64 hr)) (by rfl) T.z_repr (by decide +kernel) (pa_cons (pe_lst (pa_cons (pe_call G_w_told hr_w_told rfl T.m_w_told T.F_w_told.kp T.b_w_told .nil pass0 (pa_cons (pv 3) (pa_cons (pv 12) (pa_cons (pv 8) pa_nil)))) (pa_cons (pe_call G_w_told hr_w_told rfl T.m_w_told T.F_w_told.kp T.b_w_told .nil pass0 (pa_cons (pv 3) (pa_cons (pv 15) (pa_cons (pv 8) pa_nil)))) pa_nil))) pa_nil)) (pe_callB (RL.cr_reprD hgd (un64 hr)) (by rfl) T.z_repr (by decide +kernel) (pa_cons (pe_lst (pa_cons (pv 14) (pa_cons (pv 14) pa_nil))) pa_nil)) (nomark _))
      (pss_one (ps_ret pe_bl))
      pss_nil)))))), ?_⟩
  rintro D σ H r tt d p ll so co m S as ns ⟨x5, x6, x7, x11, x12, x13, x14, x15, x16, x17, x18, x19, x20, rfl⟩ R0 sp hll nll ls t6 hso nso l3 hns hco nco hm k
  obtain ⟨g, so', dx, rd, nm, lv, cr, L0, LL, LC, h1, _⟩ := id sp
  have g1 := g.t1
  have l3' := ls.1
  have lm : (as.map V.ref).length = as.length := List.length_map ..
  refine ⟨_, rfl, _, _, rfl, .inl ⟨_, SqL.of hll, rfl⟩, _, _, rfl, ⟨by decide, by decide, by omega, by omega⟩, ?_⟩
  refine for_range (n := (((as.map V.ref).length : Int) - 1).toNat) (fun j σ' H' => SR2 r tt d p ll so co m σ' ∧ Rl H' r ∧ Only r H H') ⟨⟨_, _, _, _, _, _, _, _, _, _, _, _, _, rfl⟩, R0, Only.refl⟩ ?_ ?_
  · rintro j σ' Ha hj ⟨⟨y5, y6, y7, y11, y12, y13, y14, y15, y16, y17, y18, y19, y20, rfl⟩, Ra, Oa⟩
    have hj : j + 1 < as.length := by omega
    have spa := sp.only Oa R0
    have hlla := Oa _ _ nll hll
    have lsa := ls.only Oa R0
    have hsoa := Oa _ _ nso hso
    have hcoa := Oa _ _ nco hco
    rw [show (1 : Int) + (j : Int) = ((j + 1 : Nat) : Int) by omega]
    obtain ⟨a, ea⟩ : ∃ a, as[j + 1]? = some a := ⟨_, List.getElem?_eq_getElem hj⟩
    obtain ⟨b, eb⟩ : ∃ b, as[j]? = some b := ⟨_, List.getElem?_eq_getElem (by omega)⟩
    obtain ⟨nar, xs, ha, oa⟩ := lsa.2 _ a ea
    obtain ⟨nbr, ws, hb, ob⟩ := lsa.2 _ b eb
    have bi : -1000 ≤ ((j + 1 : Nat) : Int) - tt - 1 ∧ ((j + 1 : Nat) : Int) - tt - 1 ≤ 1000 := ⟨by omega, by omega⟩
    rw [show (j : Int) - tt - 1 = ((j + 1 : Nat) : Int) - tt - 1 - 1 by omega] at ob
    have ia : atI (as.map V.ref) ((j + 1 : Nat) : Int) = some (.ref a) := atI_nat (by rw [List.getElem?_map, ea]; rfl)
    have ib : atI (as.map V.ref) (((j + 1 : Nat) : Int) - 1) = some (.ref b) := by
      rw [show ((j + 1 : Nat) : Int) - 1 = (j : Int) by omega]
      exact atI_nat (by rw [List.getElem?_map, eb]; rfl)
    obtain ⟨i, hI⟩ : ∃ i, i = ((j + 1 : Nat) : Int) - tt - 1 := ⟨_, rfl⟩
    rw [← hI] at oa ob bi
    have ln := each_len (t := tt) (i := i) (by omega) g.sp
    have nmS := each_nm (t := tt) (i := i) g
    have g8 := g.l8
    have lx := oa.len
    refine ⟨_, rfl, _, rfl, _, _, rfl, rfl, _, _, rfl, rfl, ?_⟩
    refine ⟨_, rfl, _, rfl, .inl ⟨ll, _, _, .ref a, rfl, rfl, SqL.of hlla, ia, a, rfl, ⟨_, SqL.of ha⟩, fun D0 hD0 => ?_⟩⟩
    refine lc_it (walk_list (K := K) (a := a) (xs := xs)) (fun j2 H' => Same Ha H' ∧ ∃ ys, H' D0 = some (.lst ys) ∧ OutAt H' ys (((eachL tt i S).take j2).filter fun q => decide (q ∈ eachL tt (i - 1) S))) ⟨Same.new hD0, [], upd_same, .nil⟩ (fun j2 H' _ h => SqL.of (h.1 _ _ ha)) ?_ ?_
    · rintro j2 x Hb Hc hj2 ⟨Sb, ys, eD, oy⟩ ⟨rfl, hx⟩
      obtain ⟨n, v, q, rfl, eq, hq⟩ := oa.at j2 hx
      have nq := nmS _ (List.mem_of_getElem? eq)
      have ly := oy.len
      have lf := List.length_filter_le (fun q => decide (q ∈ eachL tt (i - 1) S)) ((eachL tt i S).take j2)
      rw [List.length_take] at lf
      refine ⟨rfl, ?_⟩
      refine ⟨_, rfl, _, rfl, _, rfl, _, _, rfl, rfl, .inl ⟨ll, _, _, .ref b, rfl, rfl, SqL.of (Sb _ _ hlla), ib, qD (n, v), _, q_dp (q := (n, v)) (Sb _ _ hq), .lst (SqL.of (Sb _ _ hb)) (out_dpa (ob.keep (KT.same Sb))), shaped_q nq, shaped_out (each_nm g), _, rfl, ?_⟩⟩
      rw [any_q]
      by_cases hc : (n, v) ∈ eachL tt (i - 1) S
      · rw [decide_eq_true hc]
        refine iteT ⟨_, rfl, ys, eD, by rw [sizeLine_eq]; omega, Same.at hD0 Sb, _, upd_same, ?_⟩
        rw [List.take_add_one, eq, List.filter_append]
        have e9 : (some (n, v)).toList.filter (fun q => decide (q ∈ eachL tt (i - 1) S)) = [(n, v)] := by simp [hc]
        rw [e9]
        have kt : KT _ (upd _ D0 (.lst (ys ++ [V.ref q]))) := KT.put eD (fun _ z => by cases z)
        exact OutAt.snoc (kt _ _ (Sb _ _ hq)) (oy.keep kt)
      · rw [decide_eq_false hc]
        refine iteF ⟨Sb, ys, eD, ?_⟩
        rw [List.take_add_one, eq, List.filter_append]
        have e9 : (some (n, v)).toList.filter (fun q => decide (q ∈ eachL tt (i - 1) S)) = [] := by simp [hc]
        rw [e9, List.append_nil]
        exact oy
    rintro Hb ⟨Sb, ys, eD, oy⟩
    rw [List.take_of_length_le (by omega)] at oy
    have oy : OutAt Hb ys (bothL tt i S) := oy
    have lB : (bothL tt i S).length ≤ 64 := Nat.le_trans (List.length_filter_le _ _) (by omega)
    refine ⟨_, _, rfl, ?_⟩
    -- due
    refine ⟨_, rfl, _, rfl, .inl ⟨ll, _, _, .ref a, rfl, rfl, SqL.of (Sb _ _ hlla), ia, _, rfl, ?_⟩⟩
    refine ⟨a, co, xs, _, _, rfl, Sb _ _ ha, oa.keep (KT.same Sb), by omega, Sb _ _ hcoa, fun Hc Sc => ?_⟩
    refine ⟨_, rfl, _, rfl, D0, co, ys, _, _, rfl, Sc _ _ eD, oy.keep (KT.same Sc), by omega, Sc _ _ (Sb _ _ hcoa), fun Hd Sd => ?_⟩
    have Scd := Same.trans Sc Sd
    refine ⟨_, rfl, _, rfl, D0, co, ys, _, _, rfl, Scd _ _ eD, oy.keep (KT.same Scd), by omega, Scd _ _ (Sb _ _ hcoa), fun He Se => ?_⟩
    refine ⟨_, rfl, rfl, by rw [sizeLine_eq]; simp, fun du hdu => ?_⟩
    have Sf : Same Ha (upd He du (.lst [.int (ofL (eachL tt i S) (cntd S ns)), .int (ofL (bothL tt i S) (cntd S ns)), .bl (decide (V.int (ofL (bothL tt i S) (cntd S ns)) = V.int m))])) := Same.trans Sb (Same.trans Scd (Same.trans Se (Same.new hdu)))
    have edu : (upd He du (.lst [.int (ofL (eachL tt i S) (cntd S ns)), .int (ofL (bothL tt i S) (cntd S ns)), .bl (decide (V.int (ofL (bothL tt i S) (cntd S ns)) = V.int m))])) du = some (.lst [.int (ofL (eachL tt i S) (cntd S ns)), .int (ofL (bothL tt i S) (cntd S ns)), .bl (decide (V.int (ofL (bothL tt i S) (cntd S ns)) = V.int m))]) := upd_same
    generalize upd He du (.lst [.int (ofL (eachL tt i S) (cntd S ns)), .int (ofL (bothL tt i S) (cntd S ns)), .bl (decide (V.int (ofL (bothL tt i S) (cntd S ns)) = V.int m))]) = Hf at Sf edu ⊢
    have hdu0 : Ha du = none := by
      cases z : Ha du with
      | none => rfl
      | some v => rw [Se _ _ (Sd _ _ (Sc _ _ (Sb _ _ z)))] at hdu; cases hdu
    have Rf := Same.rl Sf Ra
    have ndu : du ≠ r := fun z => by
      obtain ⟨_, _, _, e⟩ := Ra
      rw [z, e] at hdu0
      cases hdu0
    clear eD oy Sb Sc Sd Se Scd hdu hD0
    -- far
    refine ⟨_, rfl, _, rfl, _, rfl, _, _, rfl, rfl, ⟨by decide, by decide, by decide⟩, _, _, rfl, rfl, ⟨by decide, by decide, by decide⟩, _, rfl, by show 4 ≤ sizeLine; decide, fun l1 hl1 => ?_⟩
    have A1 := Same.new (o := .lst [V.int (10 ^ Int.toNat 9), .int (-(10 ^ Int.toNat 9)), .int 1, .int 77]) hl1
    have e1 : (upd Hf l1 (.lst [V.int (10 ^ Int.toNat 9), .int (-(10 ^ Int.toNat 9)), .int 1, .int 77])) l1 = some (.lst [V.int (10 ^ Int.toNat 9), .int (-(10 ^ Int.toNat 9)), .int 1, .int 77]) := upd_same
    have Rg := Same.rl A1 Rf
    have n1 : l1 ≠ r := fun z => by
      obtain ⟨_, _, _, e⟩ := Rf
      rw [z, e] at hl1
      cases hl1
    generalize upd Hf l1 (.lst [V.int (10 ^ Int.toNat 9), .int (-(10 ^ Int.toNat 9)), .int 1, .int 77]) = Hg at A1 e1 Rg ⊢
    refine ⟨r, .ref l1, _, rfl, Rg, .inl ⟨l1, rfl, n1, .inl (SqL.of e1)⟩, by decide, by show 4 ≤ sizeLine; decide, fun v Hh hv Rh Oh => ?_⟩
    obtain ⟨f, rfl, f1, f2⟩ : ∃ f, v = .int f ∧ -1000000000 ≤ f ∧ f ≤ 1000000000 := by
      simp only [List.mem_cons, List.not_mem_nil, or_false] at hv
      rcases hv with rfl | rfl | rfl | rfl <;> exact ⟨_, rfl, by decide, by decide⟩
    have Oah : Only r Ha Hh := Only.trans (Same.only (Same.trans Sf A1)) Oh
    have sph := spa.only Oah Ra
    have hsoh := Oah _ _ nso hsoa
    have eduh := Oh _ _ ndu (A1 _ _ edu)
    clear e1 hv A1 Rg n1 hl1 edu Oh
    refine ⟨_, _, rfl, rfl, .inl ⟨by omega, by omega⟩, _, _, rfl, rfl, ?_⟩
    subst hI
    -- told twice
    obtain ⟨fb1, fb2⟩ := far_bd g1 t6 f1 f2
    refine ⟨_, rfl, _, rfl, _, rfl, p, so, tt, ((j + 1 : Nat) : Int) - tt - 1, S, r, ns, rfl, sph, hsoh, l3, hns, ⟨by omega, by omega⟩, fun u1 zs m1 Hj Sj hu1 eu1 sr1 ms1 => ?_⟩
    refine ⟨_, rfl, _, rfl, _, rfl, p, so, tt, ((j + 1 : Nat) : Int) - tt - 1 + tt * f, S, r, ns, rfl, sph.same Sj, Sj _ _ hsoh, l3, hns, ⟨by omega, by omega⟩, fun u2 zs2 m2 Hk Sk hu2 eu2 sr2 ms2 => ?_⟩
    obtain rfl := sr2.eq sr1
    obtain rfl := (hm _ sr1).eq ms1
    obtain rfl := ms2.eq ms1
    have tl : ∀ i', i' % tt = (((j + 1 : Nat) : Int) - tt - 1) % tt → tolds S tt i' ns zs2 m2 = [.int (ofL (eachL tt (((j + 1 : Nat) : Int) - tt - 1) S) (cntd S ns)), .int (ofL (bothL tt (((j + 1 : Nat) : Int) - tt - 1) S) (cntd S ns)), .bl (decide (V.int (ofL (bothL tt (((j + 1 : Nat) : Int) - tt - 1) S) (cntd S ns)) = V.int m2))] := fun i' e => by
      unfold tolds
      rw [e, ← of_cnt0 (by omega) g so' sr1 hns, ← of_cnt1 (by omega) g so' sr1 hns]
      simp only [V.int.injEq]
    rw [tl _ rfl] at eu1
    rw [tl _ (Int.add_mul_emod_self_left ..)] at eu2
    have o1 : ofL (eachL tt (((j + 1 : Nat) : Int) - tt - 1) S) (cntd S ns) ≤ 1000 := Nat.le_trans (List.length_filter_le _ _) (by omega)
    have o2 : ofL (bothL tt (((j + 1 : Nat) : Int) - tt - 1) S) (cntd S ns) ≤ 1000 := Nat.le_trans (List.length_filter_le _ _) (by omega)
    have td := (TD.list (TLs.cons (dueD_td (m := m2) o1 o2) (TLs.cons (dueD_td (m := m2) o1 o2) TLs.nil))).tell (by decide) (by decide)
    refine ⟨by show 2 ≤ sizeLine; decide, fun l2 hl2 => ?_⟩
    have A2 := Same.new (o := .lst [V.ref u1, V.ref u2]) hl2
    refine ⟨l2, _, rfl, .lst (SqL.of upd_same) (.cons (due_ds (A2 _ _ (Sk _ _ eu1))) (.cons (due_ds (A2 _ _ eu2)) .nil)), td.1, td.2.1, td.2.2, ?_⟩
    refine ⟨_, rfl, _, rfl, by show 2 ≤ sizeLine; decide, fun l4 hl4 => ?_⟩
    have A4 := Same.new (o := .lst [V.ref du, V.ref du]) hl4
    have edu4 := A4 _ _ (A2 _ _ (Sk _ _ (Sj _ _ eduh)))
    refine ⟨l4, _, rfl, .lst (SqL.of upd_same) (.cons (due_ds edu4) (.cons (due_ds edu4) .nil)), td.1, td.2.1, td.2.2, ?_⟩
    refine ⟨rfl, _, rfl, ?_⟩
    rw [decide_eq_true rfl]
    refine iteF ?_
    have Sz := Same.trans Sj (Same.trans Sk (Same.trans A2 A4))
    exact ⟨⟨_, _, _, _, _, _, _, _, _, _, _, _, _, rfl⟩, Same.rl Sz Rh, Only.trans Oa (Only.trans Oah (Same.only Sz))⟩
  · rintro σ' Ha ⟨sr, Ra, Oa⟩
    exact k _ _ sr Ra Oa
end
end K38
namespace K38
open PySem L2
open PyProof.Rows PySem.Spec
theorem seq_mid {t u : TS} {D : Ends} {σ : L2.St} {H : Hp} (Mid : L2.St → Hp → Prop) (h2 : ∀ σ' H', Mid σ' H' → u D σ' H') (h1 : ∀ nx' : L2.St → Hp → Prop, (∀ σ' H', Mid σ' H' → nx' σ' H') → t { D with nx := nx' } σ H) : tSeq t u D σ H := h1 (u D) h2
theorem gName_in {i : Nat} {v : V} {σ : L2.St} {H : Hp} {Q : L2.St → Hp → Prop} (h : Q (σ.set i (some v)) H) : gName i v σ H Q := h
theorem max_ex : ∀ l : List Int, l ≠ [] → ∃ m, m ∈ l ∧ ∀ y ∈ l, y ≤ m
  | [], h => absurd rfl h
  | [a], _ => ⟨a, List.mem_singleton.mpr rfl, fun y hy => by rw [List.mem_singleton.mp hy]; exact Int.le_refl _⟩
  | a :: b :: l, _ => by
    obtain ⟨m, hm, h⟩ := max_ex (b :: l) (by simp)
    by_cases c : a ≤ m
    · refine ⟨m, List.mem_cons_of_mem _ hm, fun y hy => ?_⟩
      rcases List.mem_cons.mp hy with e | hy
      · rw [e]; exact c
      · exact h y hy
    · refine ⟨a, List.mem_cons_self, fun y hy => ?_⟩
      rcases List.mem_cons.mp hy with e | hy
      · rw [e]; exact Int.le_refl _
      · have := h y hy
        omega
theorem mst_ex {S : Rws} {t : Int} (ht : 1 ≤ t) (ns : List Str) : ∃ m, Mst S t ns m := by
  obtain ⟨m, h1, h2⟩ := max_ex ((List.range t.toNat).map fun (s : Nat) => cnt S t 0 ns (s : Int)) fun e => by
    have := congrArg List.length e
    rw [List.length_map, List.length_range, List.length_nil] at this
    omega
  exact ⟨m, h1, h2⟩
/-- the counts of all drawn ticks -/
def ofs (S : Rws) (t : Int) (cs : List Str) (k : Nat) : List Int := (List.range k).map fun (j : Nat) => (ofL (eachL t ((j : Int) - t - 1) S) cs : Int)
theorem ofs_mst {S : Rws} {t : Int} (g : Good t S) (so : sortedS (S.map (·.1)) = true) {ns : List Str} (hn : ∀ n ∈ ns, n ∈ S.map (·.1)) {k : Nat} (hk : (k : Int) = 3 * t + 2) {m : Int} (h1 : m ∈ ofs S t (cntd S ns) k) (h2 : ∀ y ∈ ofs S t (cntd S ns) k, y ≤ m) : ∀ zs, KS.Srt ns zs → Mst S t (chs S ns zs) m := fun zs sr => by
  have g1 := g.t1
  obtain ⟨m0, hm0⟩ := mst_ex (S := S) g1 (chs S ns zs)
  have e : ofs S t (cntd S ns) k = ((List.range k).map fun (j : Nat) => (j : Int) - t - 1).map fun i => cnt S t 0 (chs S ns zs) (i % t) := by
    unfold ofs
    rw [List.map_map]
    refine List.map_congr_left fun j _ => ?_
    exact of_cnt0 (by omega) g so sr hn
  rw [e] at h1 h2
  rw [Mst.of (by omega) hm0 (fun s a b => List.mem_map.mpr ⟨(s + t + 1).toNat, List.mem_range.mpr (by omega), by omega⟩) h1 h2]
  exact hm0
theorem ofs_small {S : Rws} {t : Int} (g : Good t S) {cs : List Str} {k : Nat} {m : Int} (h : m ∈ ofs S t cs k) : 0 ≤ m ∧ m ≤ 1000 := by
  have g1 := g.t1
  obtain ⟨j, _, rfl⟩ := List.mem_map.mp h
  have h1 : ofL (eachL t ((j : Int) - t - 1) S) cs ≤ 1000 := Nat.le_trans (List.length_filter_le _ _) (Nat.le_trans (each_len (by omega) g.sp) (by have := g.l8; omega))
  omega
theorem log_small {m : Int} (h : 0 ≤ m ∧ m ≤ 1000) : m.natAbs.log2 < 1920 := Nat.lt_trans (PySem.Flt.log2_lt_of (k := 40) (by decide) (by omega)) (by decide)
theorem mst_nil {S : Rws} {t m : Int} (h : Mst S t [] m) : m = 0 := by
  obtain ⟨s, _, e⟩ := List.mem_map.mp h.1
  rw [← e]
  rfl
theorem cut1 (xs : List V) : cutV xs none (some 1) = xs.take 1 := by
  cases xs with
  | nil => rfl
  | cons x r =>
    unfold cutV
    simp [HT.sIx]
section
variable {P : Program} {w : World} {K : PySem.W.Frag}
                                                      {mg : Str → Option Value} {base : Heap}
theorem loopB (T : T K mg) (U : UX K mg) {cdv : Value} {A : Around} {outer : List Env} {s : Shared} {H0 : Hp} {E : XK} (hg : A.guards = some []) (hr : Room 12 (A.deeper (PyProof.Rows.envOfC "_law_right" (defScope s_w_right) s.heap.objs.size T.f_w_right cdv))) :
    ∃ t, PS (XR P w K mg base T.f_w_right cdv A outer s H0 E) (nthS 7 (defBody s_w_right)) t ∧ ∀ (D : Ends) (σ : L2.St) (H : Hp) (r : Addr) (tt : Int) (d p ll : Addr) (L0 : List (Str × Addr)) (R S : Rws) (as : List Addr), SR r tt d p ll σ → Rl H r → SpAt H U.C p tt S r → H ll = some (.lst (as.map V.ref)) → ll ≠ r → LsAt H tt S r as → tt ≤ 6 →
      H d = some (.dK (Kvs L0)) → Tups H L0 R → Good tt R → Srd R S → (∀ σ' H', SR r tt d p ll σ' → Rl H' r → Only r H H' → D.nx σ' H') → t D σ H := by
  have hu := hu_of hr
  have hgd : (XR P w K mg base T.f_w_right cdv A outer s H0 E).A.guards = some [] := hg
  have G_w_of : FnOk P w K mg base CX0 1 T.f_w_of T.d_w_of ["values", "names"] (sp_w_of K) := ok_w_of T
  have G_w_few : FnOk P w K mg base CX0 2 T.f_w_few T.d_w_few ["tray", "items", "many"] (sp_w_few K) := ok_w_few T
  have G_w_roll : FnOk P w K mg base CX0 1 T.f_w_roll T.d_w_roll ["tray", "total"] (sp_w_roll K) := ok_w_roll T
  have G_w_most : FnOk P w K mg base CX0 5 T.f_w_most T.d_w_most ["spans", "some"] (sp_w_most K U.C) := ok_w_most T U
  have hr_w_of : Room 1 _ := hr.mono (by decide)
  have hr_w_few : Room 2 _ := hr.mono (by decide)
  have hr_w_roll : Room 1 _ := hr.mono (by decide)
  have hr_w_most : Room 5 _ := hr.mono (by decide)
  obtain ⟨tA, hA, qA⟩ := loopA (P := P) (w := w) (base := base) (outer := outer) (H0 := H0) (E := E) T U hg hr
  refine ⟨_, (ps_for PassesOwn.never rfl (pi_range1 (by rfl) T.z_range (pa_cons pe_int pa_nil)) (pg_name (i := 7) sc_w_right.nd rfl (Or.inl rfl))
      (pss_cons (ps_set (i := 8) sc_w_right.nd rfl (Or.inl rfl) (pe_call G_w_few hr_w_few rfl T.m_w_few T.F_w_few.kp T.b_w_few .nil pass0 (pa_cons (pv 0) (pa_cons (pe_callB (call_sortedD rfl) (by rfl) T.z_sorted (by decide +kernel) (pa_cons (pv 2) pa_nil)) (pa_cons (pe_call G_w_roll hr_w_roll rfl T.m_w_roll T.F_w_roll.kp T.b_w_roll .nil pass0 (pa_cons (pv 0) (pa_cons pe_int pa_nil))) pa_nil)))))
      (pss_cons (ps_if (PW.pt (pw_and (pt_cmpR op_eq (pe_callB call_len (by rfl) T.z_len (by decide +kernel) (pa_cons (pv 8) pa_nil)) pe_int (nomark _)) (pw_and1 (pt_cmpR op_eq (pe_call G_w_roll hr_w_roll rfl T.m_w_roll T.F_w_roll.kp T.b_w_roll .nil pass0 (pa_cons (pv 0) (pa_cons pe_int pa_nil))) pe_int (nomark _)))))
      (pss_one (ps_set (i := 8) sc_w_right.nd rfl (Or.inl rfl) (pe_op op_cat (pv 8) (pe_slice sl_list (pv 8) po_none (po_some pe_int)))))
      pss_nil)
      (pss_cons (ps_set (i := 9) sc_w_right.nd rfl (Or.inr rfl) (pe_ifExp (pt_cmpR (op_eqD (un64 hr)) (pv 8) (pe_lst pa_nil) (nomark _)) (pe_callB (call_sortedD rfl) (by rfl) T.z_sorted (by decide +kernel) (pa_cons (pv 2) pa_nil)) (pv 8)))
      (pss_cons (ps_set (i := 10) sc_w_right.nd rfl (Or.inl rfl) (pe_callB (cr_max rfl) (by rfl) T.z_max (by decide +kernel) (pa_cons (pe_lc (own := [("values", 17)]) (g := gName 17) rfl sc_w_right.nd (pi_list (pv 4)) (blkOk_by (N := NR) (sc := defScope s_w_right) (by decide +kernel)) (fun _ _ _ _ _ => (pg_name (i := 17) sc_w_right.nd rfl (Or.inl rfl))) (fun _ _ _ _ _ => pts_nil) (fun _ _ _ _ _ => (pe_call G_w_of hr_w_of rfl T.m_w_of T.F_w_of.kp T.b_w_of .nil pass0 (pa_cons (pv 17) (pa_cons (pv 9) pa_nil))))) pa_nil)))
      (pss_cons (ps_if (pt_cmpR op_ne (pe_callB SkE.call_repr_int (by rfl) T.z_repr (by decide +kernel) (pa_cons (pe_call G_w_most hr_w_most rfl T.m_w_most T.F_w_most.kp T.b_w_most .nil pass0 (pa_cons (pv 3) (pa_cons (pv 8) pa_nil))) pa_nil)) (pe_callB SkE.call_repr_int (by rfl) T.z_repr (by decide +kernel) (pa_cons (pe_ifExp (pt_cmpR (op_eqD (un64 hr)) (pv 8) (pe_lst pa_nil) (nomark _)) pe_int (pv 10)) pa_nil)) (nomark _))
      (pss_one (ps_ret pe_bl))
      pss_nil)
      (pss_one hA))))))), ?_⟩
  rintro D σ H r tt d p ll L0 R S as ⟨x5, x6, x7, x8, x9, x10, x11, x12, x13, x14, x15, x16, x17, x18, x19, x20, rfl⟩ R0 sp hll nll ls t6 hd ts gR srS k
  have gS : Good tt S := sp.1
  have so' : sortedS (S.map (·.1)) = true := sp.2.1
  have g1 := gS.t1
  have g8 := gS.l8
  have gR8 := gR.l8
  have l3' := ls.1
  refine ⟨_, rfl, by decide, by decide, ?_⟩
  refine for_range (n := 3) (fun j σ' H' => SR r tt d p ll σ' ∧ Rl H' r ∧ Only r H H') ⟨⟨_, _, _, _, _, _, _, _, _, _, _, _, _, _, _, _, rfl⟩, R0, Only.refl⟩ ?_ ?_
  · rintro j σ' Ha hj ⟨⟨y5, y6, y7, y8, y9, y10, y11, y12, y13, y14, y15, y16, y17, y18, y19, y20, rfl⟩, Ra, Oa⟩
    have spa := sp.only Oa R0
    have hlla := Oa _ _ nll hll
    have lsa := ls.only Oa R0
    have ndr : d ≠ r := fun z => by
      obtain ⟨_, _, _, e⟩ := R0
      rw [z, e] at hd
      cases hd
    have hda := Oa _ _ ndr hd
    have tsa := ts.keep (KT.only Oa R0)
    have nm' : ∀ {Hx : Hp} {x : Addr}, Rl Hx r → Hx x = none → x ≠ r := fun Rx hx z => by
      obtain ⟨_, _, _, e⟩ := Rx
      rw [z, e] at hx
      cases hx
    -- some
    refine ⟨_, rfl, _, rfl, d, _, L0.map (·.1), rfl, .inl hda, kvs_keys L0, by rw [List.length_map, ts.len]; omega, fun ys q pm so hq => ?_⟩
    rw [tsa.names] at pm
    obtain rfl : ys = S.map (·.1) := sorted_eq pm (srS.pm.map (·.1)) so srS.so
    have A1 := Same.new (o := .lst ((S.map (·.1)).map V.str)) hq
    have eq1 : (upd Ha q (.lst ((S.map (·.1)).map V.str))) q = some (.lst ((S.map (·.1)).map V.str)) := upd_same
    have Rb := Same.rl A1 Ra
    have nqr := nm' Ra hq
    generalize upd Ha q (.lst ((S.map (·.1)).map V.str)) = Hb at A1 eq1 Rb ⊢
    refine ⟨_, rfl, r, 4, rfl, Rb, by decide, by decide +kernel, fun u Hc u0 u1 Rc Oc => ?_⟩
    refine ⟨r, q, (S.map (·.1)).map V.str, u, rfl, Rc, .inl (SqL.of (Oc _ _ nqr eq1)), by rw [List.length_map, List.length_map]; omega, by omega, by omega, fun lf zs rest Hd Rd Od hlf elf pmf lenf => ?_⟩
    obtain ⟨cs, rfl, mcs, ndcs⟩ := few_of (f := V.str) (xs := S.map (·.1)) (fun a _ b _ h => V.str.inj h) gS.nd pmf
    rw [List.length_map] at lenf
    have lcs : cs.length ≤ 3 := by split at lenf <;> omega
    have nlf := nm' Rc hlf
    have Oad : Only r Ha Hd := Only.trans (Same.only A1) (Only.trans Oc Od)
    clear A1 eq1 Rb Rc Oc Od pmf lenf hlf hq nqr pm so
    refine gName_in ?_
    dsimp only
    refine seq_mid (t := tIfS _ _ _) (fun σ' H' => ∃ (so : Addr) (ns : List Str), σ' = [some (.ref r), some (.int tt), some (.ref d), some (.ref p), some (.ref ll), y5, y6, some (.int (0 + (j : Int))), some (.ref so), y9, y10, y11, y12, y13, y14, y15, y16, y17, y18, y19, y20] ∧ Rl H' r ∧ Only r Ha H' ∧ H' so = some (.lst (ns.map V.str)) ∧ so ≠ r ∧ ns.length ≤ 3 ∧ ∀ n ∈ ns, n ∈ S.map (·.1)) ?_ ?_
    · rintro σ1 H1 ⟨so, ns, rfl, R1, O1, hso, nso, l3, hns⟩
      refine seq_mid (t := tAsg (tIf _ _ _) _) (fun σ' H' => ∃ co : Addr, σ' = [some (.ref r), some (.int tt), some (.ref d), some (.ref p), some (.ref ll), y5, y6, some (.int (0 + (j : Int))), some (.ref so), some (.ref co), y10, y11, y12, y13, y14, y15, y16, y17, y18, y19, y20] ∧ Same H1 H' ∧ H' co = some (.lst ((cntd S ns).map V.str)) ∧ co ≠ r) ?_ ?_
      · rintro σ2 H2 ⟨co, rfl, S2, hco, nco⟩
        have R2 := Same.rl S2 R1
        have O2 : Only r Ha H2 := Only.trans O1 (Same.only S2)
        have sp2 := spa.only O2 Ra
        have hll2 := O2 _ _ nll hlla
        have ls2 := lsa.only O2 Ra
        have hso2 := S2 _ _ hso
        clear hso R1 O1 S2
        -- most
        refine ⟨_, rfl, ll, rfl, ⟨_, SqL.of hll2⟩, fun D0 hD0 => ?_⟩
        refine lc_it (walk_list (K := K) (a := ll) (xs := as.map V.ref)) (fun j2 H' => Same H2 H' ∧ H' D0 = some (.lst ((ofs S tt (cntd S ns) j2).map V.int))) ⟨Same.new hD0, upd_same⟩ (fun j2 H' _ h => SqL.of (h.1 _ _ hll2)) ?_ ?_
        · rintro j2 x Hx Hy hj2 ⟨Sx, eD⟩ ⟨rfl, hx⟩
          rw [List.length_map] at hj2
          obtain ⟨a, ea⟩ : ∃ a, as[j2]? = some a := ⟨_, List.getElem?_eq_getElem hj2⟩
          rw [List.getElem?_map, ea] at hx
          cases hx
          obtain ⟨nar, xs, ha, oa⟩ := ls2.2 _ a ea
          refine ⟨rfl, ?_⟩
          unfold tYes
          dsimp only
          rw [if_pos rfl]
          refine ⟨_, rfl, _, rfl, a, co, xs, _, _, rfl, Sx _ _ ha, oa.keep (KT.same Sx), Nat.le_trans (each_len (by omega) gS.sp) (by omega), Sx _ _ hco, fun Hz Sz => ?_⟩
          refine ⟨_, Sz _ _ eD, by rw [List.length_map]; unfold ofs; rw [List.length_map, List.length_range, sizeLine_eq]; omega, Same.at hD0 (Same.trans Sx Sz), ?_⟩
          rw [upd_same]
          unfold ofs
          rw [List.range_succ, List.map_append, List.map_append]
          rfl
        rintro Hx ⟨Sx, eD⟩
        rw [List.length_map] at eD
        refine ⟨D0, _, rfl, SqL.of eD, by unfold ofs; rw [List.length_map, List.length_range]; omega, fun mx hmem hmax => ?_⟩
        have hms := ofs_mst gS so' hns l3' hmem hmax
        have small := ofs_small gS hmem
        have Rx := Same.rl Sx R2
        have Ox : Only r Ha Hx := Only.trans O2 (Same.only Sx)
        have spx := sp2.same Sx
        have hllx := Sx _ _ hll2
        have lsx := ls2.same Sx
        have hsox := Sx _ _ hso2
        have hcox := Sx _ _ hco
        clear eD Sx hmem hmax hso2 hco R2 O2 sp2 hll2 ls2 hD0
        have nmN : ∀ n ∈ ns, nmC n = true := fun n hn => by
          obtain ⟨r0, h0, e0⟩ := List.mem_map.mp (hns n hn)
          rw [← e0]
          exact gS.nm r0 h0
        refine ⟨_, rfl, _, rfl, p, so, tt, S, r, ns, rfl, spx, hsox, l3, hns, fun zs m1 Hy Sy sr1 ms1 => ?_⟩
        have m1e : m1 = if ns = [] then 0 else mx := by
          have h5 := hms zs sr1
          unfold chs at h5
          split
          · rename_i e
            rw [e] at sr1
            rw [srt_nil sr1] at ms1
            exact mst_nil ms1
          · rename_i e
            rw [if_neg e] at h5
            exact ms1.eq h5
        have sm1 : 0 ≤ m1 ∧ m1 ≤ 1000 := by rw [m1e]; split <;> omega
        refine ⟨m1, rfl, log_small sm1, ?_⟩
        refine ⟨_, rfl, by show 0 ≤ sizeLine; decide, fun e he => ?_⟩
        have Ae := Same.new (o := .lst ([] : List V)) he
        have Sz := Same.trans Sy Ae
        refine ⟨.list (ns.map PyData.str), .list [], .lst (SqL.of (Sz _ _ hsox)) (dpa_strs ns), .lst (SqL.of upd_same) .nil, shaped_names nmN, by decide +kernel, _, rfl, ?_⟩
        generalize upd Hy e (.lst ([] : List V)) = Hz at Sz ⊢
        have fin : ∀ x, x = m1 → tSeq (tIfS (tTest fun σ H Q => Q (.bl (!decide (V.str (toString m1) = V.str (toString x)))) H) (tRet (tC (.bl false))) tNext) tA { nx := fun σ' H' => SR r tt d p ll σ' ∧ Rl H' r ∧ Only r H H', rt := D.rt, bk := D.nx, ct := fun σ' H' => SR r tt d p ll σ' ∧ Rl H' r ∧ Only r H H' } [some (.ref r), some (.int tt), some (.ref d), some (.ref p), some (.ref ll), y5, y6, some (.int (0 + (j : Int))), some (.ref so), some (.ref co), some (.int mx), y11, y12, y13, y14, y15, y16, y17, y18, y19, y20] Hz := fun x ex => by
          subst ex
          refine ⟨_, rfl, ?_⟩
          rw [decide_eq_true rfl]
          refine iteF ?_
          refine qA _ _ _ r tt d p ll so co mx S as ns ⟨_, _, _, _, _, _, _, _, _, _, _, _, _, rfl⟩ (Same.rl Sz Rx) (spx.same Sz) (Sz _ _ hllx) nll (lsx.same Sz) t6 (Sz _ _ hsox) nso l3 hns (Sz _ _ hcox) nco hms ?_
          rintro σ9 H9 ⟨z5, z6, z7, z11, z12, z13, z14, z15, z16, z17, z18, z19, z20, rfl⟩ R9 O9
          exact ⟨⟨_, _, _, _, _, _, _, _, _, _, _, _, _, _, _, _, rfl⟩, R9, Only.trans Oa (Only.trans Ox (Only.trans (Same.only Sz) O9))⟩
        cases ns with
        | nil =>
          rw [show PyData.eqv (.list (([] : List Str).map PyData.str)) (.list []) = true from by decide +kernel]
          rw [if_pos rfl] at m1e
          refine iteT ⟨0, rfl, by decide, ?_⟩
          exact ⟨rfl, fin 0 m1e.symm⟩
        | cons n0 ns0 =>
          rw [show PyData.eqv (.list ((n0 :: ns0).map PyData.str)) (.list []) = false from by simp [PyData.eqv, PyData.eqvAll]]
          rw [if_neg (by simp)] at m1e
          refine iteF ⟨_, rfl, mx, rfl, log_small small, ?_⟩
          exact ⟨rfl, fin mx m1e.symm⟩
      · intro nx' hnx
        have nmN : ∀ n ∈ ns, nmC n = true := fun n hn => by
          obtain ⟨r0, h0, e0⟩ := List.mem_map.mp (hns n hn)
          rw [← e0]
          exact gS.nm r0 h0
        refine ⟨_, rfl, by show 0 ≤ sizeLine; decide, fun e he => ?_⟩
        have Ae := Same.new (o := .lst ([] : List V)) he
        refine ⟨.list (ns.map PyData.str), .list [], .lst (SqL.of (Ae _ _ hso)) (dpa_strs ns), .lst (SqL.of upd_same) .nil, shaped_names nmN, by decide +kernel, _, rfl, ?_⟩
        generalize upd H1 e (.lst ([] : List V)) = H2 at Ae ⊢
        cases ns with
        | nil =>
          rw [show PyData.eqv (.list (([] : List Str).map PyData.str)) (.list []) = true from by decide +kernel]
          refine iteT ?_
          have hd2 := Ae _ _ (O1 _ _ ndr hda)
          have ts2 := (tsa.keep (KT.only O1 Ra)).keep (KT.same Ae)
          refine ⟨_, rfl, d, _, L0.map (·.1), rfl, .inl hd2, kvs_keys L0, by rw [List.length_map, ts.len]; omega, fun ys q pm so2 hq => ?_⟩
          rw [ts2.names] at pm
          obtain rfl : ys = S.map (·.1) := sorted_eq pm (srS.pm.map (·.1)) so2 srS.so
          exact hnx _ _ ⟨q, rfl, Same.trans Ae (Same.new hq), upd_same, nm' (Same.rl Ae R1) hq⟩
        | cons n0 ns0 =>
          rw [show PyData.eqv (.list ((n0 :: ns0).map PyData.str)) (.list []) = false from by simp [PyData.eqv, PyData.eqvAll]]
          refine iteF ⟨_, rfl, hnx _ _ ⟨so, rfl, Ae, ?_, nso⟩⟩
          rw [Ae _ _ hso]
          rfl
    · intro nx' hnx
      have inS : ∀ n ∈ cs, n ∈ S.map (·.1) := mcs
      refine ⟨_, rfl, _, _, rfl, .inl ⟨_, SqL.of elf, rfl⟩, rfl, _, rfl, ?_⟩
      rw [List.length_map]
      by_cases c2 : V.int (cs.length : Int) = V.int 2
      · rw [decide_eq_true c2]
        refine iteT ?_
        have c3 : cs.length = 2 := by
          have := V.int.inj c2
          omega
        refine ⟨_, rfl, r, 2, rfl, Rd, by decide, by decide +kernel, fun v He v0 v1 Re Oe => ?_⟩
        refine ⟨rfl, _, rfl, ?_⟩
        have Oae := Only.trans Oad Oe
        have elf2 := Oe _ _ nlf elf
        by_cases c4 : V.int v = V.int 0
        · rw [decide_eq_true c4]
          refine iteT ?_
          refine ⟨_, rfl, _, rfl, _, rfl, lf, _, rfl, SqL.of elf2, fun l2 hl2 => ?_⟩
          rw [cut1]
          have A2 := Same.new (o := .lst ((cs.map V.str).take 1)) hl2
          refine ⟨lf, l2, _, _, rfl, rfl, A2 _ _ elf2, upd_same, by rw [sizeLine_eq]; simp; omega, fun l3 hl3 => ?_⟩
          have A3 := Same.new (o := .lst (cs.map V.str ++ (cs.map V.str).take 1)) hl3
          have S3 := Same.trans A2 A3
          refine hnx _ _ ⟨l3, cs ++ cs.take 1, rfl, Same.rl S3 Re, Only.trans Oae (Same.only S3), ?_, nm' (Same.rl A2 Re) hl3, by rw [List.length_append, List.length_take]; omega, fun n hn => ?_⟩
          · rw [upd_same, List.map_append, List.map_take]
          · rcases List.mem_append.mp hn with hn | hn
            · exact inS n hn
            · exact inS n (List.mem_of_mem_take hn)
        · rw [decide_eq_false c4]
          exact iteF (hnx _ _ ⟨lf, cs, rfl, Re, Oae, elf2, nlf, lcs, inS⟩)
      · rw [decide_eq_false c2]
        exact iteF (hnx _ _ ⟨lf, cs, rfl, Rd, Oad, elf, nlf, lcs, inS⟩)
  · rintro σ' Ha ⟨sr, Ra, Oa⟩
    exact k _ _ sr Ra Oa
end
end K38
namespace K38
open PySem L2
open PyProof.Rows PySem.Spec
/-- the numbers of values of all slots -/
def szs (S : Rws) (t : Int) : List Int := (List.range t.toNat).map fun (s : Nat) => cnt S t 0 (S.map (·.1)) (s : Int)
theorem ofL_all {L : List (Str × Int)} {ns : List Str} (h : ∀ q ∈ L, q.1 ∈ ns) : ofL L ns = L.length := by
  unfold ofL
  rw [List.filter_eq_self.mpr fun q hq => decide_eq_true (h q hq)]
theorem each_cnt {t : Int} {S : Rws} (g : Good t S) (so : sortedS (S.map (·.1)) = true) {s : Nat} (hs : (s : Int) < t) : ((eachL t (s : Int) S).length : Int) = cnt S t 0 (S.map (·.1)) (s : Int) := by
  have g1 := g.t1
  have h := of_cnt0 (t := t) (i := (s : Int)) (by omega) g so (ns := []) (zs := []) ⟨List.Pairwise.nil, fun z => Iff.rfl⟩ (fun n hn => by cases hn)
  have e1 : cntd S [] = S.map (·.1) := by unfold cntd; simp
  have e2 : chs S [] [] = S.map (·.1) := by unfold chs; simp
  rw [e1, e2, ofL_all fun q hq => each_names hq, Int.emod_eq_of_lt (by omega) hs] at h
  exact h
theorem cnt_all {t : Int} {S : Rws} (nd : (S.map (·.1)).Nodup) (s : Int) : cnt S t 0 (S.map (·.1)) s = (S.map fun r => alv t r.2.1 r.2.2 s).sum := by
  unfold cnt alvs
  rw [List.map_map]
  congr 1
  refine List.map_congr_left fun r hr => ?_
  show alv t ((spn S r.1).1 + 0) (spn S r.1).2 s = _
  rw [spn_at (n := r.1) (b := r.2.1) (e := r.2.2) nd hr, Int.add_zero]
theorem sum_add (f h : Nat → Int) : ∀ l : List Nat, (l.map fun s => f s + h s).sum = (l.map f).sum + (l.map h).sum
  | [] => rfl
  | a :: l => by
    rw [List.map_cons, List.map_cons, List.map_cons, List.sum_cons, List.sum_cons, List.sum_cons, sum_add f h l]
    omega
theorem sum_zero : ∀ l : List Nat, (l.map fun _ => (0 : Int)).sum = 0
  | [] => rfl
  | a :: l => by
    rw [List.map_cons, List.sum_cons, sum_zero l]
    rfl
theorem tot_eq {t : Int} (ht : 0 < t) : ∀ S : Rws, ((List.range t.toNat).map fun (s : Nat) => (S.map fun r => alv t r.2.1 r.2.2 (s : Int)).sum).sum = (lenR S).sum
  | [] => by
    show ((List.range t.toNat).map fun (_ : Nat) => (0 : Int)).sum = 0
    exact sum_zero _
  | r :: S => by
    have ih := tot_eq ht S
    have e : (fun (s : Nat) => ((r :: S).map fun r => alv t r.2.1 r.2.2 (s : Int)).sum) = fun (s : Nat) => alv t r.2.1 r.2.2 (s : Int) + (S.map fun r => alv t r.2.1 r.2.2 (s : Int)).sum := by
      funext s
      rw [List.map_cons, List.sum_cons]
    rw [e, sum_add (fun (s : Nat) => alv t r.2.1 r.2.2 (s : Int)) (fun (s : Nat) => (S.map fun r => alv t r.2.1 r.2.2 (s : Int)).sum), ih, alv_sum ht]
    unfold lenR
    rw [List.map_cons, List.sum_cons]
theorem szs_sum {t : Int} {S : Rws} (g : Good t S) : (szs S t).sum = (lenR S).sum := by
  have g1 := g.t1
  unfold szs
  rw [← tot_eq (t := t) (by omega) S]
  congr 1
  refine List.map_congr_left fun s _ => cnt_all g.nd _
theorem cut2 {α : Type} {f : α → V} {xs : List α} {a b : Nat} (ha : a ≤ xs.length) (hb : b ≤ xs.length) (hab : a ≤ b) : cutV (xs.map f) (some (a : Int)) (some (b : Int)) = ((xs.drop a).take (b - a)).map f := by
  unfold cutV
  rw [List.length_map]
  have e1 : HT.sIx xs.length 0 (some (a : Int)) = a := by
    simp only [HT.sIx]
    rw [if_neg (by omega), Int.toNat_natCast]
    exact Nat.min_eq_left ha
  have e2 : HT.sIx xs.length xs.length (some (b : Int)) = b := by
    simp only [HT.sIx]
    rw [if_neg (by omega), Int.toNat_natCast]
    exact Nat.min_eq_left hb
  rw [e1, e2, List.map_take, List.map_drop]
theorem cnt_small {t : Int} {S : Rws} (g : Good t S) (so : sortedS (S.map (·.1)) = true) {s : Nat} (hs : (s : Int) < t) : 0 ≤ cnt S t 0 (S.map (·.1)) (s : Int) ∧ cnt S t 0 (S.map (·.1)) (s : Int) ≤ 1000 := by
  have g1 := g.t1
  have h := each_len (t := t) (i := (s : Int)) (by omega) g.sp
  have e := each_cnt g so hs
  have g8 := g.l8
  omega
theorem mst_small {t m : Int} {S : Rws} (g : Good t S) (so : sortedS (S.map (·.1)) = true) (h : Mst S t (S.map (·.1)) m) : 0 ≤ m ∧ m ≤ 1000 := by
  obtain ⟨s, hs, rfl⟩ := List.mem_map.mp h.1
  rw [List.mem_range] at hs
  exact cnt_small g so (by omega)
theorem TD.peaks {S : Rws} {t m : Int} (h1 : 1 ≤ t) (h2 : t ≤ 32) : TD 1 (.tuple ((pkS S t m t.toNat).map PyData.int)) 32 := by
  have h := TLs.mapd (k := 0) (m := 0) (f := PyData.int) (xs := pkS S t m t.toNat) fun x hx => by
    unfold pkS at hx
    obtain ⟨s, hs, rfl⟩ := List.mem_map.mp hx
    have := List.mem_range.mp (List.mem_filter.mp hs).1
    exact TD.int (by omega) (by omega)
  have l : (pkS S t m t.toNat).length ≤ 32 := by
    unfold pkS
    rw [List.length_map]
    refine Nat.le_trans (List.length_filter_le _ _) ?_
    rw [List.length_range]
    omega
  exact TD.tup ⟨h.sh, h.ls, Nat.le_trans h.bk (by omega), h.dp⟩
theorem ints_dss {K : PySem.W.Frag} {H : Hp} : ∀ l : List Int, RL.DSs K H (l.map V.int) (l.map PyData.int)
  | [] => .nil
  | a :: l => .cons (.int a) (ints_dss l)
end K38
/-! promises kept where nothing is being told of itself, and a law called for one -/
namespace GW
open PySem PySem.Spec PyProof.Rows L2
open LamX in
/-- a def whose promise is kept where nothing is being told of itself -/
structure FnG (P : Program) (w : World) (K : PySem.W.Frag) (mg : Str → Option Value) (base : Heap) (CX : CXT) (k : Nat) (f : Addr) (fd : FuncData) (ps : List Str) (sp : Sp) : Prop where
  len : ∀ vs H Q E, sp vs H Q E → vs.length = ps.length
  run : ∀ (A : Around) (outer : List Env) (s : Shared) (H : Hp) (args : Args) (us : List Value) (vs : List V) (Q : VK) (E : XK), A.guards = some [] → Room k A → Env0 P w K mg base A outer s H → BindsTo s fd args (ps.zip us) → Vals vs us → sp vs H Q E →
    codeAny (model P w) A (.call
                                 (.ref f) args) (CR CX outer P w H s Q E) s
theorem FunG.okG {P : Program} {w : World} {K : PySem.W.Frag} {mg : Str → Option Value} {base : Heap} {x qual : Str} {st : Stmt} {f : Addr} {fd : FuncData} {N ps : List Str} {k : Nat} {sp : Sp} (F : Fun K x qual st f fd) (S : FnScope N ps (defScope st)) (len : ∀ vs H Q E, sp vs H Q E → vs.length = ps.length)
    (hbody : ∀ (cdv : Value) (A : Around) (outer : List Env) (s : Shared) (H : Hp) (vs : List V) (Q : VK) (E : XK), A.guards = some [] → Room k (A.deeper (PyProof.Rows.envOfC qual (defScope st) s.heap.objs.size f cdv)) → sp vs H Q E →
      ∃ t, PSs (cxOf CX0 P w K mg base N qual (defScope st) f cdv A outer s H E).nox (defBody st) t ∧ t { nx := fun _ H' => Q .non H', rt := Q } (L2.start N vs) H) : FnG P w K mg base CX0 (k + 1) f fd ps sp := by
  obtain ⟨oc, od, kV, doc, pm, an, cdv, ct, osl, rfl, lk, hcd⟩ := F.ex
  refine ⟨len, fun A outer s H args us vs Q E hg hr e0 hb r hsp => ?_⟩
  exact LamX.run_ofS lk hcd S hr e0 hb r (len _ _ _ _ hsp) fun hr' => by
    obtain ⟨t, h, q⟩ := hbody cdv A outer s H vs Q E hg hr' hsp
    exact ⟨t, h.nox, q⟩
section
variable {X : Cx} {CX : CXT} {k : Nat} {f : Addr} {fd : FuncData} {ps : List Str} {sp : Sp} {dvs : List V} {ds : List Value} {E : XK} {x : Str} {p pos : Pos} {e : Expr} {es : List Expr} {t : TA}
theorem pe_callG (F : FnG X.prog X.w X.K X.mg X.base CX k f fd ps sp) (hgd : X.A.guards = some []) (hr : Room k X.A) (hg : Gl X x) (hm : X.mg x = some (.ref f)) (hk : PySem.W.keepIn X.K (.ref f) = true) (hb : Binds X.K fd ps ds) (hd : Vals dvs ds) (hx : Passes CX X E)
    (ha : PA X (e :: es) t) (hdb : (x == ("__debug__" : Str)) = false := by decide) (he : starEach (e :: es) X.env =
                                                                                                                     (false, eval e X.env) :: starEach es X.env := by rfl) (hpl : (backTo pos (starEach es X.env)).any (·.1) = false := by rfl) :
    PE X (.Call (.Name x p)
                            (e :: es) [] pos) (tCall sp dvs E t) := by
  refine ⟨fun pins s σ H Q I h => wpAny_Call_Name_kw (ld_glob I hg hm ?_ hdb)⟩
  refine PySem.W.callWith_K (h₀ := X.base) I.ok.mod.kin hk (thn
                                                                (ha.run pos pins s σ H _ I h) fun us s1 ⟨vs, H1, I1, r, q⟩ => ⟨I1.kIn, ?_⟩) he hpl
  have r2 : Vals (vs ++ dvs) (us ++ ds) := r.append hd
  have hl : (us ++ ds).length = ps.length := by
    rw [← r2.length]
    exact F.len _ _ _ _ q
  have run := F.run X.A X.stack s1 H1 ⟨us, []⟩ (us ++ ds) (vs ++ dvs) Q E hgd hr I1.env0 (hb s1 us I1.kIn hl) r2 q
  refine wpAny_call (codeAny_mono run fun w' s' z => ?_)
  cases w' with
  | error er => exact hx pins σ H1 s1 er s' I1 z
  | ok fl =>
    cases fl with
    | ret u => exact I1.after z
    | next => exact False.elim z
    | brk => exact False.elim z
    | cont => exact False.elim z
end
/-! ### the law's call, of a promise that is kept where nothing is being told of itself -/
section
open PySem.Spec PyProof.Rows LamX
variable {P : Program} {w : World} {K : PySem.W.Frag} {mg mb : Str → Option Value} {CX : CXT} {k : Nat} {fa a : Addr} {cs : List (Addr × Addr)} {fd : FuncData} {x : Str} {sp : Sp} {s1 : Shared} {vs : List Value} {ns : List Int}
/-- the heap ahead of the call, with the script and the tables -/
structure Ahead (K : PySem.W.Frag) (mg mb : Str → Option Value) (cs : List (Addr × Addr)) (a : Addr) (vs : List Value) (s1 : Shared) : Prop where
  kin : K.In s1.heap
  glob : s1.heap.Ns mainGlobals mg
  blt : s1.heap.Ns builtinsNs mb
  boot : ∀ y : Str, y ≠ "__name__" → mb y = bootBuiltins y
  lim : s1.heap.NoLimit
  gens : s1.gens = #[]
  tab : ∀ p ∈ cs, s1.heap.get? p.2 = some { cls := .none, data := .fields #[] }
  offK : ∀ p ∈ cs, K.lookup p.2 = none
  code : ∀ p ∈ cs, PySem.W.CodeHd s1.heap p.1 p.2
  main : ∃ (bm : Addr) (ob : Obj), mg "__builtins__" = some (.ref bm) ∧ bm ≠ builtinsNs ∧ s1.heap.get? bm = some ob ∧ ob.cls = .type "module" ∧ ob.dict = some builtinsNs ∧ ob.data = .plain
  scr : s1.heap.get? a = some { cls := .type "list", data := .seq vs.toArray }
/-- what is tracked: the script at most, and the tables -/
structure Seen (K : PySem.W.Frag) (cs : List (Addr × Addr)) (a : Addr) (H : Hp) : Prop where
  tbl : ∀ p ∈ cs, H p.2 = some (.tbl #[])
  kind : ∀ b, H b = none ∨ (∃ p ∈ cs, p.2 = b) ∨ ∃ o xs, H b = some (.frz o (.lst xs))
  none_ : ∀ b, H b ≠ none → b = a ∨ ∃ p ∈ cs, p.2 = b
  scrK : H a ≠ none → K.lookup a = none
theorem Ahead.free {H : Hp} (h : Ahead K mg mb cs a vs s1) (z : Seen K cs a H) {b : Addr} {o : Obj} (e : s1.heap.get? b = some o) (n1 : ∀ us n, o.data ≠ .seq us n) (n2 : o.data ≠ .fields #[]) : H b = none := by
  cases q : H b with
  | none => rfl
  | some u =>
    rcases z.none_ b (by rw [q]; simp) with rfl | ⟨p, hp, rfl⟩
    · rw [h.scr] at e
      cases e
      exact absurd rfl (n1 _ _)
    · rw [h.tab p hp] at e
      cases e
      exact absurd rfl n2
theorem Ahead.dict {H : Hp} (h : Ahead K mg mb cs a vs s1) (z : Seen K cs a H) {b : Addr} {o : Obj} {es : Array DictEntry} {ep : Nat} (e : s1.heap.get? b = some o) (d : o.data = .dict es ep) : H b = none := by
  refine h.free z e (fun us n y => ?_) fun y => ?_
  · rw [d] at y
    cases y
  · rw [d] at y
    cases y
theorem Ahead.nsp {H : Hp} (h : Ahead K mg mb cs a vs s1) (z : Seen K cs a H) {b : Addr} {m : Str → Option Value} (y : s1.heap.Ns b m) : (hidT s1.heap H).Ns b m := by
  obtain ⟨o, es, ep, e, d, r⟩ := y
  exact ⟨o, es, ep, hidT_get e (h.dict z e d), d, r⟩
theorem Ahead.inK {H : Hp} (h : Ahead K mg mb cs a vs s1) (z : Seen K cs a H) : K.In (hidT s1.heap H) := fun b o e => by
  refine hidT_get (h.kin b o e) ?_
  cases q : H b with
  | none => rfl
  | some u =>
    rcases z.none_ b (by rw [q]; simp) with rfl | ⟨p, hp, rfl⟩
    · rw [z.scrK (by rw [q]; simp)] at e
      cases e
    · rw [h.offK p hp] at e
      cases e
theorem Ahead.mod {H : Hp} (h : Ahead K mg mb cs a vs s1) (z : Seen K cs a H) : L2.Mod K mg (hidT s1.heap H) := by
  obtain ⟨mc, h1, h2⟩ := h.lim
  exact ⟨h.inK z, h.nsp z h.glob, ⟨mb, h.nsp z h.blt, h.boot⟩, mc, h.nsp z h1, h2⟩
theorem Ahead.tabB {H : Hp} (h : Ahead K mg mb cs a vs s1) (z : Seen K cs a H) : ∀ p ∈ cs, TabB (hidT s1.heap H) mg p.1 p.2 := fun p hp => by
  have tp := h.tab p hp
  obtain ⟨oG, esG, epG, eG, dG, _⟩ := h.glob
  refine ⟨?_, ?_, fun y => ?_⟩
  · obtain ⟨o, us, f1, f2, g1, g2, inF, t1, t2, e1, r1, r2, r3, r4, r5, r6, r7, r8, r9⟩ := h.code p hp
    refine ⟨o, us, f1, f2, g1, g2, inF, t1, t2, hidT_get e1 (h.free z e1 (fun v n y => ?_) fun y => ?_), r1, r2, r3, r4, r5, r6, r7, r8, r9⟩
    · rw [r2] at y
      cases y
    · rw [r2] at y
      cases y
      simp at r3
  · obtain ⟨bm, ob, b1, b2, b3, b4, b5, b6⟩ := h.main
    refine ⟨bm, ob, b1, b2, fun y => ?_, fun y => ?_, hidT_get b3 (h.free z b3 (fun v n y => ?_) fun y => ?_), b4, b5, b6⟩
    · rw [y, eG] at b3
      cases b3
      rw [dG] at b6
      cases b6
    · rw [y, tp] at b3
      cases b3
      cases b6
    · rw [b6] at y
      cases y
    · rw [b6] at y
      cases y
  · rw [y, tp] at eG
    cases eG
    cases dG
theorem Ahead.run {H : Hp} (h : Ahead K mg mb cs a vs s1) (z : Seen K cs a H) (hok : HOk P w H s1.heap) (hr : Room k callerA) (F : ∀ base : Heap, K.In base → base.Ns mainGlobals mg → (∀ p ∈ cs, TabB base mg p.1 p.2) → FnG P w K mg base CX k fa fd [x] sp)
    (hbind : ∀ (s : Shared) (u : Value), BindsTo s fd ⟨[u], []⟩ [(x, u)]) (hsp : sp [.ref a] H (fun v _ => v = .bl true) fun _ _ _ => False) (hCX : ∀ e s', CX [] H s1 (fun _ _ _ => False) e s' → False) :
    codeAny (model P w) callerA (.call (.ref fa) ⟨[.ref a], []⟩) (fun r s' => r = .ok (.ret (.bool true)) ∧ OldK s1.heap s'.heap ∧ s'.os = s1.os ∧ AllBare s'.gens) s1 := by
  have e0 : Env0 P w K mg (hidT s1.heap H) callerA [] s1 H :=
    ⟨rfl, h.mod z, fun b o e => of_hidT e, Nat.le_of_eq (hidT_size _ _), trivial, fun b hb => absurd (show b ∈ ([] : List Addr) from hb) (by simp), hok, .of_eq h.gens⟩
  have go := (F _ (h.inK z) (h.nsp z h.glob) (h.tabB z)).run callerA [] s1 H ⟨[.ref a], []⟩ [.ref a] [.ref a] _ _ rfl hr e0 (hbind s1 (.ref a)) (.cons rfl .nil) hsp
  refine codeAny_mono go fun r s' y => ?_
  cases r with
  | error e => exact (hCX e s' y).elim
  | ok fl =>
    cases fl with
    | next => exact False.elim y
    | brk => exact False.elim y
    | cont => exact False.elim y
    | ret u =>
      obtain ⟨v, H', os, bare, un, hok', rv, q⟩ := y
      cases (show v = V.bl true from q)
      cases (show u = Value.bool true from rv)
      have there : ∀ p ∈ cs, ∃ more : Array Value, s'.heap.get? p.2 = some { cls := .none, data := .fields more } := fun p hp => by
        obtain ⟨more, q⟩ := un.tbls p.2 #[] (z.tbl p hp)
        exact ⟨_, hok' p.2 _ q⟩
      have same : ∀ b o, (¬ ∃ p ∈ cs, p.2 = b) → s1.heap.get? b = some o → s'.heap.get? b = some o := fun b o nb e => by
        rcases z.kind b with q | q | ⟨ob, xs, q⟩
        · exact un.keep b o e q (by intro y; exact absurd (show b ∈ ([] : List Addr) from y) (by simp)) (by simp)
        · exact absurd q nb
        · obtain ⟨e1, _⟩ := hok b _ q
          obtain ⟨e2, _⟩ := hok' b _ (un.frzs b ob _ q)
          rw [e] at e1
          cases e1
          exact e2
      refine ⟨rfl, ⟨fun b o e => ?_, fun b o e => ?_⟩, os, bare⟩
      · by_cases c : ∃ p ∈ cs, p.2 = b
        · obtain ⟨p, hp, rfl⟩ := c
          obtain ⟨more, hm⟩ := there p hp
          rw [h.tab p hp] at e
          cases e
          exact .inr (.inl ⟨((h.code p hp).tab (h.tab p hp)).isCodeTable, rfl, #[], more, rfl, by rw [Array.empty_append]; exact hm⟩)
        · exact .inl (same b o c e)
      · by_cases c : ∃ p ∈ cs, p.2 = b
        · obtain ⟨p, hp, rfl⟩ := c
          obtain ⟨more, hm⟩ := there p hp
          exact ⟨_, hm⟩
        · exact ⟨o, same b o c e⟩
/-- the two ways of tracking -/
theorem Ahead.call (h : Ahead K mg mb cs a vs s1) (hi : IntsAre vs ns) (hl : ns.length ≤ sizeLine) (hr : Room k callerA) (F : ∀ base : Heap, K.In base → base.Ns mainGlobals mg → (∀ p ∈ cs, TabB base mg p.1 p.2) → FnG P w K mg base CX k fa fd [x] sp)
    (hbind : ∀ (s : Shared) (u : Value), BindsTo s fd ⟨[u], []⟩ [(x, u)]) (hsp : ∀ H : Hp, (∀ p ∈ cs, H p.2 = some (.tbl #[])) → SqL K H a (ns.map V.int) → sp [.ref a] H (fun v _ => v = .bl true) fun _ _ _ => False)
    (hCX : ∀ H e s', CX [] H s1 (fun _ _ _ => False) e s' → False) :
    codeAny (model P w) callerA (.call (.ref fa) ⟨[.ref a], []⟩) (fun r s' => r = .ok (.ret (.bool true)) ∧ OldK s1.heap s'.heap ∧ s'.os = s1.os ∧ AllBare s'.gens) s1 := by
  classical
  have rv := vals_ints hi
  have off : ¬ ∃ p ∈ cs, p.2 = a := fun ⟨p, hp, e⟩ => by
    have q := h.tab p hp
    rw [e, h.scr] at q
    have q2 : Data.seq vs.toArray _ = Data.fields #[] := congrArg Obj.data (Option.some.inj q)
    cases q2
  let o : HO := .frz { cls := .type "list", data := .seq vs.toArray } (.lst (ns.map V.int))
  cases hk : K.lookup a with
  | some oa =>
    have e := h.kin a oa hk
    rw [h.scr] at e
    cases e
    let H : Hp := fun b => if ∃ p ∈ cs, p.2 = b then some (.tbl #[]) else none
    have Ht : ∀ p ∈ cs, H p.2 = some (.tbl #[]) := fun p hp => if_pos ⟨p, hp, rfl⟩
    have Hn : ∀ {b}, (¬ ∃ p ∈ cs, p.2 = b) → H b = none := fun c => if_neg c
    refine h.run (H := H) ⟨Ht, fun b => ?_, fun b y => ?_, fun y => absurd (Hn off) y⟩ (fun b u q => ?_) hr F hbind (hsp H Ht (.inr ⟨_, vs.toArray, _, hk, rfl, rfl, rfl, by rw [List.size_toArray, hi.length]; exact hl, by simpa using rv⟩)) fun e s' => hCX H e s'
    · by_cases c : ∃ p ∈ cs, p.2 = b
      · exact .inr (.inl c)
      · exact .inl (Hn c)
    · by_cases c : ∃ p ∈ cs, p.2 = b
      · exact .inr c
      · exact absurd (Hn c) y
    · by_cases c : ∃ p ∈ cs, p.2 = b
      · obtain ⟨p, hp, rfl⟩ := c
        rw [Ht p hp] at q
        cases q
        exact h.tab p hp
      · rw [Hn c] at q
        cases q
  | none =>
    let H : Hp := fun b => if b = a then some o else if ∃ p ∈ cs, p.2 = b then some (.tbl #[]) else none
    have Ha : H a = some o := if_pos rfl
    have Ht : ∀ p ∈ cs, H p.2 = some (.tbl #[]) := fun p hp => (if_neg (fun y => off ⟨p, hp, y⟩)).trans (if_pos ⟨p, hp, rfl⟩)
    have Hn : ∀ {b}, b ≠ a → (¬ ∃ p ∈ cs, p.2 = b) → H b = none := fun n c => (if_neg n).trans (if_neg c)
    refine h.run (H := H) ⟨Ht, fun b => ?_, fun b y => ?_, fun _ => hk⟩ (fun b u q => ?_) hr F hbind (hsp H Ht (.inl (.inr ⟨_, Ha⟩))) fun e s' => hCX H e s'
    · by_cases n : b = a
      · exact .inr (.inr ⟨_, _, by rw [n]; exact Ha⟩)
      · by_cases c : ∃ p ∈ cs, p.2 = b
        · exact .inr (.inl c)
        · exact .inl (Hn n c)
    · by_cases n : b = a
      · exact .inl n
      · by_cases c : ∃ p ∈ cs, p.2 = b
        · exact .inr c
        · exact absurd (Hn n c) y
    · by_cases n : b = a
      · rw [n, Ha] at q
        cases q
        rw [n]
        exact ⟨h.scr, by rw [List.length_map]; exact hl, vs, _, rv, h.scr⟩
      · by_cases c : ∃ p ∈ cs, p.2 = b
        · obtain ⟨p, hp, rfl⟩ := c
          rw [Ht p hp] at q
          cases q
          exact h.tab p hp
        · rw [Hn n c] at q
          cases q
/-- what is known of the law's promise at the head's heap -/
def LawG (l : PySem.W.OpenLaw) (w : World) (K : PySem.W.Frag) (CX : CXT) (k n : Nat) (x : Str) (mg : Str → Option Value) (fa : Addr) (h : Heap) : Prop :=
  ∃ (fd : FuncData) (cs : List (Addr × Addr)) (sp : Sp), (∀ p ∈ cs, h.get? p.2 = some { cls := .none, data := .fields #[] }) ∧
                                                                                                                               (∀ p ∈ cs, K.lookup p.2 = none) ∧ (∀ p ∈ cs, PySem.W.CodeHd h p.1 p.2) ∧ (∀ (s : Shared) (u : Value), BindsTo s fd ⟨[u], []⟩ [(x, u)]) ∧
    (∀ (H : Hp) (a : Addr) (ns : List Int), ns.length ≤ n → (∀ p ∈ cs, H p.2 = some (.tbl #[])) → SqL K H a (ns.map V.int) → sp [.ref a] H (fun v _ => v = .bl true) fun _ _ _ => False) ∧
    ∀ base : Heap, K.In base → base.Ns mainGlobals mg → (∀ p ∈ cs, TabB base mg p.1 p.2) → FnG l.prog w K mg base CX k fa fd [x] sp
theorem walkG {l : PySem.W.OpenLaw} {n k : Nat} {q : Program} {loose : List Str} {XP : (Str → Option Value) → Heap → Prop} {YP : World → Heap → Prop} {d : DefRec} {K : Params → PySem.W.Frag} {x : Str}
    (hn : l.most = some n) (hn2 : n ≤ sizeLine) (hdf : d.params.defaults = [])
                                                                               (hr : Room k callerA) (hY : ∀ (w : World) (h : Heap), YP w h → (K w.params).In h)
    (F : ∀ (w : World) (mg : Str → Option Value) (fa : Addr) (h : Heap), YP w h → (K w.params).In h → h.Ns mainGlobals mg → mg d.name = some (.ref fa) → LawG l w (K w.params) CX0 k n x mg fa h) :
    PySem.W.WalkO q loose XP YP l.row.toRowW d []
                                                  (fun f vs => PySem.call f vs) := by
  refine Att.attach_callB hn hdf fun w s₀ s₁ mg mb fa o pm cd doc a vs ns G Y ho hd hcd hmg hobj hints hlen hbits hg => ?_
  have KX := hY w _ Y
  obtain ⟨fd, cs, sp, hT, nT, C, hb, hsp, hF⟩ := F w mg fa _ Y KX G.T.g hmg
  exact (Ahead.mk KX G.T.g G.T.b G.T.builtins G.T.nolimit hg hT nT C G.T.bmain hobj).call hints (Nat.le_trans hlen hn2) hr hF hb (fun H hH hS => hsp H a ns hlen hH hS) fun H e s' z => z.elim
end
end GW
namespace K38
open PySem L2
open PyProof.Rows PySem.Spec
section
variable {P : Program} {w : World} {K : PySem.W.Frag}
                                                      {mg : Str → Option Value} {base : Heap}
def sp_w_right (K : PySem.W.Frag) : Sp := fun vs H Q _ => ∃ (r : Addr), vs = [.ref r] ∧ Rl H r ∧ ∀ H', Rl H' r → Only r H H' → Q (.bl true) H'
theorem ok_w_right (T : T K mg) (U : UX K mg) : GW.FnG P w K mg base CX0 13 T.f_w_right T.d_w_right ["tray"] (sp_w_right K) := by
  have G_w_alive : FnOk P w K mg base CX0 1 T.f_w_alive T.d_w_alive ["rows", "interval", "tick"] (sp_w_alive K) := ok_w_alive T
  have G_w_names : FnOk P w K mg base CX0 3 T.f_w_names T.d_w_names ["tray", "many"] (sp_w_names K) := ok_w_names T
  have G_w_pick : FnOk P w K mg base CX0 2 T.f_w_pick T.d_w_pick ["tray", "items"] (sp_w_pick K) := ok_w_pick T
  have G_w_roll : FnOk P w K mg base CX0 1 T.f_w_roll T.d_w_roll ["tray", "total"] (sp_w_roll K) := ok_w_roll T
  have G_w_rows : FnOk P w K mg base CX0 4 T.f_w_rows T.d_w_rows ["tray", "interval", "names"] (sp_w_rows K) := ok_w_rows T (ok_w_rings T)
  have G_w_sorted : FnOk P w K mg base CX0 1 T.f_w_sorted T.d_w_sorted ["rows"] (sp_w_sorted K) := ok_w_sorted T
  have G_init : FnOk P w K mg base CX0 6 U.fI U.dI ["self", "interval", "rows"] (sp_init K U.C) := ok_init T U
  have Gm : FnOk P w K mg base CX0 3 U.pm.g U.pm.d ["self"] (sp_most K U.C) := ok_most T U
  have Gp : FnOk P w K mg base CX0 3 U.pp.g U.pp.d ["self"] (sp_peaks K U.C) := ok_peaks T U
  have Gt : FnOk P w K mg base CX0 1 U.pt.g U.pt.d ["self"] (sp_total K U.C) := ok_total T U
  have Gr : FnOk P w K mg base CX0 1 U.pr.g U.pr.d ["self"] (sp_rows K U.C) := ok_rows T U
  refine GW.FunG.okG T.F_w_right sc_w_right (fun vs H Q E h => ?_) (fun cdv A outer s H vs Q E hg hr h => ?_)
  · obtain ⟨r, rfl, _⟩ := h
    rfl
  · obtain ⟨r, rfl, R0, k⟩ := h
    have hu := hu_of hr
    have hgd : (XR P w K mg base T.f_w_right cdv A outer s H E).A.guards = some [] := hg
    have hr_w_alive : Room 1 _ := hr.mono (by decide)
    have hr_w_names : Room 3 _ := hr.mono (by decide)
    have hr_w_pick : Room 2 _ := hr.mono (by decide)
    have hr_w_roll : Room 1 _ := hr.mono (by decide)
    have hr_w_rows : Room 4 _ := hr.mono (by decide)
    have hr_w_sorted : Room 1 _ := hr.mono (by decide)
    obtain ⟨tB, hB, qB⟩ := loopB (P := P) (w := w) (base := base) (outer := outer) (H0 := H) (E := E) T U hg hr
    obtain ⟨tC, hC, qC⟩ := loopC (P := P) (w := w) (base := base) (outer := outer) (H0 := H) (E := E) T U hg hr
    refine ⟨_, (pss_cons (ps_set (i := 1) sc_w_right.nd rfl (Or.inr rfl) (pe_call G_w_pick hr_w_pick rfl T.m_w_pick T.F_w_pick.kp T.b_w_pick .nil pass0 (pa_cons (pv 0) (pa_cons (pe_lst (pa_cons pe_int (pa_cons pe_int (pa_cons pe_int (pa_cons pe_int (pa_cons pe_int (pa_cons pe_int pa_nil))))))) pa_nil))))
      (pss_cons (ps_set (i := 2) sc_w_right.nd rfl (Or.inr rfl) (pe_call G_w_rows hr_w_rows rfl T.m_w_rows T.F_w_rows.kp T.b_w_rows .nil pass0 (pa_cons (pv 0) (pa_cons (pv 1) (pa_cons (pe_call G_w_names hr_w_names rfl T.m_w_names T.F_w_names.kp T.b_w_names .nil pass0 (pa_cons (pv 0) (pa_cons (pe_op op_add pe_int (pe_call G_w_roll hr_w_roll rfl T.m_w_roll T.F_w_roll.kp T.b_w_roll .nil pass0 (pa_cons (pv 0) (pa_cons pe_int pa_nil)))) pa_nil))) pa_nil)))))
      (pss_cons (ps_set (i := 3) sc_w_right.nd rfl (Or.inl rfl) (pe_make U.mkI G_init (hr.mono (by decide)) rfl U.mC U.bI .nil pass0 (pa_cons (pv 1) (pa_cons (pv 2) pa_nil))))
      (pss_cons (ps_set (i := 4) sc_w_right.nd rfl (Or.inr rfl) (pe_lc (own := [("tick", 12)]) (g := gName 12) rfl sc_w_right.nd (pi_range2 (by rfl) T.z_range (pa_cons (pe_op op_sub (pe_un un_neg (pv 1)) pe_int) (pa_cons (pe_op op_add (pe_op op_mul pe_int (pv 1)) pe_int) pa_nil))) (blkOk_by (N := NR) (sc := defScope s_w_right) (by decide +kernel)) (fun _ _ _ _ _ => (pg_name (i := 12) sc_w_right.nd rfl (Or.inl rfl))) (fun _ _ _ _ _ => pts_nil) (fun _ _ _ _ _ => (pe_call G_w_alive hr_w_alive rfl T.m_w_alive T.F_w_alive.kp T.b_w_alive .nil pass0 (pa_cons (pv 2) (pa_cons (pv 1) (pa_cons (pv 12) pa_nil)))))))
      (pss_cons (ps_set (i := 5) sc_w_right.nd rfl (Or.inr rfl) (pe_lc (own := [("values", 17)]) (g := gName 17) rfl sc_w_right.nd (pi_list (pe_slice sl_list (pv 4) (po_some (pe_op op_add (pv 1) pe_int)) (po_some (pe_op op_add (pe_op op_mul pe_int (pv 1)) pe_int)))) (blkOk_by (N := NR) (sc := defScope s_w_right) (by decide +kernel)) (fun _ _ _ _ _ => (pg_name (i := 17) sc_w_right.nd rfl (Or.inl rfl))) (fun _ _ _ _ _ => pts_nil) (fun _ _ _ _ _ => (pe_callB (r := fun xs H Q => ∃ x n, xs = [x] ∧ LenV K x H n ∧ Q (V.int ↑n) H) call_len (by rfl) T.z_len (by decide +kernel) (pa_cons (pv 17) pa_nil)))))
      (pss_cons (ps_set (i := 6) sc_w_right.nd rfl (Or.inl rfl) (pe_callTy call_tuple_of (by rfl) T.z_tuple (by decide +kernel) (pa_cons (pe_lc (own := [("slot", 18)]) (g := gName 18) rfl sc_w_right.nd (pi_range1 (by rfl) T.z_range (pa_cons (pv 1) pa_nil)) (blkOk_by (N := NR) (sc := defScope s_w_right) (by decide +kernel)) (fun _ _ _ _ _ => (pg_name (i := 18) sc_w_right.nd rfl (Or.inl rfl))) (fun _ _ _ _ _ => pts_one (pt_cmpR op_eq (pe_ix (r := rIx K) ix_seq (pv 5) (pv 18) (fun _ _ => rfl)) (pe_callB (r := rMax K) (cr_max rfl) (by rfl) T.z_max (by decide +kernel) (pa_cons (pv 5) pa_nil)) (by with_unfolding_all rfl))) (fun _ _ _ _ _ => (pv 18))) pa_nil)))
      (pss_cons (ps_if (PW.pt (pw_or (pt_cmpR op_ne (pe_callB (RL.cr_reprD hgd (un64 hr)) (by rfl) T.z_repr (by decide +kernel) (pa_cons (pe_lst (pa_cons (pe_prop (pv 3) U.cl U.pm.pr Gm (hr.mono (by decide)) U.pm.b .nil pass0 rfl) (pa_cons (pe_prop (pv 3) U.cl U.pp.pr Gp (hr.mono (by decide)) U.pp.b .nil pass0 rfl) pa_nil))) pa_nil)) (pe_callB (RL.cr_reprD hgd (un64 hr)) (by rfl) T.z_repr (by decide +kernel) (pa_cons (pe_lst (pa_cons (pe_callB (cr_max rfl) (by rfl) T.z_max (by decide +kernel) (pa_cons (pv 5) pa_nil)) (pa_cons (pv 6) pa_nil))) pa_nil)) (nomark _)) (pw_or1 (pt_cmpR op_ne (pe_callB (cr_sum rfl) (by rfl) T.z_sum (by decide +kernel) (pa_cons (pv 5) pa_nil)) (pe_prop (pv 3) U.cl U.pt.pr Gt (hr.mono (by decide)) U.pt.b .nil pass0 rfl) (nomark _)))))
      (pss_one (ps_ret pe_bl))
      pss_nil)
      (pss_cons hB
      (pss_cons hC
      (pss_one (ps_ret (pe_cmpR op_eq (pe_callB (RL.cr_reprD hgd (un64 hr)) (by rfl) T.z_repr (by decide +kernel) (pa_cons (pe_prop (pv 3) U.cl U.pr.pr Gr (hr.mono (by decide)) U.pr.b .nil pass0 rfl) pa_nil)) (pe_callB (RL.cr_reprD hgd (un64 hr)) (by rfl) T.z_repr (by decide +kernel) (pa_cons (pe_call G_w_sorted hr_w_sorted rfl T.m_w_sorted T.F_w_sorted.kp T.b_w_sorted .nil pass0 (pa_cons (pv 2) pa_nil)) pa_nil)) (nomark _))))))))))))), ?_⟩
    have nm' : ∀ {Hx : Hp} {x : Addr}, Rl Hx r → Hx x = none → x ≠ r := fun Rx hx z => by
      obtain ⟨_, _, _, e⟩ := Rx
      rw [z, e] at hx
      cases hx
    -- the interval
    refine ⟨_, rfl, by show 6 ≤ sizeLine; decide, fun l1 hl1 => ?_⟩
    have A1 := Same.new (o := .lst [V.int 1, .int 2, .int 3, .int 4, .int 5, .int 6]) hl1
    have e1 : (upd H l1 (.lst [V.int 1, .int 2, .int 3, .int 4, .int 5, .int 6])) l1 = some (.lst [V.int 1, .int 2, .int 3, .int 4, .int 5, .int 6]) := upd_same
    have R1 := Same.rl A1 R0
    have n1 := nm' R0 hl1
    generalize upd H l1 (.lst [V.int 1, .int 2, .int 3, .int 4, .int 5, .int 6]) = H1 at A1 e1 R1 ⊢
    refine ⟨r, .ref l1, _, rfl, R1, .inl ⟨l1, rfl, n1, .inl (SqL.of e1)⟩, by decide, by show 6 ≤ sizeLine; decide, fun v H2 hv R2 O2 => ?_⟩
    obtain ⟨t, rfl, t1, t2⟩ : ∃ t, v = .int t ∧ 1 ≤ t ∧ t ≤ 6 := by
      simp only [List.mem_cons, List.not_mem_nil, or_false] at hv
      rcases hv with rfl | rfl | rfl | rfl | rfl | rfl <;> exact ⟨_, rfl, by decide, by decide⟩
    have P2 : Only r H H2 := Only.trans (Same.only A1) O2
    clear A1 e1 R1 O2 hv hl1 n1
    -- the rows
    refine ⟨_, rfl, _, rfl, _, rfl, _, rfl, r, 6, rfl, R2, by decide, by decide +kernel, fun u H3 u0 u1 R3 O3 => ⟨_, _, rfl, rfl, ?_⟩⟩
    refine ⟨r, (1 + u).toNat, by rw [Int.toNat_of_nonneg (by omega)]; rfl, R3, by omega, by omega, fun ln ns H4 R4 O4 hln eln nd nlen nok => ?_⟩
    refine ⟨r, ln, t, ns, rfl, R4, nm' R3 hln, SqL.of eln, t1, by omega, nd, by omega, nok, fun d L R H5 R5 O5 hd0 ed ts pm0 hR0 => ?_⟩
    have P5 : Only r H H5 := Only.trans P2 (Only.trans O3 (Only.trans O4 O5))
    clear eln O3 O4 O5 P2 R2 R3 hln
    have ndr : d ≠ r := fun z => by
      obtain ⟨_, _, _, e⟩ := R5
      rw [z, e] at ed
      cases ed
    have lR : R.length = ns.length := by have := pm0.length_eq; rw [List.length_map] at this; exact this
    have gR : Good t R := by
      refine ⟨pm0.nodup_iff.mpr nd, by omega, by omega, fun x hx => nok x.1 (pm0.mem_iff.mp (List.mem_map.mpr ⟨x, hx, rfl⟩)), fun x hx => (hR0 x hx).1, fun x hx => ?_, t1, by omega⟩
      have q := (hR0 x hx).2.1
      unfold Near at *
      omega
    have fR : ∀ x ∈ R, Fin1 t x := fun x hx => (hR0 x hx).2
    have gR8 := gR.l8
    clear nd nlen nok lR pm0 hR0 hd0 R4
    -- spans
    refine ⟨_, rfl, _, rfl, fun p dq hq hdq ne => ?_⟩
    have S0 : Same H5 (upd (upd H5 dq (.own p)) p (.ins U.C dq [])) := fun b o e => by
      rw [upd_ne (ne_of_none e hq), upd_ne (ne_of_none e hdq)]
      exact e
    refine ⟨p, d, dq, t, L, R, rfl, upd_same, S0 _ _ ed, ts.keep (KT.same S0), gR, fun S H6 B6 spf srS => ⟨rfl, ?_⟩⟩
    have S6 : Same H5 H6 := fun b o e => B6 _ _ (ne_of_none e hq) (S0 _ _ e)
    have sp6 : SpAt H6 U.C p t S r := spf r fun z => by
      obtain ⟨_, _, _, e⟩ := R5
      rw [S0 _ _ e] at z
      cases z
    have ed6 := S6 _ _ ed
    have ts6 := ts.keep (KT.same S6)
    have R6 := Same.rl S6 R5
    have P6 : Only r H H6 := Only.trans P5 (Same.only S6)
    clear S0 B6 spf S6 ed ts R5 P5 hq hdq ne
    have gS : Good t S := sp6.1
    have so' : sortedS (S.map (·.1)) = true := sp6.2.1
    have g8 := gS.l8
    -- the lists
    refine ⟨_, rfl, _, rfl, _, _, rfl, rfl, _, rfl, _, _, rfl, rfl, .inl ⟨by decide, by decide⟩, _, _, rfl, rfl, _, _, rfl, ⟨by omega, by omega, by omega, by omega⟩, fun D hD => ?_⟩
    refine lc_range (lo := -t - 1) (n := (2 * t + 1 - (-t - 1)).toNat) (fun j H' => Same H6 H' ∧ ∃ as : List Addr, H' D = some (.lst (as.map V.ref)) ∧ as.length = j ∧ ∀ (j' : Nat) a, as[j']? = some a → a ≠ r ∧ a ≠ D ∧ ∃ xs, H' a = some (.lst xs) ∧ OutAt H' xs (eachL t ((j' : Int) - t - 1) S)) ⟨Same.new hD, [], upd_same, rfl, fun j' a h => by simp at h⟩ ?_ ?_
    · rintro j Ha hj ⟨Sa, as, eD, la, lsa⟩
      refine ⟨rfl, ?_⟩
      unfold tYes
      dsimp only
      rw [if_pos rfl]
      refine ⟨_, rfl, _, rfl, _, rfl, d, L, R, t, -t - 1 + (j : Int), rfl, Sa _ _ ed6, ts6.keep (KT.same Sa), gR, fR, ⟨by omega, by omega⟩, fun q ys xs Hb Sb hq eq pm so oa => ?_⟩
      have eS : pickR R ys = S := Srd.eq gR.nd ⟨pickR_perm gR.nd pm, by rw [pickR_names]; exact so⟩ srS
      rw [eS, show -t - 1 + (j : Int) = (j : Int) - t - 1 by omega] at oa
      have nqD : q ≠ D := fun z => by rw [z, eD] at hq; cases hq
      have nqr : q ≠ r := nm' (Same.rl Sa R6) hq
      have kt : KT Hb (upd Hb D (.lst (as.map V.ref ++ [V.ref q]))) := KT.put (Sb _ _ eD) (fun _ z => by cases z)
      refine ⟨_, Sb _ _ eD, by rw [List.length_map, la, sizeLine_eq]; omega, Same.at hD (Same.trans Sa Sb), as ++ [q], by rw [upd_same, List.map_append]; rfl, by rw [List.length_append, la]; rfl, fun j' a h => ?_⟩
      by_cases hlt : j' < as.length
      · rw [List.getElem?_append_left hlt] at h
        obtain ⟨n1, n2, ws, hw, ow⟩ := lsa j' a h
        exact ⟨n1, n2, ws, by rw [upd_ne n2]; exact Sb _ _ hw, (ow.keep (KT.same Sb)).keep kt⟩
      · rw [List.getElem?_append_right (by omega)] at h
        have e0 : j' - as.length = 0 := by
          have := (List.getElem?_eq_some_iff.mp h).1
          rw [List.length_singleton] at this
          omega
        rw [e0] at h
        cases h
        rw [show j' = j by omega]
        exact ⟨nqr, nqD, xs, by rw [upd_ne nqD]; exact eq, oa.keep kt⟩
    rintro H7 ⟨S7, as, eD7, la, lsa⟩
    have ls7 : LsAt H7 t S r as := ⟨by rw [la]; omega, fun j' a h => by
      obtain ⟨n1, _, ws, hw, ow⟩ := lsa j' a h
      exact ⟨n1, ws, hw, ow⟩⟩
    have nDr := nm' R6 hD
    have R7 := Same.rl S7 R6
    have sp7 := sp6.same S7
    have ed7 := S7 _ _ ed6
    have ts7 := ts6.keep (KT.same S7)
    have P7 : Only r H H7 := Only.trans P6 (Only.trans (Same.only (Same.refl _)) (fun b o _ e => S7 b o e))
    have las : (as.length : Int) = 3 * t + 2 := ls7.1
    clear lsa S7 R6 sp6 ed6 ts6 P6 hD
    -- the sizes
    have ec : cutV (as.map V.ref) (some (t + 1)) (some (2 * t + 1)) = ((as.drop (t + 1).toNat).take ((2 * t + 1).toNat - (t + 1).toNat)).map V.ref := by
      have h := cut2 (f := V.ref) (xs := as) (a := (t + 1).toNat) (b := (2 * t + 1).toNat) (by omega) (by omega) (by omega)
      rw [Int.toNat_of_nonneg (by omega), Int.toNat_of_nonneg (by omega)] at h
      exact h
    refine ⟨_, rfl, _, rfl, _, _, rfl, rfl, _, rfl, _, rfl, _, _, rfl, rfl, .inl ⟨by decide, by decide⟩, _, _, rfl, rfl, _, rfl, D, _, rfl, SqL.of eD7, fun q hq => ⟨q, rfl, ⟨_, SqL.of upd_same⟩, fun D2 hD2 => ?_⟩⟩
    have eq1 : (upd H7 q (.lst (cutV (as.map V.ref) (some (t + 1)) (some (2 * t + 1))))) q = some (.lst (((as.drop (t + 1).toNat).take ((2 * t + 1).toNat - (t + 1).toNat)).map V.ref)) := by rw [upd_same, ec]
    have Sq : Same H7 (upd H7 q (.lst (cutV (as.map V.ref) (some (t + 1)) (some (2 * t + 1))))) := Same.new hq
    have lmid : ((as.drop (t + 1).toNat).take ((2 * t + 1).toNat - (t + 1).toNat)).length = t.toNat := by rw [List.length_take, List.length_drop]; omega
    refine lc_it (walk_list (K := K) (a := q) (xs := ((as.drop (t + 1).toNat).take ((2 * t + 1).toNat - (t + 1).toNat)).map V.ref)) (fun j H' => Same (upd H7 q (.lst (cutV (as.map V.ref) (some (t + 1)) (some (2 * t + 1))))) H' ∧ H' D2 = some (.lst (((List.range j).map fun (s : Nat) => cnt S t 0 (S.map (·.1)) (s : Int)).map V.int))) ⟨Same.new hD2, upd_same⟩ (fun j H' _ h => SqL.of (h.1 _ _ eq1)) ?_ ?_
    · rintro j x Ha Hb hj ⟨Sa, eD⟩ ⟨rfl, hx⟩
      rw [List.length_map, lmid] at hj
      rw [List.getElem?_map, List.getElem?_take_of_lt (by omega), List.getElem?_drop] at hx
      obtain ⟨a, ea⟩ : ∃ a, as[(t + 1).toNat + j]? = some a := ⟨_, List.getElem?_eq_getElem (by omega)⟩
      rw [ea] at hx
      cases hx
      obtain ⟨_, ws, hw, ow⟩ := ls7.2 _ a ea
      rw [show (((t + 1).toNat + j : Nat) : Int) - t - 1 = (j : Int) by omega] at ow
      refine ⟨rfl, ?_⟩
      unfold tYes
      dsimp only
      rw [if_pos rfl]
      refine ⟨_, rfl, _, _, rfl, .inl ⟨_, SqL.of (Sa _ _ (Sq _ _ hw)), rfl⟩, ?_⟩
      rw [ow.len, each_cnt gS so' (by omega)]
      refine ⟨_, eD, by rw [List.length_map, List.length_map, List.length_range, sizeLine_eq]; omega, Same.at hD2 Sa, ?_⟩
      rw [upd_same, List.range_succ, List.map_append, List.map_append]
      rfl
    rintro H8 ⟨Sa, eD⟩
    rw [List.length_map, lmid] at eD
    have e8 : H8 D2 = some (.lst ((szs S t).map V.int)) := eD
    have S8 := Same.trans Sq Sa
    have R8 := Same.rl S8 R7
    have sp8 := sp7.same S8
    have ed8 := S8 _ _ ed7
    have ts8 := ts7.keep (KT.same S8)
    have ls8 := ls7.same S8
    have eD8 := S8 _ _ eD7
    have P8 : Only r H H8 := Only.trans P7 (Same.only S8)
    have lz : 0 < (szs S t).length := by unfold szs; rw [List.length_map, List.length_range]; omega
    clear eD Sa Sq eq1 ec lmid S8 R7 sp7 ed7 ts7 ls7 eD7 P7 hq hD2
    -- the peaks
    obtain ⟨m, hm⟩ := mst_ex (S := S) t1 (S.map (·.1))
    refine ⟨_, rfl, _, rfl, by omega, by omega, fun D3 hD3 => ?_⟩
    refine lc_range (tt := tTest _) (lo := 0) (n := t.toNat) (fun j H' => Same H8 H' ∧ H' D3 = some (.lst ((pkS S t m j).map V.int))) ⟨Same.new hD3, upd_same⟩ ?_ ?_
    · rintro j Ha hj ⟨Sa, eD⟩
      rw [Int.zero_add]
      refine ⟨rfl, ?_⟩
      have ez : atI ((szs S t).map V.int) (j : Int) = some (.int (cnt S t 0 (S.map (·.1)) (j : Int))) := by
        refine atI_nat ?_
        unfold szs
        rw [List.getElem?_map, List.getElem?_map, List.getElem?_range hj]
        rfl
      refine ⟨_, rfl, _, rfl, .inl ⟨D2, _, _, _, rfl, rfl, SqL.of (Sa _ _ e8), ez, _, rfl, D2, szs S t, rfl, SqL.of (Sa _ _ e8), lz, fun m' h1 h2 => ⟨rfl, _, rfl, ?_⟩⟩⟩
      obtain rfl := Mst.eq (S := S) (t := t) ⟨h1, h2⟩ hm
      by_cases hc : cnt S t 0 (S.map (·.1)) (j : Int) = m'
      · rw [decide_eq_true (by rw [hc])]
        refine iteT ⟨_, rfl, _, eD, ?_, Same.at hD3 Sa, ?_⟩
        · unfold pkS
          rw [List.length_map, List.length_map]
          refine Nat.lt_of_le_of_lt (List.length_filter_le _ _) ?_
          rw [List.length_range, sizeLine_eq]
          omega
        · rw [upd_same]
          unfold pkS
          rw [List.range_succ, List.filter_append, List.filter_cons_of_pos (by simp [hc]), List.map_append, List.map_append]
          rfl
      · rw [decide_eq_false (fun z => hc (V.int.inj z))]
        refine iteF ⟨Sa, ?_⟩
        rw [eD]
        unfold pkS
        rw [List.range_succ, List.filter_append, List.filter_cons_of_neg (by simp [hc]), List.filter_nil, List.append_nil]
    rintro H9 ⟨Sa, eD⟩
    refine ⟨D3, _, rfl, .inl ⟨SqL.of eD, fun pk hpk => ?_⟩⟩
    have Sp := Same.trans Sa (Same.new (o := .tup ((pkS S t m t.toNat).map V.int)) hpk)
    have epk : (upd H9 pk (.tup ((pkS S t m t.toNat).map V.int))) pk = some (.tup ((pkS S t m t.toNat).map V.int)) := upd_same
    generalize upd H9 pk (.tup ((pkS S t m t.toNat).map V.int)) = Ha at Sp epk ⊢
    have Ra := Same.rl Sp R8
    have spa := sp8.same Sp
    have eda := Sp _ _ ed8
    have tsa := ts8.keep (KT.same Sp)
    have lsa := ls8.same Sp
    have eDa := Sp _ _ eD8
    have eza := Sp _ _ e8
    have Pa : Only r H Ha := Only.trans P8 (Same.only Sp)
    clear Sp Sa eD R8 sp8 ed8 ts8 ls8 eD8 e8 P8 hD3 hpk
    obtain ⟨_, _, dx, rd, nm, lv, cr, L9, LL, LC, h1, _⟩ := id spa
    -- most, peaks, total
    refine ⟨_, rfl, p, dx, _, rfl, h1, p, t, S, r, rfl, spa, fun m1 Hb hm1 Sb => ?_⟩
    obtain rfl := hm1.eq hm
    refine ⟨_, rfl, p, dx, _, rfl, Sb _ _ h1, p, t, S, r, rfl, spa.same Sb, fun m2 pq Hc hm2 Sc epq => ?_⟩
    obtain rfl := hm2.eq hm1
    refine ⟨by show 2 ≤ sizeLine; decide, fun l2 hl2 => ?_⟩
    have small := mst_small gS so' hm2
    have td := (TD.list (TLs.cons (TD.int (i := m2) (by omega) (by omega)).up (TLs.cons (TD.peaks (S := S) (m := m2) t1 (by omega)) TLs.nil))).tell (by decide) (by decide)
    have A2 := Same.new (o := .lst [V.int m2, .ref pq]) hl2
    refine ⟨l2, _, rfl, .lst (SqL.of upd_same) (.cons (.int m2) (.cons (.tup (SqT.of (A2 _ _ epq)) (ints_dss _)) .nil)), td.1, td.2.1, td.2.2, ?_⟩
    have Sd := Same.trans Sb (Same.trans Sc A2)
    generalize upd Hc l2 (.lst [V.int m2, .ref pq]) = Hd at A2 Sd ⊢
    refine ⟨_, rfl, D2, szs S t, rfl, SqL.of (Sd _ _ eza), lz, fun m3 h3 h3' => ?_⟩
    obtain rfl := Mst.eq (S := S) (t := t) ⟨h3, h3'⟩ hm2
    refine ⟨_, rfl, by show 2 ≤ sizeLine; decide, fun l4 hl4 => ?_⟩
    have A4 := Same.new (o := .lst [V.int m3, .ref pk]) hl4
    refine ⟨l4, _, rfl, .lst (SqL.of upd_same) (.cons (.int m3) (.cons (.tup (SqT.of (A4 _ _ (Sd _ _ epk))) (ints_dss _)) .nil)), td.1, td.2.1, td.2.2, ?_⟩
    have Se := Same.trans Sd A4
    generalize upd Hd l4 (.lst [V.int m3, .ref pk]) = He at A4 Se ⊢
    refine ⟨rfl, _, rfl, ?_⟩
    rw [decide_eq_true rfl]
    refine iteF ?_
    refine ⟨_, rfl, D2, _, rfl, SqL.of (Se _ _ eza), ?_⟩
    refine ⟨_, rfl, p, dx, _, rfl, Se _ _ h1, p, t, S, r, rfl, spa.same Se, fun Hf Sf => ?_⟩
    refine ⟨rfl, _, rfl, ?_⟩
    rw [szs_sum gS, decide_eq_true rfl]
    refine iteF ?_
    have Sg := Same.trans Se Sf
    have Rf := Same.rl Sg Ra
    have spf := spa.same Sg
    have edf := Sg _ _ eda
    have tsf := tsa.keep (KT.same Sg)
    have lsf := lsa.same Sg
    have eDf := Sg _ _ eDa
    have Pf : Only r H Hf := Only.trans Pa (Same.only Sg)
    clear Sg Sf Se Sd Sb Sc A2 A4 Ra spa eda tsa lsa eDa eza epk epq Pa td hl2 hl4 h1
    -- the loops
    refine qB _ _ _ r t d p D L R S as ⟨_, _, _, _, _, _, _, _, _, _, _, _, _, _, _, _, rfl⟩ Rf spf eDf nDr lsf t2 edf tsf gR srS fun σ1 Hg sr1 Rg Og => ?_
    have spg := spf.only Og Rf
    have lsg := lsf.only Og Rf
    have eDg := Og _ _ nDr eDf
    have edg := Og _ _ ndr edf
    have tsg := tsf.keep (KT.only Og Rf)
    refine qC _ _ _ r t d p D S as sr1 spg eDg lsg (by omega) fun σ2 Hh sr2 Sh => ?_
    obtain ⟨x5, x6, x7, x8, x9, x10, x11, x12, x13, x14, x15, x16, x17, x18, x19, x20, rfl⟩ := sr2
    have sph := spg.same Sh
    obtain ⟨_, _, dx, rd, nm, lv, cr, L9, LL, LC, h1, _⟩ := id sph
    -- the rows at the end
    refine ⟨_, rfl, p, dx, _, rfl, h1, p, t, S, r, rfl, sph, fun q L1 hq ts1 => ?_⟩
    have Aq := Same.new (o := .dK (Kvs L1)) hq
    have td := (TD.rows gS).tell (by decide) (by decide)
    refine ⟨q, _, rfl, rows_ds upd_same (ts1.keep (KT.same Aq)), td.1, td.2.1, td.2.2, ?_⟩
    generalize upd Hh q (.dK (Kvs L1)) = Hi at Aq ⊢
    have Si := Same.trans Sh Aq
    refine ⟨_, rfl, d, L, R, rfl, Si _ _ edg, tsg.keep (KT.same Si), gR.nd, gR8, fun d' L' S' Hj Sj hd' ed' ts' srd => ?_⟩
    obtain rfl : S = S' := Srd.eq gR.nd srS srd
    refine ⟨d', _, rfl, rows_ds ed' ts', td.1, td.2.1, td.2.2, ?_⟩
    refine ⟨rfl, ?_⟩
    have Sz := Same.trans Si Sj
    exact bl_to (decide_eq_true rfl) (k Hj (Same.rl Sz Rg) (Only.trans Pf (Only.trans Og (Same.only Sz))))
end
end K38
namespace K38
open PySem L2
open PyProof.Rows PySem.Spec
def wN : List Str := (Str.ofString "abcdefgh").cps.toList.map fun c => (⟨#[c]⟩ : Str)
def wR : Rws := wN.map fun n => (n, 2, 26)
def oR : Rws := [(Str.ofString "a", 5, 6)]
theorem w_srd : Srd wR wR := ⟨.refl _, by decide +kernel⟩
theorem o_srd : Srd oR oR := ⟨.refl _, by decide +kernel⟩
theorem w_good : Good 3 wR := by
  refine ⟨by decide +kernel, by decide +kernel, by decide +kernel, fun x hx => ?_, fun x hx => ?_, fun x hx => ?_, by decide, by decide⟩
  · have h : wR.all (fun x => nmC x.1) = true := by decide +kernel
    exact List.all_eq_true.mp h x hx
  · obtain ⟨n, _, rfl⟩ := List.mem_map.mp hx
    show 1 ≤ (26 : Int) - 2 ∧ (26 : Int) - 2 ≤ 8 * 3
    decide
  · obtain ⟨n, _, rfl⟩ := List.mem_map.mp hx
    show -900000000000 ≤ (2 : Int) ∧ (26 : Int) ≤ 900000000000
    decide
theorem o_good : Good 32 oR := by
  refine ⟨by decide +kernel, by decide, by decide, fun x hx => ?_, fun x hx => ?_, fun x hx => ?_, by decide, by decide⟩ <;> rw [List.mem_singleton.mp hx]
  · decide +kernel
  · exact ⟨by decide, by decide⟩
  · exact ⟨by decide, by decide⟩
theorem w_mst {m : Int} (h : Mst wR 3 (wR.map (·.1)) m) : m = 64 := by
  have e : ((List.range (3 : Int).toNat).map fun (s : Nat) => cnt wR 3 0 (wR.map (·.1)) (s : Int)) = [64, 64, 64] := by decide +kernel
  have h1 := h.1
  rw [e] at h1
  simpa using h1
theorem o_mst {m : Int} (h : Mst oR 32 (oR.map (·.1)) m) : m = 1 := by
  have h1 := h.2 1 (by decide +kernel)
  have e : ((List.range (32 : Int).toNat).map fun (s : Nat) => cnt oR 32 0 (oR.map (·.1)) (s : Int)).all (fun y => decide (y ≤ 1)) = true := by decide +kernel
  have h2 := of_decide_eq_true (List.all_eq_true.mp e m h.1)
  omega
theorem chs_nil (S : Rws) (zs : List Str) : chs S [] zs = S.map (·.1) := by
  unfold chs
  rw [if_pos rfl]
def wD : PyData := .list [.int 64, .tuple [.int 0, .int 1, .int 2], .int 64, .int 64, .int 56, .int 64]
def oD : PyData := .list [.int 1, .tuple [.int 5], .int 0, .int 0, .int 1]
theorem w_tell : wD.showable = true ∧ wD.shown.length ≤ sizeLine ∧ wD.depth ≤ 60 := by
  refine ⟨by decide +kernel, ?_, by decide +kernel⟩
  rw [sizeLine_eq]
  decide +kernel
theorem o_tell : oD.showable = true ∧ oD.shown.length ≤ sizeLine ∧ oD.depth ≤ 60 := by
  refine ⟨by decide +kernel, ?_, by decide +kernel⟩
  rw [sizeLine_eq]
  decide +kernel
theorem w_pk : pkS wR 3 64 (3 : Int).toNat = [0, 1, 2] := by decide +kernel
theorem o_pk : pkS oR 32 1 (32 : Int).toNat = [5] := by decide +kernel
theorem w_c0 : cnt wR 3 0 (wR.map (·.1)) (-7 % 3) = 64 := by decide +kernel
theorem w_c1 : cnt wR 3 1 (wR.map (·.1)) (1 % 3) = 64 := by decide +kernel
theorem w_c2 : cnt wR 3 1 (wR.map (·.1)) (2 % 3) = 56 := by decide +kernel
theorem w_len : (eachL 3 100 wR).length = 64 := by decide +kernel
theorem o_c0 : cnt oR 32 1 (oR.map (·.1)) (5 % 32) = 0 := by decide +kernel
theorem o_c1 : cnt oR 32 1 (oR.map (·.1)) (6 % 32) = 0 := by decide +kernel
theorem o_c2 : cnt oR 32 0 (oR.map (·.1)) (37 % 32) = 1 := by decide +kernel
theorem wR_at {i : Nat} {c : Nat} (h : (Str.ofString "abcdefgh").cps[i]? = some c) : wR[i]? = some (⟨#[c]⟩, 2, 26) := by
  unfold wR wN
  rw [List.getElem?_map, List.getElem?_map, Array.getElem?_toList, h]
  rfl
section
variable {P : Program} {w : World} {K : PySem.W.Frag}
                                                      {mg : Str → Option Value} {base : Heap}
def sp_law (K : PySem.W.Frag) : Sp := fun vs H Q _ => ∃ (a : Addr) (ns : List Int), vs = [.ref a] ∧ SqL K H a (ns.map V.int) ∧ ns.length ≤ 63 ∧ ∀ H', Q (.bl true) H'
theorem ok_law (T : T K mg) (U : UX K mg) : GW.FnG P w K mg base CX0 15 T.f_law T.d_law ["script"] (sp_law K) := by
  have G_w_right : GW.FnG P w K mg base CX0 13 T.f_w_right T.d_w_right ["tray"] (sp_w_right K) := ok_w_right T U
  have G_w_tray : FnOk P w K mg base CX0 1 T.f_w_tray T.d_w_tray ["script", "spot"] (sp_w_tray K) := ok_w_tray T
  have G_init : FnOk P w K mg base CX0 6 U.fI U.dI ["self", "interval", "rows"] (sp_init K U.C) := ok_init T U
  have Gm : FnOk P w K mg base CX0 3 U.pm.g U.pm.d ["self"] (sp_most K U.C) := ok_most T U
  have Gp : FnOk P w K mg base CX0 3 U.pp.g U.pp.d ["self"] (sp_peaks K U.C) := ok_peaks T U
  have G1 : FnR P w K mg base CX0 4 U.ma.f (sr_alive K U.C) := ok_alive T U
  have G2 : FnR P w K mg base CX0 4 U.mc.f (sr_across K U.C) := ok_across T U
  have G3 := ok_each (P := P) (w := w) (base := base) T U
  refine GW.FunG.okG T.F_law sc_law (fun vs H Q E h => ?_) (fun cdv A outer s H vs Q E hg hr h => ?_)
  · obtain ⟨a, ns, rfl, _⟩ := h
    rfl
  · obtain ⟨a, ns, rfl, hS, hlen, k⟩ := h
    have hu := hu_of hr
    have hgd : (cxOf CX0 P w K mg base ["script", "spot", "wide", "told", "one", "letter"] "law" (defScope s_law) T.f_law cdv A outer s H E).nox.A.guards = some [] := hg
    have hr_w_right : Room 13 _ := hr.mono (by decide)
    have hr_w_tray : Room 1 _ := hr.mono (by decide)
    refine ⟨_, (pss_cons (ps_for PassesOwn.never rfl (pi_range1 (by rfl) T.z_range (pa_cons (pe_callB (call_max2 rfl) (by rfl) T.z_max (by decide +kernel) (pa_cons pe_int (pa_cons (pe_callB (call_min2 rfl) (by rfl) T.z_min (by decide +kernel) (pa_cons pe_int (pa_cons (pe_callB call_len (by rfl) T.z_len (by decide +kernel) (pa_cons (pv 0) pa_nil)) pa_nil))) pa_nil))) pa_nil)) (pg_name (i := 1) sc_law.nd rfl (Or.inl rfl))
      (pss_one (ps_if (pt_not (pt_val (GW.pe_callG G_w_right hgd hr_w_right rfl T.m_w_right T.F_w_right.kp T.b_w_right .nil pass0 (pa_cons (pe_call G_w_tray hr_w_tray rfl T.m_w_tray T.F_w_tray.kp T.b_w_tray .nil pass0 (pa_cons (pv 0) (pa_cons (pv 1) pa_nil))) pa_nil))))
      (pss_one (ps_ret pe_bl))
      pss_nil)))
      (pss_cons (ps_set (i := 2) sc_law.nd rfl (Or.inl rfl) (pe_make U.mkI G_init (hr.mono (by decide)) rfl U.mC U.bI .nil pass0 (pa_cons pe_int (pa_cons (pe_callTy (call_dictP rfl) (by rfl) T.z_dict (by decide +kernel) (pa_cons (pe_lc (own := [("letter", 5)]) (g := gName 5) rfl sc_law.nd (pi_str pe_str) (blkOk_by (N := ["script", "spot", "wide", "told", "one", "letter"]) (sc := defScope s_law) (by decide +kernel)) (fun _ _ _ _ _ => (pg_name (i := 5) sc_law.nd rfl (Or.inl rfl))) (fun _ _ _ _ _ => pts_nil) (fun _ _ _ _ _ => (pe_tup (pa_cons (pv 5) (pa_cons (pe_tup (pa_cons pe_int (pa_cons pe_int pa_nil))) pa_nil))))) pa_nil)) pa_nil))))
      (pss_cons (ps_set (i := 3) sc_law.nd rfl (Or.inl rfl) (pe_lst (pa_cons (pe_prop (pv 2) U.cl U.pm.pr Gm (hr.mono (by decide)) U.pm.b .nil pass0 rfl) (pa_cons (pe_prop (pv 2) U.cl U.pp.pr Gp (hr.mono (by decide)) U.pp.b .nil pass0 rfl) (pa_cons (MR.pe_methR (pv 2) U.cl U.ma.m G1 (hr.mono (by decide)) pass0 (pa_cons (pe_un un_neg pe_int) pa_nil)) (pa_cons (MR.pe_methR (pv 2) U.cl U.mc.m G2 (hr.mono (by decide)) pass0 (pa_cons pe_int pa_nil)) (pa_cons (MR.pe_methR (pv 2) U.cl U.mc.m G2 (hr.mono (by decide)) pass0 (pa_cons pe_int pa_nil)) (pa_cons (pe_callB call_len (by rfl) T.z_len (by decide +kernel) (pa_cons (pe_listG (pgen_meth (E := GC2.noE) (pv 2) U.cl U.me.m G3 (hr.mono (by decide)) U.me.b .nil (pa_cons pe_int pa_nil)) passF noStopF (hr.mono (by decide)) (by rfl) T.z_list (by decide +kernel)) pa_nil)) pa_nil))))))))
      (pss_cons (ps_if (pt_cmpR op_ne (pe_callB (RL.cr_reprD hgd (un64 hr)) (by rfl) T.z_repr (by decide +kernel) (pa_cons (pv 3) pa_nil)) (pe_callB (RL.cr_reprD hgd (un64 hr)) (by rfl) T.z_repr (by decide +kernel) (pa_cons (pe_lst (pa_cons pe_int (pa_cons (pe_tup (pa_cons pe_int (pa_cons pe_int (pa_cons pe_int pa_nil)))) (pa_cons pe_int (pa_cons pe_int (pa_cons pe_int (pa_cons pe_int pa_nil))))))) pa_nil)) (nomark _))
      (pss_one (ps_ret pe_bl))
      pss_nil)
      (pss_cons (ps_set (i := 4) sc_law.nd rfl (Or.inl rfl) (pe_make U.mkI G_init (hr.mono (by decide)) rfl U.mC U.bI .nil pass0 (pa_cons pe_int (pa_cons (pe_disp (pps_cons pe_str (pe_tup (pa_cons pe_int (pa_cons pe_int pa_nil))) pps_nil) rfl rfl (by decide) (by decide)) pa_nil))))
      (pss_one (ps_ret (pe_cmpR op_eq (pe_callB (RL.cr_reprD hgd (un64 hr)) (by rfl) T.z_repr (by decide +kernel) (pa_cons (pe_lst (pa_cons (pe_prop (pv 4) U.cl U.pm.pr Gm (hr.mono (by decide)) U.pm.b .nil pass0 rfl) (pa_cons (pe_prop (pv 4) U.cl U.pp.pr Gp (hr.mono (by decide)) U.pp.b .nil pass0 rfl) (pa_cons (MR.pe_methR (pv 4) U.cl U.mc.m G2 (hr.mono (by decide)) pass0 (pa_cons pe_int pa_nil)) (pa_cons (MR.pe_methR (pv 4) U.cl U.mc.m G2 (hr.mono (by decide)) pass0 (pa_cons pe_int pa_nil)) (pa_cons (MR.pe_methR (pv 4) U.cl U.ma.m G1 (hr.mono (by decide)) pass0 (pa_cons pe_int pa_nil)) pa_nil)))))) pa_nil)) (pe_callB (RL.cr_reprD hgd (un64 hr)) (by rfl) T.z_repr (by decide +kernel) (pa_cons (pe_lst (pa_cons pe_int (pa_cons (pe_tup (pa_cons pe_int pa_nil)) (pa_cons pe_int (pa_cons pe_int (pa_cons pe_int pa_nil)))))) pa_nil)) (nomark _))))))))), ?_⟩
    refine ⟨_, rfl, _, _, rfl, .inl ⟨_, hS, rfl⟩, _, _, rfl, _, _, rfl, ?_⟩
    have hb := cells_n (ns.map V.int).length 7
    refine ⟨_, rfl, Int.le_trans (by decide) hb.2, Int.lt_of_le_of_lt hb.1 (by decide), ?_⟩
    refine for_range (fun i σ H' => ∃ v, σ = [some (.ref a), v, none, none, none, none] ∧ SqL K H' a (ns.map V.int)) ⟨none, rfl, hS⟩ ?_ ?_
    · rintro i σ H' hi ⟨v, rfl, hS'⟩
      refine ⟨_, rfl, _, rfl, a, ns, i, congrArg (fun z => [V.ref a, V.int z]) (Int.zero_add _), hS', fun p x y z hp => ?_⟩
      refine ⟨p, rfl, ⟨x, y, z, upd_same⟩, fun H2 _ O2 => ⟨_, rfl, iteF ?_⟩⟩
      refine ⟨_, rfl, ?_⟩
      rcases hS' with (h | ⟨u, h⟩) | h
      · exact .inl (.inl (O2 _ _ (ne_of_none h hp) ((upd_ne (ne_of_none h hp)).trans h)))
      · exact .inl (.inr ⟨u, O2 _ _ (ne_of_none h hp) ((upd_ne (ne_of_none h hp)).trans h)⟩)
      · exact .inr h
    · rintro σ H0 ⟨v, rfl, hS'⟩
      -- wide
      refine ⟨_, rfl, fun D hD => ?_⟩
      refine lc_it (walk_str (z := Str.ofString "abcdefgh")) (fun i H' => Same H0 H' ∧ ∃ (ps : List Addr) (M : List (Str × Addr)), H' D = some (.lst (ps.map V.ref)) ∧ PairsAt H' ps M ∧ Tups H' M (wR.take i) ∧ ps.length = i) ⟨Same.new hD, [], [], upd_same, .nil, .nil, rfl⟩ (fun _ _ _ _ => True.intro) ?_ ?_
      · rintro i x Ha Hb hi ⟨Sa, ps, M, eD, pa, tm, lp⟩ ⟨rfl, c, hc, rfl⟩
        refine ⟨rfl, ?_⟩
        unfold tYes
        dsimp only
        rw [if_pos rfl]
        have hi8 : i < 8 := hi
        refine ⟨_, rfl, by show 2 ≤ sizeLine; decide, fun q1 hq1 => ?_⟩
        have B1 := Same.new (o := .tup [V.int 2, .int 26]) hq1
        refine ⟨by show 2 ≤ sizeLine; decide, fun q2 hq2 => ?_⟩
        have x1 := Same.new (o := .tup [V.str ⟨#[c]⟩, .ref q1]) hq2 _ _ (upd_same (H := Hb) (a := q1) (o := .tup [V.int 2, .int 26]))
        have B := Same.trans B1 (Same.new (o := .tup [V.str ⟨#[c]⟩, .ref q1]) hq2)
        have x2 := upd_same (H := upd Hb q1 (.tup [V.int 2, .int 26])) (a := q2) (o := .tup [V.str ⟨#[c]⟩, .ref q1])
        have eDz := B _ _ eD
        refine ⟨_, eDz, by rw [List.length_map, lp, sizeLine_eq]; omega, Same.at hD (Same.trans Sa B), ps ++ [q2], M ++ [(⟨#[c]⟩, q1)], by rw [upd_same, List.map_append]; rfl, ?_, ?_, by rw [List.length_append, lp]; rfl⟩
        · exact (pa.keep (KT.trans (KT.same B) (KT.put eDz (fun _ z => by cases z)))).snoc (KT.put eDz (fun _ z => by cases z) _ _ x2)
        · rw [List.take_add_one, wR_at hc]
          exact (tm.keep (KT.trans (KT.same B) (KT.put eDz (fun _ z => by cases z)))).snoc (KT.put eDz (fun _ z => by cases z) _ _ x1)
      rintro Ha ⟨Sa, ps, M, eD, pa, tm, lp⟩
      rw [List.take_of_length_le (by decide +kernel)] at tm
      refine ⟨D, ps, Kvs M, rfl, SqL.of eD, pa.pd, fun pd hpd => ?_⟩
      have mk : mergeK [] (Kvs M) = Kvs M := (mergeK_kvs M [] (by rw [List.nil_append, tm.names]; exact w_good.nd)).trans rfl
      rw [mk]
      have B1 := Same.new (o := .dK (Kvs M)) hpd
      have ep : (upd Ha pd (.dK (Kvs M))) pd = some (.dK (Kvs M)) := upd_same
      have tp := tm.keep (KT.same B1)
      generalize upd Ha pd (.dK (Kvs M)) = H4 at ep tp ⊢
      clear B1 mk eD pa tm hpd Sa hD
      refine fun p dq hq hdq ne => ?_
      have S0 : Same H4 (upd (upd H4 dq (.own p)) p (.ins U.C dq [])) := fun b o e => by
        rw [upd_ne (ne_of_none e hq), upd_ne (ne_of_none e hdq)]
        exact e
      refine ⟨p, pd, dq, 3, _, wR, rfl, upd_same, S0 _ _ ep, tp.keep (KT.same S0), w_good, fun S' H5 _ spf sr => ⟨rfl, ?_⟩⟩
      obtain rfl : S' = wR := Srd.eq w_good.nd sr w_srd
      have sp : SpAt H5 U.C p 3 wR pd := spf pd fun z => by
        rw [S0 _ _ ep] at z
        cases z
      clear S0 spf sr ep tp hq hdq ne
      obtain ⟨_, _, dx, rd, nm, lv, cr, L9, LL, LC, h1, _⟩ := id sp
      -- told
      refine ⟨_, rfl, p, dx, _, rfl, h1, p, 3, wR, pd, rfl, sp, fun m1 H6 hm1 S6 => ?_⟩
      obtain rfl := w_mst hm1
      refine ⟨_, rfl, p, dx, _, rfl, S6 _ _ h1, p, 3, wR, pd, rfl, sp.same S6, fun m2 pq H7 hm2 S7 epq => ?_⟩
      obtain rfl := w_mst hm2
      rw [w_pk] at epq
      have S57 := Same.trans S6 S7
      refine ⟨_, rfl, p, dx, _, rfl, S57 _ _ h1, rfl, _, rfl, p, 3, -7, wR, pd, [], rfl, sp.same S57, by decide, (fun n hn => by cases hn), ⟨by decide, by decide⟩, fun z1 H8 S8 _ => ?_⟩
      rw [chs_nil, w_c0]
      have S58 := Same.trans S57 S8
      refine ⟨_, rfl, p, dx, _, rfl, S58 _ _ h1, rfl, p, 3, 1, wR, pd, [], rfl, sp.same S58, by decide, (fun n hn => by cases hn), ⟨by decide, by decide⟩, fun z2 H9 S9 _ => ?_⟩
      rw [chs_nil, w_c1]
      have S59 := Same.trans S58 S9
      refine ⟨_, rfl, p, dx, _, rfl, S59 _ _ h1, rfl, p, 3, 2, wR, pd, [], rfl, sp.same S59, by decide, (fun n hn => by cases hn), ⟨by decide, by decide⟩, fun z3 Ha' Sa' _ => ?_⟩
      rw [chs_nil, w_c2]
      have S5a := Same.trans S59 Sa'
      refine ⟨_, rfl, p, dx, _, rfl, S5a _ _ h1, rfl, p, 3, 100, wR, pd, rfl, sp.same S5a, ⟨by decide, by decide⟩, fun xs Hb Sb oa => fun q hq => ?_⟩
      have Aq := Same.new (o := .lst xs) hq
      refine ⟨_, _, rfl, .inl ⟨_, SqL.of upd_same, rfl⟩, ?_⟩
      rw [oa.len, w_len]
      have epq := Aq _ _ (Sb _ _ (Sa' _ _ (S9 _ _ (S8 _ _ epq))))
      generalize upd Hb q (.lst xs) = Hc at epq ⊢
      clear S6 S7 S57 S8 S58 S9 S59 Sa' S5a oa Aq hq h1 sp
      refine ⟨by show 6 ≤ sizeLine; decide, fun l1 hl1 => ?_⟩
      have A1 := Same.new (o := .lst [V.int 64, .ref pq, .int 64, .int 64, .int 56, .int 64]) hl1
      have e1 : (upd Hc l1 (.lst [V.int 64, .ref pq, .int 64, .int 64, .int 56, .int 64])) l1 = some (.lst [V.int 64, .ref pq, .int 64, .int 64, .int 56, .int 64]) := upd_same
      have epq := A1 _ _ epq
      refine ⟨_, rfl, l1, wD, rfl, .lst (SqL.of e1) (.cons (.int 64) (.cons (.tup (SqT.of epq) (ints_dss [0, 1, 2])) (.cons (.int 64) (.cons (.int 64) (.cons (.int 56) (.cons (.int 64) .nil)))))), w_tell.1, w_tell.2.1, w_tell.2.2, ?_⟩
      refine ⟨by show 3 ≤ sizeLine; decide, fun p3 hp3 => ?_⟩
      refine ⟨by show 6 ≤ sizeLine; decide, fun l2 hl2 => ?_⟩
      have A3 := Same.new (o := .lst [V.int 64, .ref p3, .int 64, .int 64, .int 56, .int 64]) hl2 _ _ (upd_same (H := upd Hc l1 (.lst [V.int 64, .ref pq, .int 64, .int 64, .int 56, .int 64])) (a := p3) (o := .tup [V.int 0, .int 1, .int 2]))
      refine ⟨l2, wD, rfl, .lst (SqL.of upd_same) (.cons (.int 64) (.cons (.tup (SqT.of A3) (ints_dss [0, 1, 2])) (.cons (.int 64) (.cons (.int 64) (.cons (.int 56) (.cons (.int 64) .nil)))))), w_tell.1, w_tell.2.1, w_tell.2.2, ?_⟩
      refine ⟨rfl, _, rfl, ?_⟩
      rw [decide_eq_true rfl]
      refine iteF ?_
      generalize upd (upd (upd Hc l1 _) p3 _) l2 _ = Hd
      clear A1 e1 epq A3 hl1 hp3 hl2
      -- one
      refine fun pd2 hpd2 => ?_
      have C0 := Same.new (o := .dK []) hpd2
      have e0 : (upd Hd pd2 (.dK [])) pd2 = some (.dK []) := upd_same
      generalize upd Hd pd2 (.dK []) = He at C0 e0 ⊢
      refine ⟨by show 2 ≤ sizeLine; decide, fun a1 ha1 => ?_⟩
      have C1 := Same.new (o := .tup [V.int 5, .int 6]) ha1
      have x1 : (upd He a1 (.tup [V.int 5, .int 6])) a1 = some (.tup [V.int 5, .int 6]) := upd_same
      have e0 := C1 _ _ e0
      generalize upd He a1 (.tup [V.int 5, .int 6]) = Hf at C1 x1 e0 ⊢
      refine ⟨e0, Kvs [(Str.ofString "a", a1)], rfl, by show 1 ≤ 15; decide, ?_⟩
      have mk : mergeK [] (Kvs [(Str.ofString "a", a1)]) = Kvs [(Str.ofString "a", a1)] := (mergeK_kvs _ [] (by show [Str.ofString "a"].Nodup; decide +kernel)).trans rfl
      rw [mk]
      have kt : KT Hf (upd Hf pd2 (.dK (Kvs [(Str.ofString "a", a1)]))) := KT.put e0 (fun _ z => by cases z)
      have ep : (upd Hf pd2 (.dK (Kvs [(Str.ofString "a", a1)]))) pd2 = some (.dK (Kvs [(Str.ofString "a", a1)])) := upd_same
      have tp : Tups (upd Hf pd2 (.dK (Kvs [(Str.ofString "a", a1)]))) [(Str.ofString "a", a1)] oR := .cons (kt _ _ x1) .nil
      generalize upd Hf pd2 (.dK (Kvs [(Str.ofString "a", a1)])) = Hg at ep tp ⊢
      clear C0 C1 e0 x1 mk kt hpd2 ha1
      refine fun p2 dq2 hq hdq ne => ?_
      have S0 : Same Hg (upd (upd Hg dq2 (.own p2)) p2 (.ins U.C dq2 [])) := fun b o e => by
        rw [upd_ne (ne_of_none e hq), upd_ne (ne_of_none e hdq)]
        exact e
      refine ⟨p2, pd2, dq2, 32, _, oR, rfl, upd_same, S0 _ _ ep, tp.keep (KT.same S0), o_good, fun S' H5 _ spf sr => ⟨rfl, ?_⟩⟩
      obtain rfl : S' = oR := Srd.eq o_good.nd sr o_srd
      have sp : SpAt H5 U.C p2 32 oR pd2 := spf pd2 fun z => by
        rw [S0 _ _ ep] at z
        cases z
      clear S0 spf sr ep tp hq hdq ne
      obtain ⟨_, _, dx2, rd2, nm2, lv2, cr2, L92, LL2, LC2, h1, _⟩ := id sp
      refine ⟨_, rfl, p2, dx2, _, rfl, h1, p2, 32, oR, pd2, rfl, sp, fun m1 H6 hm1 S6 => ?_⟩
      obtain rfl := o_mst hm1
      refine ⟨_, rfl, p2, dx2, _, rfl, S6 _ _ h1, p2, 32, oR, pd2, rfl, sp.same S6, fun m2 pq H7 hm2 S7 epq => ?_⟩
      obtain rfl := o_mst hm2
      rw [o_pk] at epq
      have S57 := Same.trans S6 S7
      refine ⟨_, rfl, p2, dx2, _, rfl, S57 _ _ h1, rfl, p2, 32, 5, oR, pd2, [], rfl, sp.same S57, by decide, (fun n hn => by cases hn), ⟨by decide, by decide⟩, fun z1 H8 S8 _ => ?_⟩
      rw [chs_nil, o_c0]
      have S58 := Same.trans S57 S8
      refine ⟨_, rfl, p2, dx2, _, rfl, S58 _ _ h1, rfl, p2, 32, 6, oR, pd2, [], rfl, sp.same S58, by decide, (fun n hn => by cases hn), ⟨by decide, by decide⟩, fun z2 H9 S9 _ => ?_⟩
      rw [chs_nil, o_c1]
      have S59 := Same.trans S58 S9
      refine ⟨_, rfl, p2, dx2, _, rfl, S59 _ _ h1, rfl, p2, 32, 37, oR, pd2, [], rfl, sp.same S59, by decide, (fun n hn => by cases hn), ⟨by decide, by decide⟩, fun z3 Ha' Sa' _ => ?_⟩
      rw [chs_nil, o_c2]
      have epq := Sa' _ _ (S9 _ _ (S8 _ _ epq))
      refine ⟨by show 5 ≤ sizeLine; decide, fun l1 hl1 => ?_⟩
      have A1 := Same.new (o := .lst [V.int 1, .ref pq, .int 0, .int 0, .int 1]) hl1
      refine ⟨l1, oD, rfl, .lst (SqL.of upd_same) (.cons (.int 1) (.cons (.tup (SqT.of (A1 _ _ epq)) (ints_dss [5])) (.cons (.int 0) (.cons (.int 0) (.cons (.int 1) .nil))))), o_tell.1, o_tell.2.1, o_tell.2.2, ?_⟩
      refine ⟨by show 1 ≤ sizeLine; decide, fun p3 hp3 => ?_⟩
      refine ⟨by show 5 ≤ sizeLine; decide, fun l2 hl2 => ?_⟩
      have A3 := Same.new (o := .lst [V.int 1, .ref p3, .int 0, .int 0, .int 1]) hl2 _ _ (upd_same (H := upd Ha' l1 (.lst [V.int 1, .ref pq, .int 0, .int 0, .int 1])) (a := p3) (o := .tup [V.int 5]))
      refine ⟨l2, oD, rfl, .lst (SqL.of upd_same) (.cons (.int 1) (.cons (.tup (SqT.of A3) (ints_dss [5])) (.cons (.int 0) (.cons (.int 0) (.cons (.int 1) .nil))))), o_tell.1, o_tell.2.1, o_tell.2.2, ?_⟩
      exact ⟨rfl, bl_to (decide_eq_true rfl) (k _)⟩
end
end K38
namespace K38
open PySem L2
theorem mk_U {K : PySem.W.Frag} {h : Heap} {mg : Str → Option Value} (X : K.In h) (G : h.Ns mainGlobals mg)
    {C fI : Addr} {ocI kVI dcI pmI cdI ctI : Value} {odI anI : Option Addr} {slI : Array (Option Value)} {pP1a fP1 : Addr} {restP1 : List Value} {ocP1 kVP1 dcP1 pmP1 cdP1 ctP1 : Value} {odP1 anP1 : Option Addr} {slP1 : Array (Option Value)} {pP2a fP2 : Addr} {restP2 : List Value} {ocP2 kVP2 dcP2 pmP2 cdP2 ctP2 : Value} {odP2 anP2 : Option Addr} {slP2 : Array (Option Value)} {pP3a fP3 : Addr} {restP3 : List Value} {ocP3 kVP3 dcP3 pmP3 cdP3 ctP3 : Value} {odP3 anP3 : Option Addr} {slP3 : Array (Option Value)} {pP4a fP4 : Addr} {restP4 : List Value} {ocP4 kVP4 dcP4 pmP4 cdP4 ctP4 : Value} {odP4 anP4 : Option Addr} {slP4 : Array (Option Value)} {fG : Addr} {ocG kVG dcG pmG cdG ctG : Value} {odG anG : Option Addr} {slG : Array (Option Value)} {fM : Addr} {ocM kVM dcM pmM cdM ctM : Value} {odM anM : Option Addr} {slM : Array (Option Value)} {fL : Addr} {ocL kVL dcL pmL cdL ctL : Value} {odL anL : Option Addr} {slL : Array (Option Value)} {fQ : Addr} {ocQ kVQ dcQ pmQ cdQ ctQ : Value} {odQ anQ : Option Addr} {slQ : Array (Option Value)} {fA : Addr} {ocA kVA dcA pmA cdA ctA : Value} {odA anA : Option Addr} {slA : Array (Option Value)} {fB : Addr} {ocB kVB dcB pmB cdB ctB : Value} {odB anB : Option Addr} {slB : Array (Option Value)} {fD : Addr} {ocD kVD dcD pmD cdD ctD : Value} {odD anD : Option Addr} {slD : Array (Option Value)} {fF : Addr} {ocF kVF dcF pmF cdF ctF : Value} {odF anF : Option Addr} {slF : Array (Option Value)}
    (aC : PySem.W.nsIn K mainGlobals "Spans" = some (some (.ref C)))
    (c1 : PySem.W.plainGet K C Str.empty = true)
    (c2 : PySem.W.hasDictIn K C = true)
    (c3 : PySem.W.plainOver K C = true)
    (c4 : PySem.W.findIn K (.ref C) "__setattr__" = some (some (.builtin "object.__setattr__")))
    (c5 : PySem.W.makesIn K C = true)
    (c6 : PySem.W.findIn K (.ref C) "__init__" = some (some (.ref fI)))
    (c7 : PySem.W.isFn K (.ref fI) = true)
    (c8 : PySem.W.keepIn K (.ref C) = true)
    (lI : K.lookup fI = some ⟨ocI, odI, .func (PySem.W.fnOf "__init__" "Spans.__init__" (defArgs s_Spans_init) (defBody s_Spans_init) (defScope s_Spans_init) .none kVI dcI pmI anI cdI ctI), slI⟩)
    (kI : PySem.W.codeIn K cdI "Spans.__init__" = true)
    (pI : PySem.W.keepIn K (.ref fI) = true)
    (n1 : PySem.W.findIn K (.ref C) "_interval" = some none)
    (n2 : PySem.W.findIn K (.ref C) "_rows" = some none)
    (n3 : PySem.W.findIn K (.ref C) "_names" = some none)
    (n4 : PySem.W.findIn K (.ref C) "_living" = some none)
    (n5 : PySem.W.findIn K (.ref C) "_crossing" = some none)
    (aP1 : PySem.W.findIn K (.ref C) "rows" = some (some (.ref pP1a)))
    (bP1 : PySem.W.specialIn K (.ref pP1a) "__get__" = some (some (.builtin "property.__get__")))
    (tP1 : PySem.W.takesIn K (.ref pP1a) = some true)
    (rP1 : PySem.W.recIn K pP1a "property" = some (.ref fP1 :: restP1))
    (lP1 : K.lookup fP1 = some ⟨ocP1, odP1, .func (PySem.W.fnOf "rows" "Spans.rows" (defArgs s_Spans_rows) (defBody s_Spans_rows) (defScope s_Spans_rows) .none kVP1 dcP1 pmP1 anP1 cdP1 ctP1), slP1⟩)
    (kP1 : PySem.W.codeIn K cdP1 "Spans.rows" = true)
    (pP1 : PySem.W.keepIn K (.ref fP1) = true)
    (aP2 : PySem.W.findIn K (.ref C) "most" = some (some (.ref pP2a)))
    (bP2 : PySem.W.specialIn K (.ref pP2a) "__get__" = some (some (.builtin "property.__get__")))
    (tP2 : PySem.W.takesIn K (.ref pP2a) = some true)
    (rP2 : PySem.W.recIn K pP2a "property" = some (.ref fP2 :: restP2))
    (lP2 : K.lookup fP2 = some ⟨ocP2, odP2, .func (PySem.W.fnOf "most" "Spans.most" (defArgs s_Spans_most) (defBody s_Spans_most) (defScope s_Spans_most) .none kVP2 dcP2 pmP2 anP2 cdP2 ctP2), slP2⟩)
    (kP2 : PySem.W.codeIn K cdP2 "Spans.most" = true)
    (pP2 : PySem.W.keepIn K (.ref fP2) = true)
    (aP3 : PySem.W.findIn K (.ref C) "peaks" = some (some (.ref pP3a)))
    (bP3 : PySem.W.specialIn K (.ref pP3a) "__get__" = some (some (.builtin "property.__get__")))
    (tP3 : PySem.W.takesIn K (.ref pP3a) = some true)
    (rP3 : PySem.W.recIn K pP3a "property" = some (.ref fP3 :: restP3))
    (lP3 : K.lookup fP3 = some ⟨ocP3, odP3, .func (PySem.W.fnOf "peaks" "Spans.peaks" (defArgs s_Spans_peaks) (defBody s_Spans_peaks) (defScope s_Spans_peaks) .none kVP3 dcP3 pmP3 anP3 cdP3 ctP3), slP3⟩)
    (kP3 : PySem.W.codeIn K cdP3 "Spans.peaks" = true)
    (pP3 : PySem.W.keepIn K (.ref fP3) = true)
    (aP4 : PySem.W.findIn K (.ref C) "total" = some (some (.ref pP4a)))
    (bP4 : PySem.W.specialIn K (.ref pP4a) "__get__" = some (some (.builtin "property.__get__")))
    (tP4 : PySem.W.takesIn K (.ref pP4a) = some true)
    (rP4 : PySem.W.recIn K pP4a "property" = some (.ref fP4 :: restP4))
    (lP4 : K.lookup fP4 = some ⟨ocP4, odP4, .func (PySem.W.fnOf "total" "Spans.total" (defArgs s_Spans_total) (defBody s_Spans_total) (defScope s_Spans_total) .none kVP4 dcP4 pmP4 anP4 cdP4 ctP4), slP4⟩)
    (kP4 : PySem.W.codeIn K cdP4 "Spans.total" = true)
    (pP4 : PySem.W.keepIn K (.ref fP4) = true)
    (iG : PySem.W.findIn K (.ref C) "_sums" = some (some (.ref fG)))
    (yG : PySem.W.isFn K (.ref fG) = true)
    (lG : K.lookup fG = some ⟨ocG, odG, .func (PySem.W.fnOf "_sums" "Spans._sums" (defArgs s_Spans_sums) (defBody s_Spans_sums) (defScope s_Spans_sums) .none kVG dcG pmG anG cdG ctG), slG⟩)
    (kG : PySem.W.codeIn K cdG "Spans._sums" = true)
    (pG : PySem.W.keepIn K (.ref fG) = true)
    (iM : PySem.W.findIn K (.ref C) "_chosen" = some (some (.ref fM)))
    (yM : PySem.W.isFn K (.ref fM) = true)
    (lM : K.lookup fM = some ⟨ocM, odM, .func (PySem.W.fnOf "_chosen" "Spans._chosen" (defArgs s_Spans_chosen) (defBody s_Spans_chosen) (defScope s_Spans_chosen) .none kVM dcM pmM anM cdM ctM), slM⟩)
    (kM : PySem.W.codeIn K cdM "Spans._chosen" = true)
    (pM : PySem.W.keepIn K (.ref fM) = true)
    (iL : PySem.W.findIn K (.ref C) "_full_slots" = some (some (.ref fL)))
    (yL : PySem.W.isFn K (.ref fL) = true)
    (lL : K.lookup fL = some ⟨ocL, odL, .func (PySem.W.fnOf "_full_slots" "Spans._full_slots" (defArgs s_Spans_full_slots) (defBody s_Spans_full_slots) (defScope s_Spans_full_slots) .none kVL dcL pmL anL cdL ctL), slL⟩)
    (kL : PySem.W.codeIn K cdL "Spans._full_slots" = true)
    (pL : PySem.W.keepIn K (.ref fL) = true)
    (iQ : PySem.W.findIn K (.ref C) "each_alive" = some (some (.ref fQ)))
    (yQ : PySem.W.isFn K (.ref fQ) = true)
    (lQ : K.lookup fQ = some ⟨ocQ, odQ, .func (PySem.W.fnOf "each_alive" "Spans.each_alive" (defArgs s_Spans_each_alive) (defBody s_Spans_each_alive) (defScope s_Spans_each_alive) .none kVQ dcQ pmQ anQ cdQ ctQ), slQ⟩)
    (kQ : PySem.W.codeIn K cdQ "Spans.each_alive" = true)
    (pQ : PySem.W.keepIn K (.ref fQ) = true)
    (iA : PySem.W.findIn K (.ref C) "alive" = some (some (.ref fA)))
    (yA : PySem.W.isFn K (.ref fA) = true)
    (lA : K.lookup fA = some ⟨ocA, odA, .func (PySem.W.fnOf "alive" "Spans.alive" (defArgs s_Spans_alive) (defBody s_Spans_alive) (defScope s_Spans_alive) .none kVA dcA pmA anA cdA ctA), slA⟩)
    (kA : PySem.W.codeIn K cdA "Spans.alive" = true)
    (pA : PySem.W.keepIn K (.ref fA) = true)
    (iB : PySem.W.findIn K (.ref C) "across" = some (some (.ref fB)))
    (yB : PySem.W.isFn K (.ref fB) = true)
    (lB : K.lookup fB = some ⟨ocB, odB, .func (PySem.W.fnOf "across" "Spans.across" (defArgs s_Spans_across) (defBody s_Spans_across) (defScope s_Spans_across) .none kVB dcB pmB anB cdB ctB), slB⟩)
    (kB : PySem.W.codeIn K cdB "Spans.across" = true)
    (pB : PySem.W.keepIn K (.ref fB) = true)
    (iD : PySem.W.findIn K (.ref C) "is_full" = some (some (.ref fD)))
    (yD : PySem.W.isFn K (.ref fD) = true)
    (lD : K.lookup fD = some ⟨ocD, odD, .func (PySem.W.fnOf "is_full" "Spans.is_full" (defArgs s_Spans_is_full) (defBody s_Spans_is_full) (defScope s_Spans_is_full) .none kVD dcD pmD anD cdD ctD), slD⟩)
    (kD : PySem.W.codeIn K cdD "Spans.is_full" = true)
    (pD : PySem.W.keepIn K (.ref fD) = true)
    (iF : PySem.W.findIn K (.ref C) "most_of" = some (some (.ref fF)))
    (yF : PySem.W.isFn K (.ref fF) = true)
    (lF : K.lookup fF = some ⟨ocF, odF, .func (PySem.W.fnOf "most_of" "Spans.most_of" (defArgs s_Spans_most_of) (defBody s_Spans_most_of) (defScope s_Spans_most_of) .none kVF dcF pmF anF cdF ctF), slF⟩)
    (kF : PySem.W.codeIn K cdF "Spans.most_of" = true)
    (pF : PySem.W.keepIn K (.ref fF) = true)
    : Nonempty (UX K mg) := by
  exact ⟨⟨C, PySem.W.mg_of X G aC, ⟨c1, c2, c3, c4⟩, fI, _, ⟨⟨_, _, _, _, _, _, _, _, _, _, rfl, lI, kI, .inl ⟨rfl, rfl⟩, .inl rfl⟩, pI⟩, ⟨c5, c6, c7, c8⟩, .all fun us hl => match us, hl with | [_, _, _], _ => rfl, n1, n2, n3, n4, n5, ⟨pP1a, fP1, _, ⟨⟨_, _, _, _, _, _, _, _, _, _, rfl, lP1, kP1, .inl ⟨rfl, rfl⟩, .inl rfl⟩, pP1⟩, ⟨aP1, bP1, tP1, ⟨_, rP1⟩⟩, .all fun us hl => match us, hl with | [_], _ => rfl⟩, ⟨pP2a, fP2, _, ⟨⟨_, _, _, _, _, _, _, _, _, _, rfl, lP2, kP2, .inl ⟨rfl, rfl⟩, .inl rfl⟩, pP2⟩, ⟨aP2, bP2, tP2, ⟨_, rP2⟩⟩, .all fun us hl => match us, hl with | [_], _ => rfl⟩, ⟨pP3a, fP3, _, ⟨⟨_, _, _, _, _, _, _, _, _, _, rfl, lP3, kP3, .inl ⟨rfl, rfl⟩, .inl rfl⟩, pP3⟩, ⟨aP3, bP3, tP3, ⟨_, rP3⟩⟩, .all fun us hl => match us, hl with | [_], _ => rfl⟩, ⟨pP4a, fP4, _, ⟨⟨_, _, _, _, _, _, _, _, _, _, rfl, lP4, kP4, .inl ⟨rfl, rfl⟩, .inl rfl⟩, pP4⟩, ⟨aP4, bP4, tP4, ⟨_, rP4⟩⟩, .all fun us hl => match us, hl with | [_], _ => rfl⟩, ⟨fG, _, ⟨⟨_, _, _, _, _, _, _, _, _, _, rfl, lG, kG, .inl ⟨rfl, rfl⟩, .inl rfl⟩, pG⟩, ⟨iG, yG, pG⟩, .all fun us hl => match us, hl with | [_, _, _], _ => rfl⟩, ⟨fM, _, ⟨⟨_, _, _, _, _, _, _, _, _, _, rfl, lM, kM, .inl ⟨rfl, rfl⟩, .inl rfl⟩, pM⟩, ⟨iM, yM, pM⟩, .all fun us hl => match us, hl with | [_, _], _ => rfl⟩, ⟨fL, _, ⟨⟨_, _, _, _, _, _, _, _, _, _, rfl, lL, kL, .inl ⟨rfl, rfl⟩, .inl rfl⟩, pL⟩, ⟨iL, yL, pL⟩, .all fun us hl => match us, hl with | [_, _], _ => rfl⟩, ⟨fQ, _, ⟨⟨_, _, _, _, _, _, _, _, _, _, rfl, lQ, kQ, .inl ⟨rfl, rfl⟩, .inl rfl⟩, pQ⟩, ⟨iQ, yQ, pQ⟩, .all fun us hl => match us, hl with | [_, _], _ => rfl⟩, ⟨fA, _, fun_mk lA kA pA, ⟨iA, yA, pA⟩⟩, ⟨fB, _, fun_mk lB kB pB, ⟨iB, yB, pB⟩⟩, ⟨fD, _, fun_mk lD kD pD, ⟨iD, yD, pD⟩⟩, ⟨fF, _, fun_mk lF kF pF, ⟨iF, yF, pF⟩⟩⟩⟩
theorem all_mk {l : PySem.W.OpenLaw} {w : World} {K : PySem.W.Frag} {h : Heap} {mg : Str → Option Value} {fa f_wall f_is_name f_is_integer f_is_between f_check_integer f_check_between f_check_interval f_times_alive f_ascends f_is_span f_are_rows f_w_tray f_w_roll f_w_pick f_w_few f_w_names f_w_rings f_w_rows f_w_sorted f_w_alive f_w_of f_w_told f_w_most f_w_right f_law : Addr} (X : K.In h) (G : h.Ns mainGlobals mg) (hfa : mg "law" = some (.ref fa))
    {od_wall an_wall od_is_name an_is_name od_is_integer an_is_integer od_is_between an_is_between od_check_integer an_check_integer od_check_between an_check_between od_check_interval an_check_interval od_times_alive an_times_alive od_ascends an_ascends od_is_span an_is_span od_are_rows an_are_rows od_w_tray an_w_tray od_w_roll an_w_roll od_w_pick an_w_pick od_w_few an_w_few od_w_names an_w_names od_w_rings an_w_rings od_w_rows an_w_rows od_w_sorted an_w_sorted od_w_alive an_w_alive od_w_of an_w_of od_w_told an_w_told od_w_most an_w_most od_w_right an_w_right od_law an_law : Option Addr} {sl_wall sl_is_name sl_is_integer sl_is_between sl_check_integer sl_check_between sl_check_interval sl_times_alive sl_ascends sl_is_span sl_are_rows sl_w_tray sl_w_roll sl_w_pick sl_w_few sl_w_names sl_w_rings sl_w_rows sl_w_sorted sl_w_alive sl_w_of sl_w_told sl_w_most sl_w_right sl_law : Array (Option Value)} {oc_wall kV_wall dc_wall pm_wall cd_wall ct_wall oc_is_name kV_is_name dc_is_name pm_is_name cd_is_name ct_is_name oc_is_integer kV_is_integer dc_is_integer pm_is_integer cd_is_integer ct_is_integer oc_is_between kV_is_between dc_is_between pm_is_between cd_is_between ct_is_between oc_check_integer kV_check_integer dc_check_integer pm_check_integer cd_check_integer ct_check_integer oc_check_between kV_check_between dc_check_between pm_check_between cd_check_between ct_check_between oc_check_interval kV_check_interval dc_check_interval pm_check_interval cd_check_interval ct_check_interval oc_times_alive kV_times_alive dc_times_alive pm_times_alive cd_times_alive ct_times_alive oc_ascends kV_ascends dc_ascends pm_ascends cd_ascends ct_ascends oc_is_span kV_is_span dc_is_span pm_is_span cd_is_span ct_is_span oc_are_rows kV_are_rows dc_are_rows pm_are_rows cd_are_rows ct_are_rows oc_w_tray kV_w_tray dc_w_tray pm_w_tray cd_w_tray ct_w_tray oc_w_roll kV_w_roll dc_w_roll pm_w_roll cd_w_roll ct_w_roll oc_w_pick kV_w_pick dc_w_pick pm_w_pick cd_w_pick ct_w_pick oc_w_few kV_w_few dc_w_few pm_w_few cd_w_few ct_w_few oc_w_names kV_w_names dc_w_names pm_w_names cd_w_names ct_w_names oc_w_rings kV_w_rings dc_w_rings pm_w_rings cd_w_rings ct_w_rings oc_w_rows kV_w_rows dc_w_rows pm_w_rows cd_w_rows ct_w_rows oc_w_sorted kV_w_sorted dc_w_sorted pm_w_sorted cd_w_sorted ct_w_sorted oc_w_alive kV_w_alive dc_w_alive pm_w_alive cd_w_alive ct_w_alive oc_w_of kV_w_of dc_w_of pm_w_of cd_w_of ct_w_of oc_w_told kV_w_told dc_w_told pm_w_told cd_w_told ct_w_told oc_w_most kV_w_most dc_w_most pm_w_most cd_w_most ct_w_most oc_w_right kV_w_right dc_w_right pm_w_right cd_w_right ct_w_right oc_law kV_law dc_law pm_law cd_law ct_law : Value} {t_MAX_INTERVAL t_MAX_LETTERS t_MAX_VALUES t_MAX_LIFE : Tok}
    (a_wall : PySem.W.nsIn K mainGlobals "_wall" = some (some (.ref f_wall))) (l_wall : K.lookup f_wall = some ⟨oc_wall, od_wall, .func (PySem.W.fnOf "_wall" "_wall" (defArgs s_wall) (defBody s_wall) (defScope s_wall) .none kV_wall dc_wall pm_wall an_wall cd_wall ct_wall), sl_wall⟩) (k_wall : PySem.W.codeIn K cd_wall "_wall" = true) (p_wall : PySem.W.keepIn K (.ref f_wall) = true)
    (a_is_name : PySem.W.nsIn K mainGlobals "is_name" = some (some (.ref f_is_name))) (l_is_name : K.lookup f_is_name = some ⟨oc_is_name, od_is_name, .func (PySem.W.fnOf "is_name" "is_name" (defArgs s_is_name) (defBody s_is_name) (defScope s_is_name) .none kV_is_name dc_is_name pm_is_name an_is_name cd_is_name ct_is_name), sl_is_name⟩) (k_is_name : PySem.W.codeIn K cd_is_name "is_name" = true) (p_is_name : PySem.W.keepIn K (.ref f_is_name) = true)
    (a_is_integer : PySem.W.nsIn K mainGlobals "is_integer" = some (some (.ref f_is_integer))) (l_is_integer : K.lookup f_is_integer = some ⟨oc_is_integer, od_is_integer, .func (PySem.W.fnOf "is_integer" "is_integer" (defArgs s_is_integer) (defBody s_is_integer) (defScope s_is_integer) .none kV_is_integer dc_is_integer pm_is_integer an_is_integer cd_is_integer ct_is_integer), sl_is_integer⟩) (k_is_integer : PySem.W.codeIn K cd_is_integer "is_integer" = true) (p_is_integer : PySem.W.keepIn K (.ref f_is_integer) = true)
    (a_is_between : PySem.W.nsIn K mainGlobals "is_between" = some (some (.ref f_is_between))) (l_is_between : K.lookup f_is_between = some ⟨oc_is_between, od_is_between, .func (PySem.W.fnOf "is_between" "is_between" (defArgs s_is_between) (defBody s_is_between) (defScope s_is_between) .none kV_is_between dc_is_between pm_is_between an_is_between cd_is_between ct_is_between), sl_is_between⟩) (k_is_between : PySem.W.codeIn K cd_is_between "is_between" = true) (p_is_between : PySem.W.keepIn K (.ref f_is_between) = true)
    (a_check_integer : PySem.W.nsIn K mainGlobals "check_integer" = some (some (.ref f_check_integer))) (l_check_integer : K.lookup f_check_integer = some ⟨oc_check_integer, od_check_integer, .func (PySem.W.fnOf "check_integer" "check_integer" (defArgs s_check_integer) (defBody s_check_integer) (defScope s_check_integer) .none kV_check_integer dc_check_integer pm_check_integer an_check_integer cd_check_integer ct_check_integer), sl_check_integer⟩) (k_check_integer : PySem.W.codeIn K cd_check_integer "check_integer" = true) (p_check_integer : PySem.W.keepIn K (.ref f_check_integer) = true)
    (a_check_between : PySem.W.nsIn K mainGlobals "check_between" = some (some (.ref f_check_between))) (l_check_between : K.lookup f_check_between = some ⟨oc_check_between, od_check_between, .func (PySem.W.fnOf "check_between" "check_between" (defArgs s_check_between) (defBody s_check_between) (defScope s_check_between) .none kV_check_between dc_check_between pm_check_between an_check_between cd_check_between ct_check_between), sl_check_between⟩) (k_check_between : PySem.W.codeIn K cd_check_between "check_between" = true) (p_check_between : PySem.W.keepIn K (.ref f_check_between) = true)
    (a_check_interval : PySem.W.nsIn K mainGlobals "check_interval" = some (some (.ref f_check_interval))) (l_check_interval : K.lookup f_check_interval = some ⟨oc_check_interval, od_check_interval, .func (PySem.W.fnOf "check_interval" "check_interval" (defArgs s_check_interval) (defBody s_check_interval) (defScope s_check_interval) .none kV_check_interval dc_check_interval pm_check_interval an_check_interval cd_check_interval ct_check_interval), sl_check_interval⟩) (k_check_interval : PySem.W.codeIn K cd_check_interval "check_interval" = true) (p_check_interval : PySem.W.keepIn K (.ref f_check_interval) = true)
    (a_times_alive : PySem.W.nsIn K mainGlobals "times_alive" = some (some (.ref f_times_alive))) (l_times_alive : K.lookup f_times_alive = some ⟨oc_times_alive, od_times_alive, .func (PySem.W.fnOf "times_alive" "times_alive" (defArgs s_times_alive) (defBody s_times_alive) (defScope s_times_alive) .none kV_times_alive dc_times_alive pm_times_alive an_times_alive cd_times_alive ct_times_alive), sl_times_alive⟩) (k_times_alive : PySem.W.codeIn K cd_times_alive "times_alive" = true) (p_times_alive : PySem.W.keepIn K (.ref f_times_alive) = true)
    (a_ascends : PySem.W.nsIn K mainGlobals "ascends" = some (some (.ref f_ascends))) (l_ascends : K.lookup f_ascends = some ⟨oc_ascends, od_ascends, .func (PySem.W.fnOf "ascends" "ascends" (defArgs s_ascends) (defBody s_ascends) (defScope s_ascends) .none kV_ascends dc_ascends pm_ascends an_ascends cd_ascends ct_ascends), sl_ascends⟩) (k_ascends : PySem.W.codeIn K cd_ascends "ascends" = true) (p_ascends : PySem.W.keepIn K (.ref f_ascends) = true)
    (a_is_span : PySem.W.nsIn K mainGlobals "_is_span" = some (some (.ref f_is_span))) (l_is_span : K.lookup f_is_span = some ⟨oc_is_span, od_is_span, .func (PySem.W.fnOf "_is_span" "_is_span" (defArgs s_is_span) (defBody s_is_span) (defScope s_is_span) .none kV_is_span dc_is_span pm_is_span an_is_span cd_is_span ct_is_span), sl_is_span⟩) (k_is_span : PySem.W.codeIn K cd_is_span "_is_span" = true) (p_is_span : PySem.W.keepIn K (.ref f_is_span) = true)
    (a_are_rows : PySem.W.nsIn K mainGlobals "_are_rows" = some (some (.ref f_are_rows))) (l_are_rows : K.lookup f_are_rows = some ⟨oc_are_rows, od_are_rows, .func (PySem.W.fnOf "_are_rows" "_are_rows" (defArgs s_are_rows) (defBody s_are_rows) (defScope s_are_rows) .none kV_are_rows dc_are_rows pm_are_rows an_are_rows cd_are_rows ct_are_rows), sl_are_rows⟩) (k_are_rows : PySem.W.codeIn K cd_are_rows "_are_rows" = true) (p_are_rows : PySem.W.keepIn K (.ref f_are_rows) = true)
    (a_w_tray : PySem.W.nsIn K mainGlobals "_law_tray" = some (some (.ref f_w_tray))) (l_w_tray : K.lookup f_w_tray = some ⟨oc_w_tray, od_w_tray, .func (PySem.W.fnOf "_law_tray" "_law_tray" (defArgs s_w_tray) (defBody s_w_tray) (defScope s_w_tray) .none kV_w_tray dc_w_tray pm_w_tray an_w_tray cd_w_tray ct_w_tray), sl_w_tray⟩) (k_w_tray : PySem.W.codeIn K cd_w_tray "_law_tray" = true) (p_w_tray : PySem.W.keepIn K (.ref f_w_tray) = true)
    (a_w_roll : PySem.W.nsIn K mainGlobals "_law_roll" = some (some (.ref f_w_roll))) (l_w_roll : K.lookup f_w_roll = some ⟨oc_w_roll, od_w_roll, .func (PySem.W.fnOf "_law_roll" "_law_roll" (defArgs s_w_roll) (defBody s_w_roll) (defScope s_w_roll) .none kV_w_roll dc_w_roll pm_w_roll an_w_roll cd_w_roll ct_w_roll), sl_w_roll⟩) (k_w_roll : PySem.W.codeIn K cd_w_roll "_law_roll" = true) (p_w_roll : PySem.W.keepIn K (.ref f_w_roll) = true)
    (a_w_pick : PySem.W.nsIn K mainGlobals "_law_pick" = some (some (.ref f_w_pick))) (l_w_pick : K.lookup f_w_pick = some ⟨oc_w_pick, od_w_pick, .func (PySem.W.fnOf "_law_pick" "_law_pick" (defArgs s_w_pick) (defBody s_w_pick) (defScope s_w_pick) .none kV_w_pick dc_w_pick pm_w_pick an_w_pick cd_w_pick ct_w_pick), sl_w_pick⟩) (k_w_pick : PySem.W.codeIn K cd_w_pick "_law_pick" = true) (p_w_pick : PySem.W.keepIn K (.ref f_w_pick) = true)
    (a_w_few : PySem.W.nsIn K mainGlobals "_law_few" = some (some (.ref f_w_few))) (l_w_few : K.lookup f_w_few = some ⟨oc_w_few, od_w_few, .func (PySem.W.fnOf "_law_few" "_law_few" (defArgs s_w_few) (defBody s_w_few) (defScope s_w_few) .none kV_w_few dc_w_few pm_w_few an_w_few cd_w_few ct_w_few), sl_w_few⟩) (k_w_few : PySem.W.codeIn K cd_w_few "_law_few" = true) (p_w_few : PySem.W.keepIn K (.ref f_w_few) = true)
    (a_w_names : PySem.W.nsIn K mainGlobals "_law_names" = some (some (.ref f_w_names))) (l_w_names : K.lookup f_w_names = some ⟨oc_w_names, od_w_names, .func (PySem.W.fnOf "_law_names" "_law_names" (defArgs s_w_names) (defBody s_w_names) (defScope s_w_names) .none kV_w_names dc_w_names pm_w_names an_w_names cd_w_names ct_w_names), sl_w_names⟩) (k_w_names : PySem.W.codeIn K cd_w_names "_law_names" = true) (p_w_names : PySem.W.keepIn K (.ref f_w_names) = true)
    (a_w_rings : PySem.W.nsIn K mainGlobals "_law_rings" = some (some (.ref f_w_rings))) (l_w_rings : K.lookup f_w_rings = some ⟨oc_w_rings, od_w_rings, .func (PySem.W.fnOf "_law_rings" "_law_rings" (defArgs s_w_rings) (defBody s_w_rings) (defScope s_w_rings) .none kV_w_rings dc_w_rings pm_w_rings an_w_rings cd_w_rings ct_w_rings), sl_w_rings⟩) (k_w_rings : PySem.W.codeIn K cd_w_rings "_law_rings" = true) (p_w_rings : PySem.W.keepIn K (.ref f_w_rings) = true)
    (a_w_rows : PySem.W.nsIn K mainGlobals "_law_rows" = some (some (.ref f_w_rows))) (l_w_rows : K.lookup f_w_rows = some ⟨oc_w_rows, od_w_rows, .func (PySem.W.fnOf "_law_rows" "_law_rows" (defArgs s_w_rows) (defBody s_w_rows) (defScope s_w_rows) .none kV_w_rows dc_w_rows pm_w_rows an_w_rows cd_w_rows ct_w_rows), sl_w_rows⟩) (k_w_rows : PySem.W.codeIn K cd_w_rows "_law_rows" = true) (p_w_rows : PySem.W.keepIn K (.ref f_w_rows) = true)
    (a_w_sorted : PySem.W.nsIn K mainGlobals "_law_sorted" = some (some (.ref f_w_sorted))) (l_w_sorted : K.lookup f_w_sorted = some ⟨oc_w_sorted, od_w_sorted, .func (PySem.W.fnOf "_law_sorted" "_law_sorted" (defArgs s_w_sorted) (defBody s_w_sorted) (defScope s_w_sorted) .none kV_w_sorted dc_w_sorted pm_w_sorted an_w_sorted cd_w_sorted ct_w_sorted), sl_w_sorted⟩) (k_w_sorted : PySem.W.codeIn K cd_w_sorted "_law_sorted" = true) (p_w_sorted : PySem.W.keepIn K (.ref f_w_sorted) = true)
    (a_w_alive : PySem.W.nsIn K mainGlobals "_law_alive" = some (some (.ref f_w_alive))) (l_w_alive : K.lookup f_w_alive = some ⟨oc_w_alive, od_w_alive, .func (PySem.W.fnOf "_law_alive" "_law_alive" (defArgs s_w_alive) (defBody s_w_alive) (defScope s_w_alive) .none kV_w_alive dc_w_alive pm_w_alive an_w_alive cd_w_alive ct_w_alive), sl_w_alive⟩) (k_w_alive : PySem.W.codeIn K cd_w_alive "_law_alive" = true) (p_w_alive : PySem.W.keepIn K (.ref f_w_alive) = true)
    (a_w_of : PySem.W.nsIn K mainGlobals "_law_of" = some (some (.ref f_w_of))) (l_w_of : K.lookup f_w_of = some ⟨oc_w_of, od_w_of, .func (PySem.W.fnOf "_law_of" "_law_of" (defArgs s_w_of) (defBody s_w_of) (defScope s_w_of) .none kV_w_of dc_w_of pm_w_of an_w_of cd_w_of ct_w_of), sl_w_of⟩) (k_w_of : PySem.W.codeIn K cd_w_of "_law_of" = true) (p_w_of : PySem.W.keepIn K (.ref f_w_of) = true)
    (a_w_told : PySem.W.nsIn K mainGlobals "_law_told" = some (some (.ref f_w_told))) (l_w_told : K.lookup f_w_told = some ⟨oc_w_told, od_w_told, .func (PySem.W.fnOf "_law_told" "_law_told" (defArgs s_w_told) (defBody s_w_told) (defScope s_w_told) .none kV_w_told dc_w_told pm_w_told an_w_told cd_w_told ct_w_told), sl_w_told⟩) (k_w_told : PySem.W.codeIn K cd_w_told "_law_told" = true) (p_w_told : PySem.W.keepIn K (.ref f_w_told) = true)
    (a_w_most : PySem.W.nsIn K mainGlobals "_law_most" = some (some (.ref f_w_most))) (l_w_most : K.lookup f_w_most = some ⟨oc_w_most, od_w_most, .func (PySem.W.fnOf "_law_most" "_law_most" (defArgs s_w_most) (defBody s_w_most) (defScope s_w_most) .none kV_w_most dc_w_most pm_w_most an_w_most cd_w_most ct_w_most), sl_w_most⟩) (k_w_most : PySem.W.codeIn K cd_w_most "_law_most" = true) (p_w_most : PySem.W.keepIn K (.ref f_w_most) = true)
    (a_w_right : PySem.W.nsIn K mainGlobals "_law_right" = some (some (.ref f_w_right))) (l_w_right : K.lookup f_w_right = some ⟨oc_w_right, od_w_right, .func (PySem.W.fnOf "_law_right" "_law_right" (defArgs s_w_right) (defBody s_w_right) (defScope s_w_right) .none kV_w_right dc_w_right pm_w_right an_w_right cd_w_right ct_w_right), sl_w_right⟩) (k_w_right : PySem.W.codeIn K cd_w_right "_law_right" = true) (p_w_right : PySem.W.keepIn K (.ref f_w_right) = true)
    (a_law : PySem.W.nsIn K mainGlobals "law" = some (some (.ref f_law))) (l_law : K.lookup f_law = some ⟨oc_law, od_law, .func (PySem.W.fnOf "law" "law" (defArgs s_law) (defBody s_law) (defScope s_law) .none kV_law dc_law pm_law an_law cd_law ct_law), sl_law⟩) (k_law : PySem.W.codeIn K cd_law "law" = true) (p_law : PySem.W.keepIn K (.ref f_law) = true)
    (e_MAX_INTERVAL : PySem.W.nsIn K mainGlobals "MAX_INTERVAL" = some (some (.int 32 t_MAX_INTERVAL)))
    (e_MAX_LETTERS : PySem.W.nsIn K mainGlobals "MAX_LETTERS" = some (some (.int 8 t_MAX_LETTERS)))
    (e_MAX_VALUES : PySem.W.nsIn K mainGlobals "MAX_VALUES" = some (some (.int 8 t_MAX_VALUES)))
    (e_MAX_LIFE : PySem.W.nsIn K mainGlobals "MAX_LIFE" = some (some (.int 8 t_MAX_LIFE)))
    (y_int : PySem.W.nsIn K mainGlobals "int" = some none)
    (y_abs : PySem.W.nsIn K mainGlobals "abs" = some none)
    (y_len : PySem.W.nsIn K mainGlobals "len" = some none)
    (y_max : PySem.W.nsIn K mainGlobals "max" = some none)
    (y_min : PySem.W.nsIn K mainGlobals "min" = some none)
    (y_range : PySem.W.nsIn K mainGlobals "range" = some none)
    (y_sum : PySem.W.nsIn K mainGlobals "sum" = some none)
    (y_isinstance : PySem.W.nsIn K mainGlobals "isinstance" = some none)
    (y_repr : PySem.W.nsIn K mainGlobals "repr" = some none)
    (y_str : PySem.W.nsIn K mainGlobals "str" = some none)
    (y_all : PySem.W.nsIn K mainGlobals "all" = some none)
    (y_any : PySem.W.nsIn K mainGlobals "any" = some none)
    (y_sorted : PySem.W.nsIn K mainGlobals "sorted" = some none)
    (y_tuple : PySem.W.nsIn K mainGlobals "tuple" = some none)
    (y_list : PySem.W.nsIn K mainGlobals "list" = some none)
    (y_dict : PySem.W.nsIn K mainGlobals "dict" = some none)
    (y_set : PySem.W.nsIn K mainGlobals "set" = some none)
    (y_bool : PySem.W.nsIn K mainGlobals "bool" = some none)
    (y_enumerate : PySem.W.nsIn K mainGlobals "enumerate" = some none)
    (uu : Nonempty (UX K mg))
    : ∃ fd : FuncData, (∀ (s : Shared) (v : Value), BindsTo s fd ⟨[v], []⟩ [("script", v)]) ∧ ∀ base : Heap, K.In base → base.Ns mainGlobals mg → GW.FnG l.prog w K mg base CX0 15 fa fd ["script"] (sp_law K) := by
  have e := hfa.symm.trans (PySem.W.mg_of X G a_law)
  cases e
  have F_wall := fun_mk (st := s_wall) l_wall k_wall p_wall
  have b_wall := F_wall.binds (ps := ["k"]) fun _ _ _ _ _ _ us hl => match us, hl with | [_], _ => rfl
  have F_is_name := fun_mk (st := s_is_name) l_is_name k_is_name p_is_name
  have b_is_name := F_is_name.binds (ps := ["value"]) fun _ _ _ _ _ _ us hl => match us, hl with | [_], _ => rfl
  have F_is_integer := fun_mk (st := s_is_integer) l_is_integer k_is_integer p_is_integer
  have b_is_integer := F_is_integer.binds (ps := ["value"]) fun _ _ _ _ _ _ us hl => match us, hl with | [_], _ => rfl
  have F_is_between := fun_mk (st := s_is_between) l_is_between k_is_between p_is_between
  have b_is_between := F_is_between.binds (ps := ["value", "low", "high"]) fun _ _ _ _ _ _ us hl => match us, hl with | [_, _, _], _ => rfl
  have F_check_integer := fun_mk (st := s_check_integer) l_check_integer k_check_integer p_check_integer
  have b_check_integer := F_check_integer.binds (ps := ["value"]) fun _ _ _ _ _ _ us hl => match us, hl with | [_], _ => rfl
  have F_check_between := fun_mk (st := s_check_between) l_check_between k_check_between p_check_between
  have b_check_between := F_check_between.binds (ps := ["value", "low", "high"]) fun _ _ _ _ _ _ us hl => match us, hl with | [_, _, _], _ => rfl
  have F_check_interval := fun_mk (st := s_check_interval) l_check_interval k_check_interval p_check_interval
  have b_check_interval := F_check_interval.binds (ps := ["value"]) fun _ _ _ _ _ _ us hl => match us, hl with | [_], _ => rfl
  have F_times_alive := fun_mk (st := s_times_alive) l_times_alive k_times_alive p_times_alive
  have b_times_alive := F_times_alive.binds (ps := ["begin", "end", "tick", "interval"]) fun _ _ _ _ _ _ us hl => match us, hl with | [_, _, _, _], _ => rfl
  have F_ascends := fun_mk (st := s_ascends) l_ascends k_ascends p_ascends
  have b_ascends := F_ascends.binds (ps := ["row"]) fun _ _ _ _ _ _ us hl => match us, hl with | [_], _ => rfl
  have F_is_span := fun_mk (st := s_is_span) l_is_span k_is_span p_is_span
  have b_is_span := F_is_span.binds (ps := ["interval", "value"]) fun _ _ _ _ _ _ us hl => match us, hl with | [_, _], _ => rfl
  have F_are_rows := fun_mk (st := s_are_rows) l_are_rows k_are_rows p_are_rows
  have b_are_rows := F_are_rows.binds (ps := ["interval", "value"]) fun _ _ _ _ _ _ us hl => match us, hl with | [_, _], _ => rfl
  have F_w_tray := fun_mk (st := s_w_tray) l_w_tray k_w_tray p_w_tray
  have b_w_tray := F_w_tray.binds (ps := ["script", "spot"]) fun _ _ _ _ _ _ us hl => match us, hl with | [_, _], _ => rfl
  have F_w_roll := fun_mk (st := s_w_roll) l_w_roll k_w_roll p_w_roll
  have b_w_roll := F_w_roll.binds (ps := ["tray", "total"]) fun _ _ _ _ _ _ us hl => match us, hl with | [_, _], _ => rfl
  have F_w_pick := fun_mk (st := s_w_pick) l_w_pick k_w_pick p_w_pick
  have b_w_pick := F_w_pick.binds (ps := ["tray", "items"]) fun _ _ _ _ _ _ us hl => match us, hl with | [_, _], _ => rfl
  have F_w_few := fun_mk (st := s_w_few) l_w_few k_w_few p_w_few
  have b_w_few := F_w_few.binds (ps := ["tray", "items", "many"]) fun _ _ _ _ _ _ us hl => match us, hl with | [_, _, _], _ => rfl
  have F_w_names := fun_mk (st := s_w_names) l_w_names k_w_names p_w_names
  have b_w_names := F_w_names.binds (ps := ["tray", "many"]) fun _ _ _ _ _ _ us hl => match us, hl with | [_, _], _ => rfl
  have F_w_rings := fun_mk (st := s_w_rings) l_w_rings k_w_rings p_w_rings
  have b_w_rings := F_w_rings.binds (ps := ["tray", "interval", "names"]) fun _ _ _ _ _ _ us hl => match us, hl with | [_, _, _], _ => rfl
  have F_w_rows := fun_mk (st := s_w_rows) l_w_rows k_w_rows p_w_rows
  have b_w_rows := F_w_rows.binds (ps := ["tray", "interval", "names"]) fun _ _ _ _ _ _ us hl => match us, hl with | [_, _, _], _ => rfl
  have F_w_sorted := fun_mk (st := s_w_sorted) l_w_sorted k_w_sorted p_w_sorted
  have b_w_sorted := F_w_sorted.binds (ps := ["rows"]) fun _ _ _ _ _ _ us hl => match us, hl with | [_], _ => rfl
  have F_w_alive := fun_mk (st := s_w_alive) l_w_alive k_w_alive p_w_alive
  have b_w_alive := F_w_alive.binds (ps := ["rows", "interval", "tick"]) fun _ _ _ _ _ _ us hl => match us, hl with | [_, _, _], _ => rfl
  have F_w_of := fun_mk (st := s_w_of) l_w_of k_w_of p_w_of
  have b_w_of := F_w_of.binds (ps := ["values", "names"]) fun _ _ _ _ _ _ us hl => match us, hl with | [_, _], _ => rfl
  have F_w_told := fun_mk (st := s_w_told) l_w_told k_w_told p_w_told
  have b_w_told := F_w_told.binds (ps := ["spans", "tick", "some"]) fun _ _ _ _ _ _ us hl => match us, hl with | [_, _, _], _ => rfl
  have F_w_most := fun_mk (st := s_w_most) l_w_most k_w_most p_w_most
  have b_w_most := F_w_most.binds (ps := ["spans", "some"]) fun _ _ _ _ _ _ us hl => match us, hl with | [_, _], _ => rfl
  have F_w_right := fun_mk (st := s_w_right) l_w_right k_w_right p_w_right
  have b_w_right := F_w_right.binds (ps := ["tray"]) fun _ _ _ _ _ _ us hl => match us, hl with | [_], _ => rfl
  have F_law := fun_mk (st := s_law) l_law k_law p_law
  have b_law := F_law.binds (ps := ["script"]) fun _ _ _ _ _ _ us hl => match us, hl with | [_], _ => rfl
  obtain ⟨U⟩ := uu
  exact ⟨PySem.W.fnOf "law" "law" (defArgs s_law) (defBody s_law) (defScope s_law) .none kV_law dc_law pm_law an_law cd_law ct_law, fun s v => .of_eq rfl, fun base _ _ => ok_law (⟨_, _, F_wall, PySem.W.mg_of X G a_wall, b_wall, _, _, F_is_name, PySem.W.mg_of X G a_is_name, b_is_name, _, _, F_is_integer, PySem.W.mg_of X G a_is_integer, b_is_integer, _, _, F_is_between, PySem.W.mg_of X G a_is_between, b_is_between, _, _, F_check_integer, PySem.W.mg_of X G a_check_integer, b_check_integer, _, _, F_check_between, PySem.W.mg_of X G a_check_between, b_check_between, _, _, F_check_interval, PySem.W.mg_of X G a_check_interval, b_check_interval, _, _, F_times_alive, PySem.W.mg_of X G a_times_alive, b_times_alive, _, _, F_ascends, PySem.W.mg_of X G a_ascends, b_ascends, _, _, F_is_span, PySem.W.mg_of X G a_is_span, b_is_span, _, _, F_are_rows, PySem.W.mg_of X G a_are_rows, b_are_rows, _, _, F_w_tray, PySem.W.mg_of X G a_w_tray, b_w_tray, _, _, F_w_roll, PySem.W.mg_of X G a_w_roll, b_w_roll, _, _, F_w_pick, PySem.W.mg_of X G a_w_pick, b_w_pick, _, _, F_w_few, PySem.W.mg_of X G a_w_few, b_w_few, _, _, F_w_names, PySem.W.mg_of X G a_w_names, b_w_names, _, _, F_w_rings, PySem.W.mg_of X G a_w_rings, b_w_rings, _, _, F_w_rows, PySem.W.mg_of X G a_w_rows, b_w_rows, _, _, F_w_sorted, PySem.W.mg_of X G a_w_sorted, b_w_sorted, _, _, F_w_alive, PySem.W.mg_of X G a_w_alive, b_w_alive, _, _, F_w_of, PySem.W.mg_of X G a_w_of, b_w_of, _, _, F_w_told, PySem.W.mg_of X G a_w_told, b_w_told, _, _, F_w_most, PySem.W.mg_of X G a_w_most, b_w_most, _, _, F_w_right, PySem.W.mg_of X G a_w_right, b_w_right, _, _, F_law, PySem.W.mg_of X G a_law, b_law, ⟨t_MAX_INTERVAL, PySem.W.mg_of X G e_MAX_INTERVAL⟩, ⟨t_MAX_LETTERS, PySem.W.mg_of X G e_MAX_LETTERS⟩, ⟨t_MAX_VALUES, PySem.W.mg_of X G e_MAX_VALUES⟩, ⟨t_MAX_LIFE, PySem.W.mg_of X G e_MAX_LIFE⟩, PySem.W.mg_none_of X G y_int, PySem.W.mg_none_of X G y_abs, PySem.W.mg_none_of X G y_len, PySem.W.mg_none_of X G y_max, PySem.W.mg_none_of X G y_min, PySem.W.mg_none_of X G y_range, PySem.W.mg_none_of X G y_sum, PySem.W.mg_none_of X G y_isinstance, PySem.W.mg_none_of X G y_repr, PySem.W.mg_none_of X G y_str, PySem.W.mg_none_of X G y_all, PySem.W.mg_none_of X G y_any, PySem.W.mg_none_of X G y_sorted, PySem.W.mg_none_of X G y_tuple, PySem.W.mg_none_of X G y_list, PySem.W.mg_none_of X G y_dict, PySem.W.mg_none_of X G y_set, PySem.W.mg_none_of X G y_bool, PySem.W.mg_none_of X G y_enumerate⟩ : T K mg) U⟩
theorem walk {l : PySem.W.OpenLaw} {q : Program} {loose : List Str} {XP : (Str → Option Value) → Heap → Prop}
                                                                                                              {YP : World → Heap → Prop} {d : DefRec} {K : Params → PySem.W.Frag} (hn : l.most = some 63) (hdf : d.params.defaults = [])
    (hY : ∀ (w : World) (h : Heap), YP w h → (K w.params).In h)
    (F : ∀ (w : World) (mg : Str → Option Value) (fa : Addr) (h : Heap),
                                                                         (K w.params).In h → h.Ns mainGlobals mg → mg d.name = some (.ref fa) →
      ∃ fd : FuncData, (∀ (s : Shared) (u : Value), BindsTo s fd ⟨[u], []⟩ [("script", u)]) ∧ ∀ base : Heap, (K w.params).In base → base.Ns mainGlobals mg → GW.FnG l.prog w (K w.params) mg base CX0 15 fa fd ["script"] (sp_law (K w.params))) :
    PySem.W.WalkO q loose XP YP l.row.toRowW d []
                                                  (fun f vs => PySem.call f vs) :=
  GW.walkG (n := 63) (k := 15) (x := "script") hn (by decide) hdf ⟨rfl, by decide, by decide⟩ hY fun w mg fa h _ KX G hmg => by
    obtain ⟨fd, hb, hF⟩ := F w mg fa h KX G hmg
    exact ⟨fd, [], sp_law _, (fun _ h => by cases h), (fun _ h => by cases h), (fun _ h => by cases h), hb, (fun H a ns hl _ hS => ⟨a, ns, rfl, hS, hl, fun _ => rfl⟩), fun base kin hns _ => hF base kin hns⟩
end K38
open PySem PySem.W PyProof.Rows
set_option maxRecDepth 100000 in
set_option maxHeartbeats 0 in
theorem PySem.Challenge.cw_overrounds_k38_whole_alive_and_across_holds : PySem.Challenge.rw_overrounds_k38_whole_alive_and_across.Holds := by
  w_on; o_law; k_head; (case hw => w_witness2)
  k_fill
  refine K38.walk (l := PySem.Challenge.rw_overrounds_k38_whole_alive_and_across) rfl rfl (fun w h Y => PySem.W.kIn_of Y) ?F
  case F =>
    intro w mg fa h KX G hmg
    refine' K38.all_mk KX G hmg ?a_wall ?l_wall ?k_wall ?p_wall ?a_is_name ?l_is_name ?k_is_name ?p_is_name ?a_is_integer ?l_is_integer ?k_is_integer ?p_is_integer ?a_is_between ?l_is_between ?k_is_between ?p_is_between ?a_check_integer ?l_check_integer ?k_check_integer ?p_check_integer ?a_check_between ?l_check_between ?k_check_between ?p_check_between ?a_check_interval ?l_check_interval ?k_check_interval ?p_check_interval ?a_times_alive ?l_times_alive ?k_times_alive ?p_times_alive ?a_ascends ?l_ascends ?k_ascends ?p_ascends ?a_is_span ?l_is_span ?k_is_span ?p_is_span ?a_are_rows ?l_are_rows ?k_are_rows ?p_are_rows ?a_w_tray ?l_w_tray ?k_w_tray ?p_w_tray ?a_w_roll ?l_w_roll ?k_w_roll ?p_w_roll ?a_w_pick ?l_w_pick ?k_w_pick ?p_w_pick ?a_w_few ?l_w_few ?k_w_few ?p_w_few ?a_w_names ?l_w_names ?k_w_names ?p_w_names ?a_w_rings ?l_w_rings ?k_w_rings ?p_w_rings ?a_w_rows ?l_w_rows ?k_w_rows ?p_w_rows ?a_w_sorted ?l_w_sorted ?k_w_sorted ?p_w_sorted ?a_w_alive ?l_w_alive ?k_w_alive ?p_w_alive ?a_w_of ?l_w_of ?k_w_of ?p_w_of ?a_w_told ?l_w_told ?k_w_told ?p_w_told ?a_w_most ?l_w_most ?k_w_most ?p_w_most ?a_w_right ?l_w_right ?k_w_right ?p_w_right ?a_law ?l_law ?k_law ?p_law ?e_MAX_INTERVAL ?e_MAX_LETTERS ?e_MAX_VALUES ?e_MAX_LIFE ?y_int ?y_abs ?y_len ?y_max ?y_min ?y_range ?y_sum ?y_isinstance ?y_repr ?y_str ?y_all ?y_any ?y_sorted ?y_tuple ?y_list ?y_dict ?y_set ?y_bool ?y_enumerate ?uu
    (case a_wall => k_is)
    (case l_wall => k_is)
    (case k_wall => k_is)
    (case p_wall => k_is)
    (case a_is_name => k_is)
    (case l_is_name => k_is)
    (case k_is_name => k_is)
    (case p_is_name => k_is)
    (case a_is_integer => k_is)
    (case l_is_integer => k_is)
    (case k_is_integer => k_is)
    (case p_is_integer => k_is)
    (case a_is_between => k_is)
    (case l_is_between => k_is)
    (case k_is_between => k_is)
    (case p_is_between => k_is)
    (case a_check_integer => k_is)
    (case l_check_integer => k_is)
    (case k_check_integer => k_is)
    (case p_check_integer => k_is)
    (case a_check_between => k_is)
    (case l_check_between => k_is)
    (case k_check_between => k_is)
    (case p_check_between => k_is)
    (case a_check_interval => k_is)
    (case l_check_interval => k_is)
    (case k_check_interval => k_is)
    (case p_check_interval => k_is)
    (case a_times_alive => k_is)
    (case l_times_alive => k_is)
    (case k_times_alive => k_is)
    (case p_times_alive => k_is)
    (case a_ascends => k_is)
    (case l_ascends => k_is)
    (case k_ascends => k_is)
    (case p_ascends => k_is)
    (case a_is_span => k_is)
    (case l_is_span => k_is)
    (case k_is_span => k_is)
    (case p_is_span => k_is)
    (case a_are_rows => k_is)
    (case l_are_rows => k_is)
    (case k_are_rows => k_is)
    (case p_are_rows => k_is)
    (case a_w_tray => k_is)
    (case l_w_tray => k_is)
    (case k_w_tray => k_is)
    (case p_w_tray => k_is)
    (case a_w_roll => k_is)
    (case l_w_roll => k_is)
    (case k_w_roll => k_is)
    (case p_w_roll => k_is)
    (case a_w_pick => k_is)
    (case l_w_pick => k_is)
    (case k_w_pick => k_is)
    (case p_w_pick => k_is)
    (case a_w_few => k_is)
    (case l_w_few => k_is)
    (case k_w_few => k_is)
    (case p_w_few => k_is)
    (case a_w_names => k_is)
    (case l_w_names => k_is)
    (case k_w_names => k_is)
    (case p_w_names => k_is)
    (case a_w_rings => k_is)
    (case l_w_rings => k_is)
    (case k_w_rings => k_is)
    (case p_w_rings => k_is)
    (case a_w_rows => k_is)
    (case l_w_rows => k_is)
    (case k_w_rows => k_is)
    (case p_w_rows => k_is)
    (case a_w_sorted => k_is)
    (case l_w_sorted => k_is)
    (case k_w_sorted => k_is)
    (case p_w_sorted => k_is)
    (case a_w_alive => k_is)
    (case l_w_alive => k_is)
    (case k_w_alive => k_is)
    (case p_w_alive => k_is)
    (case a_w_of => k_is)
    (case l_w_of => k_is)
    (case k_w_of => k_is)
    (case p_w_of => k_is)
    (case a_w_told => k_is)
    (case l_w_told => k_is)
    (case k_w_told => k_is)
    (case p_w_told => k_is)
    (case a_w_most => k_is)
    (case l_w_most => k_is)
    (case k_w_most => k_is)
    (case p_w_most => k_is)
    (case a_w_right => k_is)
    (case l_w_right => k_is)
    (case k_w_right => k_is)
    (case p_w_right => k_is)
    (case a_law => k_is)
    (case l_law => k_is)
    (case k_law => k_is)
    (case p_law => k_is)
    (case e_MAX_INTERVAL => k_is)
    (case e_MAX_LETTERS => k_is)
    (case e_MAX_VALUES => k_is)
    (case e_MAX_LIFE => k_is)
    (case y_int => k_is)
    (case y_abs => k_is)
    (case y_len => k_is)
    (case y_max => k_is)
    (case y_min => k_is)
    (case y_range => k_is)
    (case y_sum => k_is)
    (case y_isinstance => k_is)
    (case y_repr => k_is)
    (case y_str => k_is)
    (case y_all => k_is)
    (case y_any => k_is)
    (case y_sorted => k_is)
    (case y_tuple => k_is)
    (case y_list => k_is)
    (case y_dict => k_is)
    (case y_set => k_is)
    (case y_bool => k_is)
    (case y_enumerate => k_is)
    case uu =>
      refine' K38.mk_U KX G ?aC ?c1 ?c2 ?c3 ?c4 ?c5 ?c6 ?c7 ?c8 ?lI ?kI ?pI ?n1 ?n2 ?n3 ?n4 ?n5 ?aP1 ?bP1 ?tP1 ?rP1 ?lP1 ?kP1 ?pP1 ?aP2 ?bP2 ?tP2 ?rP2 ?lP2 ?kP2 ?pP2 ?aP3 ?bP3 ?tP3 ?rP3 ?lP3 ?kP3 ?pP3 ?aP4 ?bP4 ?tP4 ?rP4 ?lP4 ?kP4 ?pP4 ?iG ?yG ?lG ?kG ?pG ?iM ?yM ?lM ?kM ?pM ?iL ?yL ?lL ?kL ?pL ?iQ ?yQ ?lQ ?kQ ?pQ ?iA ?yA ?lA ?kA ?pA ?iB ?yB ?lB ?kB ?pB ?iD ?yD ?lD ?kD ?pD ?iF ?yF ?lF ?kF ?pF
      (case aC => k_is)
      (case c1 => k_is)
      (case c2 => k_is)
      (case c3 => k_is)
      (case c4 => k_is)
      (case c5 => k_is)
      (case c6 => k_is)
      (case c7 => k_is)
      (case c8 => k_is)
      (case lI => k_is)
      (case kI => k_is)
      (case pI => k_is)
      (case n1 => k_is)
      (case n2 => k_is)
      (case n3 => k_is)
      (case n4 => k_is)
      (case n5 => k_is)
      (case aP1 => k_is)
      (case bP1 => k_is)
      (case tP1 => k_is)
      (case rP1 => k_is)
      (case lP1 => k_is)
      (case kP1 => k_is)
      (case pP1 => k_is)
      (case aP2 => k_is)
      (case bP2 => k_is)
      (case tP2 => k_is)
      (case rP2 => k_is)
      (case lP2 => k_is)
      (case kP2 => k_is)
      (case pP2 => k_is)
      (case aP3 => k_is)
      (case bP3 => k_is)
      (case tP3 => k_is)
      (case rP3 => k_is)
      (case lP3 => k_is)
      (case kP3 => k_is)
      (case pP3 => k_is)
      (case aP4 => k_is)
      (case bP4 => k_is)
      (case tP4 => k_is)
      (case rP4 => k_is)
      (case lP4 => k_is)
      (case kP4 => k_is)
      (case pP4 => k_is)
      (case iG => k_is)
      (case yG => k_is)
      (case lG => k_is)
      (case kG => k_is)
      (case pG => k_is)
      (case iM => k_is)
      (case yM => k_is)
      (case lM => k_is)
      (case kM => k_is)
      (case pM => k_is)
      (case iL => k_is)
      (case yL => k_is)
      (case lL => k_is)
      (case kL => k_is)
      (case pL => k_is)
      (case iQ => k_is)
      (case yQ => k_is)
      (case lQ => k_is)
      (case kQ => k_is)
      (case pQ => k_is)
      (case iA => k_is)
      (case yA => k_is)
      (case lA => k_is)
      (case kA => k_is)
      (case pA => k_is)
      (case iB => k_is)
      (case yB => k_is)
      (case lB => k_is)
      (case kB => k_is)
      (case pB => k_is)
      (case iD => k_is)
      (case yD => k_is)
      (case lD => k_is)
      (case kD => k_is)
      (case pD => k_is)
      (case iF => k_is)
      (case yF => k_is)
      (case lF => k_is)
      (case kF => k_is)
      (case pF => k_is)
