import PyProof.Rows.All
import HandS.GenList
import HandS.GenOver
import Wide.All
import OpenK.AllK
import Wide.FinOn
import HandS.ForMost
import HandS.Wide
import HandS.IsInst
import HandS.Walk
import HandS.Style
import HandS.ForExc
import HandS.ExcInit
import HandS.Lambda
import HandS.Defaults
import HandS.MakeKwOnly
import HandS.TryMany
import KE.DataCmp
import HandS.EndTab
import HandS.DictComp
import HandS.DeepEq
import HandS.Property
import HandS.FStr
import HandS.Iter
import HandS.Finally
import HandS.ListItems
import KE.KNestM
import PyProof.ReprRoads
import PyProof.ListStr
import PyProof.StrBlock2
import HandS.Conv
import HandS.WordsDict
import HandS.List
import KE.KFmtOwn
import HandS.OwnEq
import HandS.More
import HandS.RaiseMore
import PyProof.InstNe
import OpenK.KMeth
import OpenK.KOps
import PyProof.EqKinds
import KE.DataEq
import KE.KDictList
import HandS.Set
import HandS.Keys
import HandS.Dict
import HandS.TupSets
import HandS.SetBool
import KE.SortData
import HandS.Comp
import PyProof.WalksMore
import PyProof.TupleIter
import HandS.GenYield
import PyProof.GenRules
import HandS.GenCall
import HandS.Star
import HandS.Flow
import HandS.Text
import HandS.Deep
import HandS.Zip
import PyProof.TupleOfSeq
import PyProof.DictUpdate
import KE.KOpsOwn
import HandS.ExcOwn
import HandS.ExcValue
import HandS.Words
import HandS.ClsMeth
import KE.RegKIsAll
import PySem.Challenge.RW_overrounds_k40_whole_spans_put_together
set_option Elab.async false
set_option linter.all false
set_option maxRecDepth 100000
set_option maxHeartbeats 2000000
namespace K40
open PySem L2
def top (i : Nat) : Stmt := PySem.Challenge.pw_overrounds_k40_whole_spans_put_together.main.body.getD i (.Pass ⟨0, 0, 0, 0⟩)
abbrev s_wall : Stmt := top 0
abbrev s_is_name : Stmt := top 10
abbrev s_is_integer : Stmt := top 11
abbrev s_is_between : Stmt := top 12
abbrev s_check_integer : Stmt := top 13
abbrev s_check_between : Stmt := top 14
abbrev s_check_interval : Stmt := top 15
abbrev s_times_alive : Stmt := top 16
abbrev s_ascends : Stmt := top 18
abbrev s_is_span : Stmt := top 22
abbrev s_are_rows : Stmt := top 23
abbrev s_merged : Stmt := top 24
abbrev s_w_tray : Stmt := top 27
abbrev s_w_roll : Stmt := top 28
abbrev s_w_pick : Stmt := top 29
abbrev s_w_few : Stmt := top 30
abbrev s_w_names : Stmt := top 31
abbrev s_w_rings : Stmt := top 32
abbrev s_w_rows : Stmt := top 33
abbrev s_w_sorted : Stmt := top 34
abbrev s_w_counts : Stmt := top 35
abbrev s_w_shifted_right : Stmt := top 36
abbrev s_w_right : Stmt := top 37
abbrev s_w_parted_right : Stmt := top 38
abbrev s_law : Stmt := top 39
abbrev s_RoundError_init : Stmt := inClass (top 2) 0
abbrev s_UnknownName_init : Stmt := inClass (top 5) 0
abbrev s_InvalidNumber_init : Stmt := inClass (top 6) 0
abbrev s_Spans_init : Stmt := inClass (top 25) 0
abbrev s_Spans_interval : Stmt := inClass (top 25) 1
abbrev s_Spans_rows : Stmt := inClass (top 25) 2
abbrev s_Spans_names : Stmt := inClass (top 25) 3
abbrev s_Spans_most : Stmt := inClass (top 25) 4
abbrev s_Spans_peaks : Stmt := inClass (top 25) 5
abbrev s_Spans_total : Stmt := inClass (top 25) 6
abbrev s_Spans_pieces : Stmt := inClass (top 25) 7
abbrev s_Spans_normal : Stmt := inClass (top 25) 8
abbrev s_Spans_sums : Stmt := inClass (top 25) 9
abbrev s_Spans_chosen : Stmt := inClass (top 25) 10
abbrev s_Spans_alive : Stmt := inClass (top 25) 11
abbrev s_Spans_across : Stmt := inClass (top 25) 12
abbrev s_Spans_is_full : Stmt := inClass (top 25) 13
abbrev s_Spans_most_of : Stmt := inClass (top 25) 14
abbrev s_Spans_full_slots : Stmt := inClass (top 25) 15
abbrev s_Spans_is_apart : Stmt := inClass (top 25) 16
abbrev s_Spans_linked : Stmt := inClass (top 25) 17
abbrev s_Spans_has_free : Stmt := inClass (top 25) 18
abbrev s_Spans_each_alive : Stmt := inClass (top 25) 19
abbrev s_Spans_getitem : Stmt := inClass (top 25) 20
abbrev s_Spans_contains : Stmt := inClass (top 25) 21
abbrev s_Spans_len : Stmt := inClass (top 25) 22
abbrev s_Spans_iter : Stmt := inClass (top 25) 23
abbrev s_Spans_later : Stmt := inClass (top 25) 24
abbrev s_Spans_add : Stmt := inClass (top 25) 25
abbrev s_Spans_or : Stmt := inClass (top 25) 26
abbrev s_Spans_and : Stmt := inClass (top 25) 27
abbrev s_Spans_eq : Stmt := inClass (top 25) 28
abbrev s_Spans_str : Stmt := inClass (top 25) 29
theorem sc_RoundError_init : FnScope ["self", "told"] ["self", "told"] (defScope s_RoundError_init) := ⟨rfl, rfl, rfl, by decide +kernel, rfl, by decide +kernel, by decide +kernel⟩
theorem sc_UnknownName_init : FnScope ["self", "wanted"] ["self", "wanted"] (defScope s_UnknownName_init) := ⟨rfl, rfl, rfl, by decide +kernel, rfl, by decide +kernel, by decide +kernel⟩
theorem sc_InvalidNumber_init : FnScope ["self", "value"] ["self", "value"] (defScope s_InvalidNumber_init) := ⟨rfl, rfl, rfl, by decide +kernel, rfl, by decide +kernel, by decide +kernel⟩
theorem sc_Spans_init : FnScope ["self", "interval", "rows", "name", "begin", "end", "slot"] ["self", "interval", "rows"] (defScope s_Spans_init) := ⟨rfl, rfl, rfl, by decide +kernel, rfl, by decide +kernel, by decide +kernel⟩
theorem sc_Spans_interval : FnScope ["self"] ["self"] (defScope s_Spans_interval) := ⟨rfl, rfl, rfl, by decide +kernel, rfl, by decide +kernel, by decide +kernel⟩
theorem sc_Spans_rows : FnScope ["self"] ["self"] (defScope s_Spans_rows) := ⟨rfl, rfl, rfl, by decide +kernel, rfl, by decide +kernel, by decide +kernel⟩
theorem sc_Spans_names : FnScope ["self"] ["self"] (defScope s_Spans_names) := ⟨rfl, rfl, rfl, by decide +kernel, rfl, by decide +kernel, by decide +kernel⟩
theorem sc_Spans_most : FnScope ["self"] ["self"] (defScope s_Spans_most) := ⟨rfl, rfl, rfl, by decide +kernel, rfl, by decide +kernel, by decide +kernel⟩
theorem sc_Spans_peaks : FnScope ["self", "counts", "most", "slot", "many"] ["self"] (defScope s_Spans_peaks) := ⟨rfl, rfl, rfl, by decide +kernel, rfl, by decide +kernel, by decide +kernel⟩
theorem sc_Spans_total : FnScope ["self", "begin", "end"] ["self"] (defScope s_Spans_total) := ⟨rfl, rfl, rfl, by decide +kernel, rfl, by decide +kernel, by decide +kernel⟩
theorem sc_Spans_pieces : FnScope ["self", "peak", "parts", "slot", "free", "part"] ["self"] (defScope s_Spans_pieces) := ⟨rfl, rfl, rfl, by decide +kernel, rfl, by decide +kernel, by decide +kernel⟩
theorem sc_Spans_normal : FnScope ["self", "rows", "name", "begin", "end"] ["self"] (defScope s_Spans_normal) := ⟨rfl, rfl, rfl, by decide +kernel, rfl, by decide +kernel, by decide +kernel⟩
theorem sc_Spans_sums : FnScope ["self", "counts", "names", "slot", "name"] ["self", "counts", "names"] (defScope s_Spans_sums) := ⟨rfl, rfl, rfl, by decide +kernel, rfl, by decide +kernel, by decide +kernel⟩
theorem sc_Spans_chosen : FnScope ["self", "names", "name"] ["self", "names"] (defScope s_Spans_chosen) := ⟨rfl, rfl, rfl, by decide +kernel, rfl, by decide +kernel, by decide +kernel⟩
theorem sc_Spans_alive : FnScope ["self", "tick", "names", "chosen", "name"] ["self", "tick", "names"] (defScope s_Spans_alive) := ⟨rfl, rfl, rfl, by decide +kernel, rfl, by decide +kernel, by decide +kernel⟩
theorem sc_Spans_across : FnScope ["self", "moment", "names", "chosen", "name"] ["self", "moment", "names"] (defScope s_Spans_across) := ⟨rfl, rfl, rfl, by decide +kernel, rfl, by decide +kernel, by decide +kernel⟩
theorem sc_Spans_is_full : FnScope ["self", "moment", "names"] ["self", "moment", "names"] (defScope s_Spans_is_full) := ⟨rfl, rfl, rfl, by decide +kernel, rfl, by decide +kernel, by decide +kernel⟩
theorem sc_Spans_most_of : FnScope ["self", "names"] ["self", "names"] (defScope s_Spans_most_of) := ⟨rfl, rfl, rfl, by decide +kernel, rfl, by decide +kernel, by decide +kernel⟩
theorem sc_Spans_full_slots : FnScope ["self", "names"] ["self", "names"] (defScope s_Spans_full_slots) := ⟨rfl, rfl, rfl, by decide +kernel, rfl, by decide +kernel, by decide +kernel⟩
theorem sc_Spans_is_apart : FnScope ["self", "names"] ["self", "names"] (defScope s_Spans_is_apart) := ⟨rfl, rfl, rfl, by decide +kernel, rfl, by decide +kernel, by decide +kernel⟩
theorem sc_Spans_linked : FnScope ["self", "peak", "first", "ends", "begins", "parts", "end", "begin", "name", "_"] ["self", "peak"] (defScope s_Spans_linked) := ⟨rfl, rfl, rfl, by decide +kernel, rfl, by decide +kernel, by decide +kernel⟩
theorem sc_Spans_has_free : FnScope ["self", "names", "peak", "slot", "name"] ["self", "names", "peak", "slot"] (defScope s_Spans_has_free) := ⟨rfl, rfl, rfl, by decide +kernel, rfl, by decide +kernel, by decide +kernel⟩
theorem gc_Spans_each_alive : L2.GScope ["self", "tick", "name", "begin", "end", "last", "many", "turn"] ["self", "tick"] (defScope s_Spans_each_alive) := ⟨rfl, rfl, rfl, by decide +kernel, rfl, by decide +kernel, by decide +kernel⟩
theorem sc_Spans_getitem : FnScope ["self", "name"] ["self", "name"] (defScope s_Spans_getitem) := ⟨rfl, rfl, rfl, by decide +kernel, rfl, by decide +kernel, by decide +kernel⟩
theorem sc_Spans_contains : FnScope ["self", "value"] ["self", "value"] (defScope s_Spans_contains) := ⟨rfl, rfl, rfl, by decide +kernel, rfl, by decide +kernel, by decide +kernel⟩
theorem sc_Spans_len : FnScope ["self"] ["self"] (defScope s_Spans_len) := ⟨rfl, rfl, rfl, by decide +kernel, rfl, by decide +kernel, by decide +kernel⟩
theorem sc_Spans_iter : FnScope ["self"] ["self"] (defScope s_Spans_iter) := ⟨rfl, rfl, rfl, by decide +kernel, rfl, by decide +kernel, by decide +kernel⟩
theorem sc_Spans_later : FnScope ["self", "ticks", "name", "begin", "end"] ["self", "ticks"] (defScope s_Spans_later) := ⟨rfl, rfl, rfl, by decide +kernel, rfl, by decide +kernel, by decide +kernel⟩
theorem sc_Spans_add : FnScope ["self", "other"] ["self", "other"] (defScope s_Spans_add) := ⟨rfl, rfl, rfl, by decide +kernel, rfl, by decide +kernel, by decide +kernel⟩
theorem sc_Spans_or : FnScope ["self", "other", "rows", "name"] ["self", "other"] (defScope s_Spans_or) := ⟨rfl, rfl, rfl, by decide +kernel, rfl, by decide +kernel, by decide +kernel⟩
theorem sc_Spans_and : FnScope ["self", "other", "name"] ["self", "other"] (defScope s_Spans_and) := ⟨rfl, rfl, rfl, by decide +kernel, rfl, by decide +kernel, by decide +kernel⟩
theorem sc_Spans_eq : FnScope ["self", "other"] ["self", "other"] (defScope s_Spans_eq) := ⟨rfl, rfl, rfl, by decide +kernel, rfl, by decide +kernel, by decide +kernel⟩
theorem sc_Spans_str : FnScope ["self"] ["self"] (defScope s_Spans_str) := ⟨rfl, rfl, rfl, by decide +kernel, rfl, by decide +kernel, by decide +kernel⟩
theorem sc_wall : FnScope ["k"] ["k"] (defScope s_wall) := ⟨rfl, rfl, rfl, by decide +kernel, rfl, by decide +kernel, by decide +kernel⟩
theorem sc_is_name : FnScope ["value", "letter"] ["value"] (defScope s_is_name) := ⟨rfl, rfl, rfl, by decide +kernel, rfl, by decide +kernel, by decide +kernel⟩
theorem sc_is_integer : FnScope ["value"] ["value"] (defScope s_is_integer) := ⟨rfl, rfl, rfl, by decide +kernel, rfl, by decide +kernel, by decide +kernel⟩
theorem sc_is_between : FnScope ["value", "low", "high"] ["value", "low", "high"] (defScope s_is_between) := ⟨rfl, rfl, rfl, by decide +kernel, rfl, by decide +kernel, by decide +kernel⟩
theorem sc_check_integer : FnScope ["value"] ["value"] (defScope s_check_integer) := ⟨rfl, rfl, rfl, by decide +kernel, rfl, by decide +kernel, by decide +kernel⟩
theorem sc_check_between : FnScope ["value", "low", "high"] ["value", "low", "high"] (defScope s_check_between) := ⟨rfl, rfl, rfl, by decide +kernel, rfl, by decide +kernel, by decide +kernel⟩
theorem sc_check_interval : FnScope ["value"] ["value"] (defScope s_check_interval) := ⟨rfl, rfl, rfl, by decide +kernel, rfl, by decide +kernel, by decide +kernel⟩
theorem sc_times_alive : FnScope ["begin", "end", "tick", "interval"] ["begin", "end", "tick", "interval"] (defScope s_times_alive) := ⟨rfl, rfl, rfl, by decide +kernel, rfl, by decide +kernel, by decide +kernel⟩
theorem sc_ascends : FnScope ["row", "at"] ["row"] (defScope s_ascends) := ⟨rfl, rfl, rfl, by decide +kernel, rfl, by decide +kernel, by decide +kernel⟩
theorem sc_is_span : FnScope ["interval", "value"] ["interval", "value"] (defScope s_is_span) := ⟨rfl, rfl, rfl, by decide +kernel, rfl, by decide +kernel, by decide +kernel⟩
theorem sc_are_rows : FnScope ["interval", "value", "name"] ["interval", "value"] (defScope s_are_rows) := ⟨rfl, rfl, rfl, by decide +kernel, rfl, by decide +kernel, by decide +kernel⟩
theorem sc_merged : FnScope ["parts", "names", "chosen", "others", "part", "name"] ["parts", "names"] (defScope s_merged) := ⟨rfl, rfl, rfl, by decide +kernel, rfl, by decide +kernel, by decide +kernel⟩
theorem sc_w_tray : FnScope ["script", "spot", "cell", "great", "begin"] ["script", "spot"] (defScope s_w_tray) := ⟨rfl, rfl, rfl, by decide +kernel, rfl, by decide +kernel, by decide +kernel⟩
theorem sc_w_roll : FnScope ["tray", "total", "found", "one", "two"] ["tray", "total"] (defScope s_w_roll) := ⟨rfl, rfl, rfl, by decide +kernel, rfl, by decide +kernel, by decide +kernel⟩
theorem sc_w_pick : FnScope ["tray", "items"] ["tray", "items"] (defScope s_w_pick) := ⟨rfl, rfl, rfl, by decide +kernel, rfl, by decide +kernel, by decide +kernel⟩
theorem sc_w_few : FnScope ["tray", "items", "many", "left", "found", "turn"] ["tray", "items", "many"] (defScope s_w_few) := ⟨rfl, rfl, rfl, by decide +kernel, rfl, by decide +kernel, by decide +kernel⟩
theorem sc_w_names : FnScope ["tray", "many", "letters", "stem", "found", "letter", "turn", "size"] ["tray", "many"] (defScope s_w_names) := ⟨rfl, rfl, rfl, by decide +kernel, rfl, by decide +kernel, by decide +kernel⟩
theorem sc_w_rings : FnScope ["tray", "interval", "names", "rows", "left", "some", "first", "begin", "name", "last"] ["tray", "interval", "names"] (defScope s_w_rings) := ⟨rfl, rfl, rfl, by decide +kernel, rfl, by decide +kernel, by decide +kernel⟩
theorem sc_w_rows : FnScope ["tray", "interval", "names", "rows", "name", "begin", "size"] ["tray", "interval", "names"] (defScope s_w_rows) := ⟨rfl, rfl, rfl, by decide +kernel, rfl, by decide +kernel, by decide +kernel⟩
theorem sc_w_sorted : FnScope ["rows", "name"] ["rows"] (defScope s_w_sorted) := ⟨rfl, rfl, rfl, by decide +kernel, rfl, by decide +kernel, by decide +kernel⟩
theorem sc_w_counts : FnScope ["spans", "first", "ticks", "tick"] ["spans", "first"] (defScope s_w_counts) := ⟨rfl, rfl, rfl, by decide +kernel, rfl, by decide +kernel, by decide +kernel⟩
theorem sc_w_shifted_right : FnScope ["tray", "spans", "rows", "interval", "by", "more", "due", "moved", "told", "peaks", "name", "slot"] ["tray", "spans", "rows"] (defScope s_w_shifted_right) := ⟨rfl, rfl, rfl, by decide +kernel, rfl, by decide +kernel, by decide +kernel⟩
theorem sc_w_right : FnScope ["tray", "interval", "names", "size", "rows", "others", "spans", "other", "both", "due", "one", "two", "values", "first", "last"] ["tray"] (defScope s_w_right) := ⟨rfl, rfl, rfl, by decide +kernel, rfl, by decide +kernel, by decide +kernel⟩
theorem sc_w_parted_right : FnScope ["tray", "both", "names", "some", "part", "due", "rest", "name"] ["tray", "both", "names"] (defScope s_w_parted_right) := ⟨rfl, rfl, rfl, by decide +kernel, rfl, by decide +kernel, by decide +kernel⟩
theorem sc_law : FnScope ["script", "spot", "two", "told", "due"] ["script"] (defScope s_law) := ⟨rfl, rfl, rfl, by decide +kernel, rfl, by decide +kernel, by decide +kernel⟩
/-- where the defs stand, and what the names hold -/
structure T (K : PySem.W.Frag) (mg : Str → Option Value) where
  f_wall : Addr
  d_wall : FuncData
  F_wall : Fun K "_wall" "_wall" s_wall f_wall d_wall
  m_wall : mg "_wall" = some (.ref f_wall)
  b_wall : Binds K d_wall ["k"] []
  f_is_name : Addr
  d_is_name : FuncData
  F_is_name : Fun K "is_name" "is_name" s_is_name f_is_name d_is_name
  m_is_name : mg "is_name" = some (.ref f_is_name)
  b_is_name : Binds K d_is_name ["value"] []
  f_is_integer : Addr
  d_is_integer : FuncData
  F_is_integer : Fun K "is_integer" "is_integer" s_is_integer f_is_integer d_is_integer
  m_is_integer : mg "is_integer" = some (.ref f_is_integer)
  b_is_integer : Binds K d_is_integer ["value"] []
  f_is_between : Addr
  d_is_between : FuncData
  F_is_between : Fun K "is_between" "is_between" s_is_between f_is_between d_is_between
  m_is_between : mg "is_between" = some (.ref f_is_between)
  b_is_between : Binds K d_is_between ["value", "low", "high"] []
  f_check_integer : Addr
  d_check_integer : FuncData
  F_check_integer : Fun K "check_integer" "check_integer" s_check_integer f_check_integer d_check_integer
  m_check_integer : mg "check_integer" = some (.ref f_check_integer)
  b_check_integer : Binds K d_check_integer ["value"] []
  f_check_between : Addr
  d_check_between : FuncData
  F_check_between : Fun K "check_between" "check_between" s_check_between f_check_between d_check_between
  m_check_between : mg "check_between" = some (.ref f_check_between)
  b_check_between : Binds K d_check_between ["value", "low", "high"] []
  f_check_interval : Addr
  d_check_interval : FuncData
  F_check_interval : Fun K "check_interval" "check_interval" s_check_interval f_check_interval d_check_interval
  m_check_interval : mg "check_interval" = some (.ref f_check_interval)
  b_check_interval : Binds K d_check_interval ["value"] []
  f_times_alive : Addr
  d_times_alive : FuncData
  F_times_alive : Fun K "times_alive" "times_alive" s_times_alive f_times_alive d_times_alive
  m_times_alive : mg "times_alive" = some (.ref f_times_alive)
  b_times_alive : Binds K d_times_alive ["begin", "end", "tick", "interval"] []
  f_ascends : Addr
  d_ascends : FuncData
  F_ascends : Fun K "ascends" "ascends" s_ascends f_ascends d_ascends
  m_ascends : mg "ascends" = some (.ref f_ascends)
  b_ascends : Binds K d_ascends ["row"] []
  f_is_span : Addr
  d_is_span : FuncData
  F_is_span : Fun K "_is_span" "_is_span" s_is_span f_is_span d_is_span
  m_is_span : mg "_is_span" = some (.ref f_is_span)
  b_is_span : Binds K d_is_span ["interval", "value"] []
  f_are_rows : Addr
  d_are_rows : FuncData
  F_are_rows : Fun K "_are_rows" "_are_rows" s_are_rows f_are_rows d_are_rows
  m_are_rows : mg "_are_rows" = some (.ref f_are_rows)
  b_are_rows : Binds K d_are_rows ["interval", "value"] []
  f_merged : Addr
  d_merged : FuncData
  F_merged : Fun K "_merged" "_merged" s_merged f_merged d_merged
  m_merged : mg "_merged" = some (.ref f_merged)
  b_merged : Binds K d_merged ["parts", "names"] []
  f_w_tray : Addr
  d_w_tray : FuncData
  F_w_tray : Fun K "_law_tray" "_law_tray" s_w_tray f_w_tray d_w_tray
  m_w_tray : mg "_law_tray" = some (.ref f_w_tray)
  b_w_tray : Binds K d_w_tray ["script", "spot"] []
  f_w_roll : Addr
  d_w_roll : FuncData
  F_w_roll : Fun K "_law_roll" "_law_roll" s_w_roll f_w_roll d_w_roll
  m_w_roll : mg "_law_roll" = some (.ref f_w_roll)
  b_w_roll : Binds K d_w_roll ["tray", "total"] []
  f_w_pick : Addr
  d_w_pick : FuncData
  F_w_pick : Fun K "_law_pick" "_law_pick" s_w_pick f_w_pick d_w_pick
  m_w_pick : mg "_law_pick" = some (.ref f_w_pick)
  b_w_pick : Binds K d_w_pick ["tray", "items"] []
  f_w_few : Addr
  d_w_few : FuncData
  F_w_few : Fun K "_law_few" "_law_few" s_w_few f_w_few d_w_few
  m_w_few : mg "_law_few" = some (.ref f_w_few)
  b_w_few : Binds K d_w_few ["tray", "items", "many"] []
  f_w_names : Addr
  d_w_names : FuncData
  F_w_names : Fun K "_law_names" "_law_names" s_w_names f_w_names d_w_names
  m_w_names : mg "_law_names" = some (.ref f_w_names)
  b_w_names : Binds K d_w_names ["tray", "many"] []
  f_w_rings : Addr
  d_w_rings : FuncData
  F_w_rings : Fun K "_law_rings" "_law_rings" s_w_rings f_w_rings d_w_rings
  m_w_rings : mg "_law_rings" = some (.ref f_w_rings)
  b_w_rings : Binds K d_w_rings ["tray", "interval", "names"] []
  f_w_rows : Addr
  d_w_rows : FuncData
  F_w_rows : Fun K "_law_rows" "_law_rows" s_w_rows f_w_rows d_w_rows
  m_w_rows : mg "_law_rows" = some (.ref f_w_rows)
  b_w_rows : Binds K d_w_rows ["tray", "interval", "names"] []
  f_w_sorted : Addr
  d_w_sorted : FuncData
  F_w_sorted : Fun K "_law_sorted" "_law_sorted" s_w_sorted f_w_sorted d_w_sorted
  m_w_sorted : mg "_law_sorted" = some (.ref f_w_sorted)
  b_w_sorted : Binds K d_w_sorted ["rows"] []
  f_w_counts : Addr
  d_w_counts : FuncData
  F_w_counts : Fun K "_law_counts" "_law_counts" s_w_counts f_w_counts d_w_counts
  m_w_counts : mg "_law_counts" = some (.ref f_w_counts)
  b_w_counts : Binds K d_w_counts ["spans", "first"] []
  f_w_shifted_right : Addr
  d_w_shifted_right : FuncData
  F_w_shifted_right : Fun K "_law_shifted_right" "_law_shifted_right" s_w_shifted_right f_w_shifted_right d_w_shifted_right
  m_w_shifted_right : mg "_law_shifted_right" = some (.ref f_w_shifted_right)
  b_w_shifted_right : Binds K d_w_shifted_right ["tray", "spans", "rows"] []
  f_w_right : Addr
  d_w_right : FuncData
  F_w_right : Fun K "_law_right" "_law_right" s_w_right f_w_right d_w_right
  m_w_right : mg "_law_right" = some (.ref f_w_right)
  b_w_right : Binds K d_w_right ["tray"] []
  f_w_parted_right : Addr
  d_w_parted_right : FuncData
  F_w_parted_right : Fun K "_law_parted_right" "_law_parted_right" s_w_parted_right f_w_parted_right d_w_parted_right
  m_w_parted_right : mg "_law_parted_right" = some (.ref f_w_parted_right)
  b_w_parted_right : Binds K d_w_parted_right ["tray", "both", "names"] []
  f_law : Addr
  d_law : FuncData
  F_law : Fun K "law" "law" s_law f_law d_law
  m_law : mg "law" = some (.ref f_law)
  b_law : Binds K d_law ["script"] []
  c_MAX_INTERVAL : ∃ t, mg "MAX_INTERVAL" = some (.int 32 t)
  c_MAX_LETTERS : ∃ t, mg "MAX_LETTERS" = some (.int 8 t)
  c_MAX_VALUES : ∃ t, mg "MAX_VALUES" = some (.int 8 t)
  c_MAX_LIFE : ∃ t, mg "MAX_LIFE" = some (.int 8 t)
  z_int : mg "int" = none
  z_abs : mg "abs" = none
  z_len : mg "len" = none
  z_max : mg "max" = none
  z_min : mg "min" = none
  z_range : mg "range" = none
  z_sum : mg "sum" = none
  z_isinstance : mg "isinstance" = none
  z_repr : mg "repr" = none
  z_str : mg "str" = none
  z_all : mg "all" = none
  z_any : mg "any" = none
  z_sorted : mg "sorted" = none
  z_tuple : mg "tuple" = none
  z_list : mg "list" = none
  z_dict : mg "dict" = none
  z_set : mg "set" = none
  z_bool : mg "bool" = none
  z_enumerate : mg "enumerate" = none
  z_zip : mg "zip" = none
/-- a list of three ints stands at r -/
def Rl (H : Hp) (r : Addr) : Prop := ∃ a b c : Int, H r = some (.lst [.int a, .int b, .int c])
/-- what the heap held, but for what stands at r -/
def Only (r : Addr) (H H' : Hp) : Prop := ∀ b o, b ≠ r → H b = some o → H' b = some o
theorem Only.refl {r : Addr} {H : Hp} : Only r H H := fun _ _ _ e => e
theorem Only.trans {r : Addr} {H H1 H2 : Hp} (a : Only r H H1) (b : Only r H1 H2) : Only r H H2 := fun c o n e => b c o n (a c o n e)
theorem Only.upd {r : Addr} {H : Hp} {o : HO} : Only r H (upd H r o) := fun b _ n e => by rw [upd_ne n]; exact e
theorem Only.new {r p : Addr} {H : Hp} {o : HO} (n : H p = none) : Only r H (L2.upd H p o) := fun b _ _ e => by rw [upd_ne (ne_of_none e n)]; exact e
theorem Rl.new {r p : Addr} {H : Hp} {o : HO} (h : Rl H r) (n : H p = none) : Rl (upd H p o) r := by
  obtain ⟨a, b, c, e⟩ := h
  exact ⟨a, b, c, by rw [upd_ne (ne_of_none e n)]; exact e⟩
theorem Rl.ne {r p : Addr} {H : Hp} (h : Rl H r) (n : H p = none) : p ≠ r := by
  obtain ⟨a, b, c, e⟩ := h
  exact (ne_of_none e n).symm
theorem Only.seqL {K : PySem.W.Frag} {r l : Addr} {H H' : Hp} {xs : List V} (o : Only r H H') (n : l ≠ r) (h : SqL K H l xs) : SqL K H' l xs := by
  rcases h with (h | ⟨u, h⟩) | h
  · exact .inl (.inl (o _ _ n h))
  · exact .inl (.inr ⟨u, o _ _ n h⟩)
  · exact .inr h
theorem Only.seqT {K : PySem.W.Frag} {r l : Addr} {H H' : Hp} {xs : List V} (o : Only r H H') (n : l ≠ r) (h : SqT K H l xs) : SqT K H' l xs := by
  rcases h with (h | ⟨u, h⟩) | h
  · exact .inl (.inl (o _ _ n h))
  · exact .inl (.inr ⟨u, o _ _ n h⟩)
  · exact .inr h
theorem ix_at {α : Type} {xs : List α} {i : Int} (h0 : 0 ≤ i) (h1 : i < xs.length) : ∃ v, v ∈ xs ∧ atI xs i = some v := by
  have h2 : i.toNat < xs.length := by omega
  refine ⟨xs[i.toNat], List.getElem_mem h2, ?_⟩
  have h3 : ((i.toNat : Nat) : Int) = i := Int.toNat_of_nonneg h0
  have := atI_nat (xs := xs) (j := i.toNat) (List.getElem?_eq_getElem h2)
  rw [h3] at this
  exact this
/-- what a draw is made from: a list, a tuple, a text -/
def SeqV (K : PySem.W.Frag) (H : Hp) (r : Addr) (x : V) (xs : List V) : Prop :=
  (∃ l, x = .ref l ∧ l ≠ r ∧ (SqL K H l xs ∨ SqT K H l xs)) ∨ (∃ z : Str, x = .str z ∧ z.length ≤ sizeLine ∧ xs = z.cps.toList.map fun c => V.str ⟨#[c]⟩)
theorem lg {i : Int} {b : Nat} (h0 : 0 ≤ i) (h : i < 2 ^ b) (hb : 0 < b) : i.natAbs.log2 < b := by
  refine PySem.Flt.log2_lt_of hb ?_
  have : (i.natAbs : Int) = i := Int.natAbs_of_nonneg h0
  have h2 : ((i.natAbs : Nat) : Int) < ((2 ^ b : Nat) : Int) := by rw [this, Int.natCast_pow]; exact h
  exact Int.ofNat_lt.mp h2
section
variable {X : Cx}
theorem op_powW : OpR X (binaryOp .Pow) (rI (fun i j => 0 ≤ j ∧ (Builtin.Int.intBits i : Int) * j ≤ 2 ^ 27) fun i j => .int (i ^ j.toNat)) := opI fun _ _ _ _ _ _ _ hc q => PyProof.Rows.pow_int hc.1 hc.2 q
end
theorem ite_join {c : Bool} {ta tb : TE} {σ : St} {H : Hp} {Q : VK} (R : V → Hp → Prop) (ha : c = true → ∀ Q' : VK, (∀ v H', R v H' → Q' v H') → ta σ H Q') (hb : c = false → ∀ Q' : VK, (∀ v H', R v H' → Q' v H') → tb σ H Q')
    (h : ∀ v H', R v H' → Q v H') : if c = true then ta σ H Q else tb σ H Q := by
  cases c with
  | true => exact iteT (ha rfl Q h)
  | false => exact iteF (hb rfl Q h)
theorem at_ns {ns : List Int} {i : Nat} (h : i < ns.length) : ∃ z, atI (ns.map V.int) (i : Int) = some (.int z) :=
  ⟨ns[i], atI_nat (by rw [List.getElem?_map, List.getElem?_eq_getElem h]; rfl)⟩
theorem bl_t {Q : VK} {b : Bool} {H : Hp} (e : b = true) (k : Q (.bl true) H) : Q (.bl b) H := e ▸ k
theorem int_to {Q : VK} {i j : Int} {H : Hp} (e : i = j) (k : Q (.int j) H) : Q (.int i) H := e ▸ k
theorem if_ne {x y : V} {A B : Prop} (h : x ≠ y) (a : A) : if (!decide (x = y)) = true then A else B := by
  rw [decide_eq_false h]
  exact iteT a
theorem if_dec_t {x y : V} {A B : Prop} (h : x = y) (a : A) : if decide (x = y) = true then A else B := by
  rw [decide_eq_true h]
  exact iteT a
theorem if_dec_f {x y : V} {A B : Prop} (h : x ≠ y) (b : B) : if decide (x = y) = true then A else B := by
  rw [decide_eq_false h]
  exact iteF b
theorem dp_all {K : PySem.W.Frag} {H : Hp} : ∀ ns : List Int, DpAll K H (ns.map V.int) (ns.map PyData.int)
  | [] => .nil
  | n :: r => .cons (.int n) (dp_all r)
theorem dp_ints {K : PySem.W.Frag} {H : Hp} {a : Addr} (ns : List Int) (h : SqL K H a (ns.map V.int)) : Dp K H (.ref a) (.list (ns.map PyData.int)) := .lst h (dp_all ns)
theorem cells_n (n m : Nat) : ((if (if ((n : Nat) : Int) < (m : Int) then ((n : Nat) : Int) else (m : Int)) > 1 then (if ((n : Nat) : Int) < (m : Int) then ((n : Nat) : Int) else (m : Int)) else 1) : Int) ≤ (m : Int) + 1 ∧ 1 ≤ ((if (if ((n : Nat) : Int) < (m : Int) then ((n : Nat) : Int) else (m : Int)) > 1 then (if ((n : Nat) : Int) < (m : Int) then ((n : Nat) : Int) else (m : Int)) else 1) : Int) := by
  split <;> split <;> omega
def nmC (z : Str) : Bool := decide (1 ≤ z.length ∧ z.length ≤ 8) && z.cps.toList.all fun c => decide (97 ≤ c) && decide (c ≤ 122)
def nmD : PyData → Bool
  | .str z => nmC z
  | _ => false
def inD (lo hi : Int) : PyData → Bool
  | .int n => (decide (-1000000000000 < n) && decide (n < 1000000000000)) && (decide (lo ≤ n) && decide (n ≤ hi))
  | _ => false
def isInD : PyData → Bool
  | .int n => decide (-1000000000000 < n) && decide (n < 1000000000000)
  | _ => false
def prD (hi : Int) : PyData → Bool
  | .tuple [a, b] => nmD a && inD 0 hi b
  | _ => false
def rwD (most : Nat) (hi : Int) : PyData → Bool
  | .tuple ds => decide (ds.length ≤ most) && ds.all (prD hi)
  | _ => false
/-- every text in it is short -/
def okD (d : PyData) : Prop := d.weight ≤ 1000000
/-- a value that is the datum d, or a dict -/
def DD (K : PySem.W.Frag) (H : Hp) (x : V) (d : PyData) : Prop := Dp K H x d ∨ ∃ a kvs, x = .ref a ∧ H a = some (.dK kvs) ∧ d = .dict []
theorem Same.seqT {K : PySem.W.Frag} {H H' : Hp} {a : Addr} {xs : List V} (e : Same H H') (h : SqT K H a xs) : SqT K H' a xs := by
  rcases h with (h | ⟨o, h⟩) | h
  · exact .inl (.inl (e _ _ h))
  · exact .inl (.inr ⟨o, e _ _ h⟩)
  · exact .inr h
mutual
theorem dp_same {K : PySem.W.Frag} {H H' : Hp} (s : Same H H') : ∀ (d : PyData) (x : V), Dp K H x d → Dp K H' x d
  | .none, _, h => by cases h; exact .non
  | .bool b, _, h => by cases h; exact .bl b
  | .int i, _, h => by cases h; exact .int i
  | .str z, _, h => by cases h; exact .str z
  | .list ds, _, h => by
    cases h with
    | lst h1 h2 => exact .lst (Same.seq s h1) (dpa_same s ds _ h2)
  | .tuple ds, _, h => by
    cases h with
    | tup h1 h2 => exact .tup (Same.seqT s h1) (dpa_same s ds _ h2)
  | .dict _, _, h => by cases h
theorem dpa_same {K : PySem.W.Frag} {H H' : Hp} (s : Same H H') : ∀ (ds : List PyData) (xs : List V), DpAll K H xs ds → DpAll K H' xs ds
  | [], _, h => by cases h; exact .nil
  | d :: ds, _, h => by
    cases h with
    | cons h1 h2 => exact .cons (dp_same s d _ h1) (dpa_same s ds _ h2)
end
theorem DD.same {K : PySem.W.Frag} {H H' : Hp} {x : V} {d : PyData} (s : Same H H') (h : DD K H x d) : DD K H' x d := by
  rcases h with h | ⟨a, kvs, e1, e2, e3⟩
  · exact .inl (dp_same s d x h)
  · exact .inr ⟨a, kvs, e1, s _ _ e2, e3⟩
theorem dpa_len {K : PySem.W.Frag} {H : Hp} : ∀ {ds : List PyData} {xs : List V}, DpAll K H xs ds → ds.length = xs.length
  | [], _, h => by cases h; rfl
  | d :: ds, _, h => by
    cases h with
    | cons h1 h2 => rw [List.length_cons, List.length_cons, dpa_len h2]
theorem dpa_get {K : PySem.W.Frag} {H : Hp} : ∀ {ds : List PyData} {xs : List V} {i : Nat} {x : V}, DpAll K H xs ds → xs[i]? = some x → ∃ d, ds[i]? = some d ∧ Dp K H x d
  | [], _, i, x, h, e => by cases h; simp at e
  | d :: ds, _, 0, x, h, e => by
    cases h with
    | cons h1 h2 =>
      obtain rfl := Option.some.inj e
      exact ⟨d, rfl, h1⟩
  | d :: ds, _, i + 1, x, h, e => by
    cases h with
    | cons h1 h2 => exact dpa_get (i := i) h2 e
def tyD : PyData → String
  | .none => "NoneType" | .bool _ => "bool" | .int _ => "int" | .str _ => "str" | .list _ => "list" | .tuple _ => "tuple" | .dict _ => "dict"
theorem DD.ty {K : PySem.W.Frag} {H : Hp} {x : V} {d : PyData} (h : DD K H x d) : TyX K H x (.type (tyD d)) := by
  rcases h with h | ⟨a, kvs, rfl, e, rfl⟩
  · cases h with
    | non => exact .base .non
    | bl b => exact .base (.bl b)
    | int i => exact .base (.int i)
    | str z => exact .base (.str z)
    | lst h1 h2 =>
      rcases h1 with (h | ⟨o, h⟩) | ⟨o, its, n, e1, e2, _⟩
      · exact .base (.lst h)
      · exact .base (.frz h)
      · exact .kList e1 e2
    | tup h1 h2 =>
      rcases h1 with (h | ⟨o, h⟩) | ⟨o, its, n, e1, e2, _⟩
      · exact .base (.tup h)
      · exact .fTuple h
      · exact .kTuple e1 e2
  · exact .base (.dK e)
theorem weight_mem : ∀ {ds : List PyData} {d : PyData}, d ∈ ds → d.weight ≤ PyData.weightAll ds
  | a :: r, d, h => by
    rw [PyData.weightAll]
    rcases List.mem_cons.mp h with rfl | h
    · omega
    · have := weight_mem h
      omega
theorem okD_tup {ds : List PyData} (h : okD (.tuple ds)) {d : PyData} (hd : d ∈ ds) : okD d := by
  have h1 := weight_mem hd
  have h2 : PyData.weightAll ds ≤ 1000000 := by
    have h3 : (PyData.tuple ds).weight ≤ 1000000 := h
    rw [PyData.weight] at h3
    exact h3
  exact Nat.le_trans h1 h2
theorem okD_str {z : Str} (h : okD (.str z)) : z.length ≤ 1000000 := by
  have h3 : (PyData.str z).weight ≤ 1000000 := h
  rw [PyData.weight] at h3
  exact h3
theorem bl_to {Q : VK} {b c : Bool} {H : Hp} (e : b = c) (k : Q (.bl c) H) : Q (.bl b) H := e ▸ k
theorem Same.rl {H H' : Hp} {r : Addr} (s : Same H H') (h : Rl H r) : Rl H' r := by
  obtain ⟨a, b, c, e⟩ := h
  exact ⟨a, b, c, s _ _ e⟩
theorem Same.only {H H' : Hp} {r : Addr} (s : Same H H') : Only r H H' := fun b o _ e => s b o e
theorem Same.new {H : Hp} {p : Addr} {o : HO} (n : H p = none) : Same H (upd H p o) := fun b u e => by rw [upd_ne (ne_of_none e n)]; exact e
theorem Same.at {H0 H : Hp} {D : Addr} {o : HO} (n : H0 D = none) (s : Same H0 H) : Same H0 (upd H D o) := fun b u e => by rw [upd_ne (ne_of_none e n)]; exact s b u e
theorem lt_sign (c d : Nat) : (([c] : List Nat) < [d]) ↔ c < d := by
  constructor
  · intro h
    rcases List.cons_lt_cons_iff.mp h with h | ⟨_, h⟩
    · exact h
    · exact absurd h (by simp)
  · intro h
    exact List.cons_lt_cons_iff.mpr (.inl h)
theorem tk_succ {z : Str} {i c : Nat} (h : z.cps[i]? = some c) : z.cps.toList.take (i + 1) = z.cps.toList.take i ++ [c] := by
  have h2 : z.cps.toList[i]? = some c := by rw [Array.getElem?_toList]; exact h
  rw [List.take_add_one, h2]
  rfl
theorem tk_all (z : Str) : z.cps.toList.take z.cps.size = z.cps.toList := List.take_of_length_le (by rw [Array.length_toList]; exact Nat.le_refl _)
theorem not_str {d : PyData} (h : ∀ z, d ≠ .str z) : kitB (tyD d) "str" = some false ∧ nmD d = false := by
  cases d with
  | str z => exact absurd rfl (h z)
  | _ => exact ⟨by simp only [tyD]; decide +kernel, rfl⟩
theorem not_int {d : PyData} (h1 : ∀ n, d ≠ .int n) (h2 : ∀ b, d ≠ .bool b) : kitB (tyD d) "int" = some false ∧ isInD d = false := by
  cases d with
  | int n => exact absurd rfl (h1 n)
  | bool b => exact absurd rfl (h2 b)
  | _ => exact ⟨by simp only [tyD]; decide +kernel, rfl⟩
theorem not_tup {d : PyData} (h : ∀ ds, d ≠ .tuple ds) : kitB (tyD d) "tuple" = some false := by
  cases d with
  | tuple z => exact absurd rfl (h z)
  | _ => simp only [tyD]; decide +kernel
/-- its items ascend -/
def ascD (ds : List PyData) : Bool := (List.range (ds.length - 1)).all fun i => PySem.W.dataLt (ds.getD i .none) (ds.getD (i + 1) .none)
theorem depth_in {hi : Int} {d : PyData} (h : prD hi d = true) : ∃ z n, d = .tuple [.str z, .int n] := by
  unfold prD at h
  split at h
  · rename_i a b
    have h1 := (Bool.and_eq_true_iff.mp h).1
    have h2 := (Bool.and_eq_true_iff.mp h).2
    cases a with
    | str z =>
      cases b with
      | int n => exact ⟨z, n, rfl⟩
      | _ => cases h2
    | _ => cases h1
  · cases h
section
variable {X : Cx}
def rLtD (K : PySem.W.Frag) : R2 := fun x y H Q => ∃ d e, Dp K H x d ∧ Dp K H y e ∧ PySem.W.alike d e = true ∧ d ≠ .none ∧ d.depth ≤ 60 ∧ Q (.bl (PySem.W.dataLt d e)) H
theorem op_ltD (hu : X.A.units + 64 < cLine) : OpR X (compareOp .Lt) (rLtD X.K) := by
  intro pins s σ H x y v u Q I rx ry h
  obtain ⟨d, e, h1, h2, h3, h4, h5, q⟩ := h
  obtain ⟨as, r1⟩ := Dp.reads I d x v h1 rx
  obtain ⟨bs, r2⟩ := Dp.reads I e y u h2 ry
  exact PySem.W.lt_data r1 r2 h3 h4 (by have := Nat.min_le_left d.depth e.depth; omega) ⟨.bl _, H, I, rfl, q⟩
end

section
variable {P : Program} {w : World} {K : PySem.W.Frag}
                                                      {mg : Str → Option Value} {base : Heap}
def sp_w_tray (K : PySem.W.Frag) : Sp := fun vs H Q _ => ∃ (s : Addr) (ns : List Int) (i : Nat), vs = [.ref s, .int (i : Int)] ∧ SqL K H s (ns.map V.int) ∧ ∀ p a b c, H p = none → Q (.ref p) (upd H p (.lst [.int a, .int b, .int c]))
theorem ok_w_tray (T : T K mg) : FnOk P w K mg base CX0 1 T.f_w_tray T.d_w_tray ["script", "spot"] (sp_w_tray K) := by
  refine T.F_w_tray.ok sc_w_tray (fun vs H Q E h => ?_) (fun cdv A outer s H vs Q E hr h => ?_)
  · obtain ⟨s, ns, i, rfl, _⟩ := h
    rfl
  · obtain ⟨s, ns, i, rfl, hS, k⟩ := h
    have hu := hu_of hr
    refine ⟨_, (pss_cons (ps_set (i := 2) sc_w_tray.nd rfl (Or.inl rfl) (pe_ifExp (pt_cmpR op_lt (pv 1) (pe_callB call_len (by rfl) T.z_len (by decide +kernel) (pa_cons (pv 0) pa_nil)) (nomark _)) (pe_ix ix_seq (pv 0) (pv 1) (fun _ _ => rfl)) (pe_op op_add (pe_op op_mul pe_int (pv 1)) pe_int)))
      (pss_cons (ps_set (i := 3) sc_w_tray.nd rfl (Or.inl rfl) (pe_op op_mod (pe_callTy call_int1 (by rfl) T.z_int (by decide +kernel) (pa_cons (pe_callB call_abs (by rfl) T.z_abs (by decide +kernel) (pa_cons (pv 2) pa_nil)) pa_nil)) (pe_op op_powW (pe_op op_pow pe_int pe_int) pe_int)))
      (pss_cons (ps_set (i := 4) sc_w_tray.nd rfl (Or.inl rfl) (pe_op op_add (pe_op op_add (pe_op op_add (pe_op op_mul (pv 3) pe_int) (pe_op op_mul pe_int (pv 1))) (pe_op op_mul pe_int (pe_callTy call_int1 (by rfl) T.z_int (by decide +kernel) (pa_cons (pe_cmpR op_lt (pv 2) pe_int (nomark _)) pa_nil)))) pe_int))
      (pss_one (ps_ret (pe_lst (pa_cons (pe_callB (call_max2 rfl) (by rfl) T.z_max (by decide +kernel) (pa_cons pe_int (pa_cons (pe_op op_sub (pv 3) (pe_op op_pow pe_int pe_int)) pa_nil))) (pa_cons (pe_op op_mod (pe_callTy call_int1 (by rfl) T.z_int (by decide +kernel) (pa_cons (pv 4) pa_nil)) pe_int) (pa_cons pe_int pa_nil))))))))), ?_⟩
    refine ⟨_, rfl, _, rfl, _, _, rfl, .inl ⟨_, hS, rfl⟩, _, _, rfl, rfl, _, rfl, ?_⟩
    refine ite_join (fun v H' => H' = H ∧ ∃ z, v = .int z) (fun c Q' q => ?_) (fun c Q' q => ?_) ?_
    · have hi := of_decide_eq_true c
      rw [List.length_map] at hi
      obtain ⟨z, hz⟩ := at_ns (ns := ns) (i := i) (by omega)
      exact ⟨_, rfl, _, rfl, .inl ⟨_, _, _, _, rfl, rfl, hS, hz, q _ _ ⟨rfl, z, rfl⟩⟩⟩
    · exact ⟨_, rfl, _, _, rfl, rfl, .inl ⟨by decide, by decide⟩, _, _, rfl, rfl, q _ _ ⟨rfl, _, rfl⟩⟩
    rintro v H' ⟨rfl, z, rfl⟩
    refine ⟨_, rfl, _, rfl, .inl ⟨_, rfl, ?_⟩⟩
    refine ⟨_, _, rfl, rfl, ⟨by decide, by decide, by decide⟩, _, _, rfl, rfl, ⟨by decide, by decide +kernel⟩, _, _, rfl, rfl, (by show (0 : Int) < _; decide +kernel), ?_⟩
    refine ⟨_, rfl, _, _, rfl, rfl, .inr ⟨by decide, by decide⟩, ?_⟩
    refine ⟨_, rfl, _, _, rfl, rfl, .inl ⟨by decide, by decide⟩, _, _, rfl, rfl, ?_⟩
    refine ⟨_, rfl, _, _, rfl, rfl, .inr ⟨_, rfl, ?_⟩⟩
    refine ⟨_, _, rfl, rfl, .inl ⟨by decide, by decide⟩, _, _, rfl, rfl, _, _, rfl, rfl, ?_⟩
    refine ⟨_, rfl, _, _, rfl, rfl, ⟨by decide, by decide, by decide⟩, _, _, rfl, rfl, _, _, rfl, _, rfl, .inl ⟨_, rfl, ?_⟩⟩
    refine ⟨_, _, rfl, rfl, (by show (0 : Int) < _; decide), (by show 3 ≤ sizeLine; decide), fun p hp => ?_⟩
    exact k p _ _ _ hp
def sp_w_roll (K : PySem.W.Frag) : Sp := fun vs H Q _ => ∃ (r : Addr) (n : Int), vs = [.ref r, .int n] ∧ Rl H r ∧ 0 < n ∧ n.natAbs.log2 < 9000 ∧ ∀ v H', 0 ≤ v → v < n → Rl H' r → Only r H H' → Q (.int v) H'
theorem ok_w_roll (T : T K mg) : FnOk P w K mg base CX0 1 T.f_w_roll T.d_w_roll ["tray", "total"] (sp_w_roll K) := by
  refine T.F_w_roll.ok sc_w_roll (fun vs H Q E h => ?_) (fun cdv A outer s H vs Q E hr h => ?_)
  · obtain ⟨r, n, rfl, _⟩ := h
    rfl
  · obtain ⟨r, n, rfl, ⟨a, b, c, e⟩, h0, h9, k⟩ := h
    have hu := hu_of hr
    refine ⟨_, (pss_cons (ps_if (pt_cmpR op_gt (pe_ix ix_seq (pv 0) pe_int (fun _ _ => rfl)) pe_int (nomark _))
      (pss_cons (ps_set (i := 2) sc_w_roll.nd rfl (Or.inl rfl) (pe_op op_mod (pe_callTy call_int1 (by rfl) T.z_int (by decide +kernel) (pa_cons (pe_ix ix_seq (pv 0) pe_int (fun _ _ => rfl)) pa_nil)) (pv 1)))
      (pss_cons (ps_asg (pe_op op_fdivW (pe_ix ix_seq (pv 0) pe_int (fun _ _ => rfl)) (pv 1)) (pg_sub (pv 0) pe_int set_list))
      (pss_one (ps_ret (pv 2)))))
      pss_nil)
      (pss_cons (ps_asg (pe_op op_add (pe_ix ix_seq (pv 0) pe_int (fun _ _ => rfl)) pe_int) (pg_sub (pv 0) pe_int set_list))
      (pss_cons (ps_set (i := 3) sc_w_roll.nd rfl (Or.inl rfl) (pe_op op_mod (pe_callTy call_int1 (by rfl) T.z_int (by decide +kernel) (pa_cons (pe_op op_add (pe_ix ix_seq (pv 0) pe_int (fun _ _ => rfl)) (pe_op op_mul pe_int (pe_ix ix_seq (pv 0) pe_int (fun _ _ => rfl)))) pa_nil)) pe_int))
      (pss_cons (ps_set (i := 4) sc_w_roll.nd rfl (Or.inl rfl) (pe_op op_add (pe_op op_mul (pe_op op_mod (pe_callTy call_int1 (by rfl) T.z_int (by decide +kernel) (pa_cons (pe_op op_mul (pv 3) (pv 3)) pa_nil)) pe_int) (pv 3)) (pe_op op_mul pe_int (pe_ix ix_seq (pv 0) pe_int (fun _ _ => rfl)))))
      (pss_one (ps_ret (pe_op op_mod (pe_callTy call_int1 (by rfl) T.z_int (by decide +kernel) (pa_cons (pe_op op_fdivW (pe_op op_mod (pe_callTy call_int1 (by rfl) T.z_int (by decide +kernel) (pa_cons (pe_op op_add (pv 4) (pe_ix ix_seq (pv 0) pe_int (fun _ _ => rfl))) pa_nil)) pe_int) pe_int) pa_nil)) (pv 1)))))))), ?_⟩
    have u3 : ∀ {x y z : V} {G : Hp}, G r = some (.lst [x, y, z]) → SqL K G r [x, y, z] := fun g => SqL.of g
    refine ⟨_, rfl, .inl ⟨_, _, _, _, rfl, rfl, u3 e, rfl, ?_⟩⟩
    refine ⟨_, _, rfl, rfl, _, rfl, ?_⟩
    refine ite2 (fun c1 => ?_) (fun c1 => ?_)
    · refine ⟨_, rfl, .inl ⟨_, _, _, _, rfl, rfl, u3 e, rfl, .inl ⟨_, rfl, ?_⟩⟩⟩
      refine ⟨_, rfl, _, _, rfl, rfl, h0, ?_⟩
      refine ⟨_, rfl, .inl ⟨_, _, _, _, rfl, rfl, u3 e, rfl, ?_⟩⟩
      refine ⟨_, rfl, _, _, rfl, rfl, ⟨h0, h9⟩, _, rfl, _, _, _, 0, rfl, rfl, e, rfl, ?_⟩
      refine ⟨_, rfl, ?_⟩
      exact k _ _ (Int.emod_nonneg _ (by omega)) (Int.emod_lt_of_pos _ h0) ⟨_, _, _, upd_same⟩ Only.upd
    · refine ⟨_, rfl, .inl ⟨_, _, _, _, rfl, rfl, u3 e, rfl, ?_⟩⟩
      refine ⟨_, _, rfl, rfl, _, rfl, _, _, _, 2, rfl, rfl, e, rfl, ?_⟩
      have e2 : (upd H r (.lst [.int a, .int b, .int (c + 1)])) r = some (.lst [.int a, .int b, .int (c + 1)]) := upd_same
      refine ⟨_, rfl, .inl ⟨_, _, _, _, rfl, rfl, u3 e2, rfl, ?_⟩⟩
      refine ⟨_, rfl, .inl ⟨_, _, _, _, rfl, rfl, u3 e2, rfl, ?_⟩⟩
      refine ⟨_, _, rfl, rfl, .inl ⟨by decide, by decide⟩, _, _, rfl, rfl, .inl ⟨_, rfl, ?_⟩⟩
      refine ⟨_, _, rfl, rfl, (by show (0 : Int) < _; decide), ?_⟩
      have o1 : -(2 ^ 64) < (b + 922337203 * (c + 1)) % 2305843009213693951 ∧ (b + 922337203 * (c + 1)) % 2305843009213693951 < 2 ^ 64 := by omega
      refine ⟨_, rfl, _, rfl, _, _, rfl, rfl, .inl o1, .inl ⟨_, rfl, ?_⟩⟩
      refine ⟨_, _, rfl, rfl, (by show (0 : Int) < _; decide), _, rfl, _, _, rfl, rfl, .inr o1, ?_⟩
      refine ⟨_, rfl, .inl ⟨_, _, _, _, rfl, rfl, u3 e2, rfl, ?_⟩⟩
      refine ⟨_, _, rfl, rfl, .inl ⟨by decide, by decide⟩, _, _, rfl, rfl, ?_⟩
      refine ⟨_, rfl, _, rfl, .inl ⟨_, _, _, _, rfl, rfl, u3 e2, rfl, ?_⟩⟩
      refine ⟨_, _, rfl, rfl, .inl ⟨_, rfl, ?_⟩⟩
      refine ⟨_, _, rfl, rfl, (by show (0 : Int) < _; decide), ?_⟩
      refine ⟨_, _, rfl, rfl, ⟨by decide, by decide⟩, .inl ⟨_, rfl, ?_⟩⟩
      refine ⟨_, rfl, _, _, rfl, rfl, h0, ?_⟩
      exact k _ _ (Int.emod_nonneg _ (by omega)) (Int.emod_lt_of_pos _ h0) ⟨_, _, _, e2⟩ Only.upd
def sp_w_pick (K : PySem.W.Frag) : Sp := fun vs H Q _ => ∃ (r : Addr) (x : V) (xs : List V), vs = [.ref r, x] ∧ Rl H r ∧ SeqV K H r x xs ∧ 0 < xs.length ∧ xs.length ≤ sizeLine ∧ ∀ v H', v ∈ xs → Rl H' r → Only r H H' → Q v H'
theorem ok_w_pick (T : T K mg) : FnOk P w K mg base CX0 2 T.f_w_pick T.d_w_pick ["tray", "items"] (sp_w_pick K) := by
  have G_w_roll : FnOk P w K mg base CX0 1 T.f_w_roll T.d_w_roll ["tray", "total"] (sp_w_roll K) := ok_w_roll T
  refine T.F_w_pick.ok sc_w_pick (fun vs H Q E h => ?_) (fun cdv A outer s H vs Q E hr h => ?_)
  · obtain ⟨r, x, xs, rfl, _⟩ := h
    rfl
  · obtain ⟨r, x, xs, rfl, hR, hx, h0, h1, k⟩ := h
    have hu := hu_of hr
    have hr_w_roll : Room 1 _ := hr.mono (by decide)
    refine ⟨_, (pss_one (ps_ret (pe_ix ix_seq (pv 1) (pe_call G_w_roll hr_w_roll rfl T.m_w_roll T.F_w_roll.kp T.b_w_roll .nil pass0 (pa_cons (pv 0) (pa_cons (pe_callB call_len (by rfl) T.z_len (by decide +kernel) (pa_cons (pv 1) pa_nil)) pa_nil))) (fun _ _ => rfl)))), ?_⟩
    have hl : (xs.length : Int).natAbs.log2 < 9000 := by
      have : xs.length < 2 ^ 63 := Nat.lt_of_le_of_lt h1 (by decide)
      exact Nat.lt_trans (lg (b := 63) (by omega) (by omega) (by decide)) (by decide)
    refine ⟨_, rfl, _, rfl, _, rfl, x, xs.length, rfl, ?_, ?_⟩
    · rcases hx with ⟨l, rfl, hn, h | h⟩ | ⟨z, rfl, hz, rfl⟩
      · exact .inl ⟨_, h, rfl⟩
      · exact .inr ⟨_, h, rfl⟩
      · exact ⟨hz, by rw [List.length_map]; rfl⟩
    refine ⟨r, _, rfl, hR, by omega, hl, fun v H' v0 v1 R' O' => ?_⟩
    obtain ⟨y, hy, ha⟩ := ix_at v0 v1
    rcases hx with ⟨l, rfl, hn, h | h⟩ | ⟨z, rfl, hz, rfl⟩
    · exact .inl ⟨_, _, _, _, rfl, rfl, O'.seqL hn h, ha, k _ _ hy R' O'⟩
    · exact .inr (.inl ⟨_, _, _, _, rfl, rfl, O'.seqT hn h, ha, k _ _ hy R' O'⟩)
    · obtain ⟨i, hi⟩ : ∃ c, atI z.cps.toList v = some c := by
        unfold atI at ha ⊢
        rw [List.length_map] at ha
        cases e : ixN z.cps.toList.length v with
        | none => rw [e] at ha; cases ha
        | some j =>
          rw [e] at ha
          simp only [Option.bind_some] at ha ⊢
          rw [List.getElem?_map] at ha
          cases e2 : z.cps.toList[j]? with
          | none => rw [e2] at ha; cases ha
          | some c => exact ⟨c, rfl⟩
      have hc : i ∈ z.cps.toList := by
        unfold atI at hi
        cases e : ixN z.cps.toList.length v with
        | none => rw [e] at hi; cases hi
        | some j => rw [e] at hi; exact List.mem_of_getElem? hi
      exact .inr (.inr ⟨_, _, _, rfl, rfl, hz, hi, k _ _ (List.mem_map.mpr ⟨i, hc, rfl⟩) R' O'⟩)
def sp_is_name (K : PySem.W.Frag) : Sp := fun vs H Q _ => ∃ (x : V) (d : PyData), vs = [x] ∧ DD K H x d ∧ okD d ∧ ∀ H', Same H H' → Q (.bl (nmD d)) H'
theorem ok_is_name (T : T K mg) : FnOk P w K mg base CX0 1 T.f_is_name T.d_is_name ["value"] (sp_is_name K) := by
  refine T.F_is_name.ok sc_is_name (fun vs H Q E h => ?_) (fun cdv A outer s H vs Q E hr h => ?_)
  · obtain ⟨x, d, rfl, _⟩ := h
    rfl
  · obtain ⟨x, d, rfl, hx, hw, k⟩ := h
    have hu := hu_of hr
    obtain ⟨_, c_MAX_LETTERS⟩ := T.c_MAX_LETTERS
    refine ⟨_, (pss_cons (ps_if (PW.pt (pw_or (pt_not (pt_val (pe_callB call_isi (by rfl) T.z_isinstance (by decide +kernel) (pa_cons (pv 0) (pa_cons (pe_bltn (v := V.ty "str") (u := Value.type "str") (by rfl) T.z_str (by decide +kernel) rfl) pa_nil))))) (pw_or1 (pt_not (pt_chain op_le op_le pe_int (pe_callB call_len (by rfl) T.z_len (by decide +kernel) (pa_cons (pv 0) pa_nil)) (pe_glob (v := V.int 8) rfl c_MAX_LETTERS ⟨_, rfl⟩))))))
      (pss_one (ps_ret pe_bl))
      pss_nil)
      (pss_one (ps_ret (pe_callB (cr_all rfl) (by rfl) T.z_all (by decide +kernel) (pa_cons (pe_lc (own := [("letter", 1)]) (g := gName 1) rfl sc_is_name.nd (pi_str (pv 0)) (blkOk_by (N := ["value", "letter"]) (sc := defScope s_is_name) (by decide +kernel)) (fun _ _ _ _ _ => (pg_name (i := 1) sc_is_name.nd rfl (Or.inl rfl))) (fun _ _ _ _ _ => pts_nil) (fun _ _ _ _ _ => (pe_chain op_le_str op_le_str pe_str (pv 1) pe_str))) pa_nil))))), ?_⟩
    by_cases hs : ∃ z, d = .str z
    · obtain ⟨z, rfl⟩ := hs
      have hz := okD_str hw
      obtain rfl : x = .str z := by
        rcases hx with h | ⟨_, _, _, _, h⟩
        · cases h
          rfl
        · cases h
      refine ⟨_, rfl, _, _, _, _, true, rfl, .ty _, .base (.str _), kit_ty (by decide +kernel), _, rfl, iteF ?_⟩
      refine ⟨_, rfl, _, _, rfl, ⟨Nat.le_trans hz (by decide), rfl⟩, _, _, rfl, rfl, _, rfl, ?_⟩
      refine ite2 (fun c1 => ?_) (fun c1 => ?_)
      · have h1 := of_decide_eq_true c1
        refine ⟨_, _, rfl, rfl, _, rfl, ?_⟩
        by_cases h2 : (z.length : Int) ≤ 8
        · rw [decide_eq_true h2]
          refine iteF ?_
          refine ⟨_, rfl, _, rfl, fun D hD => ?_⟩
          refine lc_it walk_str (fun i H' => H' D = some (.lst (((z.cps.toList.take i).map fun c => decide (97 ≤ c) && decide (c ≤ 122)).map V.bl)) ∧ Same H H') ⟨upd_same, Same.new hD⟩ (fun _ _ _ _ => trivial) ?_ ?_
          · rintro i y H1 H2 hi ⟨eD, S⟩ ⟨rfl, c, hc, rfl⟩
            refine ⟨rfl, ?_⟩
            unfold tYes
            dsimp only
            rw [if_pos rfl]
            refine ⟨_, rfl, _, _, rfl, rfl, _, rfl, ?_⟩
            have done : ∀ b : Bool, b = (decide (97 ≤ c) && decide (c ≤ 122)) → ∃ acc, H2 D = some (.lst acc) ∧ acc.length < sizeLine ∧ (upd H2 D (.lst (acc ++ [V.bl b]))) D = some (.lst (((z.cps.toList.take (i + 1)).map fun c => decide (97 ≤ c) && decide (c ≤ 122)).map V.bl)) ∧ Same H (upd H2 D (.lst (acc ++ [V.bl b]))) := by
              rintro b rfl
              refine ⟨_, eD, ?_, ?_, Same.at hD S⟩
              · rw [List.length_map, List.length_map, List.length_take]
                have : z.cps.toList.length = z.length := by simp [Str.length]
                exact Nat.lt_of_le_of_lt (Nat.le_trans (Nat.min_le_right _ _) (by omega : z.cps.toList.length ≤ 100)) (by decide)
              · rw [upd_same, tk_succ hc, List.map_append, List.map_append]
                rfl
            refine ite2 (fun c2 => ?_) (fun c2 => ?_)
            · have h3 : 97 ≤ c := by
                rw [Bool.not_eq_true', decide_eq_false_iff_not] at c2
                have c3 : ¬ (([c] : List Nat) < [97]) := c2
                rw [lt_sign] at c3
                omega
              refine ⟨_, _, rfl, rfl, done _ ?_⟩
              rw [decide_eq_true h3, Bool.true_and]
              by_cases h4 : c ≤ 122
              · rw [decide_eq_true h4]
                show (!decide (([122] : List Nat) < [c])) = true
                rw [decide_eq_false (by rw [lt_sign]; omega)]
                rfl
              · rw [decide_eq_false h4]
                show (!decide (([122] : List Nat) < [c])) = false
                rw [decide_eq_true (by rw [lt_sign]; omega)]
                rfl
            · have h3 : ¬ 97 ≤ c := by
                rw [Bool.not_eq_true', decide_eq_false_iff_not] at c2
                have c3 := Classical.not_not.mp c2
                have c4 : ([c] : List Nat) < [97] := c3
                rw [lt_sign] at c4
                omega
              refine done _ ?_
              rw [decide_eq_false h3, Bool.false_and]
          · rintro H9 ⟨eD, S⟩
            refine ⟨_, _, rfl, SqL.of eD, ?_⟩
            refine bl_to ?_ (k _ S)
            rw [tk_all]
            show _ = (decide (1 ≤ z.length ∧ z.length ≤ 8) && _)
            rw [decide_eq_true (show 1 ≤ z.length ∧ z.length ≤ 8 by omega), Bool.true_and, List.all_map]
            rfl
        · rw [decide_eq_false h2]
          refine iteT ?_
          refine bl_to ?_ (k _ (Same.refl _))
          show false = (decide (1 ≤ z.length ∧ z.length ≤ 8) && _)
          rw [decide_eq_false (show ¬ (1 ≤ z.length ∧ z.length ≤ 8) by omega), Bool.false_and]
      · have h1 : ¬ (1 : Int) ≤ (z.length : Int) := fun q => c1 (decide_eq_true q)
        refine ⟨_, rfl, iteT ?_⟩
        refine bl_to ?_ (k _ (Same.refl _))
        show false = (decide (1 ≤ z.length ∧ z.length ≤ 8) && _)
        rw [decide_eq_false (show ¬ (1 ≤ z.length ∧ z.length ≤ 8) by omega), Bool.false_and]
    · have hn := not_str fun z e => hs ⟨z, e⟩
      refine ⟨_, rfl, _, _, _, _, false, rfl, .ty _, hx.ty, kit_ty hn.1, _, rfl, iteT ?_⟩
      exact iteT (bl_to hn.2.symm (k _ (Same.refl _)))
def sp_is_integer (K : PySem.W.Frag) : Sp := fun vs H Q _ => ∃ (x : V) (d : PyData), vs = [x] ∧ DD K H x d ∧ Q (.bl (isInD d)) H
theorem ok_is_integer (T : T K mg) : FnOk P w K mg base CX0 1 T.f_is_integer T.d_is_integer ["value"] (sp_is_integer K) := by
  refine T.F_is_integer.ok sc_is_integer (fun vs H Q E h => ?_) (fun cdv A outer s H vs Q E hr h => ?_)
  · obtain ⟨x, d, rfl, _⟩ := h
    rfl
  · obtain ⟨x, d, rfl, hx, k⟩ := h
    have hu := hu_of hr
    refine ⟨_, (pss_cons (ps_if (PW.pt (pw_or (pt_not (pt_val (pe_callB call_isi (by rfl) T.z_isinstance (by decide +kernel) (pa_cons (pv 0) (pa_cons (pe_bltn (v := V.ty "int") (u := Value.type "int") (by rfl) T.z_int (by decide +kernel) rfl) pa_nil))))) (pw_or1 (pt_val (pe_callB call_isi (by rfl) T.z_isinstance (by decide +kernel) (pa_cons (pv 0) (pa_cons (pe_bltn (v := V.ty "bool") (u := Value.type "bool") (by rfl) T.z_bool (by decide +kernel) rfl) pa_nil)))))))
      (pss_one (ps_ret pe_bl))
      pss_nil)
      (pss_one (ps_ret (pe_chain op_lt op_lt (pe_un un_neg (pe_op op_pow pe_int pe_int)) (pv 0) (pe_op op_pow pe_int pe_int))))), ?_⟩
    by_cases h1 : ∃ n, d = .int n
    · obtain ⟨n, rfl⟩ := h1
      obtain rfl : x = .int n := by
        rcases hx with h | ⟨_, _, _, _, h⟩
        · cases h
          rfl
        · cases h
      refine ⟨_, rfl, _, _, _, _, true, rfl, .ty _, .base (.int _), kit_ty (by decide +kernel), _, rfl, iteF ?_⟩
      refine ⟨_, rfl, _, _, _, _, false, rfl, .ty _, .base (.int _), kit_ty (by decide +kernel), _, rfl, iteF ?_⟩
      refine ⟨_, _, rfl, rfl, ⟨by decide, by decide, by decide⟩, _, rfl, _, rfl, _, _, rfl, rfl, _, rfl, ?_⟩
      have e1 : decide (-(10 ^ Int.toNat 12) < n) = decide (-1000000000000 < n) := rfl
      refine ite2 (fun c => ?_) (fun c => ?_)
      · refine ⟨_, _, rfl, rfl, ⟨by decide, by decide, by decide⟩, _, _, rfl, rfl, ?_⟩
        refine bl_to ?_ k
        show _ = (decide (-1000000000000 < n) && decide (n < 1000000000000))
        rw [← e1, c, Bool.true_and]
        rfl
      · refine bl_to ?_ k
        show _ = (decide (-1000000000000 < n) && decide (n < 1000000000000))
        rw [← e1, Bool.eq_false_iff.mpr c, Bool.false_and]
    · by_cases h2 : ∃ b, d = .bool b
      · obtain ⟨b, rfl⟩ := h2
        refine ⟨_, rfl, _, _, _, _, true, rfl, .ty _, hx.ty, kit_ty (a := "bool") (b := "int") (by decide +kernel), _, rfl, iteF ?_⟩
        refine ⟨_, rfl, _, _, _, _, true, rfl, .ty _, hx.ty, kit_ty (a := "bool") (b := "bool") (by decide +kernel), _, rfl, iteT ?_⟩
        exact k
      · have hn := not_int (fun n e => h1 ⟨n, e⟩) fun b e => h2 ⟨b, e⟩
        refine ⟨_, rfl, _, _, _, _, false, rfl, .ty _, hx.ty, kit_ty hn.1, _, rfl, iteT ?_⟩
        exact iteT (bl_to hn.2.symm k)
def sp_is_between (K : PySem.W.Frag) : Sp := fun vs H Q _ => ∃ (x : V) (d : PyData) (lo hi : Int), vs = [x, .int lo, .int hi] ∧ DD K H x d ∧ Q (.bl (inD lo hi d)) H
theorem ok_is_between (T : T K mg) : FnOk P w K mg base CX0 2 T.f_is_between T.d_is_between ["value", "low", "high"] (sp_is_between K) := by
  have G_is_integer : FnOk P w K mg base CX0 1 T.f_is_integer T.d_is_integer ["value"] (sp_is_integer K) := ok_is_integer T
  refine T.F_is_between.ok sc_is_between (fun vs H Q E h => ?_) (fun cdv A outer s H vs Q E hr h => ?_)
  · obtain ⟨x, d, lo, hi, rfl, _⟩ := h
    rfl
  · obtain ⟨x, d, lo, hi, rfl, hx, k⟩ := h
    have hu := hu_of hr
    have hr_is_integer : Room 1 _ := hr.mono (by decide)
    refine ⟨_, (pss_one (ps_ret (pe_and (pe_call G_is_integer hr_is_integer rfl T.m_is_integer T.F_is_integer.kp T.b_is_integer .nil pass0 (pa_cons (pv 0) pa_nil)) (pe_one (pe_chain op_le op_le (pv 1) (pv 0) (pv 2)))))), ?_⟩
    refine ⟨_, rfl, x, d, rfl, hx, _, rfl, ?_⟩
    by_cases h : isInD d = true
    · rw [h]
      refine iteT ?_
      obtain ⟨n, rfl⟩ : ∃ n, d = .int n := by
        cases d with
        | int n => exact ⟨n, rfl⟩
        | _ => cases h
      obtain rfl : x = .int n := by
        rcases hx with h | ⟨_, _, _, _, h⟩
        · cases h
          rfl
        · cases h
      have hi2 : (decide (-1000000000000 < n) && decide (n < 1000000000000)) = true := h
      have k2 : Q (.bl (decide (lo ≤ n) && decide (n ≤ hi))) H := bl_to (by show _ = ((decide (-1000000000000 < n) && decide (n < 1000000000000)) && _); rw [hi2, Bool.true_and]) k
      refine ⟨_, rfl, _, rfl, _, _, rfl, rfl, _, rfl, ?_⟩
      refine ite2 (fun c => ?_) (fun c => ?_)
      · exact ⟨_, rfl, _, _, rfl, rfl, bl_to (by rw [c, Bool.true_and]) k2⟩
      · exact bl_to (by rw [Bool.eq_false_iff.mpr c, Bool.false_and]) k2
    · rw [Bool.eq_false_iff.mpr h]
      refine iteF (bl_to ?_ k)
      cases d with
      | int n =>
        show false = ((decide (-1000000000000 < n) && decide (n < 1000000000000)) && _)
        have h3 : ¬ (decide (-1000000000000 < n) && decide (n < 1000000000000)) = true := h
        rw [Bool.eq_false_iff.mpr h3, Bool.false_and]
      | _ => rfl
def sp_check_integer (K : PySem.W.Frag) : Sp := fun vs H Q _ => ∃ (n : Int), vs = [.int n] ∧ (-1000000000000 < n ∧ n < 1000000000000) ∧ Q .non H
theorem ok_check_integer (T : T K mg) : FnOk P w K mg base CX0 2 T.f_check_integer T.d_check_integer ["value"] (sp_check_integer K) := by
  have G_is_integer : FnOk P w K mg base CX0 1 T.f_is_integer T.d_is_integer ["value"] (sp_is_integer K) := ok_is_integer T
  refine T.F_check_integer.ok sc_check_integer (fun vs H Q E h => ?_) (fun cdv A outer s H vs Q E hr h => ?_)
  · obtain ⟨n, rfl, _⟩ := h
    rfl
  · obtain ⟨n, rfl, hn, k⟩ := h
    have hu := hu_of hr
    have hr_is_integer : Room 1 _ := hr.mono (by decide)
    refine ⟨_, (pss_one (ps_if (pt_not (pt_val (pe_call G_is_integer hr_is_integer rfl T.m_is_integer T.F_is_integer.kp T.b_is_integer .nil pass0 (pa_cons (pv 0) pa_nil))))
      (pss_one ps_never)
      pss_nil)), ?_⟩
    refine ⟨_, rfl, _, .int n, rfl, .inl (.int n), _, rfl, ?_⟩
    rw [show isInD (.int n) = true from by show (decide (-1000000000000 < n) && decide (n < 1000000000000)) = true; rw [decide_eq_true hn.1, decide_eq_true hn.2]; rfl]
    exact iteF k
def sp_check_between (K : PySem.W.Frag) : Sp := fun vs H Q _ => ∃ (n lo hi : Int), vs = [.int n, .int lo, .int hi] ∧ (-1000000000000 < n ∧ n < 1000000000000) ∧ lo ≤ n ∧ n ≤ hi ∧ Q .non H
theorem ok_check_between (T : T K mg) : FnOk P w K mg base CX0 3 T.f_check_between T.d_check_between ["value", "low", "high"] (sp_check_between K) := by
  have G_is_between : FnOk P w K mg base CX0 2 T.f_is_between T.d_is_between ["value", "low", "high"] (sp_is_between K) := ok_is_between T
  refine T.F_check_between.ok sc_check_between (fun vs H Q E h => ?_) (fun cdv A outer s H vs Q E hr h => ?_)
  · obtain ⟨n, lo, hi, rfl, _⟩ := h
    rfl
  · obtain ⟨n, lo, hi, rfl, hn, h1, h2, k⟩ := h
    have hu := hu_of hr
    have hr_is_between : Room 2 _ := hr.mono (by decide)
    refine ⟨_, (pss_one (ps_if (pt_not (pt_val (pe_call G_is_between hr_is_between rfl T.m_is_between T.F_is_between.kp T.b_is_between .nil pass0 (pa_cons (pv 0) (pa_cons (pv 1) (pa_cons (pv 2) pa_nil))))))
      (pss_one ps_never)
      pss_nil)), ?_⟩
    refine ⟨_, rfl, _, rfl, _, rfl, _, .int n, lo, hi, rfl, .inl (.int n), _, rfl, ?_⟩
    rw [show inD lo hi (.int n) = true from by show ((decide (-1000000000000 < n) && decide (n < 1000000000000)) && (decide (lo ≤ n) && decide (n ≤ hi))) = true; rw [decide_eq_true hn.1, decide_eq_true hn.2, decide_eq_true h1, decide_eq_true h2]; rfl]
    exact iteF k
def sp_check_interval (K : PySem.W.Frag) : Sp := fun vs H Q _ => ∃ (n : Int), vs = [.int n] ∧ 1 ≤ n ∧ n ≤ 32 ∧ Q .non H
theorem ok_check_interval (T : T K mg) : FnOk P w K mg base CX0 4 T.f_check_interval T.d_check_interval ["value"] (sp_check_interval K) := by
  have G_check_between : FnOk P w K mg base CX0 3 T.f_check_between T.d_check_between ["value", "low", "high"] (sp_check_between K) := ok_check_between T
  refine T.F_check_interval.ok sc_check_interval (fun vs H Q E h => ?_) (fun cdv A outer s H vs Q E hr h => ?_)
  · obtain ⟨n, rfl, _⟩ := h
    rfl
  · obtain ⟨n, rfl, h1, h2, k⟩ := h
    have hu := hu_of hr
    have hr_check_between : Room 3 _ := hr.mono (by decide)
    obtain ⟨_, c_MAX_INTERVAL⟩ := T.c_MAX_INTERVAL
    refine ⟨_, (pss_one (ps_expr (pe_call G_check_between hr_check_between rfl T.m_check_between T.F_check_between.kp T.b_check_between .nil pass0 (pa_cons (pv 0) (pa_cons pe_int (pa_cons (pe_glob (v := V.int 32) rfl c_MAX_INTERVAL ⟨_, rfl⟩) pa_nil)))))), ?_⟩
    refine ⟨_, rfl, n, 1, 32, rfl, ⟨by omega, by omega⟩, h1, h2, ?_⟩
    exact k
def sp_times_alive (K : PySem.W.Frag) : Sp := fun vs H Q _ => ∃ (b e t n : Int), vs = [.int b, .int e, .int t, .int n] ∧ (-1000000000000 < b ∧ b ≤ e ∧ e < 1000000000000) ∧ (-1000000000000 < t ∧ t < 1000000000000) ∧ 1 ≤ n ∧ n ≤ 32 ∧ Q (.int ((t - b) / n - (t - e) / n)) H
theorem ok_times_alive (T : T K mg) : FnOk P w K mg base CX0 5 T.f_times_alive T.d_times_alive ["begin", "end", "tick", "interval"] (sp_times_alive K) := by
  have G_check_integer : FnOk P w K mg base CX0 2 T.f_check_integer T.d_check_integer ["value"] (sp_check_integer K) := ok_check_integer T
  have G_check_interval : FnOk P w K mg base CX0 4 T.f_check_interval T.d_check_interval ["value"] (sp_check_interval K) := ok_check_interval T
  refine T.F_times_alive.ok sc_times_alive (fun vs H Q E h => ?_) (fun cdv A outer s H vs Q E hr h => ?_)
  · obtain ⟨b, e, t, n, rfl, _⟩ := h
    rfl
  · obtain ⟨b, e, t, n, rfl, hb, ht, h1, h2, k⟩ := h
    have hu := hu_of hr
    have hr_check_integer : Room 2 _ := hr.mono (by decide)
    have hr_check_interval : Room 4 _ := hr.mono (by decide)
    refine ⟨_, (pss_cons (ps_expr (pe_call G_check_integer hr_check_integer rfl T.m_check_integer T.F_check_integer.kp T.b_check_integer .nil pass0 (pa_cons (pv 0) pa_nil)))
      (pss_cons (ps_expr (pe_call G_check_integer hr_check_integer rfl T.m_check_integer T.F_check_integer.kp T.b_check_integer .nil pass0 (pa_cons (pv 1) pa_nil)))
      (pss_cons (ps_if (pt_cmpR op_lt (pv 1) (pv 0) (nomark _))
      (pss_one ps_never)
      pss_nil)
      (pss_cons (ps_expr (pe_call G_check_integer hr_check_integer rfl T.m_check_integer T.F_check_integer.kp T.b_check_integer .nil pass0 (pa_cons (pv 2) pa_nil)))
      (pss_cons (ps_expr (pe_call G_check_interval hr_check_interval rfl T.m_check_interval T.F_check_interval.kp T.b_check_interval .nil pass0 (pa_cons (pv 3) pa_nil)))
      (pss_one (ps_ret (pe_op op_sub (pe_op op_fdivW (pe_op op_sub (pv 2) (pv 0)) (pv 3)) (pe_op op_fdivW (pe_op op_sub (pv 2) (pv 1)) (pv 3)))))))))), ?_⟩
    refine ⟨_, rfl, b, rfl, ⟨by omega, by omega⟩, ?_⟩
    refine ⟨_, rfl, e, rfl, ⟨by omega, by omega⟩, ?_⟩
    refine ⟨_, rfl, _, rfl, _, _, rfl, rfl, _, rfl, ?_⟩
    rw [decide_eq_false (show ¬ e < b by omega)]
    refine iteF ?_
    refine ⟨_, rfl, t, rfl, ⟨by omega, by omega⟩, ?_⟩
    refine ⟨_, rfl, n, rfl, h1, h2, ?_⟩
    have hl : n.natAbs.log2 < 9000 := Nat.lt_trans (lg (b := 6) (by omega) (by omega) (by decide)) (by decide)
    refine ⟨_, rfl, _, rfl, _, _, rfl, rfl, _, rfl, _, _, rfl, rfl, ⟨by omega, hl⟩, ?_⟩
    refine ⟨_, rfl, _, rfl, _, _, rfl, rfl, _, rfl, _, _, rfl, rfl, ⟨by omega, hl⟩, ?_⟩
    exact ⟨_, _, rfl, rfl, k⟩
end
end K40
namespace K40
open PySem L2
section
variable {P : Program} {w : World} {K : PySem.W.Frag}
                                                      {mg : Str → Option Value} {base : Heap}
/-- draws without putting back: some of the items, in some order -/
def sp_w_few (K : PySem.W.Frag) : Sp := fun vs H Q _ => ∃ (r l : Addr) (xs : List V) (many : Int), vs = [.ref r, .ref l, .int many] ∧ Rl H r ∧ (SqL K H l xs ∨ SqT K H l xs) ∧ xs.length ≤ 100 ∧ 0 ≤ many ∧ many ≤ 100 ∧
  ∀ l' ys rest H', Rl H' r → Only r H H' → H l' = none → H' l' = some (.lst ys) → xs.Perm (ys ++ rest) → (ys.length : Int) = (if (xs.length : Int) < many then (xs.length : Int) else many) → Q (.ref l') H'
theorem er_perm {α : Type} : ∀ {l : List α} {k : Nat} (h : k < l.length), (l[k] :: l.eraseIdx k).Perm l
  | [], k, h => absurd h (Nat.not_lt_zero k)
  | x :: l, 0, _ => .refl _
  | x :: l, k + 1, h => by
    have hk : k < l.length := Nat.lt_of_succ_lt_succ h
    have ih := er_perm hk
    exact (List.Perm.swap x l[k] _).trans (ih.cons x)
theorem perm_take {xs ys rest : List V} {k : Nat} {y : V} (h : xs.Perm (ys ++ rest)) (e : rest[k]? = some y) : xs.Perm ((ys ++ [y]) ++ rest.eraseIdx k) := by
  obtain ⟨hk, rfl⟩ := List.getElem?_eq_some_iff.mp e
  refine h.trans ?_
  rw [List.append_assoc]
  refine List.Perm.append_left ys ?_
  exact (er_perm hk).symm
theorem ok_w_few (T : T K mg) : FnOk P w K mg base CX0 2 T.f_w_few T.d_w_few ["tray", "items", "many"] (sp_w_few K) := by
  have G_w_roll : FnOk P w K mg base CX0 1 T.f_w_roll T.d_w_roll ["tray", "total"] (sp_w_roll K) := ok_w_roll T
  refine T.F_w_few.ok sc_w_few (fun vs H Q E h => ?_) (fun cdv A outer s H vs Q E hr h => ?_)
  · obtain ⟨r, l, xs, many, rfl, _⟩ := h
    rfl
  · obtain ⟨r, l, xs, many, rfl, hR, hl, h100, m0, m1, k⟩ := h
    have hu := hu_of hr
    have hr_w_roll : Room 1 _ := hr.mono (by decide)
    refine ⟨_, (pss_cons (ps_par (i := 3) (j := 4) (by rfl) sc_w_few.nd rfl rfl (by decide) rfl rfl (pa_cons (pe_callTy call_list_of (by rfl) T.z_list (by decide +kernel) (pa_cons (pv 1) pa_nil)) (pa_cons (pe_lst pa_nil) pa_nil)) (by rfl))
      (pss_cons (ps_for PassesOwn.never rfl (pi_range1 (by rfl) T.z_range (pa_cons (pe_callB (call_min2 rfl) (by rfl) T.z_min (by decide +kernel) (pa_cons (pv 2) (pa_cons (pe_callB call_len (by rfl) T.z_len (by decide +kernel) (pa_cons (pv 3) pa_nil)) pa_nil))) pa_nil)) (pg_name (i := 5) sc_w_few.nd rfl (Or.inl rfl))
      (pss_one (ps_expr (pe_bm PySem.F.plainAttrs_list PySem.F.slot_list_append PySem.F.type_list_append mt_append (pv 4) (pa_cons (pe_bm PySem.F.plainAttrs_list PySem.F.slot_list_pop PySem.F.type_list_pop mt_popAt (pv 3) (pa_cons (pe_call G_w_roll hr_w_roll rfl T.m_w_roll T.F_w_roll.kp T.b_w_roll .nil pass0 (pa_cons (pv 0) (pa_cons (pe_callB call_len (by rfl) T.z_len (by decide +kernel) (pa_cons (pv 3) pa_nil)) pa_nil))) pa_nil)) pa_nil)))))
      (pss_one (ps_ret (pv 4))))), ?_⟩
    refine ⟨_, rfl, l, xs, rfl, hl, fun a ha => ?_⟩
    refine ⟨by show 0 ≤ sizeLine; decide, fun b hb => ?_⟩
    refine ⟨_, _, rfl, ?_⟩
    have nab : b ≠ a := fun z => by rw [z, upd_same] at hb; cases hb
    have hb0 : H b = none := by
      rw [upd_ne nab] at hb
      exact hb
    have nra : r ≠ a := fun z => by obtain ⟨x, y, z', q⟩ := hR; rw [z, ha] at q; cases q
    have nrb : r ≠ b := fun z => by obtain ⟨x, y, z', q⟩ := hR; rw [z, hb0] at q; cases q
    have S2 : Same H (upd (upd H a (.lst xs)) b (.lst [])) := fun c o e => by
      rw [upd_ne (ne_of_none e hb0), upd_ne (ne_of_none e ha)]
      exact e
    have eA0 : (upd (upd H a (.lst xs)) b (.lst [])) a = some (.lst xs) := by rw [upd_ne nab.symm, upd_same]
    refine ⟨_, rfl, _, rfl, _, _, rfl, .inl ⟨_, SqL.of eA0, rfl⟩, _, _, rfl, _, rfl, by split <;> omega, by split <;> omega, ?_⟩
    refine for_range (n := (if (xs.length : Int) < many then (xs.length : Int) else many).toNat) (fun i σ H' => ∃ v, σ = [some (.ref r), some (.ref l), some (.int many), some (.ref a), some (.ref b), v] ∧ Rl H' r ∧ Only r H H' ∧ ∃ ys rest, H' a = some (.lst rest) ∧ H' b = some (.lst ys) ∧ xs.Perm (ys ++ rest) ∧ ys.length = i)
      ⟨none, rfl, Same.rl S2 hR, Same.only S2, [], xs, eA0, upd_same, .refl _, rfl⟩ ?_ ?_
    · rintro i σ H' hi ⟨v, rfl, R', O', ys, rest, eA, eB, pm, ly⟩
      have hpl := pm.length_eq
      rw [List.length_append] at hpl
      have hi2 : (i : Int) < (if (xs.length : Int) < many then (xs.length : Int) else many) := by omega
      have hrl : 0 < rest.length := by
        split at hi2 <;> omega
      refine ⟨_, rfl, .inl ⟨rfl, _, SqL.of eB⟩, ?_⟩
      refine ⟨_, rfl, .inl ⟨rfl, _, SqL.of eA⟩, ?_⟩
      refine ⟨_, rfl, _, rfl, _, _, rfl, .inl ⟨_, SqL.of eA, rfl⟩, r, _, rfl, R', by omega, ?_, fun v G4 v0 v1 R4 O4 => ?_⟩
      · exact Nat.lt_trans (lg (b := 63) (by omega) (by omega) (by decide)) (by decide)
      have eA4 : G4 a = some (.lst rest) := O4 _ _ nra.symm eA
      have eB4 : G4 b = some (.lst ys) := O4 _ _ nrb.symm eB
      have hv : v.toNat < rest.length := by omega
      have ey : rest[v.toNat]? = some rest[v.toNat] := List.getElem?_eq_getElem hv
      generalize rest[v.toNat] = y at ey
      refine ⟨a, rest, v, v.toNat, y, rfl, rfl, eA4, by omega, by omega, PySem.StrLaws.seqIndex_nonneg v0 (by omega), ey, ?_⟩
      have eB5 : (upd G4 a (.lst (rest.eraseIdx v.toNat))) b = some (.lst ys) := by rw [upd_ne nab]; exact eB4
      refine ⟨b, ys, y, rfl, rfl, eB5, by rw [sizeLine_eq]; omega, ?_⟩
      refine ⟨_, rfl, ?_, ?_, ys ++ [y], rest.eraseIdx v.toNat, ?_, upd_same, perm_take pm ey, ?_⟩
      · obtain ⟨x1, x2, x3, q⟩ := R4
        exact ⟨x1, x2, x3, by rw [upd_ne nrb, upd_ne nra]; exact q⟩
      · intro c o nc e
        rw [upd_ne (ne_of_none e hb0), upd_ne (ne_of_none e ha)]
        exact O4 _ _ nc (O' _ _ nc e)
      · rw [upd_ne nab.symm, upd_same]
      · rw [List.length_append, ly]
        rfl
    · rintro σ H' ⟨v, rfl, R', O', ys, rest, eA, eB, pm, ly⟩
      refine ⟨_, rfl, k b ys rest H' R' O' hb0 eB pm ?_⟩
      rw [ly]
      split <;> omega
end
end K40
/-! data with dicts: what they read as, repr; list(text), text * int -/
namespace RL
open PySem PySem.Spec PyProof.Rows L2
/-- a key as a datum -/
def keyD : Key → PyData
  | .inl i => .int i
  | .inr z => .str z
mutual
/-- a value that is a datum, dicts with int and text keys too -/
inductive DS (K : PySem.W.Frag) (H : Hp) : V → PyData → Prop
  | non : DS K H .non .none
  | bl (b : Bool) : DS K H (.bl b) (.bool b)
  | int (i : Int) : DS K H (.int i) (.int i)
  | str (x : Str) : DS K H (.str x) (.str x)
  | lst {a : Addr} {xs : List V} {ds : List PyData} : SqL K H a xs → DSs K H xs ds → DS K H (.ref a) (.list ds)
  | tup {a : Addr} {xs : List V} {ds : List PyData} : SqT K H a xs → DSs K H xs ds → DS K H (.ref a) (.tuple ds)
  | dic {a : Addr} {kvs : List (Key × V)} {es : List (PyData × PyData)} : H a = some (.dK kvs) → DSk K H kvs es → DS K H (.ref a) (.dict es)
inductive DSs (K : PySem.W.Frag) (H : Hp) : List V → List PyData → Prop
  | nil : DSs K H [] []
  | cons {v : V} {vs : List V} {d : PyData} {ds : List PyData} : DS K H v d → DSs K H vs ds → DSs K H (v :: vs) (d :: ds)
inductive DSk (K : PySem.W.Frag) (H : Hp) : List (Key × V) → List (PyData × PyData) → Prop
  | nil : DSk K H [] []
  | cons {k : Key} {v : V} {kvs : List (Key × V)} {d : PyData} {es : List (PyData × PyData)} : DS K H v d → DSk K H kvs es → DSk K H ((k, v) :: kvs) ((keyD k, d) :: es)
end
section
variable {X : Cx} {pins : List (Addr × Obj)}
                                             {σ : L2.St} {H : Hp} {s : Shared}
theorem pairs_rel {prog : Program} {w : World} : ∀ {es : List DictEntry} {vs : List (Key × Value)}, Pairs (mixKind prog w) es vs → ∀ {kvs : List (Key × V)}, KV kvs vs → Vals (kvs.map (·.2)) (es.map (·.val)) ∧ Vals (kvs.map fun kv => kV kv.1) (es.map (·.key))
  | _, _, .nil, _, h => by
    unfold KV at h
    cases h
    exact ⟨.nil, .nil⟩
  | _, _, .cons hk hv hr, _, h => by
    unfold KV at h
    cases h with
    | cons h1 h2 =>
      obtain ⟨e1, e2⟩ := h1
      have ih := pairs_rel hr h2
      refine ⟨.cons (by dsimp only; rw [hv]; exact e2) ih.1, .cons ?_ ih.2⟩
      dsimp only
      rw [e1]
      exact keyIs_rel hk
mutual
theorem DS.reads (I : Inv X pins σ H s) : ∀ (d : PyData) (v : V) (u : Value), DS X.K H v d → RelV v u → ∃ as, Reads s.heap u d as
  | .none, _, _, h, r => by
    cases h
    cases r
    exact ⟨_, Reads.none⟩
  | .bool b, _, _, h, r => by
    cases h
    cases r
    exact ⟨_, Reads.bool b⟩
  | .int i, _, _, h, r => by
    cases h
    obtain ⟨t, rfl⟩ := r
    exact ⟨_, Reads.int i t⟩
  | .str x, _, _, h, r => by
    cases h
    obtain ⟨t, rfl⟩ := r
    exact ⟨_, Reads.str x t⟩
  | .list ds, _, _, h, r => by
    cases h with
    | lst hs ha =>
      cases r
      obtain ⟨its, rv, ⟨o, n, ho, hc, _, hd⟩, _⟩ := I.list hs
      obtain ⟨as, hr⟩ := DSs.reads I ds _ its ha rv
      exact ⟨_, Reads.list ho hc hd hr⟩
  | .tuple ds, _, _, h, r => by
    cases h with
    | tup hs ha =>
      cases r
      obtain ⟨its, rv, ⟨o, ho, hc, n, hd⟩, _⟩ := I.tuple hs
      obtain ⟨as, hr⟩ := DSs.reads I ds _ its ha rv
      exact ⟨_, Reads.tuple ho hc hd hr⟩
  | .dict es, _, _, h, r => by
    cases h with
    | dic ha hk =>
      cases r
      obtain ⟨_, _, vs, kv, o, ee, ep, h1, h2, h3, _, hp, _⟩ := dk_of I.hok ha
      obtain ⟨r1, r2⟩ := pairs_rel hp kv
      obtain ⟨as, a1⟩ := DSk.readsK I es _ (ee.toList.map (·.key)) hk r2
      obtain ⟨bs, a2⟩ := DSk.readsV I es _ (ee.toList.map (·.val)) hk r1
      exact ⟨_, Reads.dict h1 h2.1 h3 a1 a2⟩
theorem DSs.reads (I : Inv X pins σ H s) : ∀ (ds : List PyData) (vs : List V) (us : List Value), DSs X.K H vs ds → Vals vs us → ∃ as, ReadsAll s.heap us ds as
  | [], _, _, h, r => by
    cases h
    cases r
    exact ⟨_, ReadsAll.nil⟩
  | d :: ds, _, _, h, r => by
    cases h with
    | cons h1 h2 =>
      cases r with
      | cons r1 r2 =>
        obtain ⟨as, a1⟩ := DS.reads I d _ _ h1 r1
        obtain ⟨bs, a2⟩ := DSs.reads I ds _ _ h2 r2
        exact ⟨_, ReadsAll.cons a1 a2⟩
theorem DSk.readsV (I : Inv X pins σ H s) : ∀ (es : List (PyData × PyData)) (kvs : List (Key × V)) (us : List Value), DSk X.K H kvs es → Vals (kvs.map (·.2)) us → ∃ as, ReadsAll s.heap us (es.map (·.2)) as
  | [], _, _, h, r => by
    cases h
    cases r
    exact ⟨_, ReadsAll.nil⟩
  | (kd, d) :: es, _, _, h, r => by
    cases h with
    | cons h1 h2 =>
      cases r with
      | cons r1 r2 =>
        obtain ⟨as, a1⟩ := DS.reads I d _ _ h1 r1
        obtain ⟨bs, a2⟩ := DSk.readsV I es _ _ h2 r2
        exact ⟨_, ReadsAll.cons a1 a2⟩
theorem DSk.readsK (I : Inv X pins σ H s) : ∀ (es : List (PyData × PyData)) (kvs : List (Key × V)) (us : List Value), DSk X.K H kvs es → Vals (kvs.map fun kv => kV kv.1) us → ∃ as, ReadsAll s.heap us (es.map (·.1)) as
  | [], _, _, h, r => by
    cases h
    cases r
    exact ⟨_, ReadsAll.nil⟩
  | (kd, d) :: es, _, _, h, r => by
    cases h with
    | @cons k _ _ _ _ h1 h2 =>
      cases r with
      | cons r1 r2 =>
        obtain ⟨bs, a2⟩ := DSk.readsK I es _ _ h2 r2
        cases k with
        | inl i =>
          obtain ⟨t, rfl⟩ := r1
          exact ⟨_, ReadsAll.cons (Reads.int i t) a2⟩
        | inr z =>
          obtain ⟨t, rfl⟩ := r1
          exact ⟨_, ReadsAll.cons (Reads.str z t) a2⟩
end
/-! ### what it shows -/
mutual
theorem DS.show (I : Inv X pins σ H s) : ∀ (d : PyData) (v : V) (u : Value), DS X.K H v d → RelV v u → d.showable = true → d.shown.length ≤ sizeLine → ∃ bs, ReadAtMost s.heap d.depth bs ∧ ReprK X.prog X.w bs s.heap d.depth u d.shown
  | .none, _, _, h, r, _, _ => by
    cases h
    cases r
    exact ⟨[], (fun _ h => nomatch h), by simp only [PyData.shown]; exact .of_is ReprIs.none _ _ _⟩
  | .bool b, _, _, h, r, _, _ => by
    cases h
    cases r
    exact ⟨[], (fun _ h => nomatch h), by simp only [PyData.shown]; exact .of_is (ReprIs.bool b) _ _ _⟩
  | .int i, _, _, h, r, hs, _ => by
    cases h
    obtain ⟨t, rfl⟩ := r
    exact ⟨[], (fun _ h => nomatch h), by simp only [PyData.shown]; exact .of_is (ReprIs.int t (by simpa [PyData.showable] using hs)) _ _ _⟩
  | .str x, _, _, h, r, _, hz => by
    cases h
    obtain ⟨t, rfl⟩ := r
    exact ⟨[], (fun _ h => nomatch h), by simp only [PyData.shown]; exact .of_is (ReprIs.str x t (by simpa only [PyData.shown] using hz)) _ _ _⟩
  | .list ds, _, _, h, r, hs, hz => by
    obtain ⟨as, rd⟩ := DS.reads I _ _ _ h r
    cases h with
    | lst hq ha =>
      cases r
      have hz' : (listText (PyData.shownAll ds)).length ≤ sizeLine := by simpa only [PyData.shown] using hz
      obtain ⟨its, rv, ⟨o, n, h1, h2, _, h3⟩, _⟩ := I.list hq
      obtain ⟨bs, hb, hk⟩ := DSs.show I ds _ its ha rv (by simpa [PyData.showable] using hs) (fun t ht => Nat.le_trans (listText_mem_le ht) hz')
      have hna := not_mem_of_deeper rd (by simp only [PyData.depth]; omega) hb
      refine ⟨_ :: bs, ReadAtMost.cons rd (by simp only [PyData.depth]; omega) hb, ?_⟩
      simp only [PyData.depth, PyData.shown]
      cases its with
      | nil =>
        cases rv
        cases ha
        simp only [PyData.shownAll, listText_nil]
        exact ReprK.listEmpty h1 h2 h3
      | cons x l => exact ReprK.list h1 h2 h3 hna
                                                  (by simpa using hk.length_eq) (fun i y e => hk.item i y (by simpa using e))
  | .tuple ds, _, _, h, r, hs, hz => by
    obtain ⟨as, rd⟩ := DS.reads I _ _ _ h r
    cases h with
    | tup hq ha =>
      cases r
      have hz' : (tupleText (PyData.shownAll ds)).length ≤ sizeLine := by simpa only [PyData.shown] using hz
      obtain ⟨its, rv, ⟨o, h1, h2, n, h3⟩, _⟩ := I.tuple hq
      obtain ⟨bs, hb, hk⟩ := DSs.show I ds _ its ha rv (by simpa [PyData.showable] using hs) (fun t ht => Nat.le_trans (tupleText_mem_le ht) hz')
      have hna := not_mem_of_deeper rd (by simp only [PyData.depth]; omega) hb
      refine ⟨_ :: bs, ReadAtMost.cons rd (by simp only [PyData.depth]; omega) hb, ?_⟩
      simp only [PyData.depth, PyData.shown]
      exact ReprK.tuple h1 h2 h3 hna (by simpa using hk)
  | .dict es, _, _, h, r, hs, hz => by
    obtain ⟨as, rd⟩ := DS.reads I _ _ _ h r
    cases h with
    | dic ha hk =>
      cases r
      have hz' : (dictText (PyData.shownKv es)).length ≤ sizeLine := by simpa only [PyData.shown] using hz
      obtain ⟨_, hsys, vs, kv, o, ee, ep, h1, h2, h3, _, hp, _⟩ := dk_of I.hok ha
      obtain ⟨r1, r2⟩ := pairs_rel hp kv
      obtain ⟨hs1, hs2⟩ := PyData.showableKv_split es (by simpa [PyData.showable] using hs)
      obtain ⟨b1, hb1, k1⟩ := DSk.showK I es _ (ee.toList.map (·.key)) hk r2 hs1 (fun t ht => let ⟨p, hp, hl⟩ := PyData.shownKv_key_le es t ht; Nat.le_trans hl (Nat.le_trans (dictText_mem_le hp) hz'))
      obtain ⟨b2, hb2, k2⟩ := DSk.showV I es _ (ee.toList.map (·.val)) hk r1 hs2 (fun t ht => let ⟨p, hp, hl⟩ := PyData.shownKv_val_le es t ht; Nat.le_trans hl (Nat.le_trans (dictText_mem_le hp) hz'))
      have hb : ReadAtMost s.heap (PyData.depthKv es) (b1 ++ b2) := (hb1.mono (PyData.depthAll_keys_le es)).append (hb2.mono (PyData.depthAll_vals_le es))
      have hna := not_mem_of_deeper rd (by simp only [PyData.depth]; omega) hb
      refine ⟨_ :: (b1 ++ b2), ReadAtMost.cons rd (by simp only [PyData.depth]; omega) hb, ?_⟩
      simp only [PyData.depth, PyData.shown, PyData.shownKv_eq]
      exact ReprK.dict h1 h2.1 h3 hsys hna (ReprEntriesK.of_two ee.toList _ _
        (k1.more_le (fun b hb => List.mem_append_left _ hb) (PyData.depthAll_keys_le es)) (k2.more_le (fun b hb => List.mem_append_right _ hb) (PyData.depthAll_vals_le es)))
theorem DSs.show (I : Inv X pins σ H s) : ∀ (ds : List PyData) (vs : List V) (us : List Value), DSs X.K H vs ds → Vals vs us → PyData.showableAll ds = true → (∀ t ∈ PyData.shownAll ds, t.length ≤ sizeLine) → ∃ bs, ReadAtMost s.heap (PyData.depthAll ds) bs ∧ ReprAllK X.prog X.w bs s.heap (PyData.depthAll ds) us (PyData.shownAll ds)
  | [], _, _, h, r, _, _ => by
    cases h
    cases r
    exact ⟨[], (fun _ h => nomatch h), by simp only [PyData.shownAll]; exact .nil⟩
  | d :: ds, _, _, h, r, hs, hz => by
    cases h with
    | cons h1 h2 =>
      cases r with
      | cons r1 r2 =>
        have hs' : d.showable = true ∧ PyData.showableAll ds = true := by simpa [PyData.showableAll] using hs
        obtain ⟨b1, hb1, k1⟩ := DS.show I d _ _ h1 r1 hs'.1 (hz _ (by simp only [PyData.shownAll]; exact List.mem_cons_self ..))
        obtain ⟨b2, hb2, k2⟩ := DSs.show I ds _ _ h2 r2 hs'.2 (fun t ht => hz t (by simp only [PyData.shownAll]; exact List.mem_cons_of_mem _ ht))
        refine ⟨b1 ++ b2, ?_, ?_⟩
        · simp only [PyData.depthAll]
          exact (hb1.mono (Nat.le_max_left _ _)).append (hb2.mono (Nat.le_max_right _ _))
        · simp only [PyData.depthAll, PyData.shownAll]
          exact .cons ((k1.more fun b hb => List.mem_append_left _ hb).level_le
                                                                                (Nat.le_max_left _ _)) (k2.more_le (fun b hb => List.mem_append_right _ hb) (Nat.le_max_right _ _))
theorem DSk.showV (I : Inv X pins σ H s) : ∀ (es : List (PyData × PyData)) (kvs : List (Key × V)) (us : List Value), DSk X.K H kvs es → Vals (kvs.map (·.2)) us → PyData.showableAll (es.map (·.2)) = true → (∀ t ∈ PyData.shownAll (es.map (·.2)), t.length ≤ sizeLine) →
    ∃ bs, ReadAtMost s.heap (PyData.depthAll (es.map (·.2))) bs ∧ ReprAllK X.prog X.w bs s.heap (PyData.depthAll (es.map (·.2))) us (PyData.shownAll (es.map (·.2)))
  | [], _, _, h, r, _, _ => by
    cases h
    cases r
    exact ⟨[], (fun _ h => nomatch h), by simp only [List.map_nil, PyData.shownAll]; exact .nil⟩
  | (kd, d) :: es, _, _, h, r, hs, hz => by
    cases h with
    | cons h1 h2 =>
      cases r with
      | cons r1 r2 =>
        have hs' : d.showable = true ∧ PyData.showableAll (es.map (·.2)) = true := by simpa [PyData.showableAll] using hs
        obtain ⟨b1, hb1, k1⟩ := DS.show I d _ _ h1 r1 hs'.1 (hz _ (by simp only [List.map_cons, PyData.shownAll]; exact List.mem_cons_self ..))
        obtain ⟨b2, hb2, k2⟩ := DSk.showV I es _ _ h2 r2 hs'.2 (fun t ht => hz t (by simp only [List.map_cons, PyData.shownAll]; exact List.mem_cons_of_mem _ ht))
        refine ⟨b1 ++ b2, ?_, ?_⟩
        · simp only [List.map_cons, PyData.depthAll]
          exact (hb1.mono (Nat.le_max_left _ _)).append (hb2.mono (Nat.le_max_right _ _))
        · simp only [List.map_cons, PyData.depthAll, PyData.shownAll]
          exact .cons ((k1.more fun b hb => List.mem_append_left _ hb).level_le
                                                                                (Nat.le_max_left _ _)) (k2.more_le (fun b hb => List.mem_append_right _ hb) (Nat.le_max_right _ _))
theorem DSk.showK (I : Inv X pins σ H s) : ∀ (es : List (PyData × PyData)) (kvs : List (Key × V)) (us : List Value), DSk X.K H kvs es → Vals (kvs.map fun kv => kV kv.1) us → PyData.showableAll (es.map (·.1)) = true → (∀ t ∈ PyData.shownAll (es.map (·.1)), t.length ≤ sizeLine) →
    ∃ bs, ReadAtMost s.heap (PyData.depthAll (es.map (·.1))) bs ∧ ReprAllK X.prog X.w bs s.heap (PyData.depthAll (es.map (·.1))) us (PyData.shownAll (es.map (·.1)))
  | [], _, _, h, r, _, _ => by
    cases h
    cases r
    exact ⟨[], (fun _ h => nomatch h), by simp only [List.map_nil, PyData.shownAll]; exact .nil⟩
  | (kd, d) :: es, _, _, h, r, hs, hz => by
    cases h with
    | @cons k _ _ _ _ h1 h2 =>
      cases r with
      | cons r1 r2 =>
        have hs' : (keyD k).showable = true ∧ PyData.showableAll (es.map (·.1)) = true := by simpa [PyData.showableAll] using hs
        have hz1 : (keyD k).shown.length ≤ sizeLine := hz _ (by simp only [List.map_cons, PyData.shownAll]; exact List.mem_cons_self ..)
        obtain ⟨b2, hb2, k2⟩ := DSk.showK I es _ _ h2 r2 hs'.2 (fun t ht => hz t (by simp only [List.map_cons, PyData.shownAll]; exact List.mem_cons_of_mem _ ht))
        refine ⟨b2, ?_, ?_⟩
        · simp only [List.map_cons, PyData.depthAll]
          exact hb2.mono (Nat.le_max_right _ _)
        · simp only [List.map_cons, PyData.depthAll, PyData.shownAll]
          refine .cons ?_ (k2.more_le (fun b hb => hb) (Nat.le_max_right _ _))
          cases k with
          | inl i =>
            obtain ⟨t, rfl⟩ := r1
            simp only [keyD, PyData.shown]
            exact .of_is (ReprIs.int t (by simpa [keyD, PyData.showable] using hs'.1)) _ _ _
          | inr z =>
            obtain ⟨t, rfl⟩ := r1
            simp only [keyD, PyData.shown] at hz1 ⊢
            exact .of_is (ReprIs.str z t hz1) _ _ _
end
end
/-! ### repr -/
section
variable {X : Cx}
def rReprD (K : PySem.W.Frag) : List V → Hp → VK → Prop := fun xs H Q => ∃ (a : Addr) (d : PyData), xs = [.ref a] ∧ DS K H (.ref a) d ∧ d.showable = true ∧ d.shown.length ≤ sizeLine ∧ d.depth ≤ 60 ∧ Q (.str d.shown) H
theorem cr_reprD (hgd : X.A.guards = some []) (hu : X.A.units + 64 < cLine) : CallR X (.builtin "repr") (rReprD X.K) := by
  intro pins s σ H xs us Q I r h
  obtain ⟨a, d, rfl, hd, h1, h2, h3, q⟩ := h
  obtain ⟨u, rfl, ru⟩ := vals1 r
  obtain rfl : u = Value.ref a := ru
  have fin : ∀ h' u tk, (∀ b o, s.heap.get? b = some o → h'.get? b = some o) → EP X pins σ Q (.str d.shown u) { s with heap := h', toks := tk } := fun h' u tk k => ⟨.str _, H, I.kept (t' := tk) k, ⟨_, rfl⟩, q⟩
  obtain ⟨as, rd⟩ := DS.reads I _ _ _ hd rfl
  obtain ⟨bs, hb, hk⟩ := DS.show I _ _ _ hd rfl h1 h2
  cases hd with
  | @lst _ xs ds hq ha =>
    have hz' : (listText (PyData.shownAll ds)).length ≤ sizeLine := by simpa only [PyData.shown] using h2
    obtain ⟨its, rv, ⟨o, n, e1, e2, _, e3⟩, _⟩ := I.list hq
    obtain ⟨bs, hb, hk⟩ := DSs.show I ds _ its ha rv (by simpa [PyData.showable] using h1) (fun t ht => Nat.le_trans (listText_mem_le ht) hz')
    have hna := not_mem_of_deeper rd (by simp only [PyData.depth]; omega) hb
    simp only [PyData.depth] at h3
    simp only [PyData.shown] at fin
    refine PySem.call_repr_slot (by omega) ⟨o, e1, e2⟩ PySem.F.slot_list_repr.toG ?_
    cases its with
    | nil =>
      cases rv
      cases ha
      simp only [PyData.shownAll, listText_nil] at fin
      exact call_list_repr_empty ⟨o, e1, e2⟩ e1 e3 ⟨_, _, rfl, fin s.heap _ _ fun _ _ e => e⟩
    | cons x l =>
      exact call_list_reprK e1 e2 e3 hna (by simpa using hk.length_eq) (fun i y e => hk.item i y (by simpa using e)) hgd (fun b _ => Clear.nil b) (by show X.A.units + 1 + _ < cLine; omega) (fun _ _ e => e) (fun h' u tk k => ⟨_, _, rfl, fin h' u tk k⟩) hz'
  | @tup _ xs ds hq ha =>
    have hz' : (tupleText (PyData.shownAll ds)).length ≤ sizeLine := by simpa only [PyData.shown] using h2
    obtain ⟨its, rv, ⟨o, e1, e2, n, e3⟩, _⟩ := I.tuple hq
    obtain ⟨bs, hb, hk⟩ := DSs.show I ds _ its ha rv (by simpa [PyData.showable] using h1) (fun t ht => Nat.le_trans (tupleText_mem_le ht) hz')
    have hna := not_mem_of_deeper rd (by simp only [PyData.depth]; omega) hb
    simp only [PyData.depth] at h3
    simp only [PyData.shown] at fin
    refine PySem.call_repr_slot (by omega) ⟨o, e1, e2⟩ PySem.F.slot_tuple_repr ?_
    exact call_tuple_reprK e1 e2 e3 hna (by simpa using hk) hgd (fun b _ => Clear.nil b) (by show X.A.units + 1 + _ < cLine; omega) (fun _ _ e => e) (fun h' u tk k => ⟨_, _, rfl, fin h' u tk k⟩) hz'
  | @dic _ kvs es ha hkv =>
    have hz' : (dictText (PyData.shownKv es)).length ≤ sizeLine := by simpa only [PyData.shown] using h2
    obtain ⟨_, hsys, vs, kv, o, ee, ep, e1, e2, e3, _, hp, _⟩ := dk_of I.hok ha
    obtain ⟨r1, r2⟩ := pairs_rel hp kv
    obtain ⟨hs1, hs2⟩ := PyData.showableKv_split es (by simpa [PyData.showable] using h1)
    obtain ⟨b1, hb1, k1⟩ := DSk.showK I es _ (ee.toList.map (·.key)) hkv r2 hs1 (fun t ht => let ⟨p, hp, hl⟩ := PyData.shownKv_key_le es t ht; Nat.le_trans hl (Nat.le_trans (dictText_mem_le hp) hz'))
    obtain ⟨b2, hb2, k2⟩ := DSk.showV I es _ (ee.toList.map (·.val)) hkv r1 hs2 (fun t ht => let ⟨p, hp, hl⟩ := PyData.shownKv_val_le es t ht; Nat.le_trans hl (Nat.le_trans (dictText_mem_le hp) hz'))
    have hb : ReadAtMost s.heap (PyData.depthKv es) (b1 ++ b2) := (hb1.mono (PyData.depthAll_keys_le es)).append (hb2.mono (PyData.depthAll_vals_le es))
    have hna := not_mem_of_deeper rd (by simp only [PyData.depth]; omega) hb
    simp only [PyData.depth] at h3
    simp only [PyData.shown, PyData.shownKv_eq] at fin
    refine PySem.call_repr_slot (by omega) ⟨o, e1, e2.1⟩ PySem.F.slot_dict_repr ?_
    exact call_dict_reprK e1 e2.1 e3 hsys hna (ReprEntriesK.of_two ee.toList _ _
      (k1.more_le (fun b hb => List.mem_append_left _ hb) (PyData.depthAll_keys_le es)) (k2.more_le (fun b hb => List.mem_append_right _ hb) (PyData.depthAll_vals_le es))) hgd (fun b _ => Clear.nil b) (by show X.A.units + 1 + _ < cLine; omega) (fun _ _ e => e) (fun h' u tk k => ⟨_, _, rfl, fin h' u tk k⟩) (by rw [← PyData.shownKv_eq]; exact hz')
/-! ### list(text) -/
def rListStr : List V → Hp → VK → Prop := fun xs H Q => ∃ z : Str, xs = [.str z] ∧ z.length ≤ sizeLine ∧ ∀ l, H l = none → Q (.ref l) (upd H l (.lst (z.cps.toList.map fun c => V.str ⟨#[c]⟩)))
theorem cr_listStr (hc : X.calm = true) : CallR X (.type "list") rListStr := by
  intro pins s σ H xs us Q I r h
  obtain ⟨z, rfl, hz, q⟩ := h
  obtain ⟨u, rfl, ru⟩ := vals1 r
  obtain ⟨t, rfl⟩ := ru
  refine call_list_str (I.ok.hd hc) z t (fun h' tk acc' c' kp hS hacc => ?_) hz
  refine ⟨.ref s.heap.objs.size, upd H s.heap.objs.size (.lst (z.cps.toList.map fun c => V.str ⟨#[c]⟩)), I.laid kp (Nat.le_refl _) (show ObjOk X.prog X.w _ _ _ (.lst _) from ⟨?_, acc'.toList, c', ?_, ?_⟩), rfl, q _ (I.hok.fresh (Nat.le_refl _))⟩
  · rw [List.length_map, Array.length_toList]; exact hz
  · refine vals_of_at (by rw [List.length_map, Array.length_toList, Array.length_toList, hacc.1]) fun j x w h1 h2 => ?_
    obtain ⟨c, u, hk, rfl⟩ := hacc.2 j w (by rw [← Array.getElem?_toList]; exact h2)
    rw [List.getElem?_map, Array.getElem?_toList, hk] at h1
    cases h1
    exact ⟨u, rfl⟩
  · rw [Array.toArray_toList]; exact hS
/-! ### text * int -/
def rMulS : R2 := fun x y H Q => ∃ (z : Str) (n : Int), x = .str z ∧ y = .int n ∧ MulOk z n ∧ Q (.str (Txt.mul z n)) H
theorem op_mulS : OpR X (binaryOp .Mult) rMulS := by
  intro pins s σ H x y v u Q I rx ry h
  obtain ⟨z, n, rfl, rfl, ok, q⟩ := h
  obtain ⟨t, rfl⟩ := rx
  obtain ⟨t', rfl⟩ := ry
  exact SB.mul ok fun t k => ⟨.str _, H, I.tok _, ⟨_, rfl⟩, q⟩
end
end RL
namespace K40
open PySem L2
open PyProof.Rows PySem.Spec
/-- names with their begins and ends -/
abbrev Rws := List (Str × Int × Int)
def Kvs (L : List (Str × Addr)) : List (Key × V) := L.map fun p => (Sum.inr p.1, V.ref p.2)
def TupAt (H : Hp) (t : Addr) (b e : Int) : Prop := H t = some (.tup [.int b, .int e])
inductive Tups (H : Hp) : List (Str × Addr) → Rws → Prop
  | nil : Tups H [] []
  | cons {n : Str} {t : Addr} {b e : Int} {L : List (Str × Addr)} {R : Rws} : TupAt H t b e → Tups H L R → Tups H ((n, t) :: L) ((n, b, e) :: R)
/-- what keeps tuples -/
def KT (H H' : Hp) : Prop := ∀ t xs, H t = some (.tup xs) → H' t = some (.tup xs)
theorem KT.refl {H : Hp} : KT H H := fun _ _ e => e
theorem KT.trans {H H1 H2 : Hp} (a : KT H H1) (b : KT H1 H2) : KT H H2 := fun t xs e => b t xs (a t xs e)
theorem KT.same {H H' : Hp} (s : Same H H') : KT H H' := fun t xs e => s t _ e
theorem KT.only {H H' : Hp} {r : Addr} (o : Only r H H') (h : Rl H r) : KT H H' := fun t xs e => o t _ (fun w => by obtain ⟨x, y, z, q⟩ := h; rw [w, q] at e; cases e) e
theorem KT.put {H : Hp} {d : Addr} {o u : HO} (h : H d = some u) (n : ∀ xs, u ≠ .tup xs) : KT H (upd H d o) := fun t xs e => by
  rw [upd_ne (fun w => n xs (by rw [w, h] at e; exact Option.some.inj e))]
  exact e
theorem KT.new {H : Hp} {d : Addr} {o : HO} (h : H d = none) : KT H (upd H d o) := fun t xs e => by rw [upd_ne (ne_of_none e h)]; exact e
theorem Tups.keep {H H' : Hp} (k : KT H H') : ∀ {L : List (Str × Addr)} {R : Rws}, Tups H L R → Tups H' L R
  | _, _, .nil => .nil
  | _, _, .cons h t => .cons (k _ _ h) (Tups.keep k t)
theorem Tups.names {H : Hp} : ∀ {L : List (Str × Addr)} {R : Rws}, Tups H L R → L.map (·.1) = R.map (·.1)
  | _, _, .nil => rfl
  | _, _, .cons _ t => by rw [List.map_cons, List.map_cons, Tups.names t]
theorem Tups.len {H : Hp} {L : List (Str × Addr)} {R : Rws} (h : Tups H L R) : L.length = R.length := by
  rw [← List.length_map (f := (·.1)) (as := L), h.names, List.length_map]
theorem Tups.snoc {H : Hp} {n : Str} {t : Addr} {b e : Int} : ∀ {L : List (Str × Addr)} {R : Rws}, Tups H L R → TupAt H t b e → Tups H (L ++ [(n, t)]) (R ++ [(n, b, e)])
  | _, _, .nil, q => .cons q .nil
  | _, _, .cons h t, q => .cons h (Tups.snoc t q)
theorem Tups.get {H : Hp} {n : Str} : ∀ {L : List (Str × Addr)} {R : Rws}, Tups H L R → n ∈ R.map (·.1) → ∃ t b e, valV (Kvs L) (.inr n) = some (.ref t) ∧ TupAt H t b e ∧ (n, b, e) ∈ R
  | _, _, .nil, h => by cases h
  | _, _, .cons (n := m) (t := t) (b := b) (e := e) (L := L) (R := R) h ts, hn => by
    by_cases c : m = n
    · subst c
      exact ⟨t, b, e, valV_pos (p := ((Sum.inr m : Key), V.ref t)) rfl, h, List.mem_cons_self⟩
    · rcases List.mem_cons.mp hn with q | q
      · exact absurd q.symm c
      · obtain ⟨t', b', e', h1, h2, h3⟩ := Tups.get ts q
        exact ⟨t', b', e', (valV_neg (p := ((Sum.inr m : Key), V.ref t)) (fun z => c (Sum.inr.inj z))).trans h1, h2, List.mem_cons_of_mem _ h3⟩
theorem nodup_uniq : ∀ {R : Rws} {n : Str} {p q : Int × Int}, (R.map (·.1)).Nodup → (n, p) ∈ R → (n, q) ∈ R → p = q
  | [], _, _, _, _, h, _ => by cases h
  | (m, u) :: R, n, p, q, nd, h1, h2 => by
    rw [List.map_cons, List.nodup_cons] at nd
    rcases List.mem_cons.mp h1 with e1 | e1
    · rcases List.mem_cons.mp h2 with e2 | e2
      · cases e1; cases e2; rfl
      · cases e1
        exact absurd (List.mem_map.mpr ⟨_, e2, rfl⟩) nd.1
    · rcases List.mem_cons.mp h2 with e2 | e2
      · cases e2
        exact absurd (List.mem_map.mpr ⟨_, e1, rfl⟩) nd.1
      · exact nodup_uniq nd.2 e1 e2
theorem Tups.at {H : Hp} {L : List (Str × Addr)} {R : Rws} (h : Tups H L R) (nd : (R.map (·.1)).Nodup) {n : Str} {b e : Int} (m : (n, b, e) ∈ R) : ∃ t, valV (Kvs L) (.inr n) = some (.ref t) ∧ TupAt H t b e := by
  obtain ⟨t, b', e', h1, h2, h3⟩ := h.get (n := n) (List.mem_map.mpr ⟨_, m, rfl⟩)
  have := nodup_uniq nd m h3
  cases this
  exact ⟨t, h1, h2⟩
theorem valV_none {L : List (Str × Addr)} {n : Str} (h : n ∉ L.map (·.1)) : valV (Kvs L) (.inr n) = none := by
  cases e : valV (Kvs L) (.inr n) with
  | none => rfl
  | some v =>
    refine absurd ?_ h
    have := valV_in e
    unfold Kvs at this
    rw [List.map_map] at this
    obtain ⟨p, hp, q⟩ := List.mem_map.mp this
    exact List.mem_map.mpr ⟨p, hp, Sum.inr.inj q⟩
theorem kvs_snoc (L : List (Str × Addr)) (n : Str) (t : Addr) : Kvs (L ++ [(n, t)]) = Kvs L ++ [(Sum.inr n, V.ref t)] := by
  unfold Kvs
  rw [List.map_append]
  rfl
theorem putK_kvs {L : List (Str × Addr)} {n : Str} {t : Addr} (h : n ∉ L.map (·.1)) : putK (Kvs L) (.inr n) (.ref t) = Kvs (L ++ [(n, t)]) := by
  rw [putK_new _ (valV_none h), kvs_snoc]
theorem kvs_len (L : List (Str × Addr)) : (Kvs L).length = L.length := List.length_map ..
theorem kvs_keys (L : List (Str × Addr)) : (Kvs L).map (·.1) = (L.map (·.1)).map Sum.inr := by
  unfold Kvs
  rw [List.map_map, List.map_map]
  rfl
theorem mergeK_kvs : ∀ (M L : List (Str × Addr)), ((L ++ M).map (·.1)).Nodup → mergeK (Kvs L) (Kvs M) = Kvs (L ++ M)
  | [], L, _ => by rw [List.append_nil]; rfl
  | (n, t) :: M, L, nd => by
    have hn : n ∉ L.map (·.1) := fun h => by
      rw [List.map_append, List.map_cons] at nd
      have := (List.nodup_append.mp nd).2.2 n h n List.mem_cons_self
      exact this rfl
    have e : mergeK (Kvs L) (Kvs ((n, t) :: M)) = mergeK (putK (Kvs L) (.inr n) (.ref t)) (Kvs M) := rfl
    rw [e, putK_kvs hn, mergeK_kvs M (L ++ [(n, t)]) (by rw [List.append_assoc]; exact nd), List.append_assoc]
    rfl
/-- such a dict as a datum -/
def rowD (r : Str × Int × Int) : PyData × PyData := (.str r.1, .tuple [.int r.2.1, .int r.2.2])
def rowsD (R : Rws) : PyData := .dict (R.map rowD)
theorem tupAt_ds {K : PySem.W.Frag} {H : Hp} {t : Addr} {b e : Int} (h : TupAt H t b e) : RL.DS K H (.ref t) (.tuple [.int b, .int e]) := .tup (SqT.of h) (.cons (.int _) (.cons (.int _) .nil))
theorem Tups.dsk {K : PySem.W.Frag} {H : Hp} : ∀ {L : List (Str × Addr)} {R : Rws}, Tups H L R → RL.DSk K H (Kvs L) (R.map rowD)
  | _, _, .nil => .nil
  | _, _, .cons h t => .cons (k := Sum.inr _) (tupAt_ds h) (Tups.dsk t)
theorem rows_ds {K : PySem.W.Frag} {H : Hp} {a : Addr} {L : List (Str × Addr)} {R : Rws} (ha : H a = some (.dK (Kvs L))) (h : Tups H L R) : RL.DS K H (.ref a) (rowsD R) := .dic ha h.dsk
/-! ### sorting -/
theorem risingS_pw : ∀ (p : Str) (l : List Str), risingS p l = true → (∀ y ∈ l, ltCps y.cps.toList p.cps.toList = false) ∧ l.Pairwise (fun a b => ltCps b.cps.toList a.cps.toList = false)
  | p, [], _ => ⟨(fun _ h => by cases h), List.Pairwise.nil⟩
  | p, x :: r, h => by
    have h' : (!ltCps x.cps.toList p.cps.toList && risingS x r) = true := h
    rw [Bool.and_eq_true] at h'
    obtain ⟨h1, h2⟩ := h'
    obtain ⟨i1, i2⟩ := risingS_pw x r h2
    have hx : ltCps x.cps.toList p.cps.toList = false := by simpa using h1
    refine ⟨fun y hy => ?_, List.pairwise_cons.mpr ⟨i1, i2⟩⟩
    rcases List.mem_cons.mp hy with rfl | hy
    · exact hx
    · have hy2 := i1 y hy
      rw [ltCps_eq] at hx hy2 ⊢
      rw [decide_eq_false_iff_not] at hx hy2 ⊢
      exact List.not_lt.mpr (List.le_trans (List.not_lt.mp hx) (List.not_lt.mp hy2))
theorem sortedS_pw {l : List Str} (h : sortedS l = true) : l.Pairwise (fun a b => ltCps b.cps.toList a.cps.toList = false) := by
  cases l with
  | nil => exact List.Pairwise.nil
  | cons x r =>
    obtain ⟨a, b⟩ := risingS_pw x r h
    exact List.pairwise_cons.mpr ⟨a, b⟩
theorem str_ext {a b : Str} (h : a.cps.toList = b.cps.toList) : a = b := by
  obtain ⟨⟨a⟩⟩ := a
  obtain ⟨⟨b⟩⟩ := b
  simp only at h
  rw [h]
theorem sorted_eq {xs ys zs : List Str} (p1 : ys.Perm xs) (p2 : zs.Perm xs) (s1 : sortedS ys = true) (s2 : sortedS zs = true) : ys = zs := by
  refine List.Perm.eq_of_pairwise (le := fun a b => ltCps b.cps.toList a.cps.toList = false) (fun a b _ _ h1 h2 => ?_) (sortedS_pw s1) (sortedS_pw s2) (p1.trans p2.symm)
  rw [ltCps_eq, decide_eq_false_iff_not] at h1 h2
  exact str_ext (List.le_antisymm (List.not_lt.mp h1) (List.not_lt.mp h2))
/-- the rows in the order of their names -/
structure Srd (R S : Rws) : Prop where
  pm : S.Perm R
  so : sortedS (S.map (·.1)) = true
theorem Srd.eq {R S S' : Rws} (nd : (R.map (·.1)).Nodup) (a : Srd R S) (b : Srd R S') : S = S' := by
  have e := sorted_eq (a.pm.map (·.1)) (b.pm.map (·.1)) a.so b.so
  have key : ∀ {X Y : Rws}, X.map (·.1) = Y.map (·.1) → (∀ x ∈ X, x ∈ R) → (∀ y ∈ Y, y ∈ R) → X = Y := by
    intro X
    induction X with
    | nil =>
      intro Y h _ _
      cases Y with
      | nil => rfl
      | cons _ _ => cases h
    | cons x X ih =>
      intro Y h h1 h2
      cases Y with
      | nil => cases h
      | cons y Y =>
        obtain ⟨xn, xp⟩ := x
        obtain ⟨yn, yp⟩ := y
        obtain ⟨e1, e2⟩ := List.cons.inj h
        obtain rfl : xn = yn := e1
        have : xp = yp := nodup_uniq nd (h1 _ List.mem_cons_self) (h2 _ List.mem_cons_self)
        rw [this, ih e2 (fun x hx => h1 x (List.mem_cons_of_mem _ hx)) (fun x hx => h2 x (List.mem_cons_of_mem _ hx))]
  exact key e (fun x hx => a.pm.mem_iff.mp hx) (fun x hx => b.pm.mem_iff.mp hx)
theorem Srd.nodup {R S : Rws} (nd : (R.map (·.1)).Nodup) (a : Srd R S) : (S.map (·.1)).Nodup := (a.pm.map (·.1)).nodup_iff.mpr nd
/-- a span of an interval -/
def SpOk (T : Int) (r : Str × Int × Int) : Prop := 1 ≤ r.2.2 - r.2.1 ∧ r.2.2 - r.2.1 ≤ 8 * T
def Near (c : Int) (r : Str × Int × Int) : Prop := -c ≤ r.2.1 ∧ r.2.2 ≤ c
def Fin1 (t : Int) (r : Str × Int × Int) : Prop := Near 1000 r ∧ -t ≤ r.2.1 ∧ r.2.2 ≤ 11 * t
end K40
namespace K40
open PySem L2
open PyProof.Rows PySem.Spec
abbrev tx (cs : List Nat) : Str := ⟨cs.toArray⟩
abbrev chV (c : Nat) : V := V.str ⟨#[c]⟩
def LETC : List Nat := [97, 98, 99, 100, 101, 102, 103, 104, 105, 106, 107, 108, 109, 110, 111, 112, 113, 114, 115, 116, 117, 118, 119, 120, 121, 122]
def low (cs : List Nat) : Prop := ∀ c ∈ cs, 97 ≤ c ∧ c ≤ 122
theorem low_letc : low LETC := by
  show ∀ c ∈ LETC, 97 ≤ c ∧ c ≤ 122
  decide
theorem nd_letc : LETC.Nodup := by decide
theorem letters_eq : ((Str.ofString "abcdefghijklmnopqrstuvwxyz").cps.toList.map fun c => V.str ⟨#[c]⟩) = LETC.map chV := by rfl
theorem tx_inj {a b : List Nat} (h : tx a = tx b) : a = b := by
  have : a.toArray = b.toArray := congrArg Str.cps h
  exact congrArg Array.toList this
theorem ch_inj {a b : Nat} (h : chV a = chV b) : a = b := by
  have h1 : (⟨#[a]⟩ : Str) = ⟨#[b]⟩ := V.str.inj h
  have h2 : (#[a] : Array Nat) = #[b] := congrArg Str.cps h1
  simpa using h2
theorem join_ones : ∀ cs : List Nat, Txt.join (Str.ofString "") (cs.map fun c => (⟨#[c]⟩ : Str)) = tx cs := by
  have e0 : Str.ofString "" = Str.empty := by rfl
  have key : ∀ cs : List Nat, Str.join Str.empty (cs.map fun c => (⟨#[c]⟩ : Str)) = tx cs := by
    intro cs
    induction cs with
    | nil => rfl
    | cons c cs ih =>
      cases cs with
      | nil => rfl
      | cons d cs =>
        show (⟨#[c]⟩ : Str) ++ Str.empty ++ Str.join Str.empty ((d :: cs).map fun c => (⟨#[c]⟩ : Str)) = _
        rw [ih]
        show (⟨(#[c] ++ (#[] : Array Nat)) ++ (d :: cs).toArray⟩ : Str) = ⟨(c :: d :: cs).toArray⟩
        simp
  intro cs
  rw [TL.join_eq, e0, key]
theorem nmC_tx {cs : List Nat} (h1 : 1 ≤ cs.length) (h2 : cs.length ≤ 8) (h : low cs) : nmC (tx cs) = true := by
  unfold nmC
  have e : (tx cs).length = cs.length := by show (cs.toArray).size = _; simp
  rw [e, decide_eq_true ⟨h1, h2⟩, Bool.true_and, List.all_eq_true]
  intro c hc
  have hc' : c ∈ cs := by simpa using hc
  rw [decide_eq_true (h c hc').1, decide_eq_true (h c hc').2]
  rfl
theorem sub_map {α : Type} {f : α → V} {xs : List α} : ∀ {ys : List V}, (∀ y ∈ ys, y ∈ xs.map f) → ∃ cs : List α, ys = cs.map f ∧ ∀ c ∈ cs, c ∈ xs
  | [], _ => ⟨[], rfl, fun _ h => by cases h⟩
  | y :: ys, h => by
    obtain ⟨cs, e, m⟩ := sub_map (ys := ys) fun z hz => h z (List.mem_cons_of_mem _ hz)
    obtain ⟨c, hc, e2⟩ := List.mem_map.mp (h y List.mem_cons_self)
    refine ⟨c :: cs, by rw [List.map_cons, e, e2], fun d hd => ?_⟩
    rcases List.mem_cons.mp hd with rfl | hd
    · exact hc
    · exact m d hd
theorem nd_of_map {α β : Type} {f : α → β} {cs : List α} (h : (cs.map f).Nodup) : cs.Nodup := by
  unfold List.Nodup at h ⊢
  rw [List.pairwise_map] at h
  exact h.imp fun hab e => hab (by rw [e])
theorem nd_map {α β : Type} {f : α → β} {cs : List α} (inj : ∀ a ∈ cs, ∀ b ∈ cs, f a = f b → a = b) (h : cs.Nodup) : (cs.map f).Nodup := by
  induction cs with
  | nil => exact List.nodup_nil
  | cons c cs ih =>
    rw [List.nodup_cons] at h
    rw [List.map_cons, List.nodup_cons]
    refine ⟨fun hm => ?_, ih (fun a ha b hb => inj a (List.mem_cons_of_mem _ ha) b (List.mem_cons_of_mem _ hb)) h.2⟩
    obtain ⟨d, hd, e⟩ := List.mem_map.mp hm
    have := inj d (List.mem_cons_of_mem _ hd) c List.mem_cons_self e
    exact h.1 (this ▸ hd)
theorem few_of {α : Type} {f : α → V} {xs : List α} (inj : ∀ a ∈ xs, ∀ b ∈ xs, f a = f b → a = b) (nd : xs.Nodup) {ys rest : List V} (pm : (xs.map f).Perm (ys ++ rest)) : ∃ cs : List α, ys = cs.map f ∧ (∀ c ∈ cs, c ∈ xs) ∧ cs.Nodup := by
  obtain ⟨cs, rfl, m⟩ := sub_map (f := f) (xs := xs) (ys := ys) fun y hy => pm.mem_iff.mpr (List.mem_append_left _ hy)
  exact ⟨cs, rfl, m, nd_of_map (List.nodup_append.mp (pm.nodup_iff.mp (nd_map inj nd))).1⟩
theorem few_letters {ys rest : List V} (pm : (LETC.map chV).Perm (ys ++ rest)) : ∃ cs : List Nat, ys = cs.map chV ∧ low cs ∧ cs.Nodup := by
  obtain ⟨cs, e, m, nd⟩ := few_of (fun a _ b _ h => ch_inj h) nd_letc pm
  exact ⟨cs, e, fun c hc => low_letc c (m c hc), nd⟩
theorem chs_map (cs : List Nat) : cs.map chV = (cs.map fun c => (⟨#[c]⟩ : Str)).map V.str := by
  rw [List.map_map]
  rfl
theorem ones_len (cs : List Nat) : ((cs.map fun c => (⟨#[c]⟩ : Str)).map (·.length)).sum = cs.length := by
  induction cs with
  | nil => rfl
  | cons c cs ih =>
    rw [List.map_cons, List.map_cons, List.sum_cons, ih, List.length_cons]
    show 1 + cs.length = cs.length + 1
    omega
theorem cut_tx (cs : List Nat) (k : Nat) : cutS (tx cs) none (some (k : Int)) = tx (cs.take k) := by
  unfold cutS
  rw [HT.sIx_none, HT.sIx_nat]
  have e : (tx cs).length = cs.length := by show (cs.toArray).size = _; simp
  rw [e]
  show (⟨((cs.toArray.toList.drop 0).take (min k cs.length - 0)).toArray⟩ : Str) = _
  simp only [List.drop_zero, Nat.sub_zero]
  congr 2
  show cs.take (min k cs.length) = cs.take k
  rcases Nat.le_total k cs.length with h | h
  · rw [Nat.min_eq_left h]
  · rw [Nat.min_eq_right h, List.take_length, List.take_of_length_le h]
section
variable {P : Program} {w : World} {K : PySem.W.Frag}
                                                      {mg : Str → Option Value} {base : Heap}
/-- the names: different, each a name -/
def sp_w_names (K : PySem.W.Frag) : Sp := fun vs H Q _ => ∃ (r : Addr) (many : Nat), vs = [.ref r, .int (many : Int)] ∧ Rl H r ∧ 1 ≤ many ∧ many ≤ 8 ∧
  ∀ l (ns : List Str) H', Rl H' r → Only r H H' → H l = none → H' l = some (.lst (ns.map V.str)) → ns.Nodup → ns.length = many → (∀ n ∈ ns, nmC n = true) → Q (.ref l) H'
theorem ok_w_names (T : T K mg) : FnOk P w K mg base CX0 3 T.f_w_names T.d_w_names ["tray", "many"] (sp_w_names K) := by
  have G_w_few : FnOk P w K mg base CX0 2 T.f_w_few T.d_w_few ["tray", "items", "many"] (sp_w_few K) := ok_w_few T
  have G_w_pick : FnOk P w K mg base CX0 2 T.f_w_pick T.d_w_pick ["tray", "items"] (sp_w_pick K) := ok_w_pick T
  have G_w_roll : FnOk P w K mg base CX0 1 T.f_w_roll T.d_w_roll ["tray", "total"] (sp_w_roll K) := ok_w_roll T
  refine T.F_w_names.ok sc_w_names (fun vs H Q E h => ?_) (fun cdv A outer s H vs Q E hr h => ?_)
  · obtain ⟨r, many, rfl, _⟩ := h
    rfl
  · obtain ⟨r, many, rfl, hR, m1, m8, k⟩ := h
    have hu := hu_of hr
    have hr_w_few : Room 2 _ := hr.mono (by decide)
    have hr_w_pick : Room 2 _ := hr.mono (by decide)
    have hr_w_roll : Room 1 _ := hr.mono (by decide)
    refine ⟨_, (pss_cons (ps_set (i := 2) sc_w_names.nd rfl (Or.inr rfl) (pe_callTy (RL.cr_listStr rfl) (by rfl) T.z_list (by decide +kernel) (pa_cons pe_str pa_nil)))
      (pss_cons (ps_if (pt_cmpR op_eq (pe_call G_w_roll hr_w_roll rfl T.m_w_roll T.F_w_roll.kp T.b_w_roll .nil pass0 (pa_cons (pv 0) (pa_cons pe_int pa_nil))) pe_int (nomark _))
      (pss_cons (ps_set (i := 3) sc_w_names.nd rfl (Or.inr rfl) (pe_join pe_str (pe_lc (own := [("turn", 6)]) (g := gName 6) rfl sc_w_names.nd (pi_range1 (by rfl) T.z_range (pa_cons pe_int pa_nil)) (blkOk_by (N := ["tray", "many", "letters", "stem", "found", "letter", "turn", "size"]) (sc := defScope s_w_names) (by decide +kernel)) (fun _ _ _ _ _ => (pg_name (i := 6) sc_w_names.nd rfl (Or.inl rfl))) (fun _ _ _ _ _ => pts_nil) (fun _ _ _ _ _ => (pe_call G_w_pick hr_w_pick rfl T.m_w_pick T.F_w_pick.kp T.b_w_pick .nil pass0 (pa_cons (pv 0) (pa_cons (pv 2) pa_nil)))))))
      (pss_one (ps_ret (pe_lc (own := [("size", 7)]) (g := gName 7) rfl sc_w_names.nd (pi_list (pe_call G_w_few hr_w_few rfl T.m_w_few T.F_w_few.kp T.b_w_few .nil pass0 (pa_cons (pv 0) (pa_cons (pe_lst (pa_cons pe_int (pa_cons pe_int (pa_cons pe_int (pa_cons pe_int (pa_cons pe_int (pa_cons pe_int (pa_cons pe_int (pa_cons pe_int pa_nil))))))))) (pa_cons (pv 1) pa_nil))))) (blkOk_by (N := ["tray", "many", "letters", "stem", "found", "letter", "turn", "size"]) (sc := defScope s_w_names) (by decide +kernel)) (fun _ _ _ _ _ => (pg_name (i := 7) sc_w_names.nd rfl (Or.inl rfl))) (fun _ _ _ _ _ => pts_nil) (fun _ _ _ _ _ => (pe_slice sl_str (pv 3) po_none (po_some (pv 7))))))))
      pss_nil)
      (pss_cons (ps_asg (pe_tup (pa_cons (pe_join pe_str (pe_call G_w_few hr_w_few rfl T.m_w_few T.F_w_few.kp T.b_w_few .nil pass0 (pa_cons (pv 0) (pa_cons (pv 2) (pa_cons (pe_call G_w_roll hr_w_roll rfl T.m_w_roll T.F_w_roll.kp T.b_w_roll .nil pass0 (pa_cons (pv 0) (pa_cons pe_int pa_nil))) pa_nil))))) (pa_cons (pe_lst pa_nil) pa_nil))) (pg_tup rfl (pgs_cons (pg_name (i := 3) sc_w_names.nd rfl (Or.inr rfl)) (pgs_cons (pg_name (i := 4) sc_w_names.nd rfl (Or.inl rfl)) pgs_nil))))
      (pss_cons (ps_for PassesOwn.never rfl (pi_list (pe_call G_w_few hr_w_few rfl T.m_w_few T.F_w_few.kp T.b_w_few .nil pass0 (pa_cons (pv 0) (pa_cons (pv 2) (pa_cons (pv 1) pa_nil))))) (pg_name (i := 5) sc_w_names.nd rfl (Or.inl rfl))
      (pss_one (ps_expr (pe_bm PySem.F.plainAttrs_list PySem.F.slot_list_append PySem.F.type_list_append mt_append (pv 4) (pa_cons (pe_op op_add_str (pe_op op_add_str (pv 3) (pv 5)) (pe_join pe_str (pe_call G_w_few hr_w_few rfl T.m_w_few T.F_w_few.kp T.b_w_few .nil pass0 (pa_cons (pv 0) (pa_cons (pv 2) (pa_cons (pe_call G_w_pick hr_w_pick rfl T.m_w_pick T.F_w_pick.kp T.b_w_pick .nil pass0 (pa_cons (pv 0) (pa_cons (pe_lst (pa_cons pe_int (pa_cons pe_int (pa_cons pe_int (pa_cons pe_int (pa_cons pe_int pa_nil)))))) pa_nil))) pa_nil)))))) pa_nil)))))
      (pss_one (ps_ret (pv 4))))))), ?_⟩
    refine ⟨_, rfl, by show 26 ≤ sizeLine; decide, fun la hla => ?_⟩
    have S0 : Same H (upd H la (.lst (LETC.map chV))) := Same.new hla
    have e0 : (upd H la (.lst (LETC.map chV))) la = some (.lst (LETC.map chV)) := upd_same
    have R0 := Same.rl S0 hR
    have nla : la ≠ r := hR.ne hla
    rw [letters_eq]
    generalize upd H la (.lst (LETC.map chV)) = H0 at S0 e0 R0 ⊢
    refine ⟨_, rfl, r, 4, rfl, R0, by decide, by decide +kernel, fun v H1 v0 v1 R1 O1 => ⟨rfl, _, rfl, ?_⟩⟩
    have e1 := O1 _ _ nla e0
    refine ite2 (fun c => ?_) (fun c => ?_)
    · clear c
      refine ⟨⟨_, rfl⟩, ?_⟩
      refine ⟨_, rfl, by decide, by decide, fun D hD => ?_⟩
      have nDr : D ≠ r := R1.ne hD
      have nDa : la ≠ D := ne_of_none e1 hD
      refine lc_range (n := 8) (fun i H' => ∃ cs : List Nat, cs.length = i ∧ low cs ∧ H' D = some (.lst (cs.map chV)) ∧ Rl H' r ∧ Only r H1 H') ⟨[], rfl, (fun _ h => by cases h), upd_same, R1.new hD, Only.new hD⟩ ?_ ?_
      · rintro i H2 hi ⟨cs, lc, lw, eD, R2, O2⟩
        refine ⟨rfl, ?_⟩
        unfold tYes
        dsimp only
        rw [if_pos rfl]
        refine ⟨_, rfl, _, rfl, r, _, LETC.map chV, rfl, R2, .inl ⟨la, rfl, nla, .inl (SqL.of (O2 _ _ nla e1))⟩, by decide, by decide, fun u H3 hu3 R3 O3 => ?_⟩
        obtain ⟨c, hc, rfl⟩ := List.mem_map.mp hu3
        refine ⟨_, O3 _ _ nDr eD, by rw [List.length_map, lc, sizeLine_eq]; omega, cs ++ [c], by rw [List.length_append, lc]; rfl, ?_, by rw [upd_same, List.map_append]; rfl, ?_, ?_⟩
        · intro d hd
          rcases List.mem_append.mp hd with hd | hd
          · exact lw d hd
          · rw [List.mem_singleton.mp hd]
            exact low_letc c hc
        · obtain ⟨x1, x2, x3, q⟩ := R3
          exact ⟨x1, x2, x3, by rw [upd_ne nDr.symm]; exact q⟩
        · intro b o nb e
          rw [upd_ne (ne_of_none e hD)]
          exact O3 _ _ nb (O2 _ _ nb e)
      · rintro H2 ⟨cs, lc, lw, eD, R2, O2⟩
        refine ⟨_, D, cs.map fun c => (⟨#[c]⟩ : Str), rfl, rfl, .inl (SqL.of (by rw [eD, chs_map])), by rw [ones_len, lc, List.length_map, lc]; decide, ?_⟩
        rw [join_ones]
        refine ⟨_, rfl, by show 8 ≤ sizeLine; decide, fun l8 hl8 => ?_⟩
        have n8 : l8 ≠ r := R2.ne hl8
        refine ⟨_, rfl, r, l8, _, many, rfl, R2.new hl8, .inl (SqL.of upd_same), by decide, by omega, by omega, fun l' ys rest H3 R3 O3 hl' el' pm ly => ?_⟩
        have O23 : Only r H2 H3 := Only.trans (Only.new hl8) O3
        have O13 : Only r H1 H3 := Only.trans O2 O23
        have nl'r : l' ≠ r := by
          have := R2.new (o := .lst [V.int 1, .int 2, .int 3, .int 4, .int 5, .int 6, .int 7, .int 8]) hl8
          exact this.ne hl'
        obtain ⟨ks, rfl, mk, ndk⟩ := few_of (f := fun n : Nat => V.int (n : Int)) (xs := [1, 2, 3, 4, 5, 6, 7, 8]) (fun a _ b _ h => by have := V.int.inj h; omega) (by decide) pm
        rw [List.length_map] at ly
        have lk : ks.length = many := by
          have h8 : (if ((([V.int 1, .int 2, .int 3, .int 4, .int 5, .int 6, .int 7, .int 8] : List V).length : Nat) : Int) < (many : Int) then ((([V.int 1, .int 2, .int 3, .int 4, .int 5, .int 6, .int 7, .int 8] : List V).length : Nat) : Int) else (many : Int)) = many := by
            show (if ((8 : Nat) : Int) < (many : Int) then _ else _) = _
            rw [if_neg (by omega)]
          have := ly.trans h8
          omega
        refine ⟨l', rfl, ⟨_, SqL.of el'⟩, fun F hF => ?_⟩
        have nFl : l' ≠ F := ne_of_none el' hF
        refine lc_list (xs := ks.map fun n : Nat => V.int (n : Int)) (fun i H' => H' F = some (.lst ((ks.take i).map fun n => V.str (tx (cs.take n)))) ∧ Same H3 H') ⟨upd_same, Same.new hF⟩ (fun i H' _ h => SqL.of (h.2 _ _ el')) ?_ ?_
        · rintro i x H4 hx ⟨eF, S4⟩
          refine ⟨rfl, ?_⟩
          unfold tYes
          dsimp only
          rw [if_pos rfl]
          rw [List.getElem?_map] at hx
          cases e2 : ks[i]? with
          | none => rw [e2] at hx; cases hx
          | some n =>
            rw [e2] at hx
            cases hx
            refine ⟨_, rfl, _, rfl, _, rfl, _, rfl, by show (cs.toArray).size ≤ sizeLine; rw [List.size_toArray, lc]; decide, ?_⟩
            rw [cut_tx]
            have li : i < ks.length := (List.getElem?_eq_some_iff.mp e2).1
            refine ⟨_, eF, by rw [List.length_map, List.length_take, sizeLine_eq]; omega, ?_, Same.at hF S4⟩
            rw [upd_same, List.take_add_one, e2, List.map_append]
            rfl
        · rintro H4 ⟨eF, S4⟩
          rw [List.length_map, List.take_length] at eF
          refine k F (ks.map fun n => tx (cs.take n)) H4 (Same.rl S4 R3) ?_ ?_ (by rw [eF, List.map_map]; rfl) ?_ (by rw [List.length_map, lk]) ?_
          · exact Only.trans (Only.trans (Same.only S0) (Only.trans O1 O13)) (Same.only S4)
          · cases e5 : H F with
            | none => rfl
            | some o =>
              have nFr : F ≠ r := fun z => by rw [z] at hF; obtain ⟨_, _, _, q⟩ := R3; rw [q] at hF; cases hF
              have := O13 _ _ nFr (O1 _ _ nFr (S0 _ _ e5))
              rw [this] at hF
              cases hF
          · refine nd_map (fun a ha b hb e => ?_) ndk
            have ha' := mk a ha
            have hb' := mk b hb
            have e6 := congrArg List.length (tx_inj e)
            rw [List.length_take, List.length_take, lc] at e6
            simp only [List.mem_cons, List.not_mem_nil, or_false] at ha' hb'
            omega
          · intro n hn
            obtain ⟨m, hm, rfl⟩ := List.mem_map.mp hn
            have hm' := mk m hm
            simp only [List.mem_cons, List.not_mem_nil, or_false] at hm'
            refine nmC_tx ?_ ?_ fun c hc => lw c (List.mem_of_mem_take hc)
            · rw [List.length_take, lc]; omega
            · rw [List.length_take, lc]; omega
    · clear c
      refine ⟨⟨_, rfl⟩, ?_⟩
      refine ⟨_, rfl, _, rfl, _, rfl, r, 4, rfl, R1, by decide, by decide +kernel, fun u H2 u0 u1 R2 O2 => ?_⟩
      have e2 := O2 _ _ nla e1
      refine ⟨r, la, _, u, rfl, R2, .inl (SqL.of e2), by decide, u0, by omega, fun l' ys rest H3 R3 O3 hl' el' pm ly => ?_⟩
      obtain ⟨ss, rfl, ls, _⟩ := few_letters pm
      have lss : ss.length ≤ 3 := by
        rw [List.length_map] at ly
        have e26 : (LETC.map chV).length = 26 := rfl
        rw [e26, if_neg (by omega)] at ly
        omega
      refine ⟨_, l', ss.map fun c => (⟨#[c]⟩ : Str), rfl, rfl, .inl (SqL.of (by rw [el', chs_map])), by rw [ones_len, List.length_map]; show ss.length + ss.length * 0 ≤ _; omega, ?_⟩
      rw [join_ones]
      have e3 := O3 _ _ nla e2
      refine ⟨by show 0 ≤ sizeLine; decide, fun f hf => ⟨by show 2 ≤ sizeLine; decide, fun t ht => ?_⟩⟩
      have nfr : f ≠ r := R3.ne hf
      have nfa : la ≠ f := ne_of_none e3 hf
      have nft : f ≠ t := ne_of_none (upd_same (a := f) (H := H3) (o := .lst [])) ht
      have htu := ht
      rw [upd_ne nft.symm] at ht
      have S3 : Same H3 (upd (upd H3 f (.lst [])) t (.tup [V.str (tx ss), V.ref f])) := fun b o e => by
        rw [upd_ne (ne_of_none e ht), upd_ne (ne_of_none e hf)]
        exact e
      have ef : (upd (upd H3 f (.lst [])) t (.tup [V.str (tx ss), V.ref f])) f = some (.lst []) := by rw [upd_ne nft, upd_same]
      refine ⟨t, _, rfl, SqT.of upd_same, rfl, _, _, rfl, ?_⟩
      have R4 := Same.rl S3 R3
      have e4 := S3 _ _ e3
      have O14 : Only r H1 (upd (upd H3 f (.lst [])) t (.tup [V.str (tx ss), V.ref f])) := Only.trans (Only.trans O2 O3) (Same.only S3)
      have hf1 : H f = none := by
        cases e5 : H f with
        | none => rfl
        | some o =>
          have := O3 _ _ nfr (O2 _ _ nfr (O1 _ _ nfr (S0 _ _ e5)))
          rw [this] at hf
          cases hf
      generalize upd (upd H3 f (.lst [])) t (.tup [V.str (tx ss), V.ref f]) = H4 at S3 ef R4 e4 O14 ⊢
      refine ⟨_, _, rfl, rfl, ?_⟩
      refine ⟨_, rfl, _, rfl, _, rfl, r, la, _, many, rfl, R4, .inl (SqL.of e4), by decide, by omega, by omega, fun lm ys rest H5 R5 O5 hlm elm pm ly => ?_⟩
      obtain ⟨cs, rfl, lc, ndc⟩ := few_letters pm
      have lcm : cs.length = many := by
        rw [List.length_map] at ly
        have e26 : (LETC.map chV).length = 26 := rfl
        rw [e26, if_neg (by omega)] at ly
        omega
      have ef5 := O5 _ _ nfr ef
      have e5 := O5 _ _ nla e4
      have nlm : lm ≠ r := R4.ne hlm
      have nlf : lm ≠ f := fun z => by rw [z, ef] at hlm; cases hlm
      refine ⟨lm, rfl, ⟨_, SqL.of elm⟩, for_list (xs := cs.map chV) (fun i σ H' => (∃ v, σ = [some (.ref r), some (.int many), some (.ref la), some (.str (tx ss)), some (.ref f), v, none, none]) ∧ Rl H' r ∧ (∀ b o, b ≠ r → b ≠ f → H5 b = some o → H' b = some o) ∧
        ∃ ps : List (Nat × List Nat), ps.map (·.1) = cs.take i ∧ H' f = some (.lst (ps.map fun p => V.str (tx (ss ++ p.1 :: p.2)))) ∧ ∀ p ∈ ps, low p.2 ∧ p.2.length ≤ 4)
        ⟨⟨none, rfl⟩, R5, (fun b o _ _ e => e), [], rfl, ef5, fun _ h => by cases h⟩ (fun i σ H' _ h => SqL.of (h.2.2.1 _ _ nlm nlf elm)) ?_ ?_⟩
      · rintro i x σ' H6 hx ⟨⟨v', rfl⟩, R6, O6, ps, ep, ef6, hps⟩
        rw [List.getElem?_map] at hx
        cases ec : cs[i]? with
        | none => rw [ec] at hx; cases hx
        | some c =>
          rw [ec] at hx
          cases hx
          have li : i < cs.length := (List.getElem?_eq_some_iff.mp ec).1
          have hc : 97 ≤ c ∧ c ≤ 122 := lc c (List.mem_of_getElem? ec)
          refine ⟨_, rfl, .inl ⟨rfl, _, SqL.of ef6⟩, ?_⟩
          have l1 : (tx ss).length = ss.length := by show (ss.toArray).size = _; simp
          refine ⟨_, rfl, _, rfl, _, _, rfl, rfl, by rw [l1, sizeLine_eq]; show ss.length + 1 ≤ _; omega, ?_⟩
          refine ⟨⟨_, rfl⟩, _, rfl, _, rfl, _, rfl, by show 5 ≤ sizeLine; decide, fun l5 hl5 => ?_⟩
          have R7 : Rl (upd H6 l5 (.lst [V.int 0, .int 0, .int 1, .int 2, .int 4])) r := R6.new hl5
          refine ⟨r, _, [V.int 0, .int 0, .int 1, .int 2, .int 4], rfl, R7, .inl ⟨l5, rfl, R6.ne hl5, .inl (SqL.of upd_same)⟩, by decide, by show 5 ≤ sizeLine; decide, fun pv' H7 hpv R8 O8 => ?_⟩
          have eL : H6 la = some (.lst (LETC.map chV)) := O6 _ _ nla nfa e5
          obtain ⟨n4, rfl, h0, h4⟩ : ∃ n : Int, pv' = .int n ∧ 0 ≤ n ∧ n ≤ 4 := by
            simp only [List.mem_cons, List.not_mem_nil, or_false] at hpv
            rcases hpv with rfl | rfl | rfl | rfl | rfl
            · exact ⟨0, rfl, by decide, by decide⟩
            · exact ⟨0, rfl, by decide, by decide⟩
            · exact ⟨1, rfl, by decide, by decide⟩
            · exact ⟨2, rfl, by decide, by decide⟩
            · exact ⟨4, rfl, by decide, by decide⟩
          have O67 : Only r H6 H7 := Only.trans (Only.new hl5) O8
          refine ⟨r, la, _, n4, rfl, R8, .inl (SqL.of (O67 _ _ nla eL)), by decide, h0, by omega, fun lt ys rest H8 R9 O9 hlt elt pm ly => ?_⟩
          obtain ⟨ts, rfl, lt4, _⟩ := few_letters pm
          have ltl : ts.length ≤ 4 := by
            rw [List.length_map] at ly
            have e26 : (LETC.map chV).length = 26 := rfl
            rw [e26, if_neg (by omega)] at ly
            omega
          refine ⟨_, lt, ts.map fun c => (⟨#[c]⟩ : Str), rfl, rfl, .inl (SqL.of (by rw [elt, chs_map])), by rw [ones_len, List.length_map]; show ts.length + ts.length * 0 ≤ _; omega, ?_⟩
          rw [join_ones]
          have l2 : (tx ts).length = ts.length := by show (ts.toArray).size = _; simp
          refine ⟨_, _, rfl, rfl, ?_, ?_⟩
          · show ((ss.toArray ++ #[c]).size + ts.toArray.size) ≤ sizeLine
            simp only [Array.size_append, List.size_toArray, sizeLine_eq]
            show ss.length + 1 + ts.length ≤ _
            omega
          have ecat : (tx ss ++ (⟨#[c]⟩ : Str)) ++ tx ts = tx (ss ++ c :: ts) := by
            show (⟨(ss.toArray ++ #[c]) ++ ts.toArray⟩ : Str) = ⟨(ss ++ c :: ts).toArray⟩
            simp
          rw [ecat]
          have O68 : Only r H6 H8 := Only.trans O67 O9
          refine ⟨f, _, _, rfl, rfl, O68 _ _ nfr ef6, ?_, ⟨_, rfl⟩, ?_, ?_, ps ++ [(c, ts)], ?_, ?_, ?_⟩
          · rw [List.length_map, sizeLine_eq]
            have := congrArg List.length ep
            rw [List.length_map, List.length_take] at this
            omega
          · obtain ⟨x1, x2, x3, q⟩ := R9
            exact ⟨x1, x2, x3, by rw [upd_ne nfr.symm]; exact q⟩
          · intro b o nb nbf e
            rw [upd_ne nbf]
            exact O68 _ _ nb (O6 _ _ nb nbf e)
          · rw [List.map_append, ep, List.take_add_one, ec]
            rfl
          · rw [upd_same, List.map_append]
            rfl
          · intro p hp
            rcases List.mem_append.mp hp with hp | hp
            · exact hps p hp
            · rw [List.mem_singleton.mp hp]
              exact ⟨lt4, ltl⟩
      · rintro σ' H6 ⟨⟨v', rfl⟩, R6, O6, ps, ep, ef6, hps⟩
        rw [List.length_map, List.take_length] at ep
        refine ⟨_, rfl, k f (ps.map fun p => tx (ss ++ p.1 :: p.2)) H6 R6 ?_ hf1 (by rw [ef6, List.map_map]; rfl) ?_ (by rw [List.length_map, ← lcm, ← ep, List.length_map]) ?_⟩
        · intro b o nb e
          have nbf : b ≠ f := ne_of_none e hf1
          exact O6 _ _ nb nbf (O5 _ _ nb (O14 _ _ nb (O1 _ _ nb (S0 _ _ e))))
        · have ndp : (ps.map (·.1)).Nodup := by rw [ep]; exact ndc
          refine nd_map (fun a ha b hb e => ?_) (nd_of_map ndp)
          have e7 := tx_inj e
          have e8 := List.append_cancel_left e7
          obtain ⟨e9, e10⟩ := List.cons.inj e8
          obtain ⟨a1, a2⟩ := a
          obtain ⟨b1, b2⟩ := b
          simp only at e9 e10
          rw [e9, e10]
        · intro n hn
          obtain ⟨p, hp, rfl⟩ := List.mem_map.mp hn
          obtain ⟨q1, q2⟩ := hps p hp
          have hpc : p.1 ∈ cs := by rw [← ep]; exact List.mem_map.mpr ⟨p, hp, rfl⟩
          refine nmC_tx (by rw [List.length_append, List.length_cons]; omega) (by rw [List.length_append, List.length_cons]; omega) fun c hc => ?_
          rcases List.mem_append.mp hc with hc | hc
          · exact ls c hc
          · rcases List.mem_cons.mp hc with rfl | hc
            · exact lc _ hpc
            · exact q1 c hc
end
end K40
namespace K40
open PySem L2
open PyProof.Rows PySem.Spec
section
variable {P : Program} {w : World} {K : PySem.W.Frag}
                                                      {mg : Str → Option Value} {base : Heap}
/-- pairs (name, the tuple of the name) -/
def PairsAt (H : Hp) (ps : List Addr) (L : List (Str × Addr)) : Prop := Paired (fun p q => H p = some (.tup [.str q.1, .ref q.2])) ps L
theorem PairsAt.keep {H H' : Hp} (k : KT H H') {ps : List Addr} {L : List (Str × Addr)} (h : PairsAt H ps L) : PairsAt H' ps L := by
  unfold PairsAt at h ⊢
  induction h with
  | nil => exact .nil
  | cons a b ih => exact .cons (k _ _ a) ih
theorem PairsAt.snoc {H : Hp} {ps : List Addr} {L : List (Str × Addr)} (h : PairsAt H ps L) {p t : Addr} {n : Str} (q : H p = some (.tup [.str n, .ref t])) : PairsAt H (ps ++ [p]) (L ++ [(n, t)]) := by
  unfold PairsAt at h ⊢
  induction h with
  | nil => exact .cons q .nil
  | cons a b ih => exact .cons a ih
theorem PairsAt.pd {K : PySem.W.Frag} {H : Hp} {ps : List Addr} {L : List (Str × Addr)} (h : PairsAt H ps L) : Paired (fun p kv => SqT K H p [kV kv.1, kv.2]) ps (Kvs L) := by
  unfold PairsAt at h
  induction h with
  | nil => exact .nil
  | cons a b ih => exact .cons (SqT.of a) ih
/-- the rows that some names have -/
def pickR (R : Rws) (ns : List Str) : Rws := ns.map fun n => (n, (R.lookup n).getD (0, 0))
theorem lookup_mem : ∀ {R : Rws} {n : Str} {p : Int × Int}, (R.map (·.1)).Nodup → (n, p) ∈ R → R.lookup n = some p
  | [], _, _, _, h => by cases h
  | (m, u) :: R, n, p, nd, h => by
    rw [List.map_cons, List.nodup_cons] at nd
    rcases List.mem_cons.mp h with e | e
    · cases e
      exact List.lookup_cons_self
    · have hne : (n == m) = false := by
        rw [beq_eq_false_iff_ne]
        rintro rfl
        exact nd.1 (List.mem_map.mpr ⟨_, e, rfl⟩)
      rw [List.lookup_cons, hne]
      exact lookup_mem nd.2 e
theorem pickR_names (R : Rws) (ns : List Str) : (pickR R ns).map (·.1) = ns := by
  unfold pickR
  rw [List.map_map]
  exact List.map_id' _
theorem pickR_mem {R : Rws} {ns : List Str} (nd : (R.map (·.1)).Nodup) (sub : ∀ n ∈ ns, n ∈ R.map (·.1)) : ∀ x ∈ pickR R ns, x ∈ R := by
  intro x hx
  obtain ⟨n, hn, rfl⟩ := List.mem_map.mp hx
  obtain ⟨⟨m, p⟩, hm, e⟩ := List.mem_map.mp (sub n hn)
  obtain rfl : m = n := e
  rw [lookup_mem nd hm]
  exact hm
theorem pickR_perm {R : Rws} {ns : List Str} (nd : (R.map (·.1)).Nodup) (pm : ns.Perm (R.map (·.1))) : (pickR R ns).Perm R := by
  have e : pickR R (R.map (·.1)) = R := by
    unfold pickR
    rw [List.map_map]
    have : ∀ x ∈ R, ((fun n => (n, (R.lookup n).getD (0, 0))) ∘ fun x => x.1) x = x := by
      rintro ⟨n, p⟩ hx
      show (n, (R.lookup n).getD (0, 0)) = (n, p)
      rw [lookup_mem nd hx]
      rfl
    rw [List.map_congr_left this]
    exact List.map_id' _
  have := pm.map fun n => (n, (R.lookup n).getD (0, 0))
  unfold pickR at e
  rw [e] at this
  exact this
theorem pickR_snoc (R : Rws) (ns : List Str) (n : Str) {p : Int × Int} (h : R.lookup n = some p) : pickR R (ns ++ [n]) = pickR R ns ++ [(n, p)] := by
  unfold pickR
  rw [List.map_append]
  show _ ++ [(n, (R.lookup n).getD (0, 0))] = _
  rw [h]
  rfl
def sp_w_sorted (K : PySem.W.Frag) : Sp := fun vs H Q _ => ∃ (d : Addr) (L : List (Str × Addr)) (R : Rws), vs = [.ref d] ∧ H d = some (.dK (Kvs L)) ∧ Tups H L R ∧ (R.map (·.1)).Nodup ∧ R.length ≤ 8 ∧
  ∀ d' L' S H', Same H H' → H d' = none → H' d' = some (.dK (Kvs L')) → Tups H' L' S → Srd R S → Q (.ref d') H'
theorem ok_w_sorted (T : T K mg) : FnOk P w K mg base CX0 1 T.f_w_sorted T.d_w_sorted ["rows"] (sp_w_sorted K) := by
  refine T.F_w_sorted.ok sc_w_sorted (fun vs H Q E h => ?_) (fun cdv A outer s H vs Q E hr h => ?_)
  · obtain ⟨d, L, R, rfl, _⟩ := h
    rfl
  · obtain ⟨d, L, R, rfl, hd, ts, nd, l8, k⟩ := h
    have hu := hu_of hr
    refine ⟨_, (pss_one (ps_ret (pe_callTy (call_dictP rfl) (by rfl) T.z_dict (by decide +kernel) (pa_cons (pe_lc (own := [("name", 1)]) (g := gName 1) rfl sc_w_sorted.nd (pi_list (pe_callB (call_sortedD rfl) (by rfl) T.z_sorted (by decide +kernel) (pa_cons (pv 0) pa_nil))) (blkOk_by (N := ["rows", "name"]) (sc := defScope s_w_sorted) (by decide +kernel)) (fun _ _ _ _ _ => (pg_name (i := 1) sc_w_sorted.nd rfl (Or.inl rfl))) (fun _ _ _ _ _ => pts_nil) (fun _ _ _ _ _ => (pe_tup (pa_cons (pv 1) (pa_cons (pe_dget (by exact hu) (pv 0) (pv 1) (fun _ _ => rfl)) pa_nil))))) pa_nil)))), ?_⟩
    refine ⟨_, rfl, d, _, L.map (·.1), rfl, .inl hd, kvs_keys L, by rw [List.length_map, ts.len]; omega, fun ys p pm so hp => ?_⟩
    have S1 := Same.new (o := .lst (ys.map V.str)) hp
    have ep : (upd H p (.lst (ys.map V.str))) p = some (.lst (ys.map V.str)) := upd_same
    generalize upd H p (.lst (ys.map V.str)) = H1 at S1 ep ⊢
    rw [ts.names] at pm
    refine ⟨p, rfl, ⟨_, SqL.of ep⟩, fun D hD => ?_⟩
    refine lc_list (xs := ys.map V.str) (fun i H' => Same H1 H' ∧ ∃ (ps : List Addr) (M : List (Str × Addr)), H' D = some (.lst (ps.map V.ref)) ∧ PairsAt H' ps M ∧ Tups H' M (pickR R (ys.take i)) ∧ ps.length = i) ⟨Same.new hD, [], [], upd_same, .nil, .nil, rfl⟩ (fun i H' _ h => SqL.of (h.1 _ _ ep)) ?_ ?_
    · rintro i x H2 hx ⟨S2, ps, M, eD, pa, tm, lp⟩
      refine ⟨rfl, ?_⟩
      unfold tYes
      dsimp only
      rw [if_pos rfl]
      rw [List.getElem?_map] at hx
      cases e2 : ys[i]? with
      | none => rw [e2] at hx; cases hx
      | some n =>
        rw [e2] at hx
        cases hx
        have hn : n ∈ R.map (·.1) := pm.mem_iff.mp (List.mem_of_getElem? e2)
        have S12 := Same.trans S1 S2
        have ts2 := ts.keep (KT.same S12)
        obtain ⟨t, b, e, hv, ht, hm⟩ := ts2.get hn
        refine ⟨_, rfl, _, rfl, _, rfl, d, V.ref t, rfl, ?_, by show 2 ≤ sizeLine; decide, fun q hq => ?_⟩
        · have := DGet.k (k := Sum.inr n) (S12 _ _ hd)
          rw [hv] at this
          exact this
        have nDq : D ≠ q := ne_of_none eD hq
        have li : i < ys.length := (List.getElem?_eq_some_iff.mp e2).1
        have l8' : ys.length ≤ 8 := by rw [pm.length_eq, List.length_map]; exact l8
        refine ⟨_, (by rw [upd_ne nDq]; exact eD), by rw [List.length_map, lp, sizeLine_eq]; omega, ?_, ps ++ [q], M ++ [(n, t)], by rw [upd_same, List.map_append]; rfl, ?_, ?_, by rw [List.length_append, lp]; rfl⟩
        · exact Same.at hD (Same.trans S2 (Same.new hq))
        · have kt : KT H2 (upd (upd H2 q (.tup [V.str n, V.ref t])) D (.lst (ps.map V.ref ++ [V.ref q]))) := KT.trans (KT.new hq) (KT.put (u := .lst (ps.map V.ref)) (by rw [upd_ne nDq]; exact eD) (fun _ z => by cases z))
          exact (pa.keep kt).snoc (by rw [upd_ne nDq.symm, upd_same])
        · have kt : KT H2 (upd (upd H2 q (.tup [V.str n, V.ref t])) D (.lst (ps.map V.ref ++ [V.ref q]))) := KT.trans (KT.new hq) (KT.put (u := .lst (ps.map V.ref)) (by rw [upd_ne nDq]; exact eD) (fun _ z => by cases z))
          rw [List.take_add_one, e2]
          show Tups _ _ (pickR R (ys.take i ++ [n]))
          rw [pickR_snoc R _ n (lookup_mem nd hm)]
          exact (tm.keep kt).snoc (kt _ _ ht)
    · rintro H2 ⟨S2, ps, M, eD, pa, tm, lp⟩
      rw [List.length_map, List.take_length] at tm
      refine ⟨D, ps, Kvs M, rfl, SqL.of eD, pa.pd, fun q hq => ?_⟩
      have nm : (M.map (·.1)).Nodup := by
        rw [tm.names, pickR_names]
        exact pm.nodup_iff.mpr nd
      have e0 : mergeK [] (Kvs M) = Kvs M := mergeK_kvs M [] (by simpa using nm)
      rw [e0]
      refine k q M (pickR R ys) _ (Same.trans S1 (Same.trans S2 (Same.new hq))) ?_ upd_same (tm.keep (KT.new hq)) ⟨pickR_perm nd pm, by rw [pickR_names]; exact so⟩
      cases e5 : H q with
      | none => rfl
      | some o =>
        rw [S2 _ _ (S1 _ _ e5)] at hq
        cases hq
end
end K40
namespace K40
open PySem L2
open PyProof.Rows PySem.Spec
theorem un64 {k : Nat} {A : Around} (r : Room k A) : A.units + 64 < cLine := by
  have := r.un
  omega
theorem nm_ok {z : Str} (h : nmC z = true) : PyData.strOk z = true := by
  unfold nmC at h
  have q := (Bool.and_eq_true_iff.mp h).2
  unfold PyData.strOk
  rw [← Array.all_toList, List.all_eq_true]
  intro c hc
  have e := List.all_eq_true.mp q c hc
  have e2 := of_decide_eq_true (Bool.and_eq_true_iff.mp e).2
  exact decide_eq_true (by omega)
theorem nmC_len {z : Str} (h : nmC z = true) : 1 ≤ z.length ∧ z.length ≤ 8 := by
  unfold nmC at h
  exact of_decide_eq_true (Bool.and_eq_true_iff.mp h).1
theorem shaped_names {ns : List Str} (h : ∀ n ∈ ns, nmC n = true) : SeqAt.shaped (.list (ns.map PyData.str)) = true := by
  have key : ∀ ns : List Str, (∀ n ∈ ns, nmC n = true) → PyData.canLayAll0 (ns.map PyData.str) = true ∧ PyData.depthAll (ns.map PyData.str) ≤ 1 := by
    intro ns
    induction ns with
    | nil => intro _; exact ⟨by simp [PyData.canLayAll0], by simp [PyData.depthAll]⟩
    | cons n ns ih =>
      intro h
      obtain ⟨h1, h2⟩ := ih fun q hq => h q (List.mem_cons_of_mem _ hq)
      have h3 := nm_ok (h n List.mem_cons_self)
      refine ⟨?_, ?_⟩
      · simp [PyData.canLayAll0, PyData.canLay0, h1, h3]
      · simp [PyData.depthAll, PyData.depth]
        omega
  obtain ⟨k1, k2⟩ := key ns h
  show ((PyData.list (ns.map PyData.str)).canLay0 && decide ((PyData.list (ns.map PyData.str)).depth ≤ 64)) = true
  rw [Bool.and_eq_true]
  exact ⟨by simp only [PyData.canLay0]; exact k1, decide_eq_true (by simp only [PyData.depth]; omega)⟩
theorem dpa_strs {K : PySem.W.Frag} {H : Hp} : ∀ ns : List Str, DpAll K H (ns.map V.str) (ns.map PyData.str)
  | [] => .nil
  | n :: ns => .cons (.str n) (dpa_strs ns)
theorem flat_strs (ns : List Str) : (ns.map V.str).all flatV = true := by
  rw [List.all_map, List.all_eq_true]
  intro n _
  rfl
theorem inV_strs (n : Str) (ns : List Str) : inV (.str n) (ns.map V.str) = decide (n ∈ ns) := by
  unfold inV
  rw [List.any_map]
  induction ns with
  | nil => rfl
  | cons m ns ih =>
    rw [List.any_cons, ih]
    show ((m == n) || _) = _
    by_cases e : n = m
    · subst e
      simp
    · have e' : (m == n) = false := by rw [beq_eq_false_iff_ne]; exact fun z => e z.symm
      rw [e', Bool.false_or]
      simp [e]
section
variable {P : Program} {w : World} {K : PySem.W.Frag}
                                                      {mg : Str → Option Value} {base : Heap}
def sp_w_rings (K : PySem.W.Frag) : Sp := fun vs H Q _ => ∃ (r l : Addr) (t : Int) (ns : List Str), vs = [.ref r, .int t, .ref l] ∧ Rl H r ∧ SqL K H l (ns.map V.str) ∧ 1 ≤ t ∧ t ≤ 32 ∧ ns.Nodup ∧ ns.length ≤ 8 ∧ (∀ n ∈ ns, nmC n = true) ∧
  ∀ d L (R : Rws) H', Rl H' r → Only r H H' → H d = none → H' d = some (.dK (Kvs L)) → Tups H' L R → (R.map (·.1)).Perm ns → (∀ x ∈ R, SpOk t x ∧ Fin1 t x) → Q (.ref d) H'
def sp_w_rows (K : PySem.W.Frag) : Sp := fun vs H Q _ => ∃ (r l : Addr) (t : Int) (ns : List Str), vs = [.ref r, .int t, .ref l] ∧ Rl H r ∧ l ≠ r ∧ SqL K H l (ns.map V.str) ∧ 1 ≤ t ∧ t ≤ 32 ∧ ns.Nodup ∧ ns.length ≤ 8 ∧ (∀ n ∈ ns, nmC n = true) ∧
  ∀ d L (R : Rws) H', Rl H' r → Only r H H' → H d = none → H' d = some (.dK (Kvs L)) → Tups H' L R → (R.map (·.1)).Perm ns → (∀ x ∈ R, SpOk t x ∧ Fin1 t x) → Q (.ref d) H'
theorem tups_put {H : Hp} {d q : Addr} {L : List (Str × Addr)} {R : Rws} {n : Str} {b e : Int} (hd : H d = some (.dK (Kvs L))) (ts : Tups H L R) (hn : n ∉ R.map (·.1)) (ht : TupAt H q b e) :
    (upd H d (.dK (putK (Kvs L) (.inr n) (.ref q)))) d = some (.dK (Kvs (L ++ [(n, q)]))) ∧ Tups (upd H d (.dK (putK (Kvs L) (.inr n) (.ref q)))) (L ++ [(n, q)]) (R ++ [(n, b, e)]) := by
  have hn' : n ∉ L.map (·.1) := by rw [ts.names]; exact hn
  have kt : KT H (upd H d (.dK (putK (Kvs L) (.inr n) (.ref q)))) := KT.put hd (fun _ z => by cases z)
  exact ⟨by rw [upd_same, putK_kvs hn'], (ts.keep kt).snoc (kt _ _ ht)⟩
theorem ok_w_rows (T : T K mg) (G_w_rings : FnOk P w K mg base CX0 3 T.f_w_rings T.d_w_rings ["tray", "interval", "names"] (sp_w_rings K)) : FnOk P w K mg base CX0 4 T.f_w_rows T.d_w_rows ["tray", "interval", "names"] (sp_w_rows K) := by
  have G_w_pick : FnOk P w K mg base CX0 2 T.f_w_pick T.d_w_pick ["tray", "items"] (sp_w_pick K) := ok_w_pick T
  have G_w_roll : FnOk P w K mg base CX0 1 T.f_w_roll T.d_w_roll ["tray", "total"] (sp_w_roll K) := ok_w_roll T
  refine T.F_w_rows.ok sc_w_rows (fun vs H Q E h => ?_) (fun cdv A outer s H vs Q E hr h => ?_)
  · obtain ⟨r, l, t, ns, rfl, _⟩ := h
    rfl
  · obtain ⟨r, l, t, ns, rfl, hR, nlr, hl, t1, t2, nd, l8, hnm, k⟩ := h
    have hu := hu_of hr
    have hr_w_pick : Room 2 _ := hr.mono (by decide)
    have hr_w_rings : Room 3 _ := hr.mono (by decide)
    have hr_w_roll : Room 1 _ := hr.mono (by decide)
    refine ⟨_, (pss_cons (ps_if (pt_cmpR op_eq (pe_call G_w_roll hr_w_roll rfl T.m_w_roll T.F_w_roll.kp T.b_w_roll .nil pass0 (pa_cons (pv 0) (pa_cons pe_int pa_nil))) pe_int (nomark _))
      (pss_one (ps_ret (pe_call G_w_rings hr_w_rings rfl T.m_w_rings T.F_w_rings.kp T.b_w_rings .nil pass0 (pa_cons (pv 0) (pa_cons (pv 1) (pa_cons (pv 2) pa_nil))))))
      pss_nil)
      (pss_cons (ps_set (i := 3) sc_w_rows.nd rfl (Or.inl rfl) pe_dnewK)
      (pss_cons (ps_for PassesOwn.never rfl (pi_list (pv 2)) (pg_name (i := 4) sc_w_rows.nd rfl (Or.inl rfl))
      (pss_cons (ps_set (i := 5) sc_w_rows.nd rfl (Or.inl rfl) (pe_op op_sub (pe_call G_w_roll hr_w_roll rfl T.m_w_roll T.F_w_roll.kp T.b_w_roll .nil pass0 (pa_cons (pv 0) (pa_cons (pe_op op_mul pe_int (pv 1)) pa_nil))) (pv 1)))
      (pss_cons (ps_set (i := 6) sc_w_rows.nd rfl (Or.inl rfl) (pe_op op_add pe_int (pe_call G_w_roll hr_w_roll rfl T.m_w_roll T.F_w_roll.kp T.b_w_roll .nil pass0 (pa_cons (pv 0) (pa_cons (pe_call G_w_pick hr_w_pick rfl T.m_w_pick T.F_w_pick.kp T.b_w_pick .nil pass0 (pa_cons (pv 0) (pa_cons (pe_lst (pa_cons (pv 1) (pa_cons (pv 1) (pa_cons (pv 1) (pa_cons (pe_op op_mul pe_int (pv 1)) (pa_cons (pe_op op_mul pe_int (pv 1)) pa_nil)))))) pa_nil))) pa_nil)))))
      (pss_one (ps_dput (by exact hu) (pv 3) (pv 4) (pe_tup (pa_cons (pv 5) (pa_cons (pe_op op_add (pv 5) (pv 6)) pa_nil))) rfl)))))
      (pss_one (ps_ret (pv 3)))))), ?_⟩
    refine ⟨_, rfl, r, 3, rfl, hR, by decide, by decide +kernel, fun v H1 v0 v1 R1 O1 => ⟨rfl, _, rfl, ?_⟩⟩
    have hl1 := O1.seqL nlr hl
    refine ite2 (fun c => ?_) (fun c => ?_)
    · clear c
      refine ⟨_, rfl, _, rfl, _, rfl, r, l, t, ns, rfl, R1, hl1, t1, t2, nd, l8, hnm, fun d L R H' R' O' hd ed ts pm hx => ?_⟩
      refine k d L R H' R' (Only.trans O1 O') ?_ ed ts pm hx
      cases e5 : H d with
      | none => rfl
      | some o =>
        have ndr : d ≠ r := R1.ne hd
        rw [O1 _ _ ndr e5] at hd
        cases hd
    · clear c
      intro d hd
      have ndr : d ≠ r := R1.ne hd
      have hdH : H d = none := by
        cases e5 : H d with
        | none => rfl
        | some o =>
          rw [O1 _ _ ndr e5] at hd
          cases hd
      have R2 := R1.new (o := .dK []) hd
      have O2 : Only r H (upd H1 d (.dK [])) := Only.trans O1 (Only.new hd)
      have ed2 : (upd H1 d (.dK [])) d = some (.dK (Kvs [])) := upd_same
      have hl2 := (Only.new (r := r) (o := .dK []) hd).seqL nlr hl1
      generalize upd H1 d (.dK []) = H2 at R2 O2 ed2 hl2 ⊢
      refine ⟨_, rfl, l, rfl, ⟨_, hl2⟩, for_list (xs := ns.map V.str) (fun i σ H' => (∃ v1 v2 v3, σ = [some (.ref r), some (.int t), some (.ref l), some (.ref d), v1, v2, v3]) ∧ Rl H' r ∧ Only r H H' ∧ SqL K H' l (ns.map V.str) ∧ ∃ L R, H' d = some (.dK (Kvs L)) ∧ Tups H' L R ∧ R.map (·.1) = ns.take i ∧ ∀ x ∈ R, SpOk t x ∧ Fin1 t x)
        ⟨⟨none, none, none, rfl⟩, R2, O2, hl2, [], [], ed2, .nil, rfl, fun _ h => by cases h⟩ (fun i σ H' _ h => h.2.2.2.1) ?_ ?_⟩
      · rintro i x σ' H3 hx ⟨⟨v1, v2, v3, rfl⟩, R3, O3, hl3, L, R, ed, ts, en, hR3⟩
        rw [List.getElem?_map] at hx
        cases en2 : ns[i]? with
        | none => rw [en2] at hx; cases hx
        | some n =>
          rw [en2] at hx
          cases hx
          have li : i < ns.length := (List.getElem?_eq_some_iff.mp en2).1
          refine ⟨_, rfl, _, rfl, _, _, rfl, rfl, .inl ⟨by decide, by decide⟩, r, 3 * t, rfl, R3, by omega, Nat.lt_trans (lg (b := 10) (by omega) (by omega) (by decide)) (by decide), fun u H4 u0 u1 R4 O4 => ?_⟩
          refine ⟨_, rfl, _, _, rfl, rfl, ?_⟩
          refine ⟨_, rfl, _, rfl, _, rfl, _, rfl, _, rfl, _, rfl, _, _, rfl, rfl, .inl ⟨by decide, by decide⟩, _, rfl, _, _, rfl, rfl, .inl ⟨by decide, by decide⟩, by show 5 ≤ sizeLine; decide, fun l5 hl5 => ?_⟩
          have R5 := R4.new (o := .lst [V.int t, .int t, .int t, .int (2 * t), .int (8 * t)]) hl5
          refine ⟨r, _, [V.int t, .int t, .int t, .int (2 * t), .int (8 * t)], rfl, R5, .inl ⟨l5, rfl, R4.ne hl5, .inl (SqL.of upd_same)⟩, Nat.succ_pos _, by show 5 ≤ sizeLine; decide, fun pv' H6 hpv R6 O6 => ?_⟩
          obtain ⟨m, rfl, m0, m1⟩ : ∃ n : Int, pv' = .int n ∧ 1 ≤ n ∧ n ≤ 8 * t := by
            simp only [List.mem_cons, List.not_mem_nil, or_false] at hpv
            rcases hpv with rfl | rfl | rfl | rfl | rfl
            · exact ⟨t, rfl, by omega, by omega⟩
            · exact ⟨t, rfl, by omega, by omega⟩
            · exact ⟨t, rfl, by omega, by omega⟩
            · exact ⟨2 * t, rfl, by omega, by omega⟩
            · exact ⟨8 * t, rfl, by omega, by omega⟩
          refine ⟨r, m, rfl, R6, by omega, Nat.lt_trans (lg (b := 10) (by omega) (by omega) (by decide)) (by decide), fun z H7 z0 z1 R7 O7 => ?_⟩
          refine ⟨_, _, rfl, rfl, ?_⟩
          refine ⟨_, rfl, _, rfl, _, rfl, _, _, rfl, rfl, by show 2 ≤ sizeLine; decide, fun q hq => ?_⟩
          have O37 : Only r H3 H7 := Only.trans O4 (Only.trans (Only.trans (Only.new hl5) O6) O7)
          have ed7 := O37 _ _ ndr ed
          have ts7 := ts.keep (KT.only O37 R3)
          have S8 := Same.new (o := .tup [V.int (u - t), .int (u - t + (1 + z))]) hq
          have eq8 : (upd H7 q (.tup [V.int (u - t), .int (u - t + (1 + z))])) q = some (.tup [V.int (u - t), .int (u - t + (1 + z))]) := upd_same
          have R8 := Same.rl S8 R7
          generalize upd H7 q (.tup [V.int (u - t), .int (u - t + (1 + z))]) = H8 at S8 eq8 R8 ⊢
          have ed8 := S8 _ _ ed7
          have ts8 := ts7.keep (KT.same S8)
          have hn : n ∉ R.map (·.1) := by
            rw [en]
            intro hm
            have nd2 := nd
            rw [← List.take_append_drop i ns] at nd2
            have hd2 : n ∈ ns.drop i := by
              rw [List.mem_iff_getElem?]
              exact ⟨0, by rw [List.getElem?_drop]; exact en2⟩
            exact (List.nodup_append.mp nd2).2.2 n hm n hd2 rfl
          have hl8 : SqL K H8 l (ns.map V.str) := Only.seqL (Only.trans O37 (Same.only S8)) nlr hl3
          obtain ⟨f1, f2⟩ := tups_put ed8 ts8 hn (show TupAt H8 q (u - t) (u - t + (1 + z)) from eq8)
          refine ⟨_, rfl, _, rfl, d, _, rfl, DPut.k (k := Sum.inr n) ed8 (by rw [kvs_len, ts8.len, ← List.length_map (f := (·.1)) (as := R), en, List.length_take, sizeLine_eq]; omega), ?_⟩
          have od : ∀ b o, b ≠ r → H b = some o → (upd H8 d (.dK (putK (Kvs L) (.inr n) (.ref q)))) b = some o := fun b o nb e => by
            rw [upd_ne (ne_of_none e hdH)]
            exact S8 _ _ (O37 _ _ nb (O3 _ _ nb e))
          refine ⟨⟨_, _, _, rfl⟩, ?_, od, ?_, L ++ [(n, q)], R ++ [(n, u - t, u - t + (1 + z))], f1, f2, ?_, ?_⟩
          · obtain ⟨x1, x2, x3, e⟩ := R8
            exact ⟨x1, x2, x3, by rw [upd_ne ndr.symm]; exact e⟩
          · rcases hl8 with (h | ⟨o, h⟩) | h
            · exact .inl (.inl (by rw [upd_ne (fun z => by rw [z, ed8] at h; cases h)]; exact h))
            · exact .inl (.inr ⟨o, by rw [upd_ne (fun z => by rw [z, ed8] at h; cases h)]; exact h⟩)
            · exact .inr h
          · rw [List.map_append, en, List.take_add_one, en2]
            rfl
          · intro x hx
            rcases List.mem_append.mp hx with hx | hx
            · exact hR3 x hx
            · rw [List.mem_singleton.mp hx]
              refine ⟨⟨?_, ?_⟩, ⟨?_, ?_⟩, ?_, ?_⟩
              · show 1 ≤ u - t + (1 + z) - (u - t); omega
              · show u - t + (1 + z) - (u - t) ≤ 8 * t; omega
              · show -1000 ≤ u - t; omega
              · show u - t + (1 + z) ≤ 1000; omega
              · show -t ≤ u - t; omega
              · show u - t + (1 + z) ≤ 11 * t; omega
      · rintro σ' H3 ⟨⟨v1, v2, v3, rfl⟩, R3, O3, hl3, L, R, ed, ts, en, hR3⟩
        rw [List.length_map, List.take_length] at en
        exact ⟨_, rfl, k d L R H3 R3 O3 hdH ed ts (by rw [en]) hR3⟩
end
end K40
namespace K40
open PySem L2
open PyProof.Rows PySem.Spec
theorem filter_perm {lf cs : List Str} (nl : lf.Nodup) (nc : cs.Nodup) (sub : ∀ c ∈ cs, c ∈ lf) : (cs ++ lf.filter fun n => !decide (n ∈ cs)).Perm lf := by
  refine (List.perm_ext_iff_of_nodup ?_ nl).mpr fun n => ?_
  · refine List.nodup_append.mpr ⟨nc, nl.filter _, fun a ha b hb e => ?_⟩
    have hb2 := (List.mem_filter.mp hb).2
    subst e
    simp [ha] at hb2
  · rw [List.mem_append, List.mem_filter]
    constructor
    · rintro (h | h)
      · exact sub n h
      · exact h.1
    · intro h
      by_cases c : n ∈ cs
      · exact .inl c
      · exact .inr ⟨h, by simp [c]⟩
theorem cutV_last (xs : List V) : cutV xs none (some (-1)) = xs.dropLast := by
  unfold cutV
  rw [HT.sIx_none]
  have e : HT.sIx xs.length xs.length (some (-1)) = xs.length - 1 := by
    show (if (-1 : Int) < 0 then ((-1 : Int) + (xs.length : Int)).toNat else min (-1 : Int).toNat xs.length) = _
    rw [if_pos (by decide)]
    omega
  rw [e, List.dropLast_eq_take]
  simp only [List.drop_zero, Nat.sub_zero]
section
variable {P : Program} {w : World} {K : PySem.W.Frag}
                                                      {mg : Str → Option Value} {base : Heap}
/-- ahead of a turn of _law_rings -/
def RingW (K : PySem.W.Frag) (r d : Addr) (t : Int) (ns : List Str) (H0 : Hp) (σa σb : L2.St) (m : Nat) (σ' : L2.St) (G : Hp) : Prop := (∃ la v5 v6 v7 v8 v9, σ' = σa ++ [some (.ref la), v5, v6, v7, v8, v9] ∧ ∃ (lf : List Str) (L : List (Str × Addr)) (R : Rws), G la = some (.lst (lf.map V.str)) ∧ la ≠ r ∧ la ≠ d ∧ lf.length = m ∧
  G d = some (.dK (Kvs L)) ∧ Tups G L R ∧ (R.map (·.1) ++ lf).Perm ns ∧ (∀ x ∈ R, SpOk t x ∧ Fin1 t x)) ∧ Rl G r ∧ (∀ b o, b ≠ r → H0 b = some o → G b = some o)
theorem ok_w_rings (T : T K mg) : FnOk P w K mg base CX0 3 T.f_w_rings T.d_w_rings ["tray", "interval", "names"] (sp_w_rings K) := by
  have G_w_few : FnOk P w K mg base CX0 2 T.f_w_few T.d_w_few ["tray", "items", "many"] (sp_w_few K) := ok_w_few T
  have G_w_pick : FnOk P w K mg base CX0 2 T.f_w_pick T.d_w_pick ["tray", "items"] (sp_w_pick K) := ok_w_pick T
  have G_w_roll : FnOk P w K mg base CX0 1 T.f_w_roll T.d_w_roll ["tray", "total"] (sp_w_roll K) := ok_w_roll T
  refine T.F_w_rings.ok sc_w_rings (fun vs H Q E h => ?_) (fun cdv A outer s H vs Q E hr h => ?_)
  · obtain ⟨r, l, t, ns, rfl, _⟩ := h
    rfl
  · obtain ⟨r, l, t, ns, rfl, hR, hl, t1, t2, nd, l8, hnm, k⟩ := h
    have hu := hu_of hr
    have hr_w_few : Room 2 _ := hr.mono (by decide)
    have hr_w_pick : Room 2 _ := hr.mono (by decide)
    have hr_w_roll : Room 1 _ := hr.mono (by decide)
    refine ⟨_, (pss_cons (ps_par (i := 3) (j := 4) (by rfl) sc_w_rings.nd rfl rfl (by decide) rfl rfl (pa_cons pe_dnewK (pa_cons (pe_callTy call_list_of (by rfl) T.z_list (by decide +kernel) (pa_cons (pv 2) pa_nil)) pa_nil)) (by rfl))
      (pss_cons (ps_while PassesOwn.never (pt_cmpR (op_neD (un64 hr)) (pv 4) (pe_lst pa_nil) (nomark _))
      (pss_cons (ps_set (i := 5) sc_w_rings.nd rfl (Or.inr rfl) (pe_call G_w_few hr_w_few rfl T.m_w_few T.F_w_few.kp T.b_w_few .nil pass0 (pa_cons (pv 0) (pa_cons (pv 4) (pa_cons (pe_op op_add pe_int (pe_call G_w_roll hr_w_roll rfl T.m_w_roll T.F_w_roll.kp T.b_w_roll .nil pass0 (pa_cons (pv 0) (pa_cons pe_int pa_nil)))) pa_nil)))))
      (pss_cons (ps_setLc (i := 4) (own := [("name", 8)]) (g := gName 8) rfl sc_w_rings.nd rfl rfl (sw_true rfl rfl rfl (by decide +kernel)) (pi_list (pv 4)) (blkOk_by (N := ["tray", "interval", "names", "rows", "left", "some", "first", "begin", "name", "last"]) (sc := defScope s_w_rings) (by decide +kernel)) (fun _ _ _ _ _ => (pg_name (i := 8) sc_w_rings.nd rfl (Or.inl rfl))) (fun _ _ _ _ _ => pts_one (pt_cmpR (r := rIn K true) op_notIn_seq (pv 8) (pv 5) rfl)) (fun _ _ _ _ _ => (pv 8)))
      (pss_cons (ps_set (i := 6) sc_w_rings.nd rfl (Or.inl rfl) (pe_call G_w_roll hr_w_roll rfl T.m_w_roll T.F_w_roll.kp T.b_w_roll .nil pass0 (pa_cons (pv 0) (pa_cons (pe_op op_mul pe_int (pv 1)) pa_nil))))
      (pss_cons (ps_set (i := 7) sc_w_rings.nd rfl (Or.inl rfl) (pv 6))
      (pss_cons (ps_for PassesOwn.never rfl (pi_list (pe_slice sl_list (pv 5) po_none (po_some (pe_un un_neg pe_int)))) (pg_name (i := 8) sc_w_rings.nd rfl (Or.inl rfl))
      (pss_cons (ps_dput (by exact hu) (pv 3) (pv 8) (pe_tup (pa_cons (pv 7) (pa_cons (pe_op op_add (pe_op op_add (pv 7) pe_int) (pe_call G_w_roll hr_w_roll rfl T.m_w_roll T.F_w_roll.kp T.b_w_roll .nil pass0 (pa_cons (pv 0) (pa_cons (pv 1) pa_nil)))) pa_nil))) rfl)
      (pss_one (ps_set (i := 7) sc_w_rings.nd rfl (Or.inl rfl) (pe_ix ix_seq (pe_dget (by exact hu) (pv 3) (pv 8) (fun _ _ => rfl)) pe_int (fun _ _ => rfl))))))
      (pss_cons (ps_set (i := 9) sc_w_rings.nd rfl (Or.inl rfl) (pe_op op_add (pe_op op_add pe_int (pe_op op_mod (pe_callTy call_int1 (by rfl) T.z_int (by decide +kernel) (pa_cons (pe_op op_sub (pe_op op_sub (pv 6) (pv 7)) pe_int) pa_nil)) (pv 1))) (pe_op op_mul (pv 1) (pe_call G_w_pick hr_w_pick rfl T.m_w_pick T.F_w_pick.kp T.b_w_pick .nil pass0 (pa_cons (pv 0) (pa_cons (pe_lst (pa_cons pe_int (pa_cons pe_int (pa_cons pe_int (pa_cons pe_int pa_nil))))) pa_nil))))))
      (pss_one (ps_dput (by exact hu) (pv 3) (pe_ix ix_seq (pv 5) (pe_un un_neg pe_int) (fun _ _ => rfl)) (pe_tup (pa_cons (pv 7) (pa_cons (pe_op op_add (pv 7) (pv 9)) pa_nil))) rfl))))))))) 
      (pss_one (ps_ret (pv 3))))), ?_⟩
    intro d hd
    have ndr : d ≠ r := hR.ne hd
    have hl1 : SqL K (upd H d (.dK [])) l (ns.map V.str) := Same.seq (Same.new hd) hl
    refine ⟨_, rfl, l, _, rfl, .inl hl1, fun la hla => ?_⟩
    have nda : la ≠ d := fun z => by rw [z, upd_same] at hla; cases hla
    have hla0 : H la = none := by rw [upd_ne nda] at hla; exact hla
    have nla : la ≠ r := hR.ne hla0
    refine ⟨_, _, rfl, ?_⟩
    refine ⟨RingW K r d t ns H [some (.ref r), some (.int t), some (.ref l), some (.ref d)] [], ⟨ns.length, ⟨la, none, none, none, none, none, rfl, ns, [], [], upd_same, nla, nda, rfl, by rw [upd_ne nda.symm, upd_same]; rfl, .nil, by simp, fun _ h => by cases h⟩, ?_, ?_⟩, ?_⟩
    · obtain ⟨x1, x2, x3, e⟩ := hR
      exact ⟨x1, x2, x3, by rw [upd_ne nla.symm, upd_ne ndr.symm]; exact e⟩
    · intro b o _ e
      rw [upd_ne (ne_of_none e hla0), upd_ne (ne_of_none e hd)]
      exact e
    clear hl1 hla hla0 nla nda la
    rintro m σ' G ⟨⟨la, v5, v6, v7, v8, v9, rfl, lf, L, R, ea, nar, nad, lm, ed, ts, pm, hx⟩, RG, OG⟩
    have ndL : (R.map (·.1) ++ lf).Nodup := pm.nodup_iff.mpr nd
    have nlf : lf.Nodup := (List.nodup_append.mp ndL).2.1
    have ll8 : R.length + lf.length ≤ 8 := by
      have := pm.length_eq
      rw [List.length_append, List.length_map] at this
      omega
    have nmL : ∀ n ∈ lf, nmC n = true := fun n hn => hnm n (pm.mem_iff.mp (List.mem_append_right _ hn))
    refine ⟨_, rfl, by show 0 ≤ sizeLine; decide, fun e he => ?_⟩
    have S3 : Same G (upd G e (.lst [])) := Same.new he
    have e_e : (upd G e (.lst [])) e = some (.lst []) := upd_same
    have ea3 := S3 _ _ ea
    have ed3 := S3 _ _ ed
    have ts3 := ts.keep (KT.same S3)
    have R3 := Same.rl S3 RG
    refine ⟨.list (lf.map PyData.str), .list [], .lst (SqL.of ea3) (dpa_strs lf), .lst (SqL.of upd_same) .nil, shaped_names nmL, by decide +kernel, _, rfl, ?_⟩
    generalize upd G e (.lst []) = G3 at S3 e_e ea3 ed3 ts3 R3 ⊢
    cases lf with
    | nil =>
      rw [show PyData.eqv (.list (([] : List Str).map PyData.str)) (.list []) = true from by decide +kernel]
      refine iteF ⟨_, rfl, k d L R G3 R3 (fun b o nb e => S3 _ _ (OG b o nb e)) hd ed3 ts3 (by simpa using pm) hx⟩
    | cons n0 lf0 =>
      rw [show PyData.eqv (.list ((n0 :: lf0).map PyData.str)) (.list []) = false from by simp [PyData.eqv, PyData.eqvAll]]
      refine iteT ⟨_, fun σ' H' h => h, ?_⟩
      have hne : 1 ≤ (n0 :: lf0).length := by rw [List.length_cons]; omega
      have OG3 : ∀ b o, b ≠ r → H b = some o → G3 b = some o := fun b o nb e => S3 _ _ (OG b o nb e)
      generalize n0 :: lf0 = lf at ea ea3 lm pm ndL nlf ll8 nmL hne ⊢
      clear ea ed ts S3 RG OG e_e he
      -- some
      refine ⟨_, rfl, _, rfl, _, rfl, r, 3, rfl, R3, by decide, by decide +kernel, fun u H4 u0 u1 R4 O4 => ⟨_, _, rfl, rfl, ?_⟩⟩
      refine ⟨r, la, lf.map V.str, 1 + u, rfl, R4, .inl (SqL.of (O4 _ _ nar ea3)), by rw [List.length_map]; omega, by omega, by omega, fun ls ys rest H5 R5 O5 hls els pmf lys => ?_⟩
      obtain ⟨cs, rfl, mcs, ndcs⟩ := few_of (f := V.str) (xs := lf) (fun a _ b _ h => V.str.inj h) nlf pmf
      have lcs : 1 ≤ cs.length := by
        rw [List.length_map, List.length_map] at lys
        split at lys <;> omega
      have O35 : Only r G3 H5 := Only.trans O4 O5
      have nls : ls ≠ r := R4.ne hls
      have ed5 := O35 _ _ ndr ed3
      have ea5 := O35 _ _ nar ea3
      have ts5 := ts3.keep (KT.only O35 R3)
      have OG5 : ∀ b o, b ≠ r → H b = some o → H5 b = some o := fun b o nb e => O35 _ _ nb (OG3 b o nb e)
      have nlsd : ls ≠ d := fun z => by rw [z, ed5] at els; cases els
      clear ea3 ed3 ts3 OG3 R3 O35 lys pmf
      -- left
      refine ⟨_, rfl, la, rfl, ⟨_, SqL.of ea5⟩, fun D hD => ?_⟩
      have nDr : D ≠ r := R5.ne hD
      have nDd : D ≠ d := fun z => by rw [z, ed5] at hD; cases hD
      have nDl : ls ≠ D := ne_of_none els hD
      refine lc_list (xs := lf.map V.str) (fun i H' => H' D = some (.lst (((lf.take i).filter fun n => !decide (n ∈ cs)).map V.str)) ∧ Same H5 H') ⟨upd_same, Same.new hD⟩ (fun i H' _ h => SqL.of (h.2 _ _ ea5)) ?_ ?_
      · rintro i x H6 hx6 ⟨eD, S6⟩
        rw [List.getElem?_map] at hx6
        cases en2 : lf[i]? with
        | none => rw [en2] at hx6; cases hx6
        | some n =>
          rw [en2] at hx6
          cases hx6
          refine ⟨rfl, ?_⟩
          refine ⟨_, rfl, _, rfl, ls, _, rfl, .inl (SqL.of (S6 _ _ els)), rfl, flat_strs _, _, rfl, ?_⟩
          rw [inV_strs]
          have tk : (lf.take (i + 1)).filter (fun n => !decide (n ∈ cs)) = (lf.take i).filter (fun n => !decide (n ∈ cs)) ++ (if n ∈ cs then [] else [n]) := by
            rw [List.take_add_one, en2, List.filter_append]
            congr 1
            by_cases c : n ∈ cs
            · simp [c]
            · simp [c]
          have li : i < lf.length := (List.getElem?_eq_some_iff.mp en2).1
          by_cases c : n ∈ cs
          · simp only [if_true, c, decide_true, Bool.not_true, Bool.false_eq_true, if_false]
            refine ⟨?_, S6⟩
            rw [tk, if_pos c, List.append_nil]
            exact eD
          · simp only [if_true, c, decide_false, Bool.not_false]
            refine ⟨_, rfl, _, eD, ?_, ?_, Same.at hD S6⟩
            · rw [List.length_map, sizeLine_eq]
              have := List.length_filter_le (fun n => !decide (n ∈ cs)) (lf.take i)
              rw [List.length_take] at this
              omega
            · rw [upd_same, tk, if_neg c, List.map_append]
              rfl
      rintro H6 ⟨eD, S6⟩
      rw [List.length_map, List.take_length] at eD
      have R6 := Same.rl S6 R5
      have ed6 := S6 _ _ ed5
      have ts6 := ts5.keep (KT.same S6)
      have els6 := S6 _ _ els
      have OG6 : ∀ b o, b ≠ r → H b = some o → H6 b = some o := fun b o nb e => S6 _ _ (OG5 b o nb e)
      clear ed5 ts5 ea5 els OG5 S6 R5 hD hls R4 O4 O5
      -- first, begin
      refine ⟨_, rfl, _, rfl, _, _, rfl, rfl, .inl ⟨by decide, by decide⟩, r, 2 * t, rfl, R6, by omega, Nat.lt_trans (lg (b := 10) (by omega) (by omega) (by decide)) (by decide), fun f H7 f0 f1 R7 O7 => ?_⟩
      have ed7 := O7 _ _ ndr ed6
      have ts7 := ts6.keep (KT.only O7 R6)
      have els7 := O7 _ _ nls els6
      have eD7 := O7 _ _ nDr eD
      have OG7 : ∀ b o, b ≠ r → H b = some o → H7 b = some o := fun b o nb e => O7 _ _ nb (OG6 b o nb e)
      clear ed6 ts6 els6 eD OG6 R6 O7
      obtain ⟨c0, z, rfl⟩ : ∃ c0 z, cs = c0 ++ [z] := by
        rcases List.eq_nil_or_concat cs with e | ⟨c0, z, e⟩
        · rw [e] at lcs
          exact absurd lcs (by decide)
        · exact ⟨c0, z, by rw [e, List.concat_eq_append]⟩
      refine ⟨_, rfl, _, rfl, _, rfl, _, rfl, ls, _, rfl, SqL.of els7, fun p hp => ?_⟩
      have ecut : cutV ((c0 ++ [z]).map V.str) none (some (-1)) = c0.map V.str := by
        rw [cutV_last, List.map_append]
        exact List.dropLast_concat
      rw [ecut]
      have S8 := Same.new (o := .lst (c0.map V.str)) hp
      have ep8 : (upd H7 p (.lst (c0.map V.str))) p = some (.lst (c0.map V.str)) := upd_same
      have R8 := Same.rl S8 R7
      have npr : p ≠ r := R7.ne hp
      have npd : p ≠ d := fun z => by rw [z, ed7] at hp; cases hp
      generalize upd H7 p (.lst (c0.map V.str)) = H8 at S8 ep8 R8 ⊢
      have ed8 := S8 _ _ ed7
      have ts8 := ts7.keep (KT.same S8)
      have els8 := S8 _ _ els7
      have eD8 := S8 _ _ eD7
      have OG8 : ∀ b o, b ≠ r → H b = some o → H8 b = some o := fun b o nb e => S8 _ _ (OG7 b o nb e)
      clear ed7 ts7 els7 eD7 OG7 R7 S8 hp ecut
      have ndc0 : c0.Nodup := (List.nodup_append.mp ndcs).1
      have fresh : ∀ i n, (c0 ++ [z])[i]? = some n → n ∉ R.map (·.1) ++ (c0 ++ [z]).take i := fun i n e hm => by
        have hn : n ∈ c0 ++ [z] := List.mem_of_getElem? e
        rcases List.mem_append.mp hm with hm | hm
        · exact (List.nodup_append.mp ndL).2.2 n hm n (mcs n hn) rfl
        · have nd2 := ndcs
          rw [← List.take_append_drop i (c0 ++ [z])] at nd2
          have hd2 : n ∈ (c0 ++ [z]).drop i := by
            rw [List.mem_iff_getElem?]
            exact ⟨0, by rw [List.getElem?_drop]; exact e⟩
          exact (List.nodup_append.mp nd2).2.2 n hm n hd2 rfl
      have lcs8 : R.length + c0.length + 1 ≤ 8 := by
        have h1 : (c0 ++ [z]).length ≤ lf.length := by
          have := (filter_perm nlf ndcs mcs).length_eq
          rw [List.length_append] at this
          omega
        rw [List.length_append] at h1
        have h2 : ([z] : List Str).length = 1 := rfl
        omega
      refine ⟨p, rfl, ⟨_, SqL.of ep8⟩, for_list (xs := c0.map V.str) (fun i σ H' => (∃ b v8, σ = [some (.ref r), some (.int t), some (.ref l), some (.ref d), some (.ref D), some (.ref ls), some (.int f), some (.int b), v8, v9] ∧ f ≤ b ∧ b ≤ f + t * i) ∧ Rl H' r ∧ (∀ b o, b ≠ r → b ≠ d → H8 b = some o → H' b = some o) ∧
        ∃ L' R', H' d = some (.dK (Kvs L')) ∧ Tups H' L' R' ∧ R'.map (·.1) = R.map (·.1) ++ (c0 ++ [z]).take i ∧ ∀ x ∈ R', SpOk t x ∧ Fin1 t x) ⟨⟨f, _, rfl, Int.le_refl _, by simp⟩, R8, (fun b o _ _ e => e), L, R, ed8, ts8, by simp, hx⟩ (fun i σ H' _ h => SqL.of (h.2.2.1 _ _ npr npd ep8)) ?_ ?_⟩
      · rintro i x σ' H9 hx9 ⟨⟨b, v8, rfl, b0, b1⟩, R9, O9, L', R', ed9, ts9, en9, hR9⟩
        rw [List.getElem?_map] at hx9
        cases en2 : c0[i]? with
        | none => rw [en2] at hx9; cases hx9
        | some n =>
          rw [en2] at hx9
          cases hx9
          have li : i < c0.length := (List.getElem?_eq_some_iff.mp en2).1
          have en3 : (c0 ++ [z])[i]? = some n := by rw [List.getElem?_append_left li]; exact en2
          have bi : t * i ≤ 32 * 8 := Int.le_trans (Int.mul_le_mul_of_nonneg_right t2 (by omega)) (by omega)
          refine ⟨_, rfl, _, rfl, _, _, rfl, rfl, _, rfl, _, rfl, r, t, rfl, R9, by omega, Nat.lt_trans (lg (b := 10) (by omega) (by omega) (by decide)) (by decide), fun g H10 g0 g1 R10 O10 => ?_⟩
          refine ⟨_, _, rfl, rfl, by show 2 ≤ sizeLine; decide, fun q hq => ?_⟩
          have S11 := Same.new (o := .tup [V.int b, .int (b + 1 + g)]) hq
          have eq11 : (upd H10 q (.tup [V.int b, .int (b + 1 + g)])) q = some (.tup [V.int b, .int (b + 1 + g)]) := upd_same
          have R11 := Same.rl S11 R10
          generalize upd H10 q (.tup [V.int b, .int (b + 1 + g)]) = H11 at S11 eq11 R11 ⊢
          have ed11 := S11 _ _ (O10 _ _ ndr ed9)
          have ts11 := (ts9.keep (KT.only O10 R9)).keep (KT.same S11)
          have hn : n ∉ R'.map (·.1) := by rw [en9]; exact fresh i n en3
          obtain ⟨g1', g2'⟩ := tups_put ed11 ts11 hn (show TupAt H11 q b (b + 1 + g) from eq11)
          have lL : L'.length ≤ 8 := by
            rw [ts9.len, ← List.length_map (f := (·.1)) (as := R'), en9, List.length_append, List.length_map, List.length_take]
            omega
          refine ⟨_, rfl, _, rfl, d, _, rfl, DPut.k (k := Sum.inr n) ed11 (by rw [kvs_len, sizeLine_eq]; omega), ?_⟩
          have keep : ∀ b' o, b' ≠ r → b' ≠ d → H8 b' = some o → (upd H11 d (.dK (putK (Kvs L') (.inr n) (.ref q)))) b' = some o := fun b' o nb nbd e => by
            rw [upd_ne nbd]
            exact S11 _ _ (O10 _ _ nb (O9 _ _ nb nbd e))
          have nqd : q ≠ d := fun z => by rw [z, ed11] at eq11; cases eq11
          have eq12 : (upd H11 d (.dK (putK (Kvs L') (.inr n) (.ref q)))) q = some (.tup [V.int b, .int (b + 1 + g)]) := by rw [upd_ne nqd]; exact eq11
          have R12 : Rl (upd H11 d (.dK (putK (Kvs L') (.inr n) (.ref q)))) r := by
            obtain ⟨x1, x2, x3, e⟩ := R11
            exact ⟨x1, x2, x3, by rw [upd_ne ndr.symm]; exact e⟩
          generalize upd H11 d (.dK (putK (Kvs L') (.inr n) (.ref q))) = H12 at g1' g2' keep eq12 R12 ⊢
          have hv : valV (Kvs (L' ++ [(n, q)])) (.inr n) = some (.ref q) := by
            rw [kvs_snoc, valV_snoc _ _ _ _ (valV_none (by rw [ts9.names]; exact hn)), if_pos rfl]
          refine ⟨_, rfl, _, rfl, d, V.ref q, rfl, ?_, .inr (.inl ⟨q, _, _, _, rfl, rfl, SqT.of eq12, rfl, ?_⟩)⟩
          · have := DGet.k (k := Sum.inr n) g1'
            rw [hv] at this
            exact this
          refine ⟨⟨b + 1 + g, _, rfl, by omega, ?_⟩, R12, keep, L' ++ [(n, q)], R' ++ [(n, b, b + 1 + g)], g1', g2', ?_, ?_⟩
          · have : t * ((i + 1 : Nat) : Int) = t * i + t := by rw [Int.natCast_add, Int.mul_add]; simp
            omega
          · rw [List.map_append, en9, List.take_add_one, en3, List.append_assoc]
            rfl
          · intro x hx'
            rcases List.mem_append.mp hx' with hx' | hx'
            · exact hR9 x hx'
            · rw [List.mem_singleton.mp hx']
              refine ⟨⟨?_, ?_⟩, ⟨?_, ?_⟩, ?_, ?_⟩
              · show 1 ≤ b + 1 + g - b; omega
              · show b + 1 + g - b ≤ 8 * t; omega
              · show -1000 ≤ b; omega
              · show b + 1 + g ≤ 1000; omega
              · show -t ≤ b; omega
              · show b + 1 + g ≤ 11 * t; have h9 : t * (i : Int) ≤ t * 7 := Int.mul_le_mul_of_nonneg_left (by omega) (by omega); omega
      · rintro σ' H9 ⟨⟨b, v8, rfl, b0, b1⟩, R9, O9, L', R', ed9, ts9, en9, hR9⟩
        rw [List.length_map] at b1 en9
        have bi : t * c0.length ≤ 32 * 8 := Int.le_trans (Int.mul_le_mul_of_nonneg_right t2 (by omega)) (by omega)
        refine ⟨_, rfl, _, rfl, _, _, rfl, rfl, _, _, rfl, rfl, .inl ⟨_, rfl, _, rfl, _, _, rfl, rfl, by omega, _, _, rfl, rfl, ?_⟩⟩
        have mo0 : 0 ≤ (f - b - 1) % t := Int.emod_nonneg _ (by omega)
        have mo1 : (f - b - 1) % t < t := Int.emod_lt_of_pos _ (by omega)
        refine ⟨_, rfl, _, rfl, by show 4 ≤ sizeLine; decide, fun l4 hl4 => ?_⟩
        have R10 := R9.new (o := .lst [V.int 0, .int 0, .int 0, .int 1]) hl4
        refine ⟨r, _, [V.int 0, .int 0, .int 0, .int 1], rfl, R10, .inl ⟨l4, rfl, R9.ne hl4, .inl (SqL.of upd_same)⟩, Nat.succ_pos _, by show 4 ≤ sizeLine; decide, fun pv' H11 hpv R11 O11 => ?_⟩
        obtain ⟨c, rfl, c01⟩ : ∃ n : Int, pv' = .int n ∧ (n = 0 ∨ n = 1) := by
          simp only [List.mem_cons, List.not_mem_nil, or_false] at hpv
          rcases hpv with rfl | rfl | rfl | rfl
          · exact ⟨0, rfl, .inl rfl⟩
          · exact ⟨0, rfl, .inl rfl⟩
          · exact ⟨0, rfl, .inl rfl⟩
          · exact ⟨1, rfl, .inr rfl⟩
        refine ⟨_, _, rfl, rfl, .inl ⟨by omega, by omega⟩, _, _, rfl, rfl, ?_⟩
        have tc : 0 ≤ t * c ∧ t * c ≤ t := by rcases c01 with rfl | rfl <;> omega
        have O9b : Only r H9 H11 := Only.trans (Only.new hl4) O11
        generalize (f - b - 1) % t = mo at mo0 mo1 ⊢
        generalize t * c = tc' at tc ⊢
        refine ⟨_, rfl, _, rfl, _, rfl, _, _, rfl, rfl, by show 2 ≤ sizeLine; decide, fun q hq => ?_⟩
        have S12 := Same.new (o := .tup [V.int b, .int (b + (1 + mo + tc'))]) hq
        have eq12 : (upd H11 q (.tup [V.int b, .int (b + (1 + mo + tc'))])) q = some (.tup [V.int b, .int (b + (1 + mo + tc'))]) := upd_same
        have R12 := Same.rl S12 R11
        generalize upd H11 q (.tup [V.int b, .int (b + (1 + mo + tc'))]) = H12 at S12 eq12 R12 ⊢
        have ed12 := S12 _ _ (O9b _ _ ndr ed9)
        have ts12 := (ts9.keep (KT.only O9b R9)).keep (KT.same S12)
        have els12 := S12 _ _ (O9b _ _ nls (O9 _ _ nls nlsd els8))
        have eD12 := S12 _ _ (O9b _ _ nDr (O9 _ _ nDr nDd eD8))
        have en3 : (c0 ++ [z])[c0.length]? = some z := by rw [List.getElem?_append_right (Nat.le_refl _)]; simp
        have en10 : R'.map (·.1) = R.map (·.1) ++ c0 := by rw [en9, List.take_append_of_le_length (Nat.le_refl _), List.take_length]
        have hn : z ∉ R'.map (·.1) := by rw [en9]; exact fresh _ _ en3
        obtain ⟨g1', g2'⟩ := tups_put ed12 ts12 hn (show TupAt H12 q b (b + (1 + mo + tc')) from eq12)
        have hat : atI ((c0 ++ [z]).map V.str) (-1) = some (.str z) := by
          rw [List.map_append]
          exact atI_last (c0.map V.str) (V.str z)
        refine ⟨_, rfl, _, rfl, _, rfl, .inl ⟨ls, _, _, _, rfl, rfl, SqL.of els12, hat, ?_⟩⟩
        have lL : L'.length ≤ 8 := by
          rw [ts9.len, ← List.length_map (f := (·.1)) (as := R'), en10, List.length_append, List.length_map]
          omega
        refine ⟨d, _, rfl, DPut.k (k := Sum.inr z) ed12 (by rw [kvs_len, sizeLine_eq]; omega), ?_⟩
        have nDd' : D ≠ d := nDd
        refine ⟨(lf.filter fun n => !decide (n ∈ c0 ++ [z])).length, ?_, ⟨D, _, _, _, _, _, rfl, lf.filter fun n => !decide (n ∈ c0 ++ [z]), L' ++ [(z, q)], R' ++ [(z, b, b + (1 + mo + tc'))], by rw [upd_ne nDd]; exact eD12, nDr, nDd, rfl, g1', g2', ?_, ?_⟩, ?_, ?_⟩
        · have h1 := (filter_perm nlf ndcs mcs).length_eq
          rw [List.length_append, List.length_append] at h1
          have h2 : ([z] : List Str).length = 1 := rfl
          omega
        · rw [List.map_append, en10]
          show ((R.map (·.1) ++ c0) ++ [z] ++ _).Perm ns
          rw [List.append_assoc (R.map (·.1)) c0 [z], List.append_assoc]
          exact ((filter_perm nlf ndcs mcs).append_left _).trans pm
        · intro x hx'
          rcases List.mem_append.mp hx' with hx' | hx'
          · exact hR9 x hx'
          · rw [List.mem_singleton.mp hx']
            refine ⟨⟨?_, ?_⟩, ⟨?_, ?_⟩, ?_, ?_⟩
            · show 1 ≤ b + (1 + mo + tc') - b; omega
            · show b + (1 + mo + tc') - b ≤ 8 * t; omega
            · show -1000 ≤ b; omega
            · show b + (1 + mo + tc') ≤ 1000; omega
            · show -t ≤ b; omega
            · show b + (1 + mo + tc') ≤ 11 * t; have h9 : t * (c0.length : Int) ≤ t * 7 := Int.mul_le_mul_of_nonneg_left (by omega) (by omega); omega
        · obtain ⟨x1, x2, x3, e⟩ := R12
          exact ⟨x1, x2, x3, by rw [upd_ne ndr.symm]; exact e⟩
        · intro b' o nb e
          rw [upd_ne (ne_of_none e hd)]
          exact S12 _ _ (O9b _ _ nb (O9 _ _ nb (ne_of_none e hd) (OG8 b' o nb e)))
end
end K40
namespace K40
open PySem L2
open PyProof.Rows PySem.Spec
/-- a dict comprehension over a walk -/
theorem dc_it {J : It} {n : Nat} {G : Hp → Prop} {Y : Nat → Hp → V → Hp → Prop} (w : Walk J n G Y) {g : TG} {tt : TT} {tk tv : TE} {vs : List Nat} {σ : L2.St} {H1 : Hp} {D : Addr} {Qd : Hp → Prop} (Pv : Nat → Hp → Prop) (h0 : Pv 0 (upd H1 D (.dK []))) (hG : ∀ i H, i ≤ n → Pv i H → G H)
    (hs : ∀ i x H H', i < n → Pv i H → Y i H x H' → g x
                                                        (wipe σ vs) H' fun σ2 H2 => wipe σ2 vs = wipe σ vs ∧ tt σ2 H2 fun b H3 =>
      if b = true then tk σ2 H3 fun y H4 => tv σ2 H4 fun z H5 => ∃ kvs k, y = kV k ∧ H5 D = some (.dK kvs) ∧ kvs.length < sizeLine ∧ Pv (i + 1) (upd H5 D (.dK (putK kvs k z))) else Pv (i + 1) H3) (hd : ∀ H, Pv n H → Qd H) :
    ∃ W : Nat → Nat → Hp → Prop, (∃ m, W 0 m
                                             (upd H1 D (.dK []))) ∧ ∀ i m H, W i m H →
      (J.stop i H ∧ Qd H) ∨ (J.go i H ∧ ∃ Nx : Hp → Prop, (∀ H', Nx H' → ∃ m', m' < m ∧ W
                                                                                          (i + 1) m' H') ∧ ∀ x H', J.yld i H x H' → g x (wipe σ vs) H' fun σ2 H2 => wipe σ2 vs = wipe σ vs ∧ tt σ2 H2 fun b H3 =>
        if b = true then tk σ2 H3 fun y H4 => tv σ2 H4 fun z H5 => ∃ kvs k, y = kV k ∧ H5 D = some
                                                                                                   (.dK kvs) ∧ kvs.length < sizeLine ∧ Nx (upd H5 D (.dK (putK kvs k z))) else Nx H3) := by
  refine ⟨fun i m H => m = n - i ∧ i ≤ n ∧ Pv i H,
                                                   ⟨n, by simp, Nat.zero_le _, h0⟩, ?_⟩
  rintro i m H ⟨rfl, hi, p⟩
  have q := hG i H hi p
  by_cases hlt : i < n
  · refine .inr ⟨w.goes i H hlt q, Pv (i + 1), fun H' p' => ⟨n -
                                                                 (i + 1), by omega, rfl, hlt, p'⟩, fun x H' y => hs i x H H' hlt p (w.yields i H x H' hlt q y)⟩
  · have e : i = n := by omega
    subst e
    exact .inl ⟨w.stops H q, hd H p⟩
theorem upd_idem {H : Hp} {d : Addr} {u : HO} (h : H d = some u) : upd H d u = H := by
  funext b
  by_cases e : b = d
  · rw [e, upd_same, h]
  · rw [upd_ne e]
theorem same_lock {H G : Hp} {d : Addr} {u o : HO} (hd : H d = some u) (s : Same (upd H d o) G) : Same H (upd G d u) := fun b v e => by
  by_cases c : b = d
  · rw [c, upd_same]
    rw [c, hd] at e
    exact e
  · rw [upd_ne c]
    exact s b v (by rw [upd_ne c]; exact e)
theorem kt_lock {H : Hp} {d : Addr} {u o : HO} (hd : H d = some u) (n : ∀ xs, u ≠ .tup xs) : KT H (upd H d o) := KT.put hd n
section
variable {P : Program} {w : World} {K : PySem.W.Frag}
                                                      {mg : Str → Option Value} {base : Heap}
def sp_is_span (K : PySem.W.Frag) : Sp := fun vs H Q _ => ∃ (t : Int) (a : Addr) (b e : Int), vs = [.int t, .ref a] ∧ TupAt H a b e ∧ (-1000000000000 < b ∧ b < 1000000000000) ∧ (-1000000000000 < e ∧ e < 1000000000000) ∧ (1 ≤ t ∧ t ≤ 32) ∧ 1 ≤ e - b ∧ e - b ≤ 8 * t ∧ Q (.bl true) H
theorem isInD_int {n : Int} (h : -1000000000000 < n ∧ n < 1000000000000) : isInD (.int n) = true := by
  show (decide (-1000000000000 < n) && decide (n < 1000000000000)) = true
  rw [decide_eq_true h.1, decide_eq_true h.2]
  rfl
theorem ok_is_span (T : T K mg) : FnOk P w K mg base CX0 2 T.f_is_span T.d_is_span ["interval", "value"] (sp_is_span K) := by
  have G_is_integer : FnOk P w K mg base CX0 1 T.f_is_integer T.d_is_integer ["value"] (sp_is_integer K) := ok_is_integer T
  refine T.F_is_span.ok sc_is_span (fun vs H Q E h => ?_) (fun cdv A outer s H vs Q E hr h => ?_)
  · obtain ⟨t, a, b, e, rfl, _⟩ := h
    rfl
  · obtain ⟨t, a, b, e, rfl, ha, hb, he, ht, h1, h2, k⟩ := h
    have hu := hu_of hr
    have hr_is_integer : Room 1 _ := hr.mono (by decide)
    obtain ⟨_, c_MAX_LIFE⟩ := T.c_MAX_LIFE
    refine ⟨_, (pss_cons (ps_if (PW.pt (pw_or (pt_not (pt_val (pe_callB call_isi (by rfl) T.z_isinstance (by decide +kernel) (pa_cons (pv 1) (pa_cons (pe_bltn (v := V.ty "tuple") (u := Value.type "tuple") (by rfl) T.z_tuple (by decide +kernel) rfl) pa_nil))))) (pw_or1 (pt_cmpR op_ne (pe_callB call_len (by rfl) T.z_len (by decide +kernel) (pa_cons (pv 1) pa_nil)) pe_int (nomark _)))))
      (pss_one (ps_ret pe_bl))
      pss_nil)
      (pss_cons (ps_if (PW.pt (pw_or (pt_not (pt_val (pe_call G_is_integer hr_is_integer rfl T.m_is_integer T.F_is_integer.kp T.b_is_integer .nil pass0 (pa_cons (pe_ix ix_seq (pv 1) pe_int (fun _ _ => rfl)) pa_nil)))) (pw_or1 (pt_not (pt_val (pe_call G_is_integer hr_is_integer rfl T.m_is_integer T.F_is_integer.kp T.b_is_integer .nil pass0 (pa_cons (pe_ix ix_seq (pv 1) pe_int (fun _ _ => rfl)) pa_nil)))))))
      (pss_one (ps_ret pe_bl))
      pss_nil)
      (pss_one (ps_ret (pe_chain op_le op_le pe_int (pe_op op_sub (pe_ix ix_seq (pv 1) pe_int (fun _ _ => rfl)) (pe_ix ix_seq (pv 1) pe_int (fun _ _ => rfl))) (pe_op op_mul (pe_glob (v := V.int 8) rfl c_MAX_LIFE ⟨_, rfl⟩) (pv 0))))))), ?_⟩
    have sq : SqT K H a [V.int b, .int e] := SqT.of ha
    refine ⟨_, rfl, _, _, _, _, true, rfl, .ty _, .base (.tup ha), kit_ty (by decide +kernel), _, rfl, iteF ?_⟩
    refine ⟨_, rfl, _, _, rfl, .inr ⟨_, sq, rfl⟩, rfl, _, rfl, ?_⟩
    rw [show (!decide (V.int ((([V.int b, V.int e] : List V).length : Nat) : Int) = V.int 2)) = false from rfl]
    refine iteF ?_
    refine ⟨_, rfl, .inr (.inl ⟨_, _, _, _, rfl, rfl, sq, rfl, ?_⟩)⟩
    refine ⟨_, .int b, rfl, .inl (.int _), _, rfl, ?_⟩
    rw [isInD_int hb]
    refine iteF ?_
    refine ⟨_, rfl, .inr (.inl ⟨_, _, _, _, rfl, rfl, sq, rfl, ?_⟩)⟩
    refine ⟨_, .int e, rfl, .inl (.int _), _, rfl, ?_⟩
    rw [isInD_int he]
    refine iteF ?_
    refine ⟨_, rfl, .inr (.inl ⟨_, _, _, _, rfl, rfl, sq, rfl, ?_⟩)⟩
    refine ⟨_, rfl, .inr (.inl ⟨_, _, _, _, rfl, rfl, sq, rfl, ?_⟩)⟩
    refine ⟨_, _, rfl, rfl, _, _, rfl, rfl, _, rfl, ?_⟩
    rw [decide_eq_true h1]
    refine iteT ?_
    refine ⟨_, rfl, _, _, rfl, rfl, .inl ⟨by decide, by decide⟩, _, _, rfl, rfl, ?_⟩
    exact bl_to (decide_eq_true h2) k
/-- the rows of spans -/
structure Good (t : Int) (R : Rws) : Prop where
  nd : (R.map (·.1)).Nodup
  l1 : 1 ≤ R.length
  l8 : R.length ≤ 8
  nm : ∀ x ∈ R, nmC x.1 = true
  sp : ∀ x ∈ R, SpOk t x
  nr : ∀ x ∈ R, Near 900000000000 x
  t1 : 1 ≤ t
  t2 : t ≤ 32
def sp_are_rows (K : PySem.W.Frag) : Sp := fun vs H Q _ => ∃ (t : Int) (d : Addr) (L : List (Str × Addr)) (R : Rws), vs = [.int t, .ref d] ∧ H d = some (.dK (Kvs L)) ∧ Tups H L R ∧ Good t R ∧ ∀ H', Same H H' → Q (.bl true) H'
theorem okD_nm {z : Str} (h : nmC z = true) : okD (.str z) := by
  unfold okD
  rw [PyData.weight]
  have e : z.cps.size = z.length := rfl
  have := (nmC_len h).2
  omega
theorem ok_are_rows (T : T K mg) : FnOk P w K mg base CX0 3 T.f_are_rows T.d_are_rows ["interval", "value"] (sp_are_rows K) := by
  have G_is_span : FnOk P w K mg base CX0 2 T.f_is_span T.d_is_span ["interval", "value"] (sp_is_span K) := ok_is_span T
  have G_is_name : FnOk P w K mg base CX0 1 T.f_is_name T.d_is_name ["value"] (sp_is_name K) := ok_is_name T
  refine T.F_are_rows.ok sc_are_rows (fun vs H Q E h => ?_) (fun cdv A outer s H vs Q E hr h => ?_)
  · obtain ⟨t, d, L, R, rfl, _⟩ := h
    rfl
  · obtain ⟨t, d, L, R, rfl, hd, ts, gd, k⟩ := h
    have hu := hu_of hr
    have hr_is_span : Room 2 _ := hr.mono (by decide)
    have hr_is_name : Room 1 _ := hr.mono (by decide)
    obtain ⟨_, c_MAX_VALUES⟩ := T.c_MAX_VALUES
    refine ⟨_, (pss_cons (ps_if (PW.pt (pw_or (pt_not (pt_val (pe_callB call_isi (by rfl) T.z_isinstance (by decide +kernel) (pa_cons (pv 1) (pa_cons (pe_bltn (v := V.ty "dict") (u := Value.type "dict") (by rfl) T.z_dict (by decide +kernel) rfl) pa_nil))))) (pw_or1 (pt_not (pt_chain op_le op_le pe_int (pe_callB call_lenD (by rfl) T.z_len (by decide +kernel) (pa_cons (pv 1) pa_nil)) (pe_glob (v := V.int 8) rfl c_MAX_VALUES ⟨_, rfl⟩))))))
      (pss_one (ps_ret pe_bl))
      pss_nil)
      (pss_one (ps_ret (pe_callB (cr_all rfl) (by rfl) T.z_all (by decide +kernel) (pa_cons (pe_lock (pe_lc (own := [("name", 2)]) (g := gName 2) rfl sc_are_rows.nd (pi_keys (pv 1)) (blkOk_by (N := ["interval", "value", "name"]) (sc := defScope s_are_rows) (by decide +kernel)) (fun _ _ _ _ _ => (pg_name (i := 2) sc_are_rows.nd rfl (Or.inl rfl))) (fun _ _ _ _ _ => pts_nil) (fun _ _ _ _ _ => (pe_and (pe_call G_is_name hr_is_name rfl T.m_is_name T.F_is_name.kp T.b_is_name .nil pass0 (pa_cons (pv 2) pa_nil)) (pe_one (pe_call G_is_span hr_is_span rfl T.m_is_span T.F_is_span.kp T.b_is_span .nil pass0 (pa_cons (pv 0) (pa_cons (pe_dget (by exact hu) (pv 1) (pv 2) (fun _ _ => rfl)) pa_nil)))))))) pa_nil))))), ?_⟩
    refine ⟨_, rfl, _, _, _, _, true, rfl, .ty _, .base (.dK hd), kit_ty (by decide +kernel), _, rfl, iteF ?_⟩
    have hlen : (Kvs L).length = R.length := by rw [kvs_len, ts.len]
    refine ⟨_, rfl, d, Kvs L, rfl, hd, _, _, rfl, rfl, _, rfl, ?_⟩
    rw [hlen, decide_eq_true (by have := gd.l1; omega)]
    refine iteT ?_
    refine ⟨_, _, rfl, rfl, _, rfl, ?_⟩
    rw [decide_eq_true (by have := gd.l8; omega)]
    refine iteF ?_
    refine ⟨d, _, hd, True.intro, fun od => ?_⟩
    refine ⟨_, rfl, d, od, rfl, .inl ⟨Kvs L, upd_same, fun D hD => ?_⟩⟩
    have nDd : d ≠ D := fun z => by rw [← z, upd_same] at hD; cases hD
    have hD0 : H D = none := by rw [upd_ne nDd.symm] at hD; exact hD
    have kl : KT H (upd H d (.frz od (.dK (Kvs L)))) := KT.put hd (fun _ z => by cases z)
    refine lc_it walk_keys (fun i H' => H' D = some (.lst ((List.replicate i true).map V.bl)) ∧ Same (upd H d (.frz od (.dK (Kvs L)))) H') ⟨upd_same, Same.new hD⟩ (fun i H' _ h => h.2 _ _ upd_same) ?_ ?_
    · rintro i x H1 H2 hi ⟨eD, S⟩ ⟨rfl, kk, vv, ek, rfl⟩
      refine ⟨rfl, ?_⟩
      unfold tYes
      dsimp only
      rw [if_pos rfl]
      obtain ⟨⟨n, a⟩, hm, e3⟩ : ∃ p ∈ L, (Sum.inr p.1, V.ref p.2) = (kk, vv) := by
        have := List.mem_of_getElem? ek
        exact List.mem_map.mp this
      obtain ⟨e4, e5⟩ := Prod.mk.inj e3
      subst e4 e5
      have hn : n ∈ R.map (·.1) := by rw [← ts.names]; exact List.mem_map.mpr ⟨_, hm, rfl⟩
      have ts1 := ts.keep (KT.trans kl (KT.same S))
      obtain ⟨q, b, e, hv, hq, hR⟩ := ts1.get hn
      have g1 := gd.nr _ hR
      have g2 := gd.sp _ hR
      have g3 := gd.t2
      have g4 := gd.t1
      unfold Near at g1
      unfold SpOk at g2
      simp only at g1 g2
      refine ⟨_, rfl, _, .str n, rfl, .inl (.str _), okD_nm (gd.nm _ hR), fun H3 S3 => ?_⟩
      rw [show nmD (.str n) = true from gd.nm _ hR]
      refine ⟨_, rfl, iteT ?_⟩
      refine ⟨_, rfl, _, rfl, _, rfl, d, V.ref q, rfl, ?_, ?_⟩
      · refine .inl ⟨Kvs L, Sum.inr n, .inr ⟨od, S3 _ _ (S _ _ upd_same)⟩, rfl, hv.symm⟩
      refine ⟨t, q, b, e, rfl, (KT.same S3) _ _ hq, by omega, by omega, by omega, by omega, by omega, ?_⟩
      refine ⟨_, S3 _ _ eD, by rw [List.length_map, List.length_replicate, sizeLine_eq]; have := gd.l8; omega, ?_, Same.at hD (Same.trans S S3)⟩
      rw [upd_same, List.replicate_succ', List.map_append]
      rfl
    · rintro H1 ⟨eD, S⟩
      refine ⟨S _ _ upd_same, ?_⟩
      refine ⟨_, _, rfl, SqL.of (by rw [upd_ne nDd.symm]; exact eD), ?_⟩
      refine bl_to ?_ (k _ (same_lock hd S))
      rw [List.all_eq_true]
      intro b hb
      exact (List.mem_replicate.mp hb).2
end
end K40
/-! an own class's ==, !=, str, by the promises of its defs -/
namespace OW
open PySem PySem.Spec PyProof.Rows L2

section
variable {prog : Program} {w : World} {A : Around} {E : Value → Shared → Prop} {s : Shared} {K : PySem.W.Frag} {x C L : Addr} {h₀ : Heap} {m : Str → Option Value} {ox : Obj} {od : Option Obj} {b tb : Value}
/-- a comparison by what the left one's special method gives -/
theorem cmp_left {op : CmpOp} {Q : Value → Shared → Prop} (hu : A.units < cLine) (X : K.In s.heap) (I : PySem.W.InstAt s.heap x ox C od) (hb : PySem.W.Looks (model prog w) s.heap (typeOf b) tb) (hn : PySem.W.notFirst K C tb = true)
    (one : wpAny (model prog w) A (tryCompare (.ref x) (cmpInfo op).2.1 b) (fun r s' => ∃ v, r = some v ∧ Q v s') E s) : wpAny (model prog w) A (richCompare op (.ref x) b) Q E s := by
  unfold richCompare
  simp only [oneThing_ref]
  refine wpAny_holding (wpAny_bind (wpAny_cRoomFor hu (wpAny_bind (I.type.here (wpAny_bind (hb.here ?_))))))
  have fin : ∀ {k : Option Value → Sem Value}, (∀ v, k (some v) = pure v) → wpAny (model prog w) A (tryCompare (.ref x) (cmpInfo op).2.1 b >>= k) Q E s := fun hk => by
    refine wpAny_bind (wpAny_mono one
                                      (fun r s' z => ?_) fun _ _ e => e)
    obtain ⟨v, rfl, q⟩ := z
    rw [hk]
    exact wpAny_pure q
  split
  · rename_i q
    have e : PySem.W.subIn K tb (.ref C) = some false := by
      rcases Bool.or_eq_true_iff.mp hn with e | e
      · rw [beq_iff_eq.mp e] at q
        simp at q
      · exact beq_iff_eq.mp e
    refine wpAny_bind ((PySem.W.looks_subIn X e).here ?_)
    simp only [Bool.false_eq_true, if_false]
    exact fin fun v => rfl
  · refine wpAny_bind (wpAny_pure ?_)
    simp only [Bool.false_eq_true, if_false]
    exact fin fun v => rfl
/-- a special method that the class has from object -/
theorem if_builtin {M : Model} {name : Str} {id : String} {args : List Value} {Q : Option Value → Shared → Prop} (X : K.In s.heap) (I : PySem.W.InstAt s.heap x ox C od) (hs : PySem.W.findIn K (.ref C) name = some (some (.builtin id)))
    (hb : ∀ self, bindSpecial (.builtin id) self = pure (.builtin id, [self])) (h : wpAny M A (call (.builtin id) (.ref x :: args)) (fun v => Q (some v)) E s) : wpAny M A (callSpecialIfBound? (.ref x) name args) Q E s := by
  simp only [callSpecialIfBound?, bindSpecialIfBound?]
  refine wpAny_holding (wpAny_bind (wpAny_bind (wpAny_bind (I.type.here ((PySem.W.looks_findIn X hs).here (wpAny_bind (wpAny_askSetting (wpAny_ite ?_))))))))
  have fin : wpAny M A (call (.builtin id) ([.ref x] ++ args) >>= fun v => pure (some v)) Q E s := wpAny_bind (wpAny_mono h (fun v s' h' => wpAny_pure h') fun _ _ h' => h')
  split
  · exact wpAny_bind (wpAny_of_eq (hb _) (wpAny_pure (by exact fin)))
  · exact wpAny_tryCatch (wpAny_bind (wpAny_of_eq (hb _) (wpAny_pure (by exact fin))))
/-- != from an own == -/
theorem ne_left {f : Addr} {Q : Value → Shared → Prop} (hu : A.in1.units < cLine) (X : K.In s.heap) (I : PySem.W.InstAt s.heap x ox C od) (hm : PySem.W.mroIn K C (.type "object") = some true) (hn : PySem.W.findIn K (.ref C) "__ne__" = some (some (.builtin "object.__ne__")))
    (hs : PySem.W.findIn K (.ref C) "__eq__" = some (some (.ref f))) (hf : PySem.W.isFn K (.ref f) = true)
    (h : wpAny (model prog w) A.in1 (call (.ref f) [.ref x, b]) (fun v s' => ∃ z, v = .bool z ∧ Q (.bool (!z)) s') E s) : wpAny (model prog w) A (tryCompare (.ref x) (cmpInfo .NotEq).2.1 b) (fun r s' => ∃ v, r = some v ∧ Q v s') E s := by
  unfold tryCompare
  refine wpAny_bind (if_builtin X I hn F.cmp_object.ne.bind (wpAny_call (codeAny_call_builtin F.cmp_object.ne.plain F.cmpEntry_ne (PySem.W.check_slot F.cmpKind_ne F.cmpSplit_ne (I.type.andThen (PySem.W.looks_mroIn X hm)) (F.cmpArgs_ne _ _) ?_))))
  unfold Builtin.«object.__ne__»
  refine wpAny_bind (wpAny_of_eq (a := ((Value.ref x), [b])) rfl ?_)
  dsimp only
  refine wpAny_bind (wpAny_cRoomFor hu ?_)
  refine wpAny_bind (PySem.W.ifBound_K X I hs hf (wpAny_mono h (fun v s' z => ?_) fun _ _ e => e))
  obtain ⟨z, rfl, q⟩ := z
  refine wpAny_bind (wpAny_truthy_bool ?_)
  exact wpAny_pure (wpAny_pure ⟨_, rfl, q⟩)
end

/-- the type of a value -/
def Tyd (K : PySem.W.Frag) (H : Hp) (y : V) (tb : Value) : Prop :=
  match y with
  | .non => tb = .type "NoneType"
  | .bl _ => tb = .type "bool"
  | .int _ => tb = .type "int"
  | .str _ => tb = .type "str"
  | .ref a => ((∃ xs, SqL K H a xs) ∧ tb = .type "list") ∨ ((∃ xs, SqT K H a xs) ∧ tb = .type "tuple") ∨ ∃ C dx fs, H a = some (.ins C dx fs) ∧ tb = .ref C
  | _ => False
section
variable {X : Cx} {pins : List (Addr × Obj)} {σ : L2.St} {H : Hp} {s : Shared} {y : V} {u tb : Value}
theorem tyd_at {h : Heap} {a : Addr} {o : Obj} {M : Model} {t : Value} (ho : h.get? a = some o) (hc : o.cls = t) : PySem.W.Looks M h (typeOf (.ref a)) t := fun A Q E s k q => wpAny_typeOf_ref (k _ _ ho) (by rw [hc]; exact q)
theorem tyd_looks (I : Inv X pins σ H s) (r : RelV y u) (t : Tyd X.K H y tb) : PySem.W.Looks (model X.prog X.w) s.heap (typeOf u) tb := by
  cases y with
  | non => cases r; cases t; exact PySem.W.Looks.of_pure rfl
  | bl b => cases r; cases t; exact PySem.W.Looks.of_pure rfl
  | int i => obtain ⟨tk, rfl⟩ := r; cases t; exact PySem.W.Looks.of_pure rfl
  | str x => obtain ⟨tk, rfl⟩ := r; cases t; exact PySem.W.Looks.of_pure rfl
  | ref a =>
    cases r
    rcases t with ⟨⟨xs, h⟩, rfl⟩ | ⟨⟨xs, h⟩, rfl⟩ | ⟨C, dx, fs, h, rfl⟩
    · obtain ⟨its, _, pl, _⟩ := I.list h
      obtain ⟨o, ho, hc, _⟩ := pl.isList
      exact tyd_at ho hc
    · obtain ⟨its, _, ⟨o, ho, hc, _⟩, _⟩ := I.tuple h
      exact tyd_at ho hc
    · obtain ⟨mA, O, _⟩ := ins_get I.hok h
      obtain ⟨od, J, _⟩ := O.look
      exact J.type
  | byt _ => exact t.elim
  | flt _ => exact t.elim
  | ty _ => exact t.elim

/-- a def called from within a builtin -/
theorem run_at {CX : CXT} {n : Nat} {f : Addr} {fd : FuncData} {ps : List Str} {sp : Sp} {E : XK} {A : Around} {Q : VK} {us : List Value} {vs : List V} (F : FnOk X.prog X.w X.K X.mg X.base CX n f fd ps sp) (sb : Sub X n A) (hb : Binds X.K fd ps []) (hx : Passes CX X E)
    (I : Inv X pins σ H s) (r : Vals vs us) (h : sp vs H Q E) : wpAny (model X.prog X.w) A (call (.ref f) us) (EP X pins σ Q) X.xe s := by
  have e0 : Env0 X.prog X.w X.K X.mg X.base A X.stack s H := by
    have e := I.env0
    exact ⟨by rw [sb.fr]; exact e.frames, e.mod, e.bs, e.bsz, e.funs, e.frf, e.hok, e.bare⟩
  have hl := F.len _ _ _ _ h
  refine wpAny_call (codeAny_mono (F.run A X.stack s H ⟨us, []⟩ us vs Q E sb.room e0 (by
    have := hb s us I.kIn (by rw [List.append_nil, ← r.length]; exact hl)
    rwa [List.append_nil] at this) r h) fun r s' hq => ?_)
  cases r with
  | error e => exact hx pins σ H s e s' I hq
  | ok fl =>
    cases fl with
    | ret w => exact I.after hq
    | next => exact False.elim hq
    | brk => exact False.elim hq
    | cont => exact False.elim hq
theorem not_ni {z : V} {v : Value} {R : Prop} (r : RelV z v) (h : v ≠ .notImplemented → R) : R := h fun e => by
  subst e
  cases z <;> first | exact nomatch r | (obtain ⟨t, e⟩ := r; exact nomatch e) | (cases r)

/-- the class's own == -/
structure OwnEq (X : Cx) (C f : Addr) : Prop where
  fs : PySem.W.findIn X.K (.ref C) "__eq__" = some (some (.ref f))
  fn : PySem.W.isFn X.K (.ref f) = true
def rOwnEq (K : PySem.W.Frag) (C : Addr) (sp : Sp) (E : XK) : R2 := fun x y H Q => ∃ a dx fs tb, x = .ref a ∧ H a = some (.ins C dx fs) ∧ Tyd K H y tb ∧ PySem.W.notFirst K C tb = true ∧ sp [x, y] H Q E
theorem op_ownEq {CX : CXT} {n : Nat} {C f : Addr} {fd : FuncData} {ps : List Str} {sp : Sp} {E : XK} (F : FnOk X.prog X.w X.K X.mg X.base CX n f fd ps sp) (o : OwnEq X C f) (hr : Room n X.A) (hb : Binds X.K fd ps []) (hx : Passes CX X E) :
    OpR X (compareOp .Eq) (rOwnEq X.K C sp E) := by
  intro pins s σ H x y v u Q I rx ry h
  obtain ⟨a, dx, fs, tb, rfl, ha, ty, nf, q⟩ := h
  cases rx
  obtain ⟨mA, O, _⟩ := ins_get I.hok ha
  obtain ⟨od, J, _⟩ := O.look
  show wpAny _ _ (richCompare .Eq (.ref a) u) _ _ _
  refine cmp_left hr.units0 I.kIn J (tyd_looks I ry ty) nf ?_
  unfold tryCompare
  refine wpAny_bind (PySem.W.ifBound_K I.kIn J o.fs o.fn (wpAny_mono (run_at F ⟨hr, rfl⟩ hb hx I (vs := [.ref a, y]) (.cons rfl (.cons ry .nil)) q) (fun v s' z => ?_) fun _ _ e => e))
  obtain ⟨zv, H', I', r', q'⟩ := z
  refine not_ni r' fun ne => ?_
  cases v <;> first | exact absurd rfl ne | exact wpAny_pure ⟨_, rfl, zv, H', I', r', q'⟩
def rOwnNe (K : PySem.W.Frag) (C : Addr) (sp : Sp) (E : XK) : R2 := fun x y H Q => ∃ a dx fs tb, x = .ref a ∧ H a = some (.ins C dx fs) ∧ Tyd K H y tb ∧ PySem.W.notFirst K C tb = true ∧ sp [x, y] H (fun v H' => ∃ b, v = .bl b ∧ Q (.bl (!b)) H') E
theorem op_ownNe {CX : CXT} {n : Nat} {C f : Addr} {fd : FuncData} {ps : List Str} {sp : Sp} {E : XK} (F : FnOk X.prog X.w X.K X.mg X.base CX n f fd ps sp) (o : OwnEq X C f) (hm : PySem.W.mroIn X.K C (.type "object") = some true)
    (hn : PySem.W.findIn X.K (.ref C) "__ne__" = some (some (.builtin "object.__ne__"))) (hr : Room (n + 1) X.A) (hb : Binds X.K fd ps []) (hx : Passes CX X E) :
    OpR X (compareOp .NotEq) (rOwnNe X.K C sp E) := by
  intro pins s σ H x y v u Q I rx ry h
  obtain ⟨a, dx, fs, tb, rfl, ha, ty, nf, q⟩ := h
  cases rx
  obtain ⟨mA, O, _⟩ := ins_get I.hok ha
  obtain ⟨od, J, _⟩ := O.look
  show wpAny _ _ (richCompare .NotEq (.ref a) u) _ _ _
  refine cmp_left hr.units0 I.kIn J (tyd_looks I ry ty) nf ?_
  refine ne_left hr.in1.units0 I.kIn J hm hn o.fs o.fn (wpAny_mono (run_at F ⟨hr.in1, rfl⟩ hb hx I (vs := [.ref a, y]) (.cons rfl (.cons ry .nil)) q) (fun v s' z => ?_) fun _ _ e => e)
  obtain ⟨zv, H', I', r', b, rfl, q'⟩ := z
  cases r'
  exact ⟨b, rfl, .bl (!b), H', I', rfl, q'⟩
end
end OW
/-! an own class's in, len, [..], +, str, by the promises of its defs -/
namespace OW
open PySem PySem.Spec PyProof.Rows L2
section
variable {X : Cx} {CX : CXT} {n : Nat} {C f : Addr} {fd : FuncData} {ps : List Str} {sp : Sp} {E : XK}
/-- the class has a def at f as its special method -/
structure OwnM (X : Cx) (C : Addr) (name : Str) (f : Addr) : Prop where
  fs : PySem.W.findIn X.K (.ref C) name = some (some (.ref f))
  fn : PySem.W.isFn X.K (.ref f) = true
/-- what holds of a tracked instance -/
theorem inst_at {pins : List (Addr × Obj)} {σ : L2.St} {H : Hp} {s : Shared} {a dx : Addr} {fs : List (Str × V)} (I : Inv X pins σ H s) (ha : H a = some (.ins C dx fs)) : ∃ ox od, PySem.W.InstAt s.heap a ox C od := by
  obtain ⟨mA, O, _⟩ := ins_get I.hok ha
  obtain ⟨od, J, _⟩ := O.look
  exact ⟨_, od, J⟩
def rOwnIn (C : Addr) (sp : Sp) (E : XK) (neg : Bool) : R2 := fun y x H Q => ∃ a dx fs, x = .ref a ∧ H a = some (.ins C dx fs) ∧ sp [x, y] H (fun v H' => ∃ b, v = .bl b ∧ Q (.bl (if neg then !b else b)) H') E
theorem op_ownIn (F : FnOk X.prog X.w X.K X.mg X.base CX n f fd ps sp) (o : OwnM X C "__contains__" f) (hr : Room n X.A) (hb : Binds X.K fd ps []) (hx : Passes CX X E) : OpR X (compareOp .In) (rOwnIn C sp E false) := by
  intro pins s σ H y x u v Q I ry rx h
  obtain ⟨a, dx, fs, rfl, ha, q⟩ := h
  cases rx
  obtain ⟨ox, od, J⟩ := inst_at I ha
  obtain ⟨m, hF⟩ := I.fr
  refine PySem.W.in_K hF I.ok.mod.kin J o.fs o.fn (wpAny_mono (run_at F ⟨hr, rfl⟩ hb hx I (vs := [.ref a, y]) (.cons rfl (.cons ry .nil)) q) (fun v s' z => ?_) fun _ _ e => e)
  obtain ⟨zv, H', I', r', b, rfl, q'⟩ := z
  cases r'
  exact wpAny_truthy_bool ⟨.bl b, H', I', rfl, q'⟩
theorem op_ownNotIn (F : FnOk X.prog X.w X.K X.mg X.base CX n f fd ps sp) (o : OwnM X C "__contains__" f) (hr : Room n X.A) (hb : Binds X.K fd ps []) (hx : Passes CX X E) : OpR X (compareOp .NotIn) (rOwnIn C sp E true) := by
  intro pins s σ H y x u v Q I ry rx h
  obtain ⟨a, dx, fs, rfl, ha, q⟩ := h
  cases rx
  obtain ⟨ox, od, J⟩ := inst_at I ha
  obtain ⟨m, hF⟩ := I.fr
  refine PySem.W.notIn_K hF I.ok.mod.kin J o.fs o.fn (wpAny_mono (run_at F ⟨hr, rfl⟩ hb hx I (vs := [.ref a, y]) (.cons rfl (.cons ry .nil)) q) (fun v s' z => ?_) fun _ _ e => e)
  obtain ⟨zv, H', I', r', b, rfl, q'⟩ := z
  cases r'
  exact wpAny_truthy_bool ⟨.bl (!b), H', I', rfl, q'⟩
/-- len(o) -/
def rOwnLen (C : Addr) (sp : Sp) (E : XK) : List V → Hp → VK → Prop := fun xs H Q => ∃ a dx fs, xs = [.ref a] ∧ H a = some (.ins C dx fs) ∧ sp [.ref a] H (fun v H' => ∃ i : Int, v = .int i ∧ 0 ≤ i ∧ i < 2 ^ 63 ∧ Q (.int i) H') E
theorem cr_ownLen (F : FnOk X.prog X.w X.K X.mg X.base CX n f fd ps sp) (o : OwnM X C "__len__" f) (hr : Room (n + 1) X.A) (hb : Binds X.K fd ps []) (hx : Passes CX X E) : CallR X (.builtin "len") (rOwnLen C sp E) := by
  intro pins s σ H xs us Q I r h
  obtain ⟨a, dx, fs, rfl, ha, q⟩ := h
  rw [Vals.ref1 r]
  obtain ⟨ox, od, J⟩ := inst_at I ha
  obtain ⟨m, hF⟩ := I.fr
  refine PySem.W.len_K hF I.ok.mod.kin J o.fs o.fn (wpAny_mono (run_at F ⟨hr.in1, rfl⟩ hb hx I (vs := [.ref a]) (.cons rfl .nil) q) (fun v s' z => ?_) fun _ _ e => e)
  obtain ⟨zv, H', I', r', i, rfl, h0, h1, q'⟩ := z
  obtain ⟨t, rfl⟩ := r'
  exact ⟨⟨h0, h1⟩, .int i, H', I'.tok _, ⟨_, rfl⟩, q'⟩
/-- o + p of one class -/
def rOwnAdd (C : Addr) (sp : Sp) (E : XK) : R2 := fun x y H Q => ∃ a dx fs b dy gs, x = .ref a ∧ H a = some (.ins C dx fs) ∧ y = .ref b ∧ H b = some (.ins C dy gs) ∧ sp [x, y] H Q E
theorem op_ownAdd (F : FnOk X.prog X.w X.K X.mg X.base CX n f fd ps sp) (o : OwnM X C "__add__" f) (hc : PySem.W.selfFirst X.K C = true) (hr : Room n X.A) (hb : Binds X.K fd ps []) (hx : Passes CX X E) : OpR X (binaryOp .Add) (rOwnAdd C sp E) := by
  intro pins s σ H x y u v Q I rx ry h
  obtain ⟨a, dx, fs, b, dy, gs, rfl, ha, rfl, hb', q⟩ := h
  cases rx
  cases ry
  obtain ⟨ox, od, J⟩ := inst_at I ha
  obtain ⟨oy, od', J'⟩ := inst_at I hb'
  obtain ⟨m, hF⟩ := I.fr
  refine PySem.W.binop_K hF I.ok.mod.kin J J'.type hc o.fs o.fn (wpAny_mono (run_at F ⟨hr, rfl⟩ hb hx I (vs := [.ref a, .ref b]) (.cons rfl (.cons rfl .nil)) q) (fun v s' z => ?_) fun _ _ e => e)
  obtain ⟨zv, H', I', r', q'⟩ := z
  refine not_ni r' fun ne => ?_
  cases v <;> first | exact absurd rfl ne | exact ⟨zv, H', I', r', q'⟩
end
section
variable {prog : Program} {w : World} {A : Around} {E : Value → Shared → Prop} {s : Shared} {K : PySem.W.Frag} {x C f : Addr} {ox : Obj} {od : Option Obj}
open Builtin Builtin.Str in
/-- str(o), an own __str__ -/
theorem str_own {Q : Value → Shared → Prop} (hu : A.in1.in1.units < cLine) (X : K.In s.heap) (I : PySem.W.InstAt s.heap x ox C od) (hs : PySem.W.findIn K (.ref C) "__str__" = some (some (.ref f))) (hf : PySem.W.isFn K (.ref f) = true)
    (h : wpAny (model prog w) A.in1.in1 (call (.ref f) [.ref x]) (PySem.W.StrBack Q) E s) : wpAny (model prog w) A (call (.type "str") [.ref x]) Q E s := by
  refine callType_codes (T := "str") (Bi := Builtin.«object.__init__»)
                                                                       (Q₁ := fun r s₁ => ∃ y u, r = .str y u ∧ Q r s₁) PySem.F.called_str (PySem.F.typeCall_str_1 _) PySem.F.entry_object_init ?_ ?_
  · refine codeAny_of_tree ?_
    show wpAny _ A.in1.in1 (do checkBuiltinCall "str.__new__"
                                                              ⟨[.type "str", .ref x], []⟩; again (.builtin "str.__new__" ⟨[.type "str", .ref x], []⟩)) _ _ s
    refine wpAny_bind (wpAny_of_eq (PySem.F.newCall_str_1 _) (wpAny_pure
                                                                         ⟨plainId_quiet (by decide +kernel) _, codeAny_builtin PySem.F.entry_str_new ?_⟩))
    rw [Around.under_plainId (by decide +kernel) _, str_new_tree]
    refine wpAny_bind (wpAny_pure (wpAny_bind (wpAny_of_eq isSubtype_str_str ?_)))
    have key : wpAny (model prog w) A.in1.in1 (PySem.Builtin.Str.strOf
                                                                       (.ref x)) (fun r s₁ => ∃ y u, r = .str y u ∧ Q r s₁) E s := by
      unfold PySem.Builtin.Str.strOf
      rw [show isExactStr (.ref x) = false from rfl]
      refine wpAny_bind
                        (m := cRoomFor _ _) (wpAny_cRoomFor hu ?_)
      refine wpAny_bind (m := callSpecial? (.ref x) (Str.ofString "__str__")) (PySem.W.special_fn X I hs (beq_iff_eq.mp hf) (wpAny_mono h (fun r s' z => ?_) fun _ _ y => y))
      cases r <;> first | exact z.elim | exact wpAny_pure
                                                          ⟨_, _, rfl, z⟩
    exact wpAny_bind (wpAny_mono key
                                     (fun r s₁ hr => wpAny_pure hr) fun _ _ y => y)
  · rintro obj s₁ ⟨y, u, rfl, hq⟩
    exact ⟨typeIs_str _ _ _, PySem.F.args_object_init_2 _ _, object_init_meets PySem.F.called_str.init.lookup PySem.F.called_str.made
                                                                                                                                      (by decide) prog w A.in1 _ s₁ ⟨typeIs_str _ _ _, rfl, hq⟩⟩
end
section
variable {X : Cx} {CX : CXT} {n : Nat} {C f : Addr} {fd : FuncData} {ps : List Str} {sp : Sp} {E : XK}
def rOwnStr (C : Addr) (sp : Sp) (E : XK) : List V → Hp → VK → Prop := fun xs H Q => ∃ a dx fs, xs = [.ref a] ∧ H a = some (.ins C dx fs) ∧ sp [.ref a] H (fun v H' => ∃ z, v = .str z ∧ Q (.str z) H') E
theorem cr_ownStr (F : FnOk X.prog X.w X.K X.mg X.base CX n f fd ps sp) (o : OwnM X C "__str__" f) (hr : Room (n + 2) X.A) (hb : Binds X.K fd ps []) (hx : Passes CX X E) : CallR X (.type "str") (rOwnStr C sp E) := by
  intro pins s σ H xs us Q I r h
  obtain ⟨a, dx, fs, rfl, ha, q⟩ := h
  rw [Vals.ref1 r]
  obtain ⟨ox, od, J⟩ := inst_at I ha
  refine str_own hr.in1.in1.units0 I.kIn J o.fs o.fn (wpAny_mono (run_at F ⟨hr.in1.in1, rfl⟩ hb hx I (vs := [.ref a]) (.cons rfl .nil) q) (fun v s' z => ?_) fun _ _ e => e)
  obtain ⟨zv, H', I', r', y, rfl, q'⟩ := z
  obtain ⟨t, rfl⟩ := r'
  exact ⟨.str y, H', I', ⟨t, rfl⟩, q'⟩
/-- o[i] -/
def rOwnItem (C : Addr) (sp : Sp) (E : XK) : R2 := fun x y H Q => ∃ a dx fs, x = .ref a ∧ H a = some (.ins C dx fs) ∧ sp [x, y] H Q E
theorem pe_ownItem {a b : Expr} {ta tb : TE} {pos : Pos} (ha : PE X a ta) (hb : PE X b tb) (F : FnOk X.prog X.w X.K X.mg X.base CX n f fd ps sp) (o : OwnM X C "__getitem__" f) (hfn : PySem.W.fnIn X.K f = true) (hr : Room (n + 1) X.A) (hbd : Binds X.K fd ps []) (hx : Passes CX X E)
    (hsl : ∀ x i, subscripted b true (.ref x) i = runValue (.builtin "lifetime.subscript" ⟨[.ref x, i], []⟩)) : PE X (.Subscript a b pos) (tOp (rOwnItem C sp E) ta tb) := by
  refine ⟨fun pins s σ H Q I h => ?_⟩
  refine Subscript_
                    (binT ha hb I h fun v u s2 x y H2 I2 rx ry q => ?_)
  obtain ⟨p, dx, fs, rfl, hp, q⟩ := q
  cases rx
  obtain ⟨ox, od, J⟩ := inst_at I2 hp
  obtain ⟨m, hF⟩ := I2.fr
  exact PySem.W.sub_K hF I2.ok.mod.kin J o.fs hfn o.fn (run_at F ⟨hr.in1, rfl⟩ hbd hx I2 (vs := [.ref p, y]) (.cons rfl (.cons ry .nil)) q) (hsl _ _)
end
end OW
/-! == of dicts of data in one order; in, of a value that is no text, in a tuple of texts -/
namespace RL
open PySem PySem.Spec PyProof.Rows L2
/-- all values equal, place by place -/
def allE : List (PyData × PyData) → List (PyData × PyData) → Bool
  | (_, d) :: es, (_, e) :: fs => PyData.eqv d e && allE es fs
  | _, _ => true
section
variable {X : Cx} {pins : List (Addr × Obj)}
                                             {σ : L2.St} {H : Hp} {s : Shared}
theorem dic_hits (I : Inv X pins σ H s) {A : Around} (hu : A.units + 60 < cLine) {ls : List (Key × V)} {vb : List (Key × Value)} (rb : KV ls vb) :
    ∀ {es' fs' : List (PyData × PyData)} {ks' ls' : List (Key × V)} {va' : List (Key × Value)}, DSk X.K H ks' es' → DSk X.K H ls' fs' → KV ks' va' → ks'.map (·.1) = ls'.map (·.1) → (∀ p ∈ ls', valV ls p.1 = some p.2) →
      PyData.plainAll (es'.map (·.2)) = true → PyData.plainAll (fs'.map (·.2)) = true → PyData.depthAll (es'.map (·.2)) ≤ 60 → PySem.W.KeqHitsP X.prog X.w A s vb va' (allE es' fs')
  | [], _, _, _, _, h1, h2, r, e, _, _, _, _ => by
    cases h1
    unfold KV at r
    cases r
    simp only [allE]
    exact .nil
  | (kd, d) :: es', _, _, _, _, h1, h2, r, e, hv, p1, p2, hd => by
    cases h1 with
    | @cons k v ks' _ _ hd1 hk1 =>
      cases h2 with
      | nil => cases e
      | @cons k2 v2 ls' d2 fs' hd2 hk2 =>
        obtain ⟨rfl, e2⟩ := List.cons.inj e
        unfold KV at r
        cases r with
        | @cons _ q _ qs h t =>
          obtain ⟨hq1, hq2⟩ := h
          obtain ⟨qk, qv⟩ := q
          obtain rfl : k = qk := hq1
          have rr : RelO (some v2) (valueAt vb k) := by
            rw [← hv _ List.mem_cons_self]
            exact rb.val k
          obtain ⟨y, hy, ry⟩ := rr.some_of
          have p1' : d.plain = true ∧ PyData.plainAll (es'.map (·.2)) = true := by simpa [PyData.plainAll] using p1
          have p2' : d2.plain = true ∧ PyData.plainAll (fs'.map (·.2)) = true := by simpa [PyData.plainAll] using p2
          have hdd : d.depth ≤ 60 ∧ PyData.depthAll (es'.map (·.2)) ≤ 60 := by
            simp only [List.map_cons, PyData.depthAll] at hd
            omega
          obtain ⟨as, ra⟩ := DS.reads I _ _ _ hd1 hq2
          obtain ⟨bs, rb'⟩ := DS.reads I _ _ _ hd2 ry
          refine .hit hy (SeqAt.EqAt.eqP (SeqAt.eqAt_plain d d2 A s qv y as bs ra rb' p1'.1 p2'.1 (by have := Nat.min_le_left d.depth d2.depth; omega))) ?_
          exact dic_hits I hu rb hk1 hk2 t e2 (fun p hp => hv p (List.mem_cons_of_mem _ hp)) p1'.2 p2'.2 hdd.2
/-- a == b, two dicts with the same keys in one order -/
def rEqDic (K : PySem.W.Frag) : R2 := fun x y H Q => ∃ a b ks ls es fs, x = .ref a ∧ y = .ref b ∧ H a = some (.dK ks) ∧ H b = some (.dK ls) ∧ DSk K H ks es ∧ DSk K H ls fs ∧ ks.map (·.1) = ls.map (·.1) ∧ (∀ p ∈ ls, valV ls p.1 = some p.2) ∧
  PyData.plainAll (es.map (·.2)) = true ∧ PyData.plainAll (fs.map (·.2)) = true ∧ PyData.depthAll (es.map (·.2)) ≤ 60 ∧ Q (.bl (allE es fs)) H
theorem op_eqDic (hu : X.A.units + 64 < cLine) : OpR X (compareOp .Eq) (rEqDic X.K) := by
  intro pins s σ H x y v u Q I rx ry h
  obtain ⟨a, b, ks, ls, es, fs, rfl, rfl, ha, hb, h1, h2, e, hv, p1, p2, hd, q⟩ := h
  cases rx
  cases ry
  obtain ⟨_, ya, va, ra, da⟩ :=
                                (show ObjOk X.prog X.w H s.heap a (.dK ks) from I.hok a _ ha)
  obtain ⟨_, yb, vb, rb, db⟩ :=
                                (show ObjOk X.prog X.w H s.heap b (.dK ls) from I.hok b _ hb)
  have hl : va.length = vb.length := by
    rw [← ra.length, ← rb.length, ← List.length_map (f := (·.1)) (as := ks), e, List.length_map]
  refine PySem.W.rcP_dicts (knd := mixKind X.prog X.w) (r := allE es fs) ya yb da db (by omega) (fun _ => dic_hits I (by show X.A.units + 1 + 60 < cLine; omega) rb h1 h2 ra e hv p1 p2 hd) _ _ ?_
  rw [show (va.length == vb.length && allE es fs) = allE es fs from by rw [hl]; simp]
  exact ⟨.bl _, H, I, rfl, q⟩
end
/-! ### in a tuple of texts -/
section
open AutoSeq1 (wpAny_loadPart')
open SeqAt MeetsSeq MeetsSeq2 MeetsSeq3 SeqRoads2
variable {prog : Program} {w : World}
theorem tuple_containsJ (l : Addr) (items : Array Value) (n : Nat) (dd : Option Addr) (sl : Array (Option Value)) (x : Value) (J : Shared → Prop) :
    MeetsIn prog w (Builtin.«tuple.__contains__» ⟨[.ref l, x], []⟩)
      (fun A R s => s.heap.get? l = some { cls := .type "tuple", dict := dd, data := .seq items n, slots := sl } ∧ J s ∧ (∀ y, y ∈ items → ∀ s', J s' → wpAny (model prog w) A.in1 (eqBool y x) (fun b s'' => b = false ∧ J s'') (fun e s' => R (.error e) s') s') ∧ ∀ s', J s' → R (.ok (.ret (.bool false))) s') :=
  .of_wp fun A R s h => by
    obtain ⟨hp, g, d, tk, os⟩ := s; obtain ⟨hl, hj, he, h⟩ := h
    wp_walk using wpAny_loadPart' hl, wpAny_forIn_array _ (fun rest b s' => b.1 = none ∧ J s' ∧ (∀ y, y ∈ rest → y ∈ items)) _
    case turn =>
      rintro y rest b s' ⟨hb, hj', hmem⟩
      refine wpAny_bind (wpAny_mono (he y (hmem y (List.mem_cons_self ..)) s' hj') (fun b' s'' z => ?_) fun _ _ z => z)
      obtain ⟨rfl, hj2⟩ := z
      wp_walk
      exact ⟨rfl, hj2, fun z hz => hmem z (List.mem_cons_of_mem _ hz)⟩
    case fin =>
      rintro ⟨b1, b2⟩ s' ⟨hb, hj', -⟩
      simp only at hb
      subst hb
      wp_walk
      exact ⟨_, rfl, h _ hj'⟩
    case h =>
      exact ⟨rfl, hj, fun y hy => by simpa using hy⟩
end
end RL
/-! ### a text beside a dict, beside an instance -/
namespace RL
open PySem PySem.Spec PyProof.Rows L2
open AutoSeq1 (wpAny_loadPart')
theorem str_declines_dict (b : Str) (u : Tok) (l : Addr) (c : Value) (es : Array DictEntry) (n : Nat) (dd : Option Addr) (sl : Array (Option Value)) :
    Meets (Builtin.«str.__eq__» ⟨[.str b u, .ref l], []⟩) (fun _ R s => s.heap.get? l = some { cls := c, dict := dd, data := .dict es n, slots := sl } ∧ R (.ok (.ret .notImplemented)) s) :=
  .of_wp fun prog w A R s h => by obtain ⟨hp, g, d, tk, os⟩ := s; obtain
                                                                         ⟨hl, h⟩ := h; wp_walk using wpAny_loadPart' hl, wpAny_load hl; exact ⟨_, rfl, h⟩
theorem str_declines_plain (b : Str) (u : Tok) (l : Addr) (c : Value) (dd : Option Addr) (sl : Array (Option Value)) :
    Meets (Builtin.«str.__eq__» ⟨[.str b u, .ref l], []⟩) (fun _ R s => s.heap.get? l = some { cls := c, dict := dd, data := .plain, slots := sl } ∧ R (.ok (.ret .notImplemented)) s) :=
  .of_wp fun prog w A R s h => by obtain ⟨hp, g, d, tk, os⟩ := s; obtain
                                                                         ⟨hl, h⟩ := h; wp_walk using wpAny_loadPart' hl, wpAny_load hl; exact ⟨_, rfl, h⟩
section
variable {prog : Program}
                          {w : World} {A : Around} {s : Shared}
theorem dict_declines_str {K : Type} [DecidableEq K] {knd : KeyKind prog w K} {a : Addr} {ka : List (K × Value)} {z : Str} {t : Tok} {E Q : Value → Shared → Prop} (da : s.heap.DictOf knd a ka) (h : Q .notImplemented s) :
    wpAny (model prog w) A (call (.builtin "dict.__eq__") [.ref a, .str z t]) Q E s := by
  refine wpAny_call_entry PySem.F.slot_dict_eq da.typeIs PySem.F.entry_dict_eq ?_ (PySem.F.args_dict_eq_2 _ _)
  show wpAny _ _ (Builtin.Dict.dictSlotArgs "__eq__" ⟨[.ref a, .str z t], []⟩ >>= _) _ _ s
  refine wpAny_bind ?_
  unfold Builtin.Dict.dictSlotArgs
  refine wpAny_bind (wpAny_notOrdered_dict da.typeIs ?_)
  show wpAny _ _ (pure (Value.ref a, Value.str z t)) _ _ s
  refine wpAny_pure ?_
  refine wpAny_bind (wpAny_isInstance (T := "str") (typeIs_str s z t) PySem.F.sub_str_dict ?_)
  simp only [Bool.not_false, if_true]
  refine wpAny_bind (wpAny_rule ?_)
  exact wpAny_pure ⟨_, rfl, h⟩
end
end RL
namespace RL
open PySem PySem.Spec PyProof.Rows L2
open AutoSeq1 (wpAny_loadPart')
section
variable {prog : Program}
                          {w : World} {A : Around} {s : Shared}
theorem eqb_of_rc {z : Str} {t : Tok} {a : Addr} {E : Value → Shared → Prop} {Q : Bool → Shared → Prop} (h : wpAny (model prog w) A (richCompare .Eq (.str z t) (.ref a)) (fun v s' => ∃ b, v = .bool b ∧ Q b s') E s) : wpAny (model prog w) A (eqBool (.str z t) (.ref a)) Q E s := by
  unfold eqBool
  refine wpAny_holding ?_
  refine wpAny_ite_split (fun hab => absurd
                                            (eq_of_beq hab) nofun) (fun _ => ?_)
  refine wpAny_bind (wpAny_mono h (fun v s' z => ?_) fun _ _ z => z)
  obtain ⟨b, rfl, q⟩ := z
  exact wpAny_truthy_bool q
theorem rc_str_dict {K : Type} [DecidableEq K] {knd : KeyKind prog w K} {a : Addr} {ka : List (K × Value)} {z : Str} {t : Tok} {E Q : Value → Shared → Prop} (hu : A.units < cLine) (da : s.heap.DictOf knd a ka) (h : Q (.bool false) s) :
    wpAny (model prog w) A (richCompare .Eq (.str z t) (.ref a)) Q E s := by
  obtain ⟨⟨cls, dd, data, sl⟩, es, ep, ho, hx, hd, hr⟩ := id da
  have hc := hx.1
  simp only at hc hd
  subst hc hd
  exact SeqAt.rc_eq_decline_or (k := false) (typeIs_str s z t) da.typeIs (by decide) PySem.F.sub_dict_str PySem.F.slot_str_eq PySem.F.slot_dict_eq
    (fun _ hq => call_meets PySem.F.slot_str_eq (typeIs_str s z t) PySem.F.entry_str_eq (PySem.F.args_str_eq_2 _ _) (str_declines_dict z t a (.type "dict") es ep dd sl) ⟨ho, hq⟩)
    (fun _ hq => dict_declines_str da hq)
    (fun _ hq => wpAny_of_eq (rfl : isSame (.str z t) (.ref a) = pure false) hq) (.inr hu) h
theorem rc_str_inst {K : PySem.W.Frag} {x C dx f : Addr} {od : Option Obj} {z : Str} {t : Tok} {E Q : Value → Shared → Prop} (hu : A.units < cLine) (X : K.In s.heap) (ho : s.heap.get? x = some (PySem.W.instObj C dx)) (I : PySem.W.InstAt s.heap x (PySem.W.instObj C dx) C od)
    (hn : PySem.W.subIn K (.ref C) (.type "str") = some false) (hs : PySem.W.findIn K (.ref C) "__eq__" = some (some (.ref f))) (hf : PySem.W.isFn K (.ref f) = true)
    (h : wpAny (model prog w) A (call (.ref f) [.ref x, .str z t]) (fun v s' => v ≠ .notImplemented ∧ Q v s') E s) : wpAny (model prog w) A (richCompare .Eq (.str z t) (.ref x)) Q E s := by
  have ha := typeIs_str s z t
  simp only [richCompare, ha.oneThing_none]
  try with_reducible refine wpAny_holding ?_
  refine wpAny_bind (wpAny_cRoomFor hu ?_)
  refine wpAny_bind (wpAny_typeOf ha (wpAny_bind (wpAny_typeOf_ref ho ?_)))
  have hne : (Value.type "str" != (PySem.W.instObj C dx).cls) = true := rfl
  simp only [hne, if_true]
  refine wpAny_bind ((PySem.W.looks_subIn X hn).here ?_)
  simp only [Bool.false_eq_true, if_false, Bool.not_false, if_true]
  refine wpAny_bind (m := tryCompare (.str z t) _ (.ref x)) (wpAny_tryCompare_declines ha PySem.F.slot_str_eq (call_meets PySem.F.slot_str_eq ha PySem.F.entry_str_eq (PySem.F.args_str_eq_2 _ _) (str_declines_plain z t x (.ref C) (some dx) #[]) ⟨ho, rfl, ?_⟩))
  refine wpAny_bind (m := tryCompare (.ref x) _ (.str z t)) ?_
  unfold tryCompare
  refine wpAny_bind (PySem.W.ifBound_K X I hs hf (wpAny_mono h (fun v s' y => ?_) fun _ _ e => e))
  obtain ⟨y1, y2⟩ := y
  cases v <;> first | exact absurd rfl y1 | exact wpAny_pure (wpAny_pure y2)
end
section
variable {X : Cx} {CX : CXT} {n : Nat} {C f : Addr} {fd : FuncData} {ps : List Str} {sp : Sp} {E : XK}
/-- x in y, y a tuple of texts, x no text -/
def rInOdd (K : PySem.W.Frag) (C : Addr) (sp : Sp) (E : XK) : R2 := fun x y H Q => ∃ (p : Addr) (ns : List Str), y = .ref p ∧ SqT K H p (ns.map V.str) ∧ Q (.bl false) H ∧
  ((∃ d, DS K H x d ∧ d.plain = true ∧ d.depth ≤ 60 ∧ ∀ z, PyData.eqv (.str z) d = false) ∨ (∃ a kvs, x = .ref a ∧ H a = some (.dK kvs)) ∨
    ∃ a dx fs, x = .ref a ∧ H a = some (.ins C dx fs) ∧ ∀ z : Str, sp [x, .str z] H (fun v H' => v = .bl false ∧ H' = H) E)
theorem strs_vals : ∀ {ns : List Str} {its : List Value}, Vals (ns.map V.str) its → ∀ y ∈ its, ∃ z t, y = Value.str z t
  | [], _, h, y, hy => by
    cases h
    cases hy
  | n :: ns, _, h, y, hy => by
    cases h with
    | cons h1 h2 =>
      rcases List.mem_cons.mp hy with rfl | hy
      · obtain ⟨t, e⟩ := h1
        exact ⟨n, t, e⟩
      · exact strs_vals h2 y hy
theorem op_inOdd (F : FnOk X.prog X.w X.K X.mg X.base CX n f fd ps sp) (o : OW.OwnEq X C f) (hsub : PySem.W.subIn X.K (.ref C) (.type "str") = some false) (hr : Room (n + 2) X.A) (hun : X.A.units + 64 < cLine) (hb : Binds X.K fd ps []) (hx : Passes CX X E) :
    OpR X (compareOp .In) (rInOdd X.K C sp E) := by
  intro pins s σ H x y v u Q I rx ry h
  obtain ⟨p, ns, rfl, hq, q, hk⟩ := h
  cases ry
  obtain ⟨its, rv, ⟨⟨cls, dd, data, sl⟩, ho, hc, m, hd⟩, _⟩ := I.tuple hq
  simp only at hc hd
  subst hc hd
  have hT : s.TypeIs (.ref p) "tuple" := ⟨_, ho, rfl⟩
  have key : wpAny (model X.prog X.w) X.A (call (.builtin "tuple.__contains__") [.ref p, v]) (fun r s' => r = Value.bool false ∧ Inv X pins σ H s') X.xe s := by
    refine call_meetsIn PySem.F.slot_tuple_contains hT PySem.F.entry_tuple_contains (PySem.F.args_tuple_contains_2 _ _) (tuple_containsJ p its.toArray m dd sl v (fun s' => Inv X pins σ H s')) ⟨ho, I, ?_, fun s' I' => ⟨rfl, I'⟩⟩
    intro y hy s' I'
    obtain ⟨z, t, rfl⟩ := strs_vals rv y (by simpa using hy)
    have hu1 : X.A.in1.units < cLine := by show X.A.units + 1 < cLine; omega
    rcases hk with ⟨d, h1, h2, h3, h4⟩ | ⟨a, kvs, rfl, ha⟩ | ⟨a, dx, fs, rfl, ha, hsp⟩
    · obtain ⟨as, rd⟩ := DS.reads I' _ _ _ h1 rx
      have g := SeqAt.eqAt_plain (.str z) d X.A.in1 s' (.str z t) v _ as (Reads.str z t) rd rfl h2 (by show X.A.units + 1 + _ < cLine; have := Nat.min_le_right (PyData.str z).depth d.depth; omega)
      rw [h4 z] at g
      exact g X.prog X.w _ _ ⟨rfl, I'⟩
    · cases rx
      obtain ⟨_, _, va, _, da⟩ := dk_of I'.hok ha
      exact eqb_of_rc (rc_str_dict hu1 da ⟨false, rfl, rfl, I'⟩)
    · cases rx
      obtain ⟨mA, O, _⟩ := ins_get I'.hok ha
      obtain ⟨od, J, _⟩ := O.look
      have ho' : s'.heap.get? a = some (PySem.W.instObj C dx) := by
        obtain ⟨_, _, _, e, _⟩ := (show ObjOk X.prog X.w H s'.heap a (.ins C dx fs) from I'.hok a _ ha)
        exact e
      refine eqb_of_rc (rc_str_inst hu1 I'.kIn ho' J hsub o.fs o.fn (wpAny_mono (OW.run_at F ⟨hr.in1.mono (by omega), rfl⟩ hb hx I' (vs := [.ref a, .str z]) (.cons rfl (.cons ⟨t, rfl⟩ .nil)) (hsp z)) (fun r s2 y => ?_) fun _ _ e => ?_))
      · obtain ⟨zv, H', I2, r2, rfl, rfl⟩ := y
        cases r2
        exact ⟨(fun e => nomatch e), false, rfl, rfl, I2⟩
      · exact e
  show wpAny _ X.A (do return Value.bool (← contains (.ref p) v)) _ _ s
  refine wpAny_bind (wpAny_contains_slot hT PySem.F.slot_tuple_contains (wpAny_mono key (fun r s' z => ?_) fun _ _ e => e))
  obtain ⟨rfl, I'⟩ := z
  exact wpAny_truthy_bool (wpAny_pure ⟨.bl false, H, I', rfl, q⟩)
end
end RL
namespace RL
open PySem PySem.Spec PyProof.Rows L2 OW
section
variable {X : Cx}
/-- an own == beside a dict -/
def rOwnEqD (K : PySem.W.Frag) (C : Addr) (sp : Sp) (E : XK) : R2 := fun x y H Q => ∃ a dx fs b kvs, x = .ref a ∧ H a = some (.ins C dx fs) ∧ y = .ref b ∧ H b = some (.dK kvs) ∧ PySem.W.notFirst K C (.type "dict") = true ∧ sp [x, y] H Q E
theorem dict_looks {pins : List (Addr × Obj)} {σ : L2.St} {H : Hp} {s : Shared} {b : Addr} {kvs : List (Key × V)} (I : Inv X pins σ H s) (hb : H b = some (.dK kvs)) : PySem.W.Looks (model X.prog X.w) s.heap (typeOf (.ref b)) (.type "dict") := by
  obtain ⟨_, _, va, _, da⟩ := dk_of I.hok hb
  obtain ⟨o, es, ep, ho, hx, _⟩ := da
  exact tyd_at ho hx.1
theorem op_ownEqD {CX : CXT} {n : Nat} {C f : Addr} {fd : FuncData} {ps : List Str} {sp : Sp} {E : XK} (F : FnOk X.prog X.w X.K X.mg X.base CX n f fd ps sp) (o : OwnEq X C f) (hr : Room n X.A) (hb : Binds X.K fd ps []) (hx : Passes CX X E) :
    OpR X (compareOp .Eq) (rOwnEqD X.K C sp E) := by
  intro pins s σ H x y v u Q I rx ry h
  obtain ⟨a, dx, fs, b, kvs, rfl, ha, rfl, hb', nf, q⟩ := h
  cases rx
  cases ry
  obtain ⟨mA, O, _⟩ := ins_get I.hok ha
  obtain ⟨od, J, _⟩ := O.look
  show wpAny _ _ (richCompare .Eq (.ref a) (.ref b)) _ _ _
  refine cmp_left hr.units0 I.kIn J (dict_looks I hb') nf ?_
  unfold tryCompare
  refine wpAny_bind (PySem.W.ifBound_K I.kIn J o.fs o.fn (wpAny_mono (run_at F ⟨hr, rfl⟩ hb hx I (vs := [.ref a, .ref b]) (.cons rfl (.cons rfl .nil)) q) (fun v s' z => ?_) fun _ _ e => e))
  obtain ⟨zv, H', I', r', q'⟩ := z
  refine not_ni r' fun ne => ?_
  cases v <;> first | exact absurd rfl ne | exact wpAny_pure ⟨_, rfl, zv, H', I', r', q'⟩
def rOwnNeD (K : PySem.W.Frag) (C : Addr) (sp : Sp) (E : XK) : R2 := fun x y H Q => ∃ a dx fs b kvs, x = .ref a ∧ H a = some (.ins C dx fs) ∧ y = .ref b ∧ H b = some (.dK kvs) ∧ PySem.W.notFirst K C (.type "dict") = true ∧ sp [x, y] H (fun v H' => ∃ b, v = .bl b ∧ Q (.bl (!b)) H') E
theorem op_ownNeD {CX : CXT} {n : Nat} {C f : Addr} {fd : FuncData} {ps : List Str} {sp : Sp} {E : XK} (F : FnOk X.prog X.w X.K X.mg X.base CX n f fd ps sp) (o : OwnEq X C f) (hm : PySem.W.mroIn X.K C (.type "object") = some true)
    (hn : PySem.W.findIn X.K (.ref C) "__ne__" = some (some (.builtin "object.__ne__"))) (hr : Room (n + 1) X.A) (hb : Binds X.K fd ps []) (hx : Passes CX X E) :
    OpR X (compareOp .NotEq) (rOwnNeD X.K C sp E) := by
  intro pins s σ H x y v u Q I rx ry h
  obtain ⟨a, dx, fs, b, kvs, rfl, ha, rfl, hb', nf, q⟩ := h
  cases rx
  cases ry
  obtain ⟨mA, O, _⟩ := ins_get I.hok ha
  obtain ⟨od, J, _⟩ := O.look
  show wpAny _ _ (richCompare .NotEq (.ref a) (.ref b)) _ _ _
  refine cmp_left hr.units0 I.kIn J (dict_looks I hb') nf ?_
  refine ne_left hr.in1.units0 I.kIn J hm hn o.fs o.fn (wpAny_mono (run_at F ⟨hr.in1, rfl⟩ hb hx I (vs := [.ref a, .ref b]) (.cons rfl (.cons rfl .nil)) q) (fun v s' z => ?_) fun _ _ e => e)
  obtain ⟨zv, H', I', r', b, rfl, q'⟩ := z
  cases r'
  exact ⟨b, rfl, .bl (!b), H', I', rfl, q'⟩
end
end RL
/-! tuple(d) of a dict with int and text keys -/
namespace RL
open PySem PySem.Spec PyProof.Rows L2
section
variable {prog : Program} {w : World} {A : Around} {E : Value → Shared → Prop} {s : Shared} {T : String} {r d : Addr} {n : Nat} {Pk : Nat → Value → Prop} {OK : Heap → Prop}
theorem collect_kdl {Q : List Value → Shared → Prop} (Ks : PySem.W.KdlSrc prog w T r d n Pk OK) (hh : A.handled = none) (hok : OK s.heap) (hn : n ≤ sizeLine)
    (hQ : ∀ (h' : Heap) (tk : Nat) (acc : Array Value), (∀ b o, s.heap.get? b = some o → h'.get? b = some o) → ItemsOf Pk acc n → Q acc.toList { s with heap := h', toks := tk }) :
    wpAny (model prog w) A (collect (.ref r)) Q E s := by
  unfold collect
  refine wpAny_bind (wpAny_runValue
                                    (codeAny_builtin F.entry_proto_collect ?_))
  rw [Around.under_plainId F.plain_proto_collect _]
  show wpAny _ A.in1 (newList [] >>= fun l => again
                                                    (.builtin "list.__iadd__" ⟨[l, .ref r], []⟩)) _ _ s
  refine wpAny_bind (wpAny_newObj_type ?_)
  refine wpAny_pure
                    ⟨plainId_quiet F.plain_list_iadd _, codeAny_builtin F.entry_list_iadd ?_⟩
  rw [Around.under_plainId F.plain_list_iadd _]
  show wpAny _ A.in1 (Builtin.List.listExtendWith
                                                  (.ref s.heap.objs.size) (.ref r) (.ref s.heap.objs.size)) _ _ _
  have hS : (s.heap.push { cls := .type "list", data := .seq ([] : List Value).toArray }).get? s.heap.objs.size = some
                                                                                                                       { cls := .type "list", data := .seq #[] 0 } := Heap.get?_push_size _ rfl
  have th := Ks.there _ hok
  refine wpAny_mono (PySem.W.kdl_extend (A := A) (R := fun rr s' => rr = .ok (.ret (.ref s.heap.objs.size)) ∧ ∃ (h' : Heap) (tk : Nat) (acc : Array Value) (c' : Nat), s' = { s with heap := h', toks := tk } ∧
      (∀ b o, s.heap.get? b = some o → h'.get? b = some o) ∧ h'.get? s.heap.objs.size = some { cls := .type "list", dict := none, data := .seq acc c', slots := #[] } ∧ ItemsOf Pk acc n)
    (s := { s with heap := s.heap.push { cls := .type "list", data := .seq ([] : List Value).toArray } }) Ks hh (Ks.keep _ _ hok fun b _ o e => Heap.get?_push_of_some _ e) _ (Nat.ne_of_gt th.1) (Nat.ne_of_gt th.2) _ 0 hS
    (fun h' tk acc c' hk e hi => ⟨rfl, h', tk, acc, c', rfl, fun b o q => hk b o (Nat.ne_of_lt (Heap.lt_size q)) (Heap.get?_push_of_some _ q), e, hi⟩) hn) (fun fin s' h => ?_) (fun e s' h => ?_)
  · cases fin with
    | done f =>
      obtain ⟨e, h', tk, acc, c', rfl, hk, hS', hi⟩ := h
      cases e
      show wpAny _ A (load s.heap.objs.size >>= _) _ _ _
      exact wpAny_bind (wpAny_load hS'
                                       (wpAny_pure (hQ h' tk acc hk hi)))
    | again c' =>
      refine ⟨h.1, codeAny_mono h.2 fun rr s'' hr' => ?_⟩
      obtain ⟨rfl, h', tk, acc, c', rfl, hk, hS', hi⟩ := hr'
      show wpAny _ A (load s.heap.objs.size >>= _) _ _ _
      exact wpAny_bind (wpAny_load hS'
                                       (wpAny_pure (hQ h' tk acc hk hi)))
  · exact absurd h.1 (by simp)
theorem call_tuple_kdl {Q : Value → Shared → Prop} (Ks : PySem.W.KdlSrc prog w T r d n Pk OK) (hh : A.handled = none) (hok : OK s.heap) (hn : n ≤ sizeLine)
    (hQ : ∀ (h' : Heap) (tk : Nat) (acc : Array Value), (∀ b o, s.heap.get? b = some o → h'.get? b = some o) → ItemsOf Pk acc n → Q (.ref h'.objs.size) { s with heap := h'.push { cls := .type "tuple", data := .seq acc }, toks := tk }) :
    wpAny (model prog w) A (call
                                 (.type "tuple") [.ref r]) Q E s := by
  refine callType_codes (Q₁ := fun obj s₁ => s₁.TypeIs obj "tuple" ∧ Q obj s₁) F.called_tuple
                                                                                              (F.typeCall_tuple_1 _) F.entry_object_init
    ?_ fun obj s₁ h₁ => ⟨h₁.1, F.args_object_init_2 obj _, object_init_meets F.called_tuple.init.lookup F.called_tuple.made (by decide) prog w A.in1 _ s₁ ⟨h₁.1, rfl, h₁.2⟩⟩
  refine codeAny_of_tree ?_
  show wpAny _ A.in1.in1 (do checkBuiltinCall "tuple.__new__" ⟨[.type "tuple", .ref r], []⟩; again (.builtin "tuple.__new__" ⟨[.type "tuple", .ref r], []⟩)) _ _ s
  refine wpAny_bind (wpAny_of_eq (F.newCall_tuple_1 _) (wpAny_pure
                                                                   ⟨plainId_quiet F.plain_tuple_new _, codeAny_builtin F.entry_tuple_new ?_⟩))
  rw [Around.under_plainId F.plain_tuple_new _]
  have hsub := sub_tuple_self
  have hinit := init_tuple_lookup
  have hmh := madeHere_tuple
  have hTI : s.TypeIs (.ref r) T := Ks.type s hok
  have hh1 : A.in1.in1.handled = none := hh
  have hnt : (Value.type T == Value.type "tuple") = false := Ks.notTuple
  wp_walk using wpAny_typeOf hTI, collect_kdl (A := A.in1.in1) Ks hh1 hok hn
  intro h' tk acc hk hacc
  show wpAny _ _
                 (Builtin.Tuple.tupleExact acc.toList.toArray >>= fun v => ret v) _ _ _
  unfold Builtin.Tuple.tupleExact
  refine wpAny_bind (wpAny_newObj_type ?_
                                          (by show acc.toList.toArray.size ≤ sizeLine; simp only [Array.toArray_toList]; rw [hacc.1]; exact hn))
  refine wpAny_pure ?_
  have e : acc.toList.toArray = acc := by simp
  rw [e]
  exact ⟨⟨_, Heap.get?_push_size _ rfl, rfl⟩, hQ h' tk acc hk hacc⟩
end
section
variable {X : Cx}
def rTupD : List V → Hp → VK → Prop := fun xs H Q => ∃ (p : Addr) (kvs : List (Key × V)), xs = [.ref p] ∧ H p = some (.dK kvs) ∧ ∀ q, H q = none → Q (.ref q) (upd H q (.tup (kvs.map fun kv => kV kv.1)))
theorem cr_tupD (hc : X.calm = true) : CallR X (.type "tuple") rTupD := by
  intro pins s σ H xs us Q I r h
  obtain ⟨p, kvs, rfl, hk, q⟩ := h
  obtain ⟨u, rfl, rx⟩ := vals1 r
  obtain rfl : u = Value.ref p := rx
  obtain ⟨z, lo, vs, rk, hd⟩ :=
                                (show ObjOk X.prog X.w H s.heap p (.dK kvs) from I.hok p _ hk)
  obtain ⟨ep, hat⟩ := hd.dictAt
  have hl : kvs.length = vs.length := Paired.length rk
  refine call_tuple_kdl (PySem.W.kdl_dict (knd := mixKind X.prog X.w) (kvs := vs) (ep := ep) lo) (I.ok.hd hc) hat (by rw [← hl]; exact z) fun h' tk acc hkeep hacc => ?_
  have el : acc.toList.length = acc.size := by simp
  have I2 : Inv X pins σ H { s with heap := h', toks := tk } := I.kept hkeep
  refine ⟨.ref h'.objs.size, upd H h'.objs.size (.tup (kvs.map fun kv => kV kv.1)), I2.laid (t' := tk) (fun c o e => Heap.get?_push_of_some _ e) (Nat.le_refl _) (show ObjOk X.prog X.w _ _ _ (.tup (kvs.map fun kv => kV kv.1)) from ⟨by rw [List.length_map]; exact z, acc.toList, ?_, ?_⟩), rfl, q _ (I2.hok.fresh (Nat.le_refl _))⟩
  · refine vals_of_at (by rw [List.length_map, el, hacc.1, hl]) fun j x w h1 h2 => ?_
    obtain ⟨k, y, hky, hi⟩ := hacc.2 j w
                                         (by rw [← Array.getElem?_toList]; exact h2)
    have e1 : (kvs.map (·.1))[j]? = some k := by
      rw [KV.keys rk, List.getElem?_map, hky] <;> rfl
    have e2 :
              (kvs.map fun kv => kV kv.1)[j]? = some (kV k) := by
      have e3 : (kvs.map fun kv => kV kv.1) = (kvs.map
                                                       (·.1)).map kV := by rw [List.map_map] <;> rfl
      rw [e3, List.getElem?_map, e1] <;> rfl
    rw [e2] at h1
    cases h1
    exact keyIs_rel hi
  · rw [Array.toArray_toList]
    exact IsTup.new _ _
end
end RL
namespace K40
open PySem L2
open PyProof.Rows PySem.Spec
/-- a property of the class -/
structure Pp (K : PySem.W.Frag) (C : Addr) (x qual : Str) (st : Stmt) where
  p : Addr
  g : Addr
  d : FuncData
  F : FunD K x qual (defArgs st) (defBody st) (defScope st) [] [] g d
  pr : PropOf K C x p g
  b : Binds K d ["self"] []
/-- a method of the class -/
structure Mt (K : PySem.W.Frag) (C : Addr) (x qual : Str) (st : Stmt) (ps : List Str) where
  f : Addr
  d : FuncData
  F : FunD K x qual (defArgs st) (defBody st) (defScope st) [] [] f d
  m : Meth K C x f
  b : Binds K d ps []
/-- a method with a parameter for more names -/
structure Ms (K : PySem.W.Frag) (C : Addr) (x qual : Str) (st : Stmt) where
  f : Addr
  d : FuncData
  F : Fun K x qual st f d
  m : Meth K C x f
structure UX (K : PySem.W.Frag) (mg : Str → Option Value) where
  C : Addr
  mC : mg "Spans" = some (.ref C)
  cl : Cls K C
  mo : PySem.W.mroIn K C (.type "object") = some true
  ne : PySem.W.findIn K (.ref C) "__ne__" = some (some (.builtin "object.__ne__"))
  fI : Addr
  dI : FuncData
  FI : FunD K "__init__" "Spans.__init__" (defArgs s_Spans_init) (defBody s_Spans_init) (defScope s_Spans_init) [] [] fI dI
  mkI : Mk K C fI
  bI : Binds K dI ["self", "interval", "rows"] []
  n1 : NoAttr K C "_interval"
  n2 : NoAttr K C "_rows"
  n3 : NoAttr K C "_names"
  n4 : NoAttr K C "_living"
  n5 : NoAttr K C "_crossing"
  pi : Pp K C "interval" "Spans.interval" s_Spans_interval
  pn : Pp K C "names" "Spans.names" s_Spans_names
  mi : Mt K C "__getitem__" "Spans.__getitem__" s_Spans_getitem ["self", "name"]
  ml : Mt K C "_later" "Spans._later" s_Spans_later ["self", "ticks"]
  ma : Mt K C "__add__" "Spans.__add__" s_Spans_add ["self", "other"]
  me : Mt K C "__eq__" "Spans.__eq__" s_Spans_eq ["self", "other"]
  pr : Pp K C "rows" "Spans.rows" s_Spans_rows
  pm : Pp K C "most" "Spans.most" s_Spans_most
  pp : Pp K C "peaks" "Spans.peaks" s_Spans_peaks
  pt : Pp K C "total" "Spans.total" s_Spans_total
  pq : Pp K C "pieces" "Spans.pieces" s_Spans_pieces
  pz : Pp K C "normal" "Spans.normal" s_Spans_normal
  ms : Mt K C "_sums" "Spans._sums" s_Spans_sums ["self", "counts", "names"]
  mh : Mt K C "_chosen" "Spans._chosen" s_Spans_chosen ["self", "names"]
  mx : Mt K C "_linked" "Spans._linked" s_Spans_linked ["self", "peak"]
  mf : Mt K C "_has_free" "Spans._has_free" s_Spans_has_free ["self", "names", "peak", "slot"]
  m8 : Mt K C "each_alive" "Spans.each_alive" s_Spans_each_alive ["self", "tick"]
  mw : Mt K C "__len__" "Spans.__len__" s_Spans_len ["self"]
  mr : Mt K C "__or__" "Spans.__or__" s_Spans_or ["self", "other"]
  mn : Mt K C "__and__" "Spans.__and__" s_Spans_and ["self", "other"]
  mv : Ms K C "alive" "Spans.alive" s_Spans_alive
  mc : Ms K C "across" "Spans.across" s_Spans_across
  ca : PySem.W.findIn K (.ref C) "__class__" = some
                                                    (some (.builtin "object.__class__"))
  cg : PySem.W.specialIn K (.builtin "object.__class__") "__get__" = some (some (.builtin "getset_descriptor.__get__"))
  ct : PySem.W.takesIn K
                         (.builtin "object.__class__") = some true
  fn : PySem.W.fnIn K mi.f = true
  sf : PySem.W.selfFirst K C = true
/-- what spans keep -/
def spF (t : Int) (rd nm : Addr) (lv cr : V) : List (Str × V) := putF "_crossing" cr (putF "_living" lv (putF "_names" (.ref nm) (putF "_rows" (.ref rd) (putF "_interval" (.int t) []))))
/-- spans stand at p: S is their rows in the order of names -/
def SpAt (H : Hp) (C p : Addr) (t : Int) (S : Rws) : Prop := Good t S ∧ sortedS (S.map (·.1)) = true ∧ ∃ dx rd nm lv cr L, H p = some (.ins C dx (spF t rd nm lv cr)) ∧ H rd = some (.dK (Kvs L)) ∧ Tups H L S ∧ H nm = some (.tup ((S.map (·.1)).map V.str))
theorem SpAt.same {H H' : Hp} {C p : Addr} {t : Int} {S : Rws} (s : Same H H') (h : SpAt H C p t S) : SpAt H' C p t S := by
  obtain ⟨g, so, dx, rd, nm, lv, cr, L, h1, h2, h3, h4⟩ := h
  exact ⟨g, so, dx, rd, nm, lv, cr, L, s _ _ h1, s _ _ h2, h3.keep (KT.same s), s _ _ h4⟩
theorem SpAt.only {H H' : Hp} {C p r : Addr} {t : Int} {S : Rws} (o : Only r H H') (hr : Rl H r) (h : SpAt H C p t S) : SpAt H' C p t S := by
  obtain ⟨g, so, dx, rd, nm, lv, cr, L, h1, h2, h3, h4⟩ := h
  have ne : ∀ {a : Addr} {u : HO}, H a = some u → (∀ xs, u ≠ .lst xs) → a ≠ r := fun e n w => by
    obtain ⟨x, y, z, q⟩ := hr
    rw [w, q] at e
    exact n _ (Option.some.inj e).symm
  exact ⟨g, so, dx, rd, nm, lv, cr, L, o _ _ (ne h1 (fun _ z => by cases z)) h1, o _ _ (ne h2 (fun _ z => by cases z)) h2, h3.keep (KT.only o hr), o _ _ (ne h4 (fun _ z => by cases z)) h4⟩
theorem Good.perm {t : Int} {R S : Rws} (g : Good t R) (p : S.Perm R) : Good t S :=
  ⟨(p.map (·.1)).nodup_iff.mpr g.nd, by rw [p.length_eq]; exact g.l1, by rw [p.length_eq]; exact g.l8, fun x hx => g.nm x (p.mem_iff.mp hx), fun x hx => g.sp x (p.mem_iff.mp hx), fun x hx => g.nr x (p.mem_iff.mp hx), g.t1, g.t2⟩
theorem kvs_kv (L : List (Str × Addr)) : ((Kvs L).map fun kv => kV kv.1) = (L.map (·.1)).map V.str := by
  unfold Kvs
  rw [List.map_map, List.map_map]
  rfl
section
variable {P : Program} {w : World} {K : PySem.W.Frag}
                                                      {mg : Str → Option Value} {base : Heap}
/-- all but p is kept -/
def But (p : Addr) (H H' : Hp) : Prop := ∀ b o, b ≠ p → H b = some o → H' b = some o
theorem But.trans {p : Addr} {H H1 H2 : Hp} (a : But p H H1) (b : But p H1 H2) : But p H H2 := fun c o n e => b c o n (a c o n e)
theorem But.same {p : Addr} {H H' : Hp} (s : Same H H') : But p H H' := fun b o _ e => s b o e
theorem But.upd {p : Addr} {H : Hp} {o : HO} : But p H (upd H p o) := fun b u n e => by rw [upd_ne n]; exact e
theorem But.kt {p : Addr} {H H' : Hp} (s : But p H H') (h : ∀ xs, H p ≠ some (.tup xs)) : KT H H' := fun t xs e => s t _ (fun w => h xs (w ▸ e)) e
def sp_init (K : PySem.W.Frag) (C : Addr) : Sp := fun vs H Q _ => ∃ (p d dx : Addr) (t : Int) (L : List (Str × Addr)) (R : Rws), vs = [.ref p, .int t, .ref d] ∧ H p = some (.ins C dx []) ∧ H d = some (.dK (Kvs L)) ∧ Tups H L R ∧ Good t R ∧
  ∀ S H', But p H H' → SpAt H' C p t S → Srd R S → (∀ H'', (∀ b o, (H b = none ∨ b = p) → H' b = some o → H'' b = some o) → KT H' H'' → SpAt H'' C p t S) → Q .non H'
theorem ok_init (T : T K mg) (U : UX K mg) : FnOk P w K mg base CX0 6 U.fI U.dI ["self", "interval", "rows"] (sp_init K U.C) := by
  have G_are_rows : FnOk P w K mg base CX0 3 T.f_are_rows T.d_are_rows ["interval", "value"] (sp_are_rows K) := ok_are_rows T
  have G_check_interval : FnOk P w K mg base CX0 4 T.f_check_interval T.d_check_interval ["value"] (sp_check_interval K) := ok_check_interval T
  have G_times_alive : FnOk P w K mg base CX0 5 T.f_times_alive T.d_times_alive ["begin", "end", "tick", "interval"] (sp_times_alive K) := ok_times_alive T
  refine U.FI.ok sc_Spans_init (fun vs H Q E h => ?_) (fun cdv A outer s H vs Q E hr h => ?_)
  · obtain ⟨p, d, dx, t, L, R, rfl, _⟩ := h
    rfl
  · obtain ⟨p, d, dx, t, L, R, rfl, hp, hd, ts, gd, k⟩ := h
    have hu := hu_of hr
    have hr_are_rows : Room 3 _ := hr.mono (by decide)
    have hr_check_interval : Room 4 _ := hr.mono (by decide)
    have hr_times_alive : Room 5 _ := hr.mono (by decide)
    refine ⟨_, (pss_cons (ps_expr (pe_call G_check_interval hr_check_interval rfl T.m_check_interval T.F_check_interval.kp T.b_check_interval .nil pass0 (pa_cons (pv 1) pa_nil)))
      (pss_cons (ps_if (pt_not (pt_val (pe_call G_are_rows hr_are_rows rfl T.m_are_rows T.F_are_rows.kp T.b_are_rows .nil pass0 (pa_cons (pv 1) (pa_cons (pv 2) pa_nil)))))
      (pss_one ps_never)
      pss_nil)
      (pss_cons (ps_fld (pv 0) (pv 1) rfl)
      (pss_cons (ps_fld (pv 0) (pe_dc (own := [("name", 3)]) (g := gName 3) rfl sc_Spans_init.nd (pi_list (pe_callB (call_sortedD rfl) (by rfl) T.z_sorted (by decide +kernel) (pa_cons (pv 2) pa_nil))) (blkOk_by (N := ["self", "interval", "rows", "name", "begin", "end", "slot"]) (sc := defScope s_Spans_init) (by decide +kernel)) (fun _ _ _ _ _ => (pg_name (i := 3) sc_Spans_init.nd rfl (Or.inl rfl))) (fun _ _ _ _ _ => pts_nil) (fun _ _ _ _ _ => (pv 3)) (fun _ _ _ _ _ => (pe_dget (by exact hu) (pv 2) (pv 3) (fun _ _ => rfl)))) rfl)
      (pss_cons (ps_fld (pv 0) (pe_callTy (RL.cr_tupD rfl) (by rfl) T.z_tuple (by decide +kernel) (pa_cons (pe_fld (pv 0) rfl) pa_nil)) rfl)
      (pss_cons (ps_fld (pv 0) (pe_lock (pe_dc (own := [("name", 3), ("begin", 4), ("end", 5)]) (g := gTup K 2 (gCons (gName 3) (gCons (gTup K 2 (gCons (gName 4) (gCons (gName 5) gNil))) gNil))) rfl sc_Spans_init.nd (pi_items (pe_fld (pv 0) rfl)) (blkOk_by (N := ["self", "interval", "rows", "name", "begin", "end", "slot"]) (sc := defScope s_Spans_init) (by decide +kernel)) (fun _ _ _ _ _ => (pg_tup rfl (pgs_cons (pg_name (i := 3) sc_Spans_init.nd rfl (Or.inl rfl)) (pgs_cons (pg_tup rfl (pgs_cons (pg_name (i := 4) sc_Spans_init.nd rfl (Or.inr rfl)) (pgs_cons (pg_name (i := 5) sc_Spans_init.nd rfl (Or.inr rfl)) pgs_nil))) pgs_nil)))) (fun _ _ _ _ _ => pts_nil) (fun _ _ _ _ _ => (pv 3)) (fun _ _ _ _ _ => (pe_lc (own := [("slot", 6)]) (g := gName 6) rfl sc_Spans_init.nd (pi_range1 (by rfl) T.z_range (pa_cons (pv 1) pa_nil)) (blkOk_by (N := ["self", "interval", "rows", "name", "begin", "end", "slot"]) (sc := _) (by rfl)) (fun _ _ _ _ _ => (pg_name (i := 6) sc_Spans_init.nd rfl (Or.inl rfl))) (fun _ _ _ _ _ => pts_nil) (fun _ _ _ _ _ => (pe_call G_times_alive hr_times_alive rfl T.m_times_alive T.F_times_alive.kp T.b_times_alive .nil pass0 (pa_cons (pv 4) (pa_cons (pv 5) (pa_cons (pv 6) (pa_cons (pv 1) pa_nil)))))))))) rfl)
      (pss_one (ps_fld (pv 0) (pe_lock (pe_dc (own := [("name", 3), ("begin", 4), ("end", 5)]) (g := gTup K 2 (gCons (gName 3) (gCons (gTup K 2 (gCons (gName 4) (gCons (gName 5) gNil))) gNil))) rfl sc_Spans_init.nd (pi_items (pe_fld (pv 0) rfl)) (blkOk_by (N := ["self", "interval", "rows", "name", "begin", "end", "slot"]) (sc := defScope s_Spans_init) (by decide +kernel)) (fun _ _ _ _ _ => (pg_tup rfl (pgs_cons (pg_name (i := 3) sc_Spans_init.nd rfl (Or.inl rfl)) (pgs_cons (pg_tup rfl (pgs_cons (pg_name (i := 4) sc_Spans_init.nd rfl (Or.inr rfl)) (pgs_cons (pg_name (i := 5) sc_Spans_init.nd rfl (Or.inr rfl)) pgs_nil))) pgs_nil)))) (fun _ _ _ _ _ => pts_nil) (fun _ _ _ _ _ => (pv 3)) (fun _ _ _ _ _ => (pe_lc (own := [("slot", 6)]) (g := gName 6) rfl sc_Spans_init.nd (pi_range1 (by rfl) T.z_range (pa_cons (pv 1) pa_nil)) (blkOk_by (N := ["self", "interval", "rows", "name", "begin", "end", "slot"]) (sc := _) (by rfl)) (fun _ _ _ _ _ => (pg_name (i := 6) sc_Spans_init.nd rfl (Or.inl rfl))) (fun _ _ _ _ _ => pts_nil) (fun _ _ _ _ _ => (pe_call G_times_alive hr_times_alive rfl T.m_times_alive T.F_times_alive.kp T.b_times_alive .nil pass0 (pa_cons (pe_op op_add (pv 4) pe_int) (pa_cons (pv 5) (pa_cons (pv 6) (pa_cons (pv 1) pa_nil)))))))))) rfl)))))))), ?_⟩
    refine ⟨_, rfl, t, rfl, gd.t1, gd.t2, ?_⟩
    refine ⟨_, rfl, _, rfl, t, d, L, R, rfl, hd, ts, gd, fun H1 S1 => ⟨_, rfl, iteF ?_⟩⟩
    have h1p := S1 _ _ hp
    have h1d := S1 _ _ hd
    have h1T := ts.keep (KT.same S1)
    have ndp : d ≠ p := fun z => by rw [z, hp] at hd; cases hd
    refine ⟨_, rfl, _, rfl, p, U.C, dx, _, rfl, h1p, U.cl, U.n1, (by show 0 < 1000; decide), ?_⟩
    have h2p : (upd H1 p (.ins U.C dx (putF "_interval" (.int t) []))) p = some (.ins U.C dx (putF "_interval" (.int t) [])) := upd_same
    have B2 : But p H (upd H1 p (.ins U.C dx (putF "_interval" (.int t) []))) := But.trans (But.same S1) But.upd
    have h2d : (upd H1 p (.ins U.C dx (putF "_interval" (.int t) []))) d = some (.dK (Kvs L)) := by rw [upd_ne ndp]; exact h1d
    have h2T := h1T.keep (KT.put (o := .ins U.C dx (putF "_interval" (.int t) [])) h1p (fun _ z => by cases z))
    generalize upd H1 p (.ins U.C dx (putF "_interval" (.int t) [])) = H2 at h2p B2 h2d h2T ⊢
    clear h1p h1d h1T S1
    -- _rows
    refine ⟨_, rfl, d, _, L.map (·.1), rfl, .inl h2d, kvs_keys L, by rw [List.length_map, ts.len]; have := gd.l8; omega, fun ys q pm so hq => ?_⟩
    have S3 := Same.new (o := .lst (ys.map V.str)) hq
    have eq3 : (upd H2 q (.lst (ys.map V.str))) q = some (.lst (ys.map V.str)) := upd_same
    generalize upd H2 q (.lst (ys.map V.str)) = H3 at S3 eq3 ⊢
    rw [ts.names] at pm
    refine ⟨q, rfl, ⟨_, SqL.of eq3⟩, fun D hD => ?_⟩
    have nDp : D ≠ p := fun z => by rw [z, S3 _ _ h2p] at hD; cases hD
    refine dc_it walk_list (fun i H' => Same H3 H' ∧ ∃ M, H' D = some (.dK (Kvs M)) ∧ Tups H' M (pickR R (ys.take i))) ⟨Same.new hD, [], upd_same, .nil⟩ (fun i H' _ h => SqL.of (h.1 _ _ eq3)) ?_ ?_
    · rintro i x Ha Hb hi ⟨Sa, M, eD, tm⟩ ⟨rfl, hx⟩
      refine ⟨rfl, ?_⟩
      unfold tYes
      dsimp only
      rw [if_pos rfl]
      rw [List.getElem?_map] at hx
      cases e2 : ys[i]? with
      | none => rw [e2] at hx; cases hx
      | some n =>
        rw [e2] at hx
        cases hx
        have hn : n ∈ R.map (·.1) := pm.mem_iff.mp (List.mem_of_getElem? e2)
        have Sc := Same.trans S3 Sa
        have ts2 := h2T.keep (KT.same Sc)
        obtain ⟨t', b, e, hv, ht, hm⟩ := ts2.get hn
        refine ⟨_, rfl, _, rfl, _, rfl, d, V.ref t', rfl, ?_, ?_⟩
        · have := DGet.k (k := Sum.inr n) (Sc _ _ h2d)
          rw [hv] at this
          exact this
        have nyd : ys.Nodup := pm.nodup_iff.mpr gd.nd
        have hnM : n ∉ M.map (·.1) := by
          rw [tm.names, pickR_names]
          intro hm2
          have nd2 := nyd
          rw [← List.take_append_drop i ys] at nd2
          have hd2 : n ∈ ys.drop i := by
            rw [List.mem_iff_getElem?]
            exact ⟨0, by rw [List.getElem?_drop]; exact e2⟩
          exact (List.nodup_append.mp nd2).2.2 n hm2 n hd2 rfl
        have li : i < ys.length := (List.getElem?_eq_some_iff.mp e2).1
        have l8' : ys.length ≤ 8 := by rw [pm.length_eq, List.length_map]; exact gd.l8
        have lM : M.length ≤ 8 := by
          rw [tm.len, ← List.length_map (f := (·.1)) (as := pickR R (ys.take i)), pickR_names, List.length_take]
          omega
        refine ⟨Kvs M, Sum.inr n, rfl, eD, by rw [kvs_len, sizeLine_eq]; omega, Same.at hD Sa, M ++ [(n, t')], by rw [upd_same, putK_kvs hnM], ?_⟩
        have kt : KT Hb (upd Hb D (.dK (putK (Kvs M) (.inr n) (.ref t')))) := KT.put eD (fun _ z => by cases z)
        rw [List.take_add_one, e2]
        show Tups _ _ (pickR R (ys.take i ++ [n]))
        rw [pickR_snoc R _ n (lookup_mem gd.nd hm)]
        exact (tm.keep kt).snoc (kt _ _ ht)
    rintro H4 ⟨S4, M, h4D, h4T⟩
    have hDn : H D = none := by
      cases z : H D with
      | none => rfl
      | some o =>
        have := S3 _ _ (B2 _ _ nDp z)
        rw [hD] at this
        cases this
    rw [List.length_map, List.take_length] at h4T
    have gS : Good t (pickR R ys) := gd.perm (pickR_perm gd.nd pm)
    have B4 : But p H H4 := But.trans B2 (But.same (Same.trans S3 S4))
    have h4p := S4 _ _ (S3 _ _ h2p)
    clear h2p B2 h2d h2T S3 eq3 hD hq S4
    refine ⟨_, rfl, p, U.C, dx, _, rfl, h4p, U.cl, U.n2, (by show 1 < 1000; decide), ?_⟩
    have h5p : (upd H4 p (.ins U.C dx (putF "_rows" (.ref D) (putF "_interval" (.int t) [])))) p = some (.ins U.C dx (putF "_rows" (.ref D) (putF "_interval" (.int t) []))) := upd_same
    have B5 : But p H (upd H4 p (.ins U.C dx (putF "_rows" (.ref D) (putF "_interval" (.int t) [])))) := But.trans B4 But.upd
    have h5D : (upd H4 p (.ins U.C dx (putF "_rows" (.ref D) (putF "_interval" (.int t) [])))) D = some (.dK (Kvs M)) := by rw [upd_ne nDp]; exact h4D
    have h5T := h4T.keep (KT.put (o := .ins U.C dx (putF "_rows" (.ref D) (putF "_interval" (.int t) []))) h4p (fun _ z => by cases z))
    generalize upd H4 p (.ins U.C dx (putF "_rows" (.ref D) (putF "_interval" (.int t) []))) = H5 at h5p B5 h5D h5T ⊢
    clear h4p B4 h4D h4T
    -- _names
    refine ⟨_, rfl, p, U.C, dx, _, .ref D, rfl, h5p, U.cl, U.n2, rfl, D, Kvs M, rfl, h5D, fun nm hnm => ?_⟩
    rw [kvs_kv]
    have S6 := Same.new (o := .tup ((M.map (·.1)).map V.str)) hnm
    have e6N : (upd H5 nm (.tup ((M.map (·.1)).map V.str))) nm = some (.tup ((M.map (·.1)).map V.str)) := upd_same
    generalize upd H5 nm (.tup ((M.map (·.1)).map V.str)) = H6 at S6 e6N ⊢
    have e6p := S6 _ _ h5p
    refine ⟨_, rfl, p, U.C, dx, _, rfl, e6p, U.cl, U.n3, (by show 2 < 1000; decide), ?_⟩
    have H7p : (upd H6 p (.ins U.C dx (putF "_names" (.ref nm) (putF "_rows" (.ref D) (putF "_interval" (.int t) []))))) p = some (.ins U.C dx (putF "_names" (.ref nm) (putF "_rows" (.ref D) (putF "_interval" (.int t) [])))) := upd_same
    have BH7 : But p H (upd H6 p (.ins U.C dx (putF "_names" (.ref nm) (putF "_rows" (.ref D) (putF "_interval" (.int t) []))))) := But.trans B5 (But.trans (But.same S6) But.upd)
    have H7D : (upd H6 p (.ins U.C dx (putF "_names" (.ref nm) (putF "_rows" (.ref D) (putF "_interval" (.int t) []))))) D = some (.dK (Kvs M)) := by rw [upd_ne nDp]; exact S6 _ _ h5D
    have kt7 : KT H6 (upd H6 p (.ins U.C dx (putF "_names" (.ref nm) (putF "_rows" (.ref D) (putF "_interval" (.int t) []))))) := KT.put e6p (fun _ z => by cases z)
    have H7T := (h5T.keep (KT.same S6)).keep kt7
    have H7N := kt7 _ _ e6N
    generalize upd H6 p (.ins U.C dx (putF "_names" (.ref nm) (putF "_rows" (.ref D) (putF "_interval" (.int t) [])))) = H7 at H7p BH7 H7D H7T H7N ⊢
    clear h5p B5 h5D h5T S6 e6p e6N kt7 hnm

    -- _living
    refine ⟨D, _, H7D, True.intro, fun od => ?_⟩
    have lk8 : (upd H7 D (.frz od (.dK (Kvs M)))) D = some (.frz od (.dK (Kvs M))) := upd_same
    have ktl8 : KT H7 (upd H7 D (.frz od (.dK (Kvs M)))) := KT.put H7D (fun _ z => by cases z)
    refine ⟨_, rfl, p, U.C, dx, _, .ref D, rfl, (by rw [upd_ne nDp.symm]; exact H7p), U.cl, U.n2, rfl, D, od, Kvs M, rfl, lk8, fun F8 hF => ?_⟩
    have nFD : F8 ≠ D := fun z => by rw [z, upd_same] at hF; cases hF
    have hF0 : H7 F8 = none := by rw [upd_ne nFD] at hF; exact hF
    have nFp : F8 ≠ p := fun z => by rw [z, H7p] at hF0; cases hF0
    refine dc_it walk_items (fun i H' => Same (upd H7 D (.frz od (.dK (Kvs M)))) H' ∧ ∃ kvs, H' F8 = some (.dK kvs) ∧ kvs.length ≤ i) ⟨Same.new hF, [], upd_same, Nat.le_refl _⟩ (fun i H' _ h => h.1 _ _ lk8) ?_ ?_
    · rintro i x Ha Hb hi ⟨Sa, kvs, eF, lF⟩ ⟨TT, x1, y1, rfl, hTT, rfl, ex1, ey1⟩
      obtain ⟨⟨kk, vv⟩, ekv⟩ : ∃ kv, (Kvs M)[i]? = some kv := ⟨_, List.getElem?_eq_getElem hi⟩
      dsimp only at ex1 ey1
      rw [ekv] at ex1 ey1
      obtain ⟨⟨n, a⟩, hm, e3⟩ : ∃ q ∈ M, (Sum.inr q.1, V.ref q.2) = (kk, vv) := List.mem_map.mp (List.mem_of_getElem? ekv)
      obtain ⟨e4, e5⟩ := Prod.mk.inj e3
      subst e4 e5
      obtain rfl : V.str n = x1 := Option.some.inj ex1
      obtain rfl : V.ref a = y1 := Option.some.inj ey1
      have Sb : Same (upd H7 D (.frz od (.dK (Kvs M)))) (upd Ha TT (.tup [V.str n, V.ref a])) := Same.trans Sa (Same.new hTT)
      have eTT : (upd Ha TT (.tup [V.str n, V.ref a])) TT = some (.tup [V.str n, V.ref a]) := upd_same
      have eFb : (upd Ha TT (.tup [V.str n, V.ref a])) F8 = some (.dK kvs) := (Same.new hTT) _ _ eF
      generalize upd Ha TT (.tup [V.str n, V.ref a]) = Hc at Sb eTT eFb ⊢
      have tsb := H7T.keep (KT.trans ktl8 (KT.same Sb))
      obtain ⟨b, e, hab, hS⟩ : ∃ b e, TupAt Hc a b e ∧ (n, b, e) ∈ pickR R ys := by
        have key : ∀ {M : List (Str × Addr)} {S : Rws}, Tups Hc M S → (n, a) ∈ M → ∃ b e, TupAt Hc a b e ∧ (n, b, e) ∈ S := by
          intro M S h
          induction h with
          | nil => intro h; cases h
          | cons h1 h2 ih =>
            intro h
            rcases List.mem_cons.mp h with h | h
            · cases h
              exact ⟨_, _, h1, List.mem_cons_self⟩
            · obtain ⟨b, e, q1, q2⟩ := ih h
              exact ⟨b, e, q1, List.mem_cons_of_mem _ q2⟩
        exact key tsb hm
      have g1 := gS.nr _ hS
      have g2 := gS.sp _ hS
      have g3 := gS.t2
      have g4 := gS.t1
      unfold Near at g1
      unfold SpOk at g2
      simp only at g1 g2
      refine ⟨TT, _, rfl, SqT.of eTT, rfl, _, _, rfl, _, _, rfl, a, _, rfl, SqT.of hab, rfl, _, _, rfl, _, _, rfl, rfl, rfl, ?_⟩
      refine ⟨rfl, ?_⟩
      unfold tYes
      dsimp only
      rw [if_pos rfl]
      refine ⟨_, rfl, _, rfl, _, rfl, by omega, by omega, fun G hG => ?_⟩
      dsimp only
      refine lc_range (tt := fun _ H Q => Q true H) (g := gName 6) (lo := 0) (vs := [6]) (n := t.toNat) (fun j H' => Same Hc H' ∧ ∃ zs, H' G = some (.lst zs) ∧ zs.length ≤ j) ⟨Same.new hG, [], upd_same, Nat.le_refl _⟩ ?_ ?_
      · rintro j Hd hj ⟨Sd, zs, eG, lz⟩
        refine ⟨rfl, ?_⟩
        dsimp only
        rw [if_pos rfl]
        refine ⟨_, rfl, _, rfl, _, rfl, _, rfl, _, _, _, t, rfl, ⟨by omega, by omega, by omega⟩, ⟨by omega, by omega⟩, g4, g3, ?_⟩
        refine ⟨_, eG, by rw [sizeLine_eq]; omega, Same.at hG Sd, _, upd_same, by rw [List.length_append]; show _ + 1 ≤ _; omega⟩
      · rintro Hd ⟨Sd, zs, eG, lz⟩
        have eFd := Sd _ _ eFb
        have lM : i < 8 := by rw [kvs_len, H7T.len] at hi; have := gS.l8; omega
        refine ⟨kvs, Sum.inr n, rfl, eFd, by rw [sizeLine_eq]; omega, ?_, _, upd_same, by have := length_putK kvs (Sum.inr n : Key) (V.ref G); omega⟩
        exact Same.at hF (Same.trans Sb Sd)
    rintro Ha ⟨Sa, kvs, eF, lF⟩
    refine ⟨Sa _ _ lk8, ?_⟩
    have SH8 := same_lock H7D Sa
    generalize upd Ha D (.dK (Kvs M)) = H8' at SH8 ⊢
    have H8'p := SH8 _ _ H7p
    refine ⟨_, rfl, p, U.C, dx, _, rfl, H8'p, U.cl, U.n4, (by show 3 < 1000; decide), ?_⟩
    have H8p : (upd H8' p (.ins U.C dx (putF "_living" (.ref F8) (putF "_names" (.ref nm) (putF "_rows" (.ref D) (putF "_interval" (.int t) [])))))) p = some (.ins U.C dx (putF "_living" (.ref F8) (putF "_names" (.ref nm) (putF "_rows" (.ref D) (putF "_interval" (.int t) []))))) := upd_same
    have BH8 : But p H (upd H8' p (.ins U.C dx (putF "_living" (.ref F8) (putF "_names" (.ref nm) (putF "_rows" (.ref D) (putF "_interval" (.int t) [])))))) := But.trans BH7 (But.trans (But.same SH8) But.upd)
    have KH8 : KT H7 (upd H8' p (.ins U.C dx (putF "_living" (.ref F8) (putF "_names" (.ref nm) (putF "_rows" (.ref D) (putF "_interval" (.int t) [])))))) := KT.trans (KT.same SH8) (KT.put H8'p (fun _ z => by cases z))
    have H8D : (upd H8' p (.ins U.C dx (putF "_living" (.ref F8) (putF "_names" (.ref nm) (putF "_rows" (.ref D) (putF "_interval" (.int t) [])))))) D = some (.dK (Kvs M)) := by rw [upd_ne nDp]; exact SH8 _ _ H7D
    have H8N : (upd H8' p (.ins U.C dx (putF "_living" (.ref F8) (putF "_names" (.ref nm) (putF "_rows" (.ref D) (putF "_interval" (.int t) [])))))) nm = some (.tup ((M.map (·.1)).map V.str)) := KH8 _ _ H7N
    have H8T := H7T.keep KH8
    generalize upd H8' p (.ins U.C dx (putF "_living" (.ref F8) (putF "_names" (.ref nm) (putF "_rows" (.ref D) (putF "_interval" (.int t) []))))) = H8 at H8p BH8 H8D H8N H8T ⊢
    clear SH8 H8'p KH8 Sa eF lF hF hF0 nFD

    -- _crossing
    refine ⟨D, _, H8D, True.intro, fun od => ?_⟩
    have lk9 : (upd H8 D (.frz od (.dK (Kvs M)))) D = some (.frz od (.dK (Kvs M))) := upd_same
    have ktl9 : KT H8 (upd H8 D (.frz od (.dK (Kvs M)))) := KT.put H8D (fun _ z => by cases z)
    refine ⟨_, rfl, p, U.C, dx, _, .ref D, rfl, (by rw [upd_ne nDp.symm]; exact H8p), U.cl, U.n2, rfl, D, od, Kvs M, rfl, lk9, fun F9 hF => ?_⟩
    have nFD : F9 ≠ D := fun z => by rw [z, upd_same] at hF; cases hF
    have hF0 : H8 F9 = none := by rw [upd_ne nFD] at hF; exact hF
    have nFp : F9 ≠ p := fun z => by rw [z, H8p] at hF0; cases hF0
    refine dc_it walk_items (fun i H' => Same (upd H8 D (.frz od (.dK (Kvs M)))) H' ∧ ∃ kvs, H' F9 = some (.dK kvs) ∧ kvs.length ≤ i) ⟨Same.new hF, [], upd_same, Nat.le_refl _⟩ (fun i H' _ h => h.1 _ _ lk9) ?_ ?_
    · rintro i x Ha Hb hi ⟨Sa, kvs, eF, lF⟩ ⟨TT, x1, y1, rfl, hTT, rfl, ex1, ey1⟩
      obtain ⟨⟨kk, vv⟩, ekv⟩ : ∃ kv, (Kvs M)[i]? = some kv := ⟨_, List.getElem?_eq_getElem hi⟩
      dsimp only at ex1 ey1
      rw [ekv] at ex1 ey1
      obtain ⟨⟨n, a⟩, hm, e3⟩ : ∃ q ∈ M, (Sum.inr q.1, V.ref q.2) = (kk, vv) := List.mem_map.mp (List.mem_of_getElem? ekv)
      obtain ⟨e4, e5⟩ := Prod.mk.inj e3
      subst e4 e5
      obtain rfl : V.str n = x1 := Option.some.inj ex1
      obtain rfl : V.ref a = y1 := Option.some.inj ey1
      have Sb : Same (upd H8 D (.frz od (.dK (Kvs M)))) (upd Ha TT (.tup [V.str n, V.ref a])) := Same.trans Sa (Same.new hTT)
      have eTT : (upd Ha TT (.tup [V.str n, V.ref a])) TT = some (.tup [V.str n, V.ref a]) := upd_same
      have eFb : (upd Ha TT (.tup [V.str n, V.ref a])) F9 = some (.dK kvs) := (Same.new hTT) _ _ eF
      generalize upd Ha TT (.tup [V.str n, V.ref a]) = Hc at Sb eTT eFb ⊢
      have tsb := H8T.keep (KT.trans ktl9 (KT.same Sb))
      obtain ⟨b, e, hab, hS⟩ : ∃ b e, TupAt Hc a b e ∧ (n, b, e) ∈ pickR R ys := by
        have key : ∀ {M : List (Str × Addr)} {S : Rws}, Tups Hc M S → (n, a) ∈ M → ∃ b e, TupAt Hc a b e ∧ (n, b, e) ∈ S := by
          intro M S h
          induction h with
          | nil => intro h; cases h
          | cons h1 h2 ih =>
            intro h
            rcases List.mem_cons.mp h with h | h
            · cases h
              exact ⟨_, _, h1, List.mem_cons_self⟩
            · obtain ⟨b, e, q1, q2⟩ := ih h
              exact ⟨b, e, q1, List.mem_cons_of_mem _ q2⟩
        exact key tsb hm
      have g1 := gS.nr _ hS
      have g2 := gS.sp _ hS
      have g3 := gS.t2
      have g4 := gS.t1
      unfold Near at g1
      unfold SpOk at g2
      simp only at g1 g2
      refine ⟨TT, _, rfl, SqT.of eTT, rfl, _, _, rfl, _, _, rfl, a, _, rfl, SqT.of hab, rfl, _, _, rfl, _, _, rfl, rfl, rfl, ?_⟩
      refine ⟨rfl, ?_⟩
      unfold tYes
      dsimp only
      rw [if_pos rfl]
      refine ⟨_, rfl, _, rfl, _, rfl, by omega, by omega, fun G hG => ?_⟩
      dsimp only
      refine lc_range (tt := fun _ H Q => Q true H) (g := gName 6) (lo := 0) (vs := [6]) (n := t.toNat) (fun j H' => Same Hc H' ∧ ∃ zs, H' G = some (.lst zs) ∧ zs.length ≤ j) ⟨Same.new hG, [], upd_same, Nat.le_refl _⟩ ?_ ?_
      · rintro j Hd hj ⟨Sd, zs, eG, lz⟩
        refine ⟨rfl, ?_⟩
        dsimp only
        rw [if_pos rfl]
        refine ⟨_, rfl, _, _, rfl, rfl, _, rfl, _, rfl, _, rfl, _, _, _, t, rfl, ⟨by omega, by omega, by omega⟩, ⟨by omega, by omega⟩, g4, g3, ?_⟩
        refine ⟨_, eG, by rw [sizeLine_eq]; omega, Same.at hG Sd, _, upd_same, by rw [List.length_append]; show _ + 1 ≤ _; omega⟩
      · rintro Hd ⟨Sd, zs, eG, lz⟩
        have eFd := Sd _ _ eFb
        have lM : i < 8 := by rw [kvs_len, H8T.len] at hi; have := gS.l8; omega
        refine ⟨kvs, Sum.inr n, rfl, eFd, by rw [sizeLine_eq]; omega, ?_, _, upd_same, by have := length_putK kvs (Sum.inr n : Key) (V.ref G); omega⟩
        exact Same.at hF (Same.trans Sb Sd)
    rintro Ha ⟨Sa, kvs, eF, lF⟩
    refine ⟨Sa _ _ lk9, ?_⟩
    have SH9 := same_lock H8D Sa
    generalize upd Ha D (.dK (Kvs M)) = H9' at SH9 ⊢
    have H9'p := SH9 _ _ H8p
    refine ⟨_, rfl, p, U.C, dx, _, rfl, H9'p, U.cl, U.n5, (by show 4 < 1000; decide), ?_⟩
    have H9p : (upd H9' p (.ins U.C dx (putF "_crossing" (.ref F9) (putF "_living" (.ref F8) (putF "_names" (.ref nm) (putF "_rows" (.ref D) (putF "_interval" (.int t) []))))))) p = some (.ins U.C dx (putF "_crossing" (.ref F9) (putF "_living" (.ref F8) (putF "_names" (.ref nm) (putF "_rows" (.ref D) (putF "_interval" (.int t) [])))))) := upd_same
    have BH9 : But p H (upd H9' p (.ins U.C dx (putF "_crossing" (.ref F9) (putF "_living" (.ref F8) (putF "_names" (.ref nm) (putF "_rows" (.ref D) (putF "_interval" (.int t) []))))))) := But.trans BH8 (But.trans (But.same SH9) But.upd)
    have KH9 : KT H8 (upd H9' p (.ins U.C dx (putF "_crossing" (.ref F9) (putF "_living" (.ref F8) (putF "_names" (.ref nm) (putF "_rows" (.ref D) (putF "_interval" (.int t) []))))))) := KT.trans (KT.same SH9) (KT.put H9'p (fun _ z => by cases z))
    have H9D : (upd H9' p (.ins U.C dx (putF "_crossing" (.ref F9) (putF "_living" (.ref F8) (putF "_names" (.ref nm) (putF "_rows" (.ref D) (putF "_interval" (.int t) []))))))) D = some (.dK (Kvs M)) := by rw [upd_ne nDp]; exact SH9 _ _ H8D
    have H9N : (upd H9' p (.ins U.C dx (putF "_crossing" (.ref F9) (putF "_living" (.ref F8) (putF "_names" (.ref nm) (putF "_rows" (.ref D) (putF "_interval" (.int t) []))))))) nm = some (.tup ((M.map (·.1)).map V.str)) := KH9 _ _ H8N
    have H9T := H8T.keep KH9
    generalize upd H9' p (.ins U.C dx (putF "_crossing" (.ref F9) (putF "_living" (.ref F8) (putF "_names" (.ref nm) (putF "_rows" (.ref D) (putF "_interval" (.int t) [])))))) = H9 at H9p BH9 H9D H9N H9T ⊢
    clear SH9 H9'p KH9 Sa eF lF hF hF0 nFD
    have n10 : H9 nm = some (.tup (((pickR R ys).map (·.1)).map V.str)) := by rw [← H9T.names]; exact H9N
    have so' : sortedS ((pickR R ys).map (·.1)) = true := by rw [pickR_names]; exact so
    exact k (pickR R ys) _ BH9 ⟨gS, so', dx, D, nm, .ref F8, .ref F9, M, H9p, H9D, H9T, n10⟩ ⟨pickR_perm gd.nd pm, so'⟩ fun H'' kp kt => ⟨gS, so', dx, D, nm, .ref F8, .ref F9, M, kp _ _ (.inr rfl) H9p, kp _ _ (.inl hDn) H9D, H9T.keep kt, kt _ _ n10⟩
end
end K40
namespace K40
open PySem L2
open PyProof.Rows PySem.Spec
/-- how often a value is alive in a tick -/
def alv (t b e s : Int) : Int := (s - b) / t - (s - e) / t
def cntL (t b e : Int) : List V := (List.range t.toNat).map fun (s : Nat) => V.int (alv t b e (s : Int))
/-- the counts that are kept: k is 0, or 1 for those across the moments -/
inductive Cts (H : Hp) (t k : Int) : List (Str × Addr) → Rws → Prop
  | nil : Cts H t k [] []
  | cons {n : Str} {a : Addr} {b e : Int} {L : List (Str × Addr)} {R : Rws} : H a = some (.lst (cntL t (b + k) e)) → Cts H t k L R → Cts H t k ((n, a) :: L) ((n, b, e) :: R)
theorem Cts.keep {H H' : Hp} {t k : Int} : ∀ {L : List (Str × Addr)} {R : Rws}, (∀ x ∈ L, ∀ xs, H x.2 = some (.lst xs) → H' x.2 = some (.lst xs)) → Cts H t k L R → Cts H' t k L R
  | _, _, _, .nil => .nil
  | _, _, kp, .cons h c => .cons (kp _ List.mem_cons_self _ h) (Cts.keep (fun x hx => kp x (List.mem_cons_of_mem _ hx)) c)
theorem Cts.same {H H' : Hp} {t k : Int} {L : List (Str × Addr)} {R : Rws} (s : Same H H') (h : Cts H t k L R) : Cts H' t k L R := h.keep fun _ _ _ e => s _ _ e
theorem Cts.names {H : Hp} {t k : Int} : ∀ {L : List (Str × Addr)} {R : Rws}, Cts H t k L R → L.map (·.1) = R.map (·.1)
  | _, _, .nil => rfl
  | _, _, .cons _ c => by rw [List.map_cons, List.map_cons, Cts.names c]
theorem Cts.snoc {H : Hp} {t k : Int} {n : Str} {a : Addr} {b e : Int} (q : H a = some (.lst (cntL t (b + k) e))) : ∀ {L : List (Str × Addr)} {R : Rws}, Cts H t k L R → Cts H t k (L ++ [(n, a)]) (R ++ [(n, b, e)])
  | _, _, .nil => .cons q .nil
  | _, _, .cons h c => .cons h (Cts.snoc q c)
theorem Cts.lst {H : Hp} {t k : Int} : ∀ {L : List (Str × Addr)} {R : Rws}, Cts H t k L R → ∀ x ∈ L, ∃ xs, H x.2 = some (.lst xs)
  | _, _, .nil, x, hx => by cases hx
  | _, _, .cons h c, x, hx => by
    rcases List.mem_cons.mp hx with rfl | hx
    · exact ⟨_, h⟩
    · exact Cts.lst c x hx
theorem Cts.put {H : Hp} {t k : Int} {d : Addr} {o u : HO} (hd : H d = some u) (n : ∀ xs, u ≠ .lst xs) {L : List (Str × Addr)} {R : Rws} (h : Cts H t k L R) : Cts (upd H d o) t k L R := h.keep fun x _ xs e => by
  rw [upd_ne (fun z => n xs (by rw [z, hd] at e; exact Option.some.inj e))]
  exact e
/-- spans stand at p: S is their rows in the order of names; nothing of them is at r -/
def SpS (H : Hp) (C p : Addr) (t : Int) (S : Rws) (r : Addr) : Prop := Good t S ∧ sortedS (S.map (·.1)) = true ∧ ∃ dx rd nm lv cr L LL LC, H p = some (.ins C dx (spF t rd nm (.ref lv) (.ref cr))) ∧ H rd = some (.dK (Kvs L)) ∧ Tups H L S ∧ H nm = some (.tup ((S.map (·.1)).map V.str)) ∧
  H lv = some (.dK (Kvs LL)) ∧ Cts H t 0 LL S ∧ H cr = some (.dK (Kvs LC)) ∧ Cts H t 1 LC S ∧ (∀ x ∈ LL, x.2 ≠ r) ∧ ∀ x ∈ LC, x.2 ≠ r
theorem SpS.same {H H' : Hp} {C p : Addr} {t : Int} {S : Rws} {r : Addr} (s : Same H H') (h : SpS H C p t S r) : SpS H' C p t S r := by
  obtain ⟨g, so, dx, rd, nm, lv, cr, L, LL, LC, h1, h2, h3, h4, h5, h6, h7, h8, h9⟩ := h
  exact ⟨g, so, dx, rd, nm, lv, cr, L, LL, LC, s _ _ h1, s _ _ h2, h3.keep (KT.same s), s _ _ h4, s _ _ h5, h6.same s, s _ _ h7, h8.same s, h9⟩
theorem SpS.only {H H' : Hp} {C p r : Addr} {t : Int} {S : Rws} (o : Only r H H') (hr : Rl H r) (h : SpS H C p t S r) : SpS H' C p t S r := by
  obtain ⟨g, so, dx, rd, nm, lv, cr, L, LL, LC, h1, h2, h3, h4, h5, h6, h7, h8, h9, h10⟩ := h
  have ne : ∀ {a : Addr} {u : HO}, H a = some u → (∀ xs, u ≠ .lst xs) → a ≠ r := fun e n w => by
    obtain ⟨x, y, z, q⟩ := hr
    rw [w, q] at e
    exact n _ (Option.some.inj e).symm
  exact ⟨g, so, dx, rd, nm, lv, cr, L, LL, LC, o _ _ (ne h1 (fun _ z => by cases z)) h1, o _ _ (ne h2 (fun _ z => by cases z)) h2, h3.keep (KT.only o hr), o _ _ (ne h4 (fun _ z => by cases z)) h4,
    o _ _ (ne h5 (fun _ z => by cases z)) h5, h6.keep (fun x hx _ e => o _ _ (h9 x hx) e), o _ _ (ne h7 (fun _ z => by cases z)) h7, h8.keep (fun x hx _ e => o _ _ (h10 x hx) e), h9, h10⟩
theorem tups_at {H : Hp} : ∀ {L : List (Str × Addr)} {S : Rws}, Tups H L S → ∀ (i : Nat) (a : V), ((Kvs L)[i]?.map Prod.snd) = some a → ∃ n t b e, a = .ref t ∧ S[i]? = some (n, b, e) ∧ TupAt H t b e ∧ L[i]? = some (n, t)
  | _, _, .nil, i, a, h => by simp [Kvs] at h
  | _, _, .cons (n := n) (t := t) (b := b) (e := e) q ts, 0, a, h => ⟨n, t, b, e, (Option.some.inj h).symm, rfl, q, rfl⟩
  | _, _, .cons q ts, i + 1, a, h => by
    obtain ⟨n, t, b, e, h1, h2, h3, h4⟩ := tups_at ts i a (by simpa [Kvs] using h)
    exact ⟨n, t, b, e, h1, by simpa using h2, h3, by simpa using h4⟩
section
variable {P : Program} {w : World} {K : PySem.W.Frag}
                                                      {mg : Str → Option Value} {base : Heap}
def sp_initS (K : PySem.W.Frag) (C : Addr) : Sp := fun vs H Q _ => ∃ (p d dx : Addr) (t : Int) (L : List (Str × Addr)) (R : Rws), vs = [.ref p, .int t, .ref d] ∧ H p = some (.ins C dx []) ∧ H d = some (.dK (Kvs L)) ∧ Tups H L R ∧ Good t R ∧
  ∀ S H', But p H H' → (∀ r, H r ≠ none → SpS H' C p t S r) → Srd R S → Q .non H'
theorem ok_initS (T : T K mg) (U : UX K mg) : FnOk P w K mg base CX0 6 U.fI U.dI ["self", "interval", "rows"] (sp_initS K U.C) := by
  have G_are_rows : FnOk P w K mg base CX0 3 T.f_are_rows T.d_are_rows ["interval", "value"] (sp_are_rows K) := ok_are_rows T
  have G_check_interval : FnOk P w K mg base CX0 4 T.f_check_interval T.d_check_interval ["value"] (sp_check_interval K) := ok_check_interval T
  have G_times_alive : FnOk P w K mg base CX0 5 T.f_times_alive T.d_times_alive ["begin", "end", "tick", "interval"] (sp_times_alive K) := ok_times_alive T
  refine U.FI.ok sc_Spans_init (fun vs H Q E h => ?_) (fun cdv A outer s H vs Q E hr h => ?_)
  · obtain ⟨p, d, dx, t, L, R, rfl, _⟩ := h
    rfl
  · obtain ⟨p, d, dx, t, L, R, rfl, hp, hd, ts, gd, k⟩ := h
    have hu := hu_of hr
    have hr_are_rows : Room 3 _ := hr.mono (by decide)
    have hr_check_interval : Room 4 _ := hr.mono (by decide)
    have hr_times_alive : Room 5 _ := hr.mono (by decide)
    refine ⟨_, (pss_cons (ps_expr (pe_call G_check_interval hr_check_interval rfl T.m_check_interval T.F_check_interval.kp T.b_check_interval .nil pass0 (pa_cons (pv 1) pa_nil)))
      (pss_cons (ps_if (pt_not (pt_val (pe_call G_are_rows hr_are_rows rfl T.m_are_rows T.F_are_rows.kp T.b_are_rows .nil pass0 (pa_cons (pv 1) (pa_cons (pv 2) pa_nil)))))
      (pss_one ps_never)
      pss_nil)
      (pss_cons (ps_fld (pv 0) (pv 1) rfl)
      (pss_cons (ps_fld (pv 0) (pe_dc (own := [("name", 3)]) (g := gName 3) rfl sc_Spans_init.nd (pi_list (pe_callB (call_sortedD rfl) (by rfl) T.z_sorted (by decide +kernel) (pa_cons (pv 2) pa_nil))) (blkOk_by (N := ["self", "interval", "rows", "name", "begin", "end", "slot"]) (sc := defScope s_Spans_init) (by decide +kernel)) (fun _ _ _ _ _ => (pg_name (i := 3) sc_Spans_init.nd rfl (Or.inl rfl))) (fun _ _ _ _ _ => pts_nil) (fun _ _ _ _ _ => (pv 3)) (fun _ _ _ _ _ => (pe_dget (by exact hu) (pv 2) (pv 3) (fun _ _ => rfl)))) rfl)
      (pss_cons (ps_fld (pv 0) (pe_callTy (RL.cr_tupD rfl) (by rfl) T.z_tuple (by decide +kernel) (pa_cons (pe_fld (pv 0) rfl) pa_nil)) rfl)
      (pss_cons (ps_fld (pv 0) (pe_lock (pe_dc (own := [("name", 3), ("begin", 4), ("end", 5)]) (g := gTup K 2 (gCons (gName 3) (gCons (gTup K 2 (gCons (gName 4) (gCons (gName 5) gNil))) gNil))) rfl sc_Spans_init.nd (pi_items (pe_fld (pv 0) rfl)) (blkOk_by (N := ["self", "interval", "rows", "name", "begin", "end", "slot"]) (sc := defScope s_Spans_init) (by decide +kernel)) (fun _ _ _ _ _ => (pg_tup rfl (pgs_cons (pg_name (i := 3) sc_Spans_init.nd rfl (Or.inl rfl)) (pgs_cons (pg_tup rfl (pgs_cons (pg_name (i := 4) sc_Spans_init.nd rfl (Or.inr rfl)) (pgs_cons (pg_name (i := 5) sc_Spans_init.nd rfl (Or.inr rfl)) pgs_nil))) pgs_nil)))) (fun _ _ _ _ _ => pts_nil) (fun _ _ _ _ _ => (pv 3)) (fun _ _ _ _ _ => (pe_lc (own := [("slot", 6)]) (g := gName 6) rfl sc_Spans_init.nd (pi_range1 (by rfl) T.z_range (pa_cons (pv 1) pa_nil)) (blkOk_by (N := ["self", "interval", "rows", "name", "begin", "end", "slot"]) (sc := _) (by rfl)) (fun _ _ _ _ _ => (pg_name (i := 6) sc_Spans_init.nd rfl (Or.inl rfl))) (fun _ _ _ _ _ => pts_nil) (fun _ _ _ _ _ => (pe_call G_times_alive hr_times_alive rfl T.m_times_alive T.F_times_alive.kp T.b_times_alive .nil pass0 (pa_cons (pv 4) (pa_cons (pv 5) (pa_cons (pv 6) (pa_cons (pv 1) pa_nil)))))))))) rfl)
      (pss_one (ps_fld (pv 0) (pe_lock (pe_dc (own := [("name", 3), ("begin", 4), ("end", 5)]) (g := gTup K 2 (gCons (gName 3) (gCons (gTup K 2 (gCons (gName 4) (gCons (gName 5) gNil))) gNil))) rfl sc_Spans_init.nd (pi_items (pe_fld (pv 0) rfl)) (blkOk_by (N := ["self", "interval", "rows", "name", "begin", "end", "slot"]) (sc := defScope s_Spans_init) (by decide +kernel)) (fun _ _ _ _ _ => (pg_tup rfl (pgs_cons (pg_name (i := 3) sc_Spans_init.nd rfl (Or.inl rfl)) (pgs_cons (pg_tup rfl (pgs_cons (pg_name (i := 4) sc_Spans_init.nd rfl (Or.inr rfl)) (pgs_cons (pg_name (i := 5) sc_Spans_init.nd rfl (Or.inr rfl)) pgs_nil))) pgs_nil)))) (fun _ _ _ _ _ => pts_nil) (fun _ _ _ _ _ => (pv 3)) (fun _ _ _ _ _ => (pe_lc (own := [("slot", 6)]) (g := gName 6) rfl sc_Spans_init.nd (pi_range1 (by rfl) T.z_range (pa_cons (pv 1) pa_nil)) (blkOk_by (N := ["self", "interval", "rows", "name", "begin", "end", "slot"]) (sc := _) (by rfl)) (fun _ _ _ _ _ => (pg_name (i := 6) sc_Spans_init.nd rfl (Or.inl rfl))) (fun _ _ _ _ _ => pts_nil) (fun _ _ _ _ _ => (pe_call G_times_alive hr_times_alive rfl T.m_times_alive T.F_times_alive.kp T.b_times_alive .nil pass0 (pa_cons (pe_op op_add (pv 4) pe_int) (pa_cons (pv 5) (pa_cons (pv 6) (pa_cons (pv 1) pa_nil)))))))))) rfl)))))))), ?_⟩
    refine ⟨_, rfl, t, rfl, gd.t1, gd.t2, ?_⟩
    refine ⟨_, rfl, _, rfl, t, d, L, R, rfl, hd, ts, gd, fun H1 S1 => ⟨_, rfl, iteF ?_⟩⟩
    have h1p := S1 _ _ hp
    have h1d := S1 _ _ hd
    have h1T := ts.keep (KT.same S1)
    have ndp : d ≠ p := fun z => by rw [z, hp] at hd; cases hd
    refine ⟨_, rfl, _, rfl, p, U.C, dx, _, rfl, h1p, U.cl, U.n1, (by show 0 < 1000; decide), ?_⟩
    have h2p : (upd H1 p (.ins U.C dx (putF "_interval" (.int t) []))) p = some (.ins U.C dx (putF "_interval" (.int t) [])) := upd_same
    have B2 : But p H (upd H1 p (.ins U.C dx (putF "_interval" (.int t) []))) := But.trans (But.same S1) But.upd
    have h2d : (upd H1 p (.ins U.C dx (putF "_interval" (.int t) []))) d = some (.dK (Kvs L)) := by rw [upd_ne ndp]; exact h1d
    have h2T := h1T.keep (KT.put (o := .ins U.C dx (putF "_interval" (.int t) [])) h1p (fun _ z => by cases z))
    generalize upd H1 p (.ins U.C dx (putF "_interval" (.int t) [])) = H2 at h2p B2 h2d h2T ⊢
    clear h1p h1d h1T S1
    -- _rows
    refine ⟨_, rfl, d, _, L.map (·.1), rfl, .inl h2d, kvs_keys L, by rw [List.length_map, ts.len]; have := gd.l8; omega, fun ys q pm so hq => ?_⟩
    have S3 := Same.new (o := .lst (ys.map V.str)) hq
    have eq3 : (upd H2 q (.lst (ys.map V.str))) q = some (.lst (ys.map V.str)) := upd_same
    generalize upd H2 q (.lst (ys.map V.str)) = H3 at S3 eq3 ⊢
    rw [ts.names] at pm
    refine ⟨q, rfl, ⟨_, SqL.of eq3⟩, fun D hD => ?_⟩
    have nDp : D ≠ p := fun z => by rw [z, S3 _ _ h2p] at hD; cases hD
    refine dc_it walk_list (fun i H' => Same H3 H' ∧ ∃ M, H' D = some (.dK (Kvs M)) ∧ Tups H' M (pickR R (ys.take i))) ⟨Same.new hD, [], upd_same, .nil⟩ (fun i H' _ h => SqL.of (h.1 _ _ eq3)) ?_ ?_
    · rintro i x Ha Hb hi ⟨Sa, M, eD, tm⟩ ⟨rfl, hx⟩
      refine ⟨rfl, ?_⟩
      unfold tYes
      dsimp only
      rw [if_pos rfl]
      rw [List.getElem?_map] at hx
      cases e2 : ys[i]? with
      | none => rw [e2] at hx; cases hx
      | some n =>
        rw [e2] at hx
        cases hx
        have hn : n ∈ R.map (·.1) := pm.mem_iff.mp (List.mem_of_getElem? e2)
        have Sc := Same.trans S3 Sa
        have ts2 := h2T.keep (KT.same Sc)
        obtain ⟨t', b, e, hv, ht, hm⟩ := ts2.get hn
        refine ⟨_, rfl, _, rfl, _, rfl, d, V.ref t', rfl, ?_, ?_⟩
        · have := DGet.k (k := Sum.inr n) (Sc _ _ h2d)
          rw [hv] at this
          exact this
        have nyd : ys.Nodup := pm.nodup_iff.mpr gd.nd
        have hnM : n ∉ M.map (·.1) := by
          rw [tm.names, pickR_names]
          intro hm2
          have nd2 := nyd
          rw [← List.take_append_drop i ys] at nd2
          have hd2 : n ∈ ys.drop i := by
            rw [List.mem_iff_getElem?]
            exact ⟨0, by rw [List.getElem?_drop]; exact e2⟩
          exact (List.nodup_append.mp nd2).2.2 n hm2 n hd2 rfl
        have li : i < ys.length := (List.getElem?_eq_some_iff.mp e2).1
        have l8' : ys.length ≤ 8 := by rw [pm.length_eq, List.length_map]; exact gd.l8
        have lM : M.length ≤ 8 := by
          rw [tm.len, ← List.length_map (f := (·.1)) (as := pickR R (ys.take i)), pickR_names, List.length_take]
          omega
        refine ⟨Kvs M, Sum.inr n, rfl, eD, by rw [kvs_len, sizeLine_eq]; omega, Same.at hD Sa, M ++ [(n, t')], by rw [upd_same, putK_kvs hnM], ?_⟩
        have kt : KT Hb (upd Hb D (.dK (putK (Kvs M) (.inr n) (.ref t')))) := KT.put eD (fun _ z => by cases z)
        rw [List.take_add_one, e2]
        show Tups _ _ (pickR R (ys.take i ++ [n]))
        rw [pickR_snoc R _ n (lookup_mem gd.nd hm)]
        exact (tm.keep kt).snoc (kt _ _ ht)
    rintro H4 ⟨S4, M, h4D, h4T⟩
    have hDn : H D = none := by
      cases z : H D with
      | none => rfl
      | some o =>
        have := S3 _ _ (B2 _ _ nDp z)
        rw [hD] at this
        cases this
    rw [List.length_map, List.take_length] at h4T
    have gS : Good t (pickR R ys) := gd.perm (pickR_perm gd.nd pm)
    have B4 : But p H H4 := But.trans B2 (But.same (Same.trans S3 S4))
    have h4p := S4 _ _ (S3 _ _ h2p)
    clear h2p B2 h2d h2T S3 eq3 hD hq S4
    refine ⟨_, rfl, p, U.C, dx, _, rfl, h4p, U.cl, U.n2, (by show 1 < 1000; decide), ?_⟩
    have h5p : (upd H4 p (.ins U.C dx (putF "_rows" (.ref D) (putF "_interval" (.int t) [])))) p = some (.ins U.C dx (putF "_rows" (.ref D) (putF "_interval" (.int t) []))) := upd_same
    have B5 : But p H (upd H4 p (.ins U.C dx (putF "_rows" (.ref D) (putF "_interval" (.int t) [])))) := But.trans B4 But.upd
    have h5D : (upd H4 p (.ins U.C dx (putF "_rows" (.ref D) (putF "_interval" (.int t) [])))) D = some (.dK (Kvs M)) := by rw [upd_ne nDp]; exact h4D
    have h5T := h4T.keep (KT.put (o := .ins U.C dx (putF "_rows" (.ref D) (putF "_interval" (.int t) []))) h4p (fun _ z => by cases z))
    generalize upd H4 p (.ins U.C dx (putF "_rows" (.ref D) (putF "_interval" (.int t) []))) = H5 at h5p B5 h5D h5T ⊢
    clear h4p B4 h4D h4T
    -- _names
    refine ⟨_, rfl, p, U.C, dx, _, .ref D, rfl, h5p, U.cl, U.n2, rfl, D, Kvs M, rfl, h5D, fun nm hnm => ?_⟩
    rw [kvs_kv]
    have S6 := Same.new (o := .tup ((M.map (·.1)).map V.str)) hnm
    have e6N : (upd H5 nm (.tup ((M.map (·.1)).map V.str))) nm = some (.tup ((M.map (·.1)).map V.str)) := upd_same
    generalize upd H5 nm (.tup ((M.map (·.1)).map V.str)) = H6 at S6 e6N ⊢
    have e6p := S6 _ _ h5p
    refine ⟨_, rfl, p, U.C, dx, _, rfl, e6p, U.cl, U.n3, (by show 2 < 1000; decide), ?_⟩
    have H7p : (upd H6 p (.ins U.C dx (putF "_names" (.ref nm) (putF "_rows" (.ref D) (putF "_interval" (.int t) []))))) p = some (.ins U.C dx (putF "_names" (.ref nm) (putF "_rows" (.ref D) (putF "_interval" (.int t) [])))) := upd_same
    have BH7 : But p H (upd H6 p (.ins U.C dx (putF "_names" (.ref nm) (putF "_rows" (.ref D) (putF "_interval" (.int t) []))))) := But.trans B5 (But.trans (But.same S6) But.upd)
    have H7D : (upd H6 p (.ins U.C dx (putF "_names" (.ref nm) (putF "_rows" (.ref D) (putF "_interval" (.int t) []))))) D = some (.dK (Kvs M)) := by rw [upd_ne nDp]; exact S6 _ _ h5D
    have kt7 : KT H6 (upd H6 p (.ins U.C dx (putF "_names" (.ref nm) (putF "_rows" (.ref D) (putF "_interval" (.int t) []))))) := KT.put e6p (fun _ z => by cases z)
    have H7T := (h5T.keep (KT.same S6)).keep kt7
    have H7N := kt7 _ _ e6N
    generalize upd H6 p (.ins U.C dx (putF "_names" (.ref nm) (putF "_rows" (.ref D) (putF "_interval" (.int t) [])))) = H7 at H7p BH7 H7D H7T H7N ⊢
    clear h5p B5 h5D h5T S6 e6p e6N kt7 hnm

    have H7p' := H7p
    have BH7' := BH7
    -- _living
    refine ⟨D, _, H7D, True.intro, fun od => ?_⟩
    have lk : (upd H7 D (.frz od (.dK (Kvs M)))) D = some (.frz od (.dK (Kvs M))) := upd_same
    have ktl : KT H7 (upd H7 D (.frz od (.dK (Kvs M)))) := KT.put H7D (fun _ z => by cases z)
    refine ⟨_, rfl, p, U.C, dx, _, .ref D, rfl, (by rw [upd_ne nDp.symm]; exact H7p), U.cl, U.n2, rfl, D, od, Kvs M, rfl, lk, fun F8 hF => ?_⟩
    have nFD : F8 ≠ D := fun z => by rw [z, upd_same] at hF; cases hF
    have hF0 : H7 F8 = none := by rw [upd_ne nFD] at hF; exact hF
    have nFp : F8 ≠ p := fun z => by rw [z, H7p] at hF0; cases hF0
    refine dc_it walk_items (fun i H' => Same (upd H7 D (.frz od (.dK (Kvs M)))) H' ∧ ∃ LL, H' F8 = some (.dK (Kvs LL)) ∧ Cts H' t 0 LL ((pickR R ys).take i) ∧ ∀ x ∈ LL, H7 x.2 = none) ⟨Same.new hF, [], upd_same, .nil, fun _ h => by cases h⟩ (fun i H' _ h => h.1 _ _ lk) ?_ ?_
    · rintro i x Ha Hb hi ⟨Sa, LL, eF, cL, fL⟩ ⟨TT, x1, y1, rfl, hTT, rfl, ex1, ey1⟩
      have Sn : Same Ha (upd Ha TT (.tup [x1, y1])) := Same.new hTT
      obtain ⟨n, a, b, e, rfl, e2, hab, e4⟩ := tups_at (H7T.keep (KT.trans ktl (KT.same (Same.trans Sa Sn)))) i y1 ey1
      obtain rfl : V.str n = x1 := by
        unfold Kvs at ex1
        dsimp only at ex1
        rw [List.getElem?_map, e4] at ex1
        exact Option.some.inj ex1
      have Sb : Same (upd H7 D (.frz od (.dK (Kvs M)))) (upd Ha TT (.tup [V.str n, V.ref a])) := Same.trans Sa Sn
      have eTT : (upd Ha TT (.tup [V.str n, V.ref a])) TT = some (.tup [V.str n, V.ref a]) := upd_same
      have eFb := Sn _ _ eF
      have cLb := cL.same Sn
      generalize upd Ha TT (.tup [V.str n, V.ref a]) = Hc at Sb eTT eFb cLb hab ⊢
      have hS : (n, b, e) ∈ pickR R ys := List.mem_of_getElem? e2
      have g1 := gS.nr _ hS
      have g2 := gS.sp _ hS
      have g3 := gS.t2
      have g4 := gS.t1
      unfold Near at g1
      unfold SpOk at g2
      simp only at g1 g2
      refine ⟨TT, _, rfl, SqT.of eTT, rfl, _, _, rfl, _, _, rfl, a, _, rfl, SqT.of hab, rfl, _, _, rfl, _, _, rfl, rfl, rfl, ?_⟩
      refine ⟨rfl, ?_⟩
      unfold tYes
      dsimp only
      rw [if_pos rfl]
      refine ⟨_, rfl, _, rfl, _, rfl, by omega, by omega, fun G hG => ?_⟩
      dsimp only
      refine lc_range (tt := fun _ H Q => Q true H) (g := gName 6) (lo := 0) (vs := [6]) (n := t.toNat) (fun j H' => Same Hc H' ∧ H' G = some (.lst ((List.range j).map fun (s : Nat) => V.int (alv t (b + 0) e (s : Int))))) ⟨Same.new hG, upd_same⟩ ?_ ?_
      · rintro j Hd hj ⟨Sd, eG⟩
        refine ⟨rfl, ?_⟩
        dsimp only
        rw [if_pos rfl]
        refine ⟨_, rfl, _, rfl, _, rfl, _, rfl, _, _, _, t, rfl, ⟨by omega, by omega, by omega⟩, ⟨by omega, by omega⟩, g4, g3, ?_⟩
        refine ⟨_, eG, by rw [List.length_map, List.length_range, sizeLine_eq]; omega, Same.at hG Sd, ?_⟩
        rw [upd_same, List.range_succ, List.map_append]
        simp [alv]
      · rintro Hd ⟨Sd, eG⟩
        have eFd := Sd _ _ eFb
        have cLd := cLb.same Sd
        have li : i < (pickR R ys).length := (List.getElem?_eq_some_iff.mp e2).1
        have lL : LL.length ≤ i := by
          have := congrArg List.length cL.names
          rw [List.length_map, List.length_map, List.length_take] at this
          omega
        have g8 := gS.l8
        have nn : n ∉ LL.map (·.1) := by
          rw [cL.names]
          intro hm2
          have nd := gS.nd
          rw [← List.take_append_drop i (pickR R ys), List.map_append, List.nodup_append] at nd
          refine nd.2.2 n hm2 n (List.mem_map.mpr ⟨(n, b, e), ?_, rfl⟩) rfl
          rw [List.mem_iff_getElem?]
          exact ⟨0, by rw [List.getElem?_drop]; exact e2⟩
        have hGs : H7 G = none := by
          cases z : H7 G with
          | none => rfl
          | some o =>
            by_cases c : G = D
            · rw [c, Sb _ _ lk] at hG
              cases hG
            · have := Sb _ _ ((upd_ne c).trans z)
              rw [hG] at this
              cases this
        refine ⟨Kvs LL, Sum.inr n, rfl, eFd, by rw [kvs_len, sizeLine_eq]; omega, Same.at hF (Same.trans Sb Sd), LL ++ [(n, G)], by rw [upd_same, putK_kvs nn], ?_, ?_⟩
        · have e9 : (pickR R ys).take (i + 1) = (pickR R ys).take i ++ [(n, b, e)] := by rw [List.take_add_one, e2]; rfl
          rw [e9]
          exact Cts.snoc (by rw [upd_ne (fun z => by rw [z, eFd] at eG; cases eG)]; exact eG) (cLd.put eFd (fun _ z => by cases z))
        · intro x hx
          rcases List.mem_append.mp hx with hx | hx
          · exact fL x hx
          · rw [List.mem_singleton.mp hx]
            exact hGs
    rintro Ha ⟨Sa, LL8, eF, cL, fL8⟩
    refine ⟨Sa _ _ lk, ?_⟩
    rw [kvs_len, H7T.len, List.take_length] at cL
    have SH := same_lock H7D Sa
    have eF' : (upd Ha D (.dK (Kvs M))) F8 = some (.dK (Kvs LL8)) := (upd_ne nFD).trans eF
    have cL' := cL.put (o := .dK (Kvs M)) (Sa _ _ lk) (fun _ z => by cases z)
    generalize upd Ha D (.dK (Kvs M)) = Hx at SH eF' cL' ⊢
    have Hxp := SH _ _ H7p
    refine ⟨_, rfl, p, U.C, dx, _, rfl, Hxp, U.cl, U.n4, (by show 3 < 1000; decide), ?_⟩
    have H8p : (upd Hx p (.ins U.C dx (putF "_living" (.ref F8) (putF "_names" (.ref nm) (putF "_rows" (.ref D) (putF "_interval" (.int t) [])))))) p = some (.ins U.C dx (putF "_living" (.ref F8) (putF "_names" (.ref nm) (putF "_rows" (.ref D) (putF "_interval" (.int t) []))))) := upd_same
    have BH8 : But p H (upd Hx p (.ins U.C dx (putF "_living" (.ref F8) (putF "_names" (.ref nm) (putF "_rows" (.ref D) (putF "_interval" (.int t) [])))))) := But.trans BH7 (But.trans (But.same SH) But.upd)
    have KH8 : KT H7 (upd Hx p (.ins U.C dx (putF "_living" (.ref F8) (putF "_names" (.ref nm) (putF "_rows" (.ref D) (putF "_interval" (.int t) [])))))) := KT.trans (KT.same SH) (KT.put Hxp (fun _ z => by cases z))
    have H8D : (upd Hx p (.ins U.C dx (putF "_living" (.ref F8) (putF "_names" (.ref nm) (putF "_rows" (.ref D) (putF "_interval" (.int t) [])))))) D = some (.dK (Kvs M)) := by rw [upd_ne nDp]; exact SH _ _ H7D
    have H8N := KH8 _ _ H7N
    have H8T := H7T.keep KH8
    have H8F8 : (upd Hx p (.ins U.C dx (putF "_living" (.ref F8) (putF "_names" (.ref nm) (putF "_rows" (.ref D) (putF "_interval" (.int t) [])))))) F8 = some (.dK (Kvs LL8)) := (upd_ne nFp).trans eF'
    have H8C8 := cL'.put (o := .ins U.C dx (putF "_living" (.ref F8) (putF "_names" (.ref nm) (putF "_rows" (.ref D) (putF "_interval" (.int t) []))))) Hxp (fun _ z => by cases z)
    generalize upd Hx p (.ins U.C dx (putF "_living" (.ref F8) (putF "_names" (.ref nm) (putF "_rows" (.ref D) (putF "_interval" (.int t) []))))) = H8 at H8p BH8 H8D H8N H8T H8F8 H8C8 ⊢
    have nFp8 := nFp
    clear SH Hxp KH8 Sa eF cL eF' cL' hF lk ktl

    have H8p' := H8p
    have BH8' := BH8
    -- _crossing
    refine ⟨D, _, H8D, True.intro, fun od => ?_⟩
    have lk : (upd H8 D (.frz od (.dK (Kvs M)))) D = some (.frz od (.dK (Kvs M))) := upd_same
    have ktl : KT H8 (upd H8 D (.frz od (.dK (Kvs M)))) := KT.put H8D (fun _ z => by cases z)
    refine ⟨_, rfl, p, U.C, dx, _, .ref D, rfl, (by rw [upd_ne nDp.symm]; exact H8p), U.cl, U.n2, rfl, D, od, Kvs M, rfl, lk, fun F9 hF => ?_⟩
    have nFD : F9 ≠ D := fun z => by rw [z, upd_same] at hF; cases hF
    have hF0 : H8 F9 = none := by rw [upd_ne nFD] at hF; exact hF
    have nFp : F9 ≠ p := fun z => by rw [z, H8p] at hF0; cases hF0
    refine dc_it walk_items (fun i H' => Same (upd H8 D (.frz od (.dK (Kvs M)))) H' ∧ ∃ LL, H' F9 = some (.dK (Kvs LL)) ∧ Cts H' t 1 LL ((pickR R ys).take i) ∧ ∀ x ∈ LL, H8 x.2 = none) ⟨Same.new hF, [], upd_same, .nil, fun _ h => by cases h⟩ (fun i H' _ h => h.1 _ _ lk) ?_ ?_
    · rintro i x Ha Hb hi ⟨Sa, LL, eF, cL, fL⟩ ⟨TT, x1, y1, rfl, hTT, rfl, ex1, ey1⟩
      have Sn : Same Ha (upd Ha TT (.tup [x1, y1])) := Same.new hTT
      obtain ⟨n, a, b, e, rfl, e2, hab, e4⟩ := tups_at (H8T.keep (KT.trans ktl (KT.same (Same.trans Sa Sn)))) i y1 ey1
      obtain rfl : V.str n = x1 := by
        unfold Kvs at ex1
        dsimp only at ex1
        rw [List.getElem?_map, e4] at ex1
        exact Option.some.inj ex1
      have Sb : Same (upd H8 D (.frz od (.dK (Kvs M)))) (upd Ha TT (.tup [V.str n, V.ref a])) := Same.trans Sa Sn
      have eTT : (upd Ha TT (.tup [V.str n, V.ref a])) TT = some (.tup [V.str n, V.ref a]) := upd_same
      have eFb := Sn _ _ eF
      have cLb := cL.same Sn
      generalize upd Ha TT (.tup [V.str n, V.ref a]) = Hc at Sb eTT eFb cLb hab ⊢
      have hS : (n, b, e) ∈ pickR R ys := List.mem_of_getElem? e2
      have g1 := gS.nr _ hS
      have g2 := gS.sp _ hS
      have g3 := gS.t2
      have g4 := gS.t1
      unfold Near at g1
      unfold SpOk at g2
      simp only at g1 g2
      refine ⟨TT, _, rfl, SqT.of eTT, rfl, _, _, rfl, _, _, rfl, a, _, rfl, SqT.of hab, rfl, _, _, rfl, _, _, rfl, rfl, rfl, ?_⟩
      refine ⟨rfl, ?_⟩
      unfold tYes
      dsimp only
      rw [if_pos rfl]
      refine ⟨_, rfl, _, rfl, _, rfl, by omega, by omega, fun G hG => ?_⟩
      dsimp only
      refine lc_range (tt := fun _ H Q => Q true H) (g := gName 6) (lo := 0) (vs := [6]) (n := t.toNat) (fun j H' => Same Hc H' ∧ H' G = some (.lst ((List.range j).map fun (s : Nat) => V.int (alv t (b + 1) e (s : Int))))) ⟨Same.new hG, upd_same⟩ ?_ ?_
      · rintro j Hd hj ⟨Sd, eG⟩
        refine ⟨rfl, ?_⟩
        dsimp only
        rw [if_pos rfl]
        refine ⟨_, rfl, _, _, rfl, rfl, _, rfl, _, rfl, _, rfl, _, _, _, t, rfl, ⟨by omega, by omega, by omega⟩, ⟨by omega, by omega⟩, g4, g3, ?_⟩
        refine ⟨_, eG, by rw [List.length_map, List.length_range, sizeLine_eq]; omega, Same.at hG Sd, ?_⟩
        rw [upd_same, List.range_succ, List.map_append]
        simp [alv]
      · rintro Hd ⟨Sd, eG⟩
        have eFd := Sd _ _ eFb
        have cLd := cLb.same Sd
        have li : i < (pickR R ys).length := (List.getElem?_eq_some_iff.mp e2).1
        have lL : LL.length ≤ i := by
          have := congrArg List.length cL.names
          rw [List.length_map, List.length_map, List.length_take] at this
          omega
        have g8 := gS.l8
        have nn : n ∉ LL.map (·.1) := by
          rw [cL.names]
          intro hm2
          have nd := gS.nd
          rw [← List.take_append_drop i (pickR R ys), List.map_append, List.nodup_append] at nd
          refine nd.2.2 n hm2 n (List.mem_map.mpr ⟨(n, b, e), ?_, rfl⟩) rfl
          rw [List.mem_iff_getElem?]
          exact ⟨0, by rw [List.getElem?_drop]; exact e2⟩
        have hGs : H8 G = none := by
          cases z : H8 G with
          | none => rfl
          | some o =>
            by_cases c : G = D
            · rw [c, Sb _ _ lk] at hG
              cases hG
            · have := Sb _ _ ((upd_ne c).trans z)
              rw [hG] at this
              cases this
        refine ⟨Kvs LL, Sum.inr n, rfl, eFd, by rw [kvs_len, sizeLine_eq]; omega, Same.at hF (Same.trans Sb Sd), LL ++ [(n, G)], by rw [upd_same, putK_kvs nn], ?_, ?_⟩
        · have e9 : (pickR R ys).take (i + 1) = (pickR R ys).take i ++ [(n, b, e)] := by rw [List.take_add_one, e2]; rfl
          rw [e9]
          exact Cts.snoc (by rw [upd_ne (fun z => by rw [z, eFd] at eG; cases eG)]; exact eG) (cLd.put eFd (fun _ z => by cases z))
        · intro x hx
          rcases List.mem_append.mp hx with hx | hx
          · exact fL x hx
          · rw [List.mem_singleton.mp hx]
            exact hGs
    rintro Ha ⟨Sa, LL9, eF, cL, fL9⟩
    refine ⟨Sa _ _ lk, ?_⟩
    rw [kvs_len, H8T.len, List.take_length] at cL
    have SH := same_lock H8D Sa
    have eF' : (upd Ha D (.dK (Kvs M))) F9 = some (.dK (Kvs LL9)) := (upd_ne nFD).trans eF
    have cL' := cL.put (o := .dK (Kvs M)) (Sa _ _ lk) (fun _ z => by cases z)
    generalize upd Ha D (.dK (Kvs M)) = Hx at SH eF' cL' ⊢
    have Hxp := SH _ _ H8p
    refine ⟨_, rfl, p, U.C, dx, _, rfl, Hxp, U.cl, U.n5, (by show 4 < 1000; decide), ?_⟩
    have H9p : (upd Hx p (.ins U.C dx (putF "_crossing" (.ref F9) (putF "_living" (.ref F8) (putF "_names" (.ref nm) (putF "_rows" (.ref D) (putF "_interval" (.int t) []))))))) p = some (.ins U.C dx (putF "_crossing" (.ref F9) (putF "_living" (.ref F8) (putF "_names" (.ref nm) (putF "_rows" (.ref D) (putF "_interval" (.int t) [])))))) := upd_same
    have BH9 : But p H (upd Hx p (.ins U.C dx (putF "_crossing" (.ref F9) (putF "_living" (.ref F8) (putF "_names" (.ref nm) (putF "_rows" (.ref D) (putF "_interval" (.int t) []))))))) := But.trans BH8 (But.trans (But.same SH) But.upd)
    have KH9 : KT H8 (upd Hx p (.ins U.C dx (putF "_crossing" (.ref F9) (putF "_living" (.ref F8) (putF "_names" (.ref nm) (putF "_rows" (.ref D) (putF "_interval" (.int t) []))))))) := KT.trans (KT.same SH) (KT.put Hxp (fun _ z => by cases z))
    have H9D : (upd Hx p (.ins U.C dx (putF "_crossing" (.ref F9) (putF "_living" (.ref F8) (putF "_names" (.ref nm) (putF "_rows" (.ref D) (putF "_interval" (.int t) []))))))) D = some (.dK (Kvs M)) := by rw [upd_ne nDp]; exact SH _ _ H8D
    have H9N := KH9 _ _ H8N
    have H9T := H8T.keep KH9
    have H9F9 : (upd Hx p (.ins U.C dx (putF "_crossing" (.ref F9) (putF "_living" (.ref F8) (putF "_names" (.ref nm) (putF "_rows" (.ref D) (putF "_interval" (.int t) []))))))) F9 = some (.dK (Kvs LL9)) := (upd_ne nFp).trans eF'
    have H9C9 := cL'.put (o := .ins U.C dx (putF "_crossing" (.ref F9) (putF "_living" (.ref F8) (putF "_names" (.ref nm) (putF "_rows" (.ref D) (putF "_interval" (.int t) [])))))) Hxp (fun _ z => by cases z)
    have H9F8 : (upd Hx p (.ins U.C dx (putF "_crossing" (.ref F9) (putF "_living" (.ref F8) (putF "_names" (.ref nm) (putF "_rows" (.ref D) (putF "_interval" (.int t) []))))))) F8 = some (.dK (Kvs LL8)) := (upd_ne nFp8).trans (SH _ _ H8F8)
    have H9C8 := (H8C8.same SH).put (o := .ins U.C dx (putF "_crossing" (.ref F9) (putF "_living" (.ref F8) (putF "_names" (.ref nm) (putF "_rows" (.ref D) (putF "_interval" (.int t) [])))))) Hxp (fun _ z => by cases z)
    generalize upd Hx p (.ins U.C dx (putF "_crossing" (.ref F9) (putF "_living" (.ref F8) (putF "_names" (.ref nm) (putF "_rows" (.ref D) (putF "_interval" (.int t) [])))))) = H9 at H9p BH9 H9D H9N H9T H9F9 H9C9 H9F8 H9C8 ⊢
    clear SH Hxp KH9 Sa eF cL eF' cL' hF lk ktl
    have so' : sortedS ((pickR R ys).map (·.1)) = true := by rw [pickR_names]; exact so
    refine k (pickR R ys) _ BH9 (fun r hr0 => ⟨gS, so', dx, D, nm, F8, F9, M, LL8, LL9, H9p, H9D, H9T, by rw [← H9T.names]; exact H9N, H9F8, H9C8, H9F9, H9C9, ?_, ?_⟩) ⟨pickR_perm gd.nd pm, so'⟩
    · intro x hx z
      have h7 := fL8 x hx
      cases w : H r with
      | none => exact hr0 w
      | some o =>
        by_cases c : r = p
        · rw [z, c, H7p'] at h7
          cases h7
        · rw [z, BH7' _ _ c w] at h7
          cases h7
    · intro x hx z
      have h8 := fL9 x hx
      cases w : H r with
      | none => exact hr0 w
      | some o =>
        by_cases c : r = p
        · rw [z, c, H8p'] at h8
          cases h8
        · rw [z, BH8' _ _ c w] at h8
          cases h8
end

theorem SpS.weak {H : Hp} {C p : Addr} {t : Int} {S : Rws} {r : Addr} (h : SpS H C p t S r) : SpAt H C p t S := by
  obtain ⟨g, so, dx, rd, nm, lv, cr, L, LL, LC, h1, h2, h3, h4, _⟩ := h
  exact ⟨g, so, dx, rd, nm, _, _, L, h1, h2, h3, h4⟩
end K40
namespace RL
open PySem PySem.Spec PyProof PyProof.Rows L2
section
variable {X : Cx}
theorem sw_trueD {kx vx : Expr} {gs : List Comprehension} {scope : Scope} {pos py : Pos} {y : Str} {l : Nat} {env : Env} (hk : env.scope.kind = .function) (hy : env.scope.names.lookup y = some .local) (hl : (py.line == pos.line) = true)
    (ha : (scope.names.any fun (n, k) => n == y && (k == .local || k == .cell)) = false) : swapsWith (.DictComp kx vx gs scope pos) (some (.Name y py)) l env = pure true := by
  have ky : env.kindOf y = some .local := hy
  have hb : env.blockKind = .function := by unfold Env.blockKind; rw [hk]; rfl
  unfold swapsWith
  simp only [hb, ky, ha, Expr.pos, hl]
  rfl
/-- y = {k: v for ..} -/
theorem ps_setDc {i : Nat} {y : Str} {py : Pos} {kx vx tg iter : Expr} {ifs : List Expr} {scope : Scope} {own : List (Str × Nat)} {pos spos : Pos} {wi : TI} {g : TG} {tt : TT} {tk tv : TE} (hc : X.calm = true) (hN : X.N.Nodup) (hy : X.N[i]? = some y) (hyl : X.env.scope.names.lookup y = some .local)
    (hsw : swapsWith (.DictComp kx vx [⟨tg, iter, ifs, 0⟩] scope pos) (some (.Name y py)) spos.line X.env = pure true) (hi : PI X tg iter wi) (ok : BlkOk X.N X.env.scope scope own)
    (hg : ∀ (s : Shared) (H : Hp) (C : Addr) (cl : List (Str × Addr)) (fp : List Addr), PG (X.blk s H scope (compEnvC scope cl C X.env) fp) tg g)
                                                                                                                                                  (ht : ∀ (s : Shared) (H : Hp) (C : Addr) (cl : List (Str × Addr)) (fp : List Addr), PTs (X.blk s H scope (compEnvC scope cl C X.env) fp) ifs tt)
    (hk : ∀ (s : Shared) (H : Hp) (C : Addr) (cl : List (Str × Addr))
                                                                      (fp : List Addr), PE (X.blk s H scope (compEnvC scope cl C X.env) fp) kx tk)
    (he : ∀ (s : Shared) (H : Hp) (C : Addr) (cl : List (Str × Addr)) (fp : List Addr), PE (X.blk s H scope
                                                                                                            (compEnvC scope cl C X.env) fp) vx tv) (hs : ∀ x, foldedSetIterable iter X.env x = pure x := by intro _; rfl) :
    PS X (.Assign [.Name y py] (.DictComp kx vx [⟨tg, iter, ifs, 0⟩] scope pos) spos) (tAsg (tDc wi g tt tk tv (own.map (·.2))) (gName i)) := by
  refine ⟨fun pins s σ H D I h => ?_⟩
  rw [exec_Assign_Name_used _ _ _ _ hsw]
  refine wpAny_bind (wpAny_standAt (wpAny_bind ?_))
  show wpAny _ X.A (do let _ ← comprehension (.DictComp kx vx [⟨tg, iter, ifs, 0⟩] scope pos) scope X.env (firstIterPos [⟨tg, iter, ifs, 0⟩] pos) newDict false (eval iter X.env) (some (assign (.Name y py) X.env))) _ _ s
  have h : tDc wi g tt tk tv (own.map (·.2)) σ H (fun x H1 => gName i x σ H1 D.nx) := h
  refine wpAny_bind (thn (dc_core (Qf := fun _ s' => SP X pins D .next s') hc hN I hi ok hg ht hk he hs h fun L C s' m H' I' q hn f => ?_) fun _ s' hq => wpAny_pure (wpAny_pure hq))
  show wpAny _ _ (assign (.Name y py) X.env (.ref L)) _ _ _
  refine wpAny_assign_Name (store_ok2 (v := V.ref L) I' hN hy
                                                              (.inl hyl) rfl (fun s2 I2 ⟨a, sb, ha⟩ => ?_) (.inr hyl))
  obtain ⟨f0, f1, f2, f3, f4, f5⟩ := f
  have haC : C ≠ a := by
    rcases ha with z | z
    · rw [z]; exact f1
    · exact fun e => f4 y a z e.symm
  refine ⟨m, hn.sameBut sb haC, fun h3 sb3 => ?_⟩
  exact ⟨_, H', I2.turned (t' := s2.toks)
                                          (fun b o hb e => (sb3.2 b hb).trans e) f0 f1 f3 f4 f5, q⟩
end
end RL
namespace K40
open PySem L2
open PyProof.Rows PySem.Spec
theorem SpAt.t1 {H : Hp} {C p : Addr} {t : Int} {S : Rws} (h : SpAt H C p t S) : 1 ≤ t ∧ t ≤ 32 := ⟨h.1.t1, h.1.t2⟩
theorem SpAt.off {H H' : Hp} {C p q : Addr} {t : Int} {S : Rws} (o : But q H H') (hq : H q = none) (h : SpAt H C p t S) : SpAt H' C p t S := by
  obtain ⟨g, so, dx, rd, nm, lv, cr, L, h1, h2, h3, h4⟩ := h
  have ne : ∀ {a : Addr} {u : HO}, H a = some u → a ≠ q := fun e w => by rw [w, hq] at e; cases e
  have kt : KT H H' := fun a xs e => o _ _ (ne e) e
  exact ⟨g, so, dx, rd, nm, lv, cr, L, o _ _ (ne h1) h1, o _ _ (ne h2) h2, h3.keep kt, o _ _ (ne h4) h4⟩
theorem pe_fldK {X : Cx} {K : PySem.W.Frag} {e : Expr} {f : Str} {ta : TE} {pos : Pos} (hK : X.K = K) (he : PE X e ta) (hb : attributeBase e f X.env (eval e X.env) = eval e X.env) : PE X (.Attribute e f pos) (tFld K ta f) := by
  subst hK
  exact pe_fld he hb
theorem opr_or {X : Cx} {f : Value → Value → Sem Value} {r1 r2 : R2} (h1 : OpR X f r1) (h2 : OpR X f r2) : OpR X f (fun x y H Q => r1 x y H Q ∨ r2 x y H Q) := fun pins s σ H x y v u Q I rx ry h => by
  rcases h with h | h
  · exact h1 pins s σ H x y v u Q I rx ry h
  · exact h2 pins s σ H x y v u Q I rx ry h
def tJ (ts : List TE) : TE := fun σ H Q => tJs ts Str.empty σ H fun out H1 => Q (.str out) H1
theorem pe_J {X : Cx} {v1 v2 : Expr} {rest : List Expr} {ts : List TE} {pos : Pos} (h : PJ X (v1 :: v2 :: rest) ts) : PE X (.JoinedStr (v1 :: v2 :: rest) pos) (tJ ts) := pe_joined h
theorem int_len {i : Int} (h0 : 0 ≤ i) (h1 : i ≤ 40) : (toString i : Str).length ≤ 3 ∧ i.natAbs.log2 < 1920 := by
  have key : ∀ k : Fin 41, (toString (k.1 : Int) : Str).length ≤ 3 ∧ (k.1 : Int).natAbs.log2 < 1920 := by decide +kernel
  have := key ⟨i.toNat, by omega⟩
  rwa [show ((i.toNat : Nat) : Int) = i from by omega] at this
theorem len_app (a b : Str) : (a ++ b).length = a.length + b.length := by
  show (a.cps ++ b.cps).size = a.cps.size + b.cps.size
  exact Array.size_append
theorem emp_app (x : Str) : Str.empty ++ x = x := by
  refine str_ext ?_
  show (Str.empty.cps ++ x.cps).toList = x.cps.toList
  rw [Array.toList_append]
  rfl
theorem eqv_row (p q : Int × Int) : PyData.eqv (.tuple [.int p.1, .int p.2]) (.tuple [.int q.1, .int q.2]) = decide (p = q) := by
  obtain ⟨a, b⟩ := p
  obtain ⟨c, d⟩ := q
  simp [PyData.eqv, PyData.eqvAll]
  rw [Bool.eq_iff_iff]
  simp
theorem allE_rows : ∀ {S S2 : Rws}, S.map (·.1) = S2.map (·.1) → RL.allE (S.map rowD) (S2.map rowD) = decide (S = S2)
  | [], [], _ => by simp [RL.allE]
  | [], _ :: _, h => by cases h
  | _ :: _, [], h => by cases h
  | (n, p) :: S, (m, q) :: S2, h => by
    obtain ⟨h1, h2⟩ := List.cons.inj h
    obtain rfl : n = m := h1
    show (PyData.eqv (.tuple [.int p.1, .int p.2]) (.tuple [.int q.1, .int q.2]) && RL.allE (S.map rowD) (S2.map rowD)) = _
    rw [eqv_row, allE_rows h2, Bool.eq_iff_iff]
    simp
theorem plain_rows (S : Rws) : PyData.plainAll ((S.map rowD).map (·.2)) = true := by
  induction S with
  | nil => simp [PyData.plainAll]
  | cons r S ih => simpa [PyData.plainAll, PyData.plain, rowD] using ih
theorem depth_rows (S : Rws) : PyData.depthAll ((S.map rowD).map (·.2)) ≤ 1 := by
  induction S with
  | nil => simp [PyData.depthAll]
  | cons r S ih =>
    simp [PyData.depthAll, PyData.depth, rowD] at ih ⊢
    exact Nat.max_le.mpr ⟨Nat.le_refl _, ih⟩
theorem valV_self : ∀ {L : List (Str × Addr)}, (L.map (·.1)).Nodup → ∀ p ∈ Kvs L, valV (Kvs L) p.1 = some p.2
  | [], _, p, hp => by cases hp
  | (n, a) :: L, nd, p, hp => by
    rw [List.map_cons, List.nodup_cons] at nd
    rcases List.mem_cons.mp hp with rfl | hp
    · exact valV_pos (p := ((Sum.inr n : Key), V.ref a)) rfl
    · obtain ⟨⟨m, b⟩, hm, rfl⟩ := List.mem_map.mp hp
      refine (valV_neg (p := ((Sum.inr n : Key), V.ref a)) (fun z => nd.1 ?_)).trans (valV_self nd.2 _ hp)
      rw [Sum.inr.inj z]
      exact List.mem_map.mpr ⟨_, hm, rfl⟩
theorem self_nf {K : PySem.W.Frag} {C : Addr} : PySem.W.notFirst K C (.ref C) = true := by
  unfold PySem.W.notFirst
  simp
theorem SpAt.ins {H : Hp} {C p : Addr} {t : Int} {S : Rws} (h : SpAt H C p t S) : ∃ dx fs, H p = some (.ins C dx fs) := by
  obtain ⟨g, so, dx, rd, nm, lv, cr, L, h1, _⟩ := h
  exact ⟨dx, _, h1⟩
theorem SpAt.tyd {K : PySem.W.Frag} {H : Hp} {C p : Addr} {t : Int} {S : Rws} (h : SpAt H C p t S) : OW.Tyd K H (.ref p) (.ref C) := by
  obtain ⟨dx, fs, e⟩ := h.ins
  exact .inr (.inr ⟨C, dx, fs, e, rfl⟩)
/-- rows moved by so much -/
def farR (f : Int) (R : Rws) : Rws := R.map fun r => (r.1, r.2.1 + f, r.2.2 + f)
theorem farR_names (f : Int) (R : Rws) : (farR f R).map (·.1) = R.map (·.1) := by
  unfold farR
  rw [List.map_map]
  rfl
section
variable {P : Program} {w : World} {K : PySem.W.Frag}
                                                      {mg : Str → Option Value} {base : Heap}
theorem ok_get {x qual f : Str} {st : Stmt} {C : Addr} (c : Cls K C) (p : Pp K C x qual st) (S : FnScope ["self"] ["self"] (defScope st)) (n : NoAttr K C f)
    (hb : ∃ p1 p2 p3, defBody st = [.Return (some (.Attribute (.Name "self" p1) f p2)) p3]) : FnOk P w K mg base CX0 1 p.g p.d ["self"] (getSp C f) := by
  obtain ⟨oc, od, dV, kV, doc, pm, an, cdv, ct, osl, e, lk, hcd, _, _⟩ := p.F.ex
  obtain ⟨p1, p2, p3, hb⟩ := hb
  rw [e] at lk ⊢
  exact fn_getter lk hcd S rfl hb c n
def sp_item (K : PySem.W.Frag) (C : Addr) : Sp := fun vs H Q _ => ∃ (p : Addr) (t : Int) (S : Rws) (n : Str) (b e : Int), vs = [.ref p, .str n] ∧ SpAt H C p t S ∧ (n, b, e) ∈ S ∧ ∀ a, TupAt H a b e → Q (.ref a) H
theorem ok_item (T : T K mg) (U : UX K mg) : FnOk P w K mg base CX0 1 U.mi.f U.mi.d ["self", "name"] (sp_item K U.C) := by
  refine U.mi.F.ok sc_Spans_getitem (fun vs H Q E h => ?_) (fun cdv A outer s H vs Q E hr h => ?_)
  · obtain ⟨p, t, S, n, b, e, rfl, _⟩ := h
    rfl
  · obtain ⟨p, t, S, n, b, e, rfl, ⟨g, so, dx, rd, nm, lv, cr, L, h1, h2, h3, h4⟩, hm, k⟩ := h
    have hu := hu_of hr
    refine ⟨_, (pss_cons (ps_if (pt_cmpR op_notIn_seq (pv 1) (pe_fld (pv 0) rfl) rfl)
      (pss_one ps_never)
      pss_nil)
      (pss_one (ps_ret (pe_dget (by exact hu) (pe_fld (pv 0) rfl) (pv 1) (fun _ _ => rfl))))), ?_⟩
    have hn : n ∈ S.map (·.1) := List.mem_map.mpr ⟨_, hm, rfl⟩
    refine ⟨_, rfl, _, rfl, p, U.C, dx, _, .ref nm, rfl, h1, U.cl, U.n3, rfl, nm, _, rfl, .inr (SqT.of h4), rfl, flat_strs _, _, rfl, ?_⟩
    rw [inV_strs, decide_eq_true hn]
    refine iteF ?_
    obtain ⟨a, ha, hb⟩ := h3.at g.nd hm
    refine ⟨_, rfl, p, U.C, dx, _, .ref rd, rfl, h1, U.cl, U.n2, rfl, _, rfl, rd, V.ref a, rfl, ?_, ?_⟩
    · have := DGet.k (k := Sum.inr n) h2
      rw [ha] at this
      exact this
    · exact k a hb
def sp_eq (K : PySem.W.Frag) (C : Addr) : Sp := fun vs H Q _ => ∃ (p : Addr) (t : Int) (S : Rws) (q : Addr) (t2 : Int) (S2 : Rws), vs = [.ref p, .ref q] ∧ SpAt H C p t S ∧ SpAt H C q t2 S2 ∧ (t = t2 → S.map (·.1) = S2.map (·.1)) ∧ Q (.bl (decide (t = t2) && decide (S = S2))) H
theorem ok_eq (T : T K mg) (U : UX K mg) : FnOk P w K mg base CX0 3 U.me.f U.me.d ["self", "other"] (sp_eq K U.C) := by
  refine U.me.F.ok sc_Spans_eq (fun vs H Q E h => ?_) (fun cdv A outer s H vs Q E hr h => ?_)
  · obtain ⟨p, t, S, q, t2, S2, rfl, _⟩ := h
    rfl
  · obtain ⟨p, t, S, q, t2, S2, rfl, ⟨g, so, dx, rd, nm, lv, cr, L, h1, h2, h3, h4⟩, ⟨g', so', dx', rd', nm', lv', cr', L', h1', h2', h3', h4'⟩, en, k⟩ := h
    have hu := hu_of hr
    refine ⟨_, (pss_one (ps_ret (pe_and (pe_callB call_isi (by rfl) T.z_isinstance (by decide +kernel) (pa_cons (pv 1) (pa_cons (pe_glob (v := V.ref U.C) rfl U.mC rfl) pa_nil))) (pe_and (pe_cmpR op_eq (pe_fld (pv 0) rfl) (pe_fld (pv 1) rfl) (nomark _)) (pe_one (pe_cmpR (RL.op_eqDic (un64 hr)) (pe_fld (pv 0) rfl) (pe_fld (pv 1) rfl) (nomark _))))))), ?_⟩
    refine ⟨_, rfl, _, _, _, _, true, rfl, .own _, .base (.ins h1' U.cl U.ca U.cg U.ct U.mo), by unfold PySem.W.kitOne; rw [if_pos (beq_self_eq_true _)], ?_⟩
    refine ⟨_, rfl, ?_⟩
    refine iteT ?_
    refine ⟨_, rfl, p, U.C, dx, _, .int t, rfl, h1, U.cl, U.n1, rfl, _, rfl, q, U.C, dx', _, .int t2, rfl, h1', U.cl, U.n1, rfl, rfl, _, rfl, ?_⟩
    by_cases c1 : t = t2
    · have c1' : V.int t = V.int t2 := congrArg _ c1
      rw [decide_eq_true c1']
      rw [decide_eq_true c1, Bool.true_and] at k
      refine iteT ?_
      have en := en c1
      refine ⟨_, rfl, p, U.C, dx, _, .ref rd, rfl, h1, U.cl, U.n2, rfl, _, rfl, q, U.C, dx', _, .ref rd', rfl, h1', U.cl, U.n2, rfl, rd, rd', Kvs L, Kvs L', S.map rowD, S2.map rowD, rfl, rfl, h2, h2', h3.dsk, h3'.dsk, ?_, ?_, plain_rows _, plain_rows _, Nat.le_trans (depth_rows _) (by decide), ?_⟩
      · rw [kvs_keys, kvs_keys, h3.names, h3'.names, en]
      · exact valV_self (by rw [h3'.names]; exact g'.nd)
      · rw [allE_rows en]
        exact k
    · have c1' : ¬ V.int t = V.int t2 := fun z => c1 (V.int.inj z)
      rw [decide_eq_false c1']
      rw [decide_eq_false c1, Bool.false_and] at k
      exact iteF k
end
end K40
namespace K40
open PySem L2
open PyProof.Rows PySem.Spec
/-- the span of a name -/
def spn (S : Rws) (n : Str) : Int × Int := (S.lookup n).getD (0, 0)
theorem spn_at {n : Str} {p : Int × Int} : ∀ {S : Rws}, (S.map (·.1)).Nodup → (n, p) ∈ S → spn S n = p
  | (m, q) :: S, nd, h => by
    rw [List.map_cons, List.nodup_cons] at nd
    cases h with
    | head => unfold spn; simp
    | tail _ h =>
      have ne : ¬n = m := fun z => nd.1 (List.mem_map.mpr ⟨_, h, z⟩)
      rw [← spn_at nd.2 h]
      unfold spn
      rw [List.lookup_cons, show (n == m) = false from by rw [beq_eq_false_iff_ne]; exact ne]
theorem spn_in {S : Rws} (nd : (S.map (·.1)).Nodup) {n : Str} (h : n ∈ S.map (·.1)) : (n, (spn S n).1, (spn S n).2) ∈ S := by
  obtain ⟨x, hx, rfl⟩ := List.mem_map.mp h
  rw [spn_at (p := x.2) nd hx]
  exact hx
end K40
/-! sets of texts, of ints, of tuples of both: one frame (Kit) -/
namespace KS
open PySem PySem.Spec PyProof.Rows L2

/-- what a kind of set gives: a member, its value, the set itself, adding, gathering -/
structure Kit (P : Program) (w : World) (μ κ : Type) where
  key : μ → κ
  mv : Heap → μ → Value → Prop
  sp : Heap → Addr → List μ → Prop
  mvK : ∀ {h h' : Heap} {m : μ} {v : Value}, mv h m v → (∀ b o, h.get? b = some o → h'.get? b = some o) → mv h' m v
  spAt : ∀ {h h' : Heap} {a : Addr} {L : List μ}, sp h a L → (∀ o, h.get? a = some o → h'.get? a = some o) → sp h' a L
  spEx : ∀ {h : Heap} {a : Addr} {L : List μ}, sp h a L → ∃ o, h.get? a = some o ∧ o.cls = .type "set"
  spNd : ∀ {h : Heap} {a : Addr} {L : List μ}, sp h a L → (L.map key).Nodup
  spFew : ∀ {h : Heap} {a : Addr} {L : List μ}, sp h a L → L.length < 64
  fresh : ∀ {h : Heap} {a : Addr}, h.get? a = some { cls := .type "set", dict := none, data := .set #[] 0 (.fresh 0 0 (!w.params.followText "set-order")) } → sp h a []
  add : ∀ {A : Around} {E : Value → Shared → Prop} {s : Shared} {a : Addr} {L : List μ} {m : μ} {v : Value} {Q : Bool → Shared → Prop}, sp s.heap a L → (∀ m ∈ L, ∃ v, mv s.heap m v) → mv s.heap m v → L.length + 1 < 64 → A.units < cLine →
    (∀ b h' tk L', Heap.SameBut a s.heap h' → s.toks ≤ tk → sp h' a L' → (key m ∈ L.map key → L' = L) → (key m ∉ L.map key → L'.Perm (m :: L)) → Q b { s with heap := h', toks := tk }) →
    wpAny (model P w) A (setAdd a v) Q E s
  col : ∀ {A : Around} {E : Value → Shared → Prop} {s : Shared} {a : Addr} {L : List μ} {Q : List Value → Shared → Prop}, sp s.heap a L → (∀ m ∈ L, ∃ v, mv s.heap m v) → A.handled = none →
    (∀ s' out L', (∀ b o, s.heap.get? b = some o → s'.heap.get? b = some o) → s.heap.objs.size ≤ s'.heap.objs.size → s'.gens = s.gens → s'.os = s.os → List.Perm L' L → PySem.W.EachIs (fun v m => mv s.heap m v) out L' → Q out s') →
    wpAny (model P w) A (collect (.ref a)) Q E s

/-! ### ints and texts -/
def kOf : Value → Key
  | .int i _ => .inl i
  | .str x _ => .inr x
  | _ => .inl 0
theorem kOf_is {k : Key} {v : Value} (h : keyIs k v = true) : kOf v = k := by
  rcases keyIs_shape h with
                            ⟨i, t, rfl, rfl⟩ | ⟨x, t, rfl, rfl⟩ <;> rfl
theorem scan_is {k : Key} {v : Value} (h : keyIs k v = true) : v.scannable = true := by
  rcases keyIs_shape h with
                            ⟨i, t, rfl, rfl⟩ | ⟨x, t, rfl, rfl⟩ <;> rfl
/-- an entry -/
def Ent (w : World) (e : Int × Value) : Prop := keyIs (kOf e.2) e.2 = true ∧ e.1 = keyH w (kOf e.2)
def ks (es : List (Int × Value)) : List Key := es.map fun e => kOf e.2
structure SpA (w : World) (h : Heap) (a : Addr) (L : List Key) (es : Array (Int × Value)) (ep : Nat) (t : SetTable) (o : Obj) : Prop where
  ho : h.get? a = some o
  hex : o.ExactSet
  hd : o.data = .set es ep t
  ent : ∀ e ∈ es.toList, Ent w e
  pm : (ks es.toList).Perm L
  nd : L.Nodup
  few : L.length < 64
  fit : t.fits es.size = true
  ris : Ris t.place.toList
  led : w.params.followText "set-order" = true ∨ t.led = true
def Sp (w : World) (h : Heap) (a : Addr) (L : List Key) : Prop := ∃ es ep t o, SpA w h a L es ep t o

section
variable {P : Program} {w : World} {A : Around} {E : Value → Shared → Prop} {s : Shared} {a : Addr} {L : List Key} {es : Array (Int × Value)} {ep : Nat} {t : SetTable} {o : Obj}
theorem SpA.sz {h : Heap} (R : SpA w h a L es ep t o) : es.size = L.length := by
  have e := R.pm.length_eq
  unfold ks at e
  rw [List.length_map, Array.length_toList] at e
  exact e
theorem SpA.bd {h : Heap} (R : SpA w h a L es ep t o) : es.size < scanBound := by
  have e := R.sz
  have f := R.few
  unfold scanBound
  omega
theorem ent_elems {l : List (Int × Value)} (g : ∀ e ∈ l, Ent w e) : ElemsOf (mixKind P w) l := fun e he => ⟨⟨kOf e.2, (g e he).1, (g e he).2⟩, scan_is (g e he).1⟩
theorem mem_ks {l : List (Int × Value)} (g : ∀ e ∈ l, Ent w e) (k : Key) : k ∈ ks l ↔ ∃ e ∈ l, keyIs k e.2 = true := by
  unfold ks
  rw [List.mem_map]
  exact ⟨fun ⟨e, he, q⟩ => ⟨e, he, by rw [← q]; exact (g e he).1⟩, fun ⟨e, he, q⟩ => ⟨e, he, kOf_is q⟩⟩

/-- laid down, relaid if too full -/
theorem put_tail {g : Bool → Sem Unit} (hg : ∀ (b : Bool) (s₁ : Shared) (Q' : Unit → Shared → Prop), Q' () s₁ → wpAny (model P w) A (g b) Q' E s₁)
    {es1 : Array (Int × Value)} {t1 : SetTable} {L1 : List Key} (ho : s.heap.get? a = some o) (hex : o.ExactSet) (hd : o.data = .set es ep t)
    (g1 : ∀ e ∈ es1.toList, Ent w e) (pm1 : (ks es1.toList).Perm L1) (nd1 : L1.Nodup) (few1 : L1.length < 64) (hf : t1.fits es1.size = true) (hr : Ris t1.place.toList) (hl : w.params.followText "set-order" = true ∨ t1.led = true)
    {dummy : Bool} {R : Option Bool → Shared → Prop} (hR : ∀ h', Heap.SameBut a s.heap h' → Sp w h' a L1 → R (some true) { s with heap := h' }) :
    wpAny (model P w) A (do
        storeSet a es1 t1
        if (!dummy && t1.tooFull) = true then do
            g (relayAll t1 es1 (SetTable.grown es1.size)).2.2
            storeSet a (relayAll t1 es1 (SetTable.grown es1.size)).1 (relayAll t1 es1 (SetTable.grown es1.size)).2.1
            pure (some true)
          else pure (some true)) R E s := by
  have l1 : es1.size = L1.length := by
    have e := pm1.length_eq
    unfold ks at e
    rw [List.length_map, Array.length_toList] at e
    exact e
  have z1 : es1.size ≤ sizeLine := by rw [sizeLine_eq]; omega
  refine wpAny_bind (wpAny_storeSet_of ho hd ?_ z1)
  have o1 := store_at (es' := es1) (t' := t1) ho hd
  have b1 := Heap.SameBut.update s.heap a (Obj.putSet es1 t1)
  split
  · have q1 := relayAll_perm t1 es1 (SetTable.grown es1.size)
    have q2 := relayAll_fits t1 es1 (SetTable.grown es1.size)
    have q3 := relayAll_ris t1 es1 (SetTable.grown es1.size)
    have q4 := relayAll_led t1 es1 (SetTable.grown es1.size)
    generalize relayAll t1 es1 (SetTable.grown es1.size) = Z at q1 q2 q3 q4 ⊢
    obtain ⟨es2, t2, gone⟩ := Z
    dsimp only at q1 q2 q3 q4 ⊢
    have z2 : es2.size ≤ sizeLine := by
      rw [← Array.length_toList, q1.length_eq, Array.length_toList]
      exact z1
    refine wpAny_bind (hg _ _ _ ?_)
    refine wpAny_bind (wpAny_storeSet_of o1 rfl ?_ z2)
    have o2 := store_at (es' := es2) (t' := t2) o1 rfl
    exact wpAny_pure (hR _ (b1.trans (Heap.SameBut.update _ a _)) ⟨es2, _, t2, _, o2, hex, rfl, fun e he => g1 e (q1.mem_iff.mp he), (q1.map _).trans pm1, nd1, few1, q2, q3, hl.imp id fun z => by rw [q4]; exact z⟩)
  · exact wpAny_pure (hR _ b1 ⟨es1, _, t1, _, o1, hex, rfl, g1, pm1, nd1, few1, hf, hr, hl⟩)

theorem add_key {k : Key} {v : Value} {Q : Bool → Shared → Prop} (R : SpA w s.heap a L es ep t o) (hk : keyIs k v = true) (room : L.length + 1 < 64)
    (hQ : ∀ b h' L', Heap.SameBut a s.heap h' → Sp w h' a L' → (k ∈ L → L' = L) → (k ∉ L → L'.Perm (k :: L)) → Q b { s with heap := h' }) :
    wpAny (model P w) A (setAddHashed a v (keyH w k)) Q E s := by
  have hsc := scan_is hk
  have hel : ElemsOf (mixKind P w) es.toList := ent_elems R.ent
  unfold setAddHashed setAddHashedIn
  refine wpAny_holding (wpAny_bind (wpAny_setState_of R.ho R.hd R.fit ?_))
  dsimp only
  rw [byScan_of hsc R.bd hel]
  simp only [↓reduceIte]
  unfold setAddByScan
  refine wpAny_bind (wpAny_bind (wpAny_rule ?_))
  refine wpAny_bind (wpAny_setScan_of (knd := mixKind P w) (k := k) hk R.ho R.hd R.fit hel ?_)
  cases hfi : List.findIdx? (fun e => (mixKind P w).is k e.2) es.toList with
  | some j =>
    dsimp only
    obtain ⟨hj, pj, _⟩ := List.findIdx?_eq_some_iff_getElem.mp hfi
    have hin : k ∈ L := R.pm.mem_iff.mp ((mem_ks R.ent k).2 ⟨es.toList[j], List.getElem_mem hj, pj⟩)
    exact wpAny_pure (wpAny_pure (hQ false s.heap L (Heap.SameBut.refl a s.heap) ⟨es, ep, t, o, R⟩ (fun _ => rfl) fun z => absurd hin z))
  | none =>
    dsimp only
    have hno : k ∉ L := fun z => by
      obtain ⟨e, he, q⟩ := (mem_ks R.ent k).1 (R.pm.mem_iff.mpr z)
      have c := List.findIdx?_eq_none_iff.mp hfi e he
      rw [show (mixKind P w).is k e.2 = true from q] at c
      cases c
    have way : ∀ (b : Bool) {s₁ : Shared} {Q' : Unit → Shared → Prop}, Q' () s₁ → wpAny (model P w) A (match b with | true => rule "set.scan.the-table-gave-way" | false => pure ()) Q' E s₁ :=
      fun b s₁ Q' q => by cases b <;> first | exact wpAny_pure q | exact wpAny_rule q
    have q1 := layNew_perm t es (keyH w k) v
    have q2 := layNew_fits t es (keyH w k) v
    have q3 := layNew_ris t es (keyH w k) v R.ris
    have q4 := layNew_led t es (keyH w k) v
    generalize layNew t es (keyH w k) v = Z at q1 q2 q3 q4 ⊢
    obtain ⟨es1, t1, dummy, gone⟩ := Z
    dsimp only at q1 q2 q3 q4 ⊢
    rw [Array.toList_push] at q1
    have p1 : es1.toList.Perm ((keyH w k, v) :: es.toList) := q1.trans (List.perm_append_singleton _ _)
    have g1 : ∀ e ∈ es1.toList, Ent w e := fun e he => by
      rcases List.mem_cons.mp (p1.mem_iff.mp he) with z | z
      · subst z
        show keyIs (kOf v) v = true ∧ keyH w k = keyH w (kOf v)
        rw [kOf_is hk]
        exact ⟨hk, rfl⟩
      · exact R.ent e z
    have pk : (ks es1.toList).Perm (k :: L) := by
      refine (p1.map _).trans ?_
      rw [List.map_cons]
      show List.Perm (kOf v :: ks es.toList) (k :: L)
      rw [kOf_is hk]
      exact R.pm.cons k
    have nd1 : (k :: L).Nodup := List.nodup_cons.mpr ⟨hno, R.nd⟩
    have few1 : (k :: L).length < 64 := by rw [List.length_cons]; exact room
    have led1 : w.params.followText "set-order" = true ∨ t1.led = true := R.led.imp id fun z => by rw [q4]; exact z
    have fin : ∀ h', Heap.SameBut a s.heap h' → Sp w h' a (k :: L) → Q true { s with heap := h' } := fun h' sb r => hQ true h' _ sb r (fun z => absurd z hno) fun _ => List.Perm.refl _
    refine wpAny_bind (way _ ?_)
    split
    · refine wpAny_bind ?_
      rw [hashByValue_scannable 8 hsc]
      refine wpAny_pure ?_
      refine put_tail ?_ R.ho R.hex R.hd g1 pk nd1 few1 ?_ ?_ ?_ ?_
      · intro b s₁ Q' q; cases b <;> first | exact wpAny_pure q | exact wpAny_rule q
      · split <;> first | exact q2 | exact SetTable.fits_plain_off q2
      · split <;> exact q3
      · split <;> exact led1
      · intro h' sb r; dsimp only; exact wpAny_pure (fin h' sb r)
    · refine wpAny_bind (wpAny_pure ?_)
      simp only [↓reduceIte]
      refine put_tail ?_ R.ho R.hex R.hd g1 pk nd1 few1 q2 q3 led1 ?_
      · intro b s₁ Q' q; cases b <;> first | exact wpAny_pure q | exact wpAny_rule q
      · intro h' sb r; dsimp only; exact wpAny_pure (fin h' sb r)
end

theorem each_of {α : Type} {R : Value → α → Prop} {f : Value → α} : ∀ {vs : List Value}, (∀ v ∈ vs, R v (f v)) → PySem.W.EachIs R vs (vs.map f)
  | [], _ => .nil
  | v :: vs, h => .cons (h v List.mem_cons_self) (each_of fun u hu => h u (List.mem_cons_of_mem _ hu))
/-- ints and texts -/
def keyKit (P : Program) (w : World) : Kit P w Key Key where
  key := id
  mv := fun _ k v => keyIs k v = true
  sp := Sp w
  mvK := fun h _ => h
  spAt := fun R k => by
    obtain ⟨es, ep, t, o, R⟩ := R
    exact ⟨es, ep, t, o, { R with ho := k o R.ho }⟩
  spEx := fun R => by
    obtain ⟨es, ep, t, o, R⟩ := R
    exact ⟨o, R.ho, R.hex.1⟩
  spNd := fun R => by
    obtain ⟨es, ep, t, o, R⟩ := R
    rw [List.map_id]
    exact R.nd
  spFew := fun R => by
    obtain ⟨es, ep, t, o, R⟩ := R
    exact R.few
  fresh := fun ho => ⟨#[], 0, _, _, ho, ⟨rfl, rfl, rfl⟩, rfl, fun e he => by simp at he, List.Perm.refl _, List.nodup_nil, by decide, rfl, List.Pairwise.nil, by
    show _ ∨ (!w.params.followText "set-order") = true
    cases w.params.followText "set-order"
    · exact .inr rfl
    · exact .inl rfl⟩
  add := fun {A E s a L m v Q} R _ hk room _ hQ => by
    obtain ⟨es, ep, t, o, R⟩ := R
    unfold setAdd
    refine wpAny_holding (wpAny_bind ((mixKind P w).pyHash (k := m) hk ?_))
    refine add_key (s := { s with toks := s.toks + 1 }) R hk room fun b h' L' sb r c1 c2 => hQ b h' (s.toks + 1) L' sb (Nat.le_succ _) r (fun z => c1 ?_) fun z => c2 ?_
    · rw [List.map_id] at z
      exact z
    · rw [List.map_id] at z
      exact z
  col := fun {A E s a L Q} R _ hh hQ => by
    obtain ⟨es, ep, t, o, R⟩ := R
    refine collect_set hh ⟨o, R.ho, R.hex.1, R.hd⟩ R.fit R.bd R.ris R.led fun s' out k z g os pm => hQ s' out (out.map kOf) k z g os ?_ ?_
    · refine (pm.map kOf).trans ?_
      rw [List.map_map]
      exact R.pm
    · refine each_of fun v hv => ?_
      obtain ⟨e, he, q⟩ := List.mem_map.mp (pm.mem_iff.mp hv)
      rw [← q]
      exact (R.ent e he).1
end KS
set_option maxHeartbeats 3200000
/-! set(xs), sorted(set) over a Kit -/
namespace KS
open PySem PySem.Spec PyProof.Rows L2

/-- the object of a new set -/
def newObj0 (w : World) : Obj := { cls := .type "set", dict := none, data := .set #[] 0 (.fresh 0 0 (!w.params.followText "set-order")) }

section
variable {P : Program} {w : World} {μ κ : Type} (Z : Kit P w μ κ)
/-- L is what the first i of ms make -/
structure From (ms : List μ) (i : Nat) (L : List μ) : Prop where
  sub : ∀ m ∈ L, m ∈ ms.take i
  all : ∀ m ∈ ms.take i, Z.key m ∈ L.map Z.key
  len : L.length ≤ i
theorem From.start (ms : List μ) : From Z ms 0 [] := ⟨(fun m h => by cases h), (fun m h => by simp at h), Nat.le_refl _⟩
variable {Z}
theorem From.step {ms L L' : List μ} {i : Nat} {m : μ} (g : From Z ms i L) (h : ms[i]? = some m) (c1 : Z.key m ∈ L.map Z.key → L' = L) (c2 : Z.key m ∉ L.map Z.key → L'.Perm (m :: L)) : From Z ms (i + 1) L' := by
  have tk : ms.take (i + 1) = ms.take i ++ [m] := take_next h
  rcases Classical.em (Z.key m ∈ L.map Z.key) with c | c
  · rw [c1 c]
    refine ⟨fun x hx => by rw [tk]; exact List.mem_append_left _ (g.sub x hx), fun x hx => ?_, Nat.le_succ_of_le g.len⟩
    rw [tk] at hx
    rcases List.mem_append.mp hx with z | z
    · exact g.all x z
    · rw [List.mem_singleton.mp z]
      exact c
  · have pm := c2 c
    refine ⟨fun x hx => ?_, fun x hx => ?_, by rw [pm.length_eq, List.length_cons]; exact Nat.succ_le_succ g.len⟩
    · rw [tk]
      rcases List.mem_cons.mp (pm.mem_iff.mp hx) with e | z
      · exact List.mem_append_right _ (List.mem_singleton.mpr e)
      · exact List.mem_append_left _ (g.sub x z)
    · rw [(pm.map Z.key).mem_iff, List.map_cons]
      rw [tk] at hx
      rcases List.mem_append.mp hx with z | z
      · exact List.mem_cons_of_mem _ (g.all x z)
      · rw [List.mem_singleton.mp z]
        exact List.mem_cons_self
end

theorem each_get {α : Type} {R : Value → α → Prop} : ∀ {vs : List Value} {ms : List α} {i : Nat} {v : Value}, PySem.W.EachIs R vs ms → vs[i]? = some v → ∃ m, ms[i]? = some m ∧ R v m
  | _, _, _, _, .nil, e => by simp at e
  | _, _, 0, _, .cons r _, e => ⟨_, rfl, by rw [← Option.some.inj e]; exact r⟩
  | _, _, i + 1, v, .cons _ t, e => by
    obtain ⟨m, h1, h2⟩ := each_get (i := i) t (by simpa using e)
    exact ⟨m, by simpa using h1, h2⟩
theorem each_has {α : Type} {R : Value → α → Prop} : ∀ {vs : List Value} {ms : List α} {m : α}, PySem.W.EachIs R vs ms → m ∈ ms → ∃ v, R v m
  | _, _, _, .nil, h => by cases h
  | _, _, m, .cons r t, h => by
    rcases List.mem_cons.mp h with e | h
    · subst e
      exact ⟨_, r⟩
    · exact each_has t h
section
variable {P : Program} {w : World} {A : Around} {E : Value → Shared → Prop} {s : Shared} {μ κ : Type} (Z : Kit P w μ κ)
/-- the loop behind set(..) -/
theorem fill_loop {I : Addr} {fp wr : List Addr} {G : Array GenState → Array GenState → Prop} {n : Nat} {Pv : Nat → Value → Prop} {St : Nat → Shared → Prop} {R : Result → Shared → Prop}
    (W : WalksS P w A.in1 I fp wr G n Pv St) (S : Addr) (hS : S ∉ fp) (ms : List μ) (hn : n = ms.length) (few : ms.length < 64) (h0 : Heap) (hv : ∀ i v, Pv i v → ∃ m, ms[i]? = some m ∧ Z.mv h0 m v) (hm : ∀ m ∈ ms, ∃ v, Z.mv h0 m v)
    (hS0 : h0.get? S = none) (hw : ∀ b ∈ wr, h0.get? b = none) (hu : A.in1.units < cLine) :
    ∀ (k i : Nat) (s : Shared), n - i = k → i ≤ n → St i s → (∀ b o, h0.get? b = some o → s.heap.get? b = some o) → (∃ L, Z.sp s.heap S L ∧ From Z ms i L) →
      (∀ s' L, Moved (S :: wr) G s s' → Z.sp s'.heap S L → From Z ms n L → (∀ b o, h0.get? b = some o → s'.heap.get? b = some o) → R (.ok (.ret .none)) s') →
      codeAny (model P w) A (.builtin "set.update.loop"
                                                        ⟨[.ref S, .ref I], []⟩) R s := by
  have hSw : S ∉ wr := fun h => hS (W.sub _ h)
  have wider : ∀ b ∈ wr, b ∈ S :: wr := fun b hb => List.mem_cons_of_mem _ hb
  have stay : ∀ {s s' : Shared}, Moved wr G s s' → (∀ b o, h0.get? b = some o → s.heap.get? b = some o) → ∀ b o, h0.get? b = some o → s'.heap.get? b = some o := fun q kp b o e =>
    q.heap b o (fun hb => by rw [hw b hb] at e; cases e) (kp b o e)
  intro k
  induction k with
  | zero =>
    intro i s hk hi st kp ⟨L, sp, g⟩ hR
    obtain rfl : i = n := by omega
    refine codeAny_builtin F.entry_set_update_loop ?_
    rw [Around.under_plainId F.plain_set_update_loop _]
    show wpAny _ A.in1 (pyNext (.ref I) >>= _) _ _ s
    refine wpAny_bind (W.done s _ _ st fun s' mv => ?_)
    exact wpAny_pure (hR s' L (mv.mono wider) (Z.spAt sp fun o e => mv.heap S o hSw e) g (stay mv kp))
  | succ k ih =>
    intro i s hk hi st kp ⟨L, sp, g⟩ hR
    have lt : i < n := by omega
    refine codeAny_builtin F.entry_set_update_loop ?_
    rw [Around.under_plainId F.plain_set_update_loop _]
    show wpAny _ A.in1 (pyNext (.ref I) >>= _) _ _ s
    refine wpAny_bind (W.item i s _ _ lt st fun v s1 pv st1 mv => ?_)
    obtain ⟨m, em, vm⟩ := hv i v pv
    have kp1 := stay mv kp
    have sp1 : Z.sp s1.heap S L := Z.spAt sp fun o e => mv.heap S o hSw e
    show wpAny _ A.in1 (holding [v] (setAdd S v) >>= _) _ _ s1
    refine wpAny_bind (wpAny_holding ?_)
    refine Z.add sp1 (fun x hx => ?_) (Z.mvK vm kp1) (by have := g.len; omega) hu fun b h2 tk L' sb ht sp2 c1 c2 => ?_
    · obtain ⟨u, hu⟩ := hm x (List.mem_of_mem_take (g.sub x hx))
      exact ⟨u, Z.mvK hu kp1⟩
    · have kp2 : ∀ b o, h0.get? b = some o → h2.get? b = some o := fun b o e => (sb.2 b (fun z => by rw [z, hS0] at e; cases e)).trans (kp1 b o e)
      refine wpAny_pure ⟨plainId_quiet F.plain_set_update_loop _, ih (i + 1) _ (by omega) lt (W.frame _ s1 _ _ st1 ht fun c hc o e => ?_) kp2 ⟨L', sp2, g.step em c1 c2⟩ fun s3 L3 mv3 sp3 g3 kp3 => ?_⟩
      · rw [sb.2 c (fun h : c = S => hS (by rw [← h]; exact hc))]
        exact e
      · refine hR s3 L3 (Moved.trans W.gtrans ((mv.mono wider).then_heap ht fun c o hc e => ?_) mv3) sp3 g3 kp3
        rw [sb.2 c (fun h : c = S => hc (by rw [h]; exact List.mem_cons_self))]
        exact e

/-- set(xs), xs a list -/
theorem call_set {l : Addr} {items : Array Value} (ms : List μ) {Q : Value → Shared → Prop} (hh : A.handled = none) (hl : s.heap.IsList l items) (hi : PySem.W.EachIs (fun v m => Z.mv s.heap m v) items.toList ms)
    (few : ms.length < 64) (hu : A.units + 3 < cLine)
    (h : ∀ (h' : Heap) (tk : Nat) L, Z.sp h' s.heap.objs.size L → From Z ms ms.length L → (∀ b o, s.heap.get? b = some o → h'.get? b = some o) → Q (.ref s.heap.objs.size) { s with heap := h', toks := tk }) :
    wpAny (model P w) A (call
                              (.type "set") [.ref l]) Q E s := by
  have sz : items.size = ms.length := by
    have q := hi.length
    rw [Array.length_toList] at q
    exact q
  obtain ⟨c, tl, hmro⟩ := F.called_set.mro
  have hmade := F.called_set.made
  have hsub := F.called_set.sub
  refine wpAny_call (codeAny_of_tree ?_)
  show wpAny _ _ (callAny (.type "set") _) _ _ _
  refine wpAny_pure ⟨Code.quiet_builtin _
                                          (by decide +kernel), codeAny_builtin F.entry_type_call ?_⟩
  rw [Around.under_plain
                         (weight_type_call_type "set" [.ref l] []) rfl]
  have h1 := F.called_set.notType
  have h2 := F.called_set.canCreate
  have hct := F.typeCall_set_1 (.ref l)
  repeat (any_goals (first | assumption | wp_step))
  refine codeAny_mono (code_set_led1 (.ref l) (E := E) (Q₁ := fun obj s₁ => obj = .ref s.heap.objs.size ∧ s₁ = { s with heap := s.heap.push (newObj0 w) }) ⟨rfl, rfl⟩) fun r s₁ hr => ?_
  cases r with
  | error e => exact hr
  | ok fl =>
    cases fl with
    | ret obj =>
      obtain ⟨rfl, rfl⟩ := hr
      have hS : (s.heap.push (newObj0 w)).get? s.heap.objs.size = some (newObj0 w) := Heap.get?_push_size _ rfl
      have hT : Shared.TypeIs { s with heap := s.heap.push (newObj0 w) } (.ref s.heap.objs.size) "set" := ⟨_, hS, rfl⟩
      have hli := F.called_set.init.lookup
      have hbi := F.called_set.init.bind (.ref s.heap.objs.size)
      repeat (any_goals (first | assumption | wp_step))
      refine codeAny_mono (codeAny_call_builtin (R := wants (fun r s₂ => r = .none ∧ ∃ h' tk L, s₂ = { s with heap := h', toks := tk } ∧ Z.sp h' s.heap.objs.size L ∧ From Z ms ms.length L ∧
          (∀ b o, s.heap.get? b = some o → h'.get? b = some o)) E) F.called_set.init.plain F.entry_set_init
                                                                                                            (check_set_init_1 hT ?_)) fun r₂ s₂ hr₂ => ?_
      · obtain ⟨ol, hol, hcl, nl, hdl⟩ := hl
        obtain ⟨ocls, odict, odata, oslots⟩ := ol
        simp only at hcl hdl
        subst hcl; subst hdl
        have hol' : (s.heap.push (newObj0 w)).get? l = some { cls := .type "list", dict := odict, data := .seq items nl, slots := oslots } := Heap.get?_push_of_some _ hol
        have hsls := F.sub_list_set
        have hslf := F.sub_list_frozenset
        have hne :
                   (Value.type "list" == Value.type "dict") = false := by decide
        have hl1 : (s.heap.push (newObj0 w)).IsList l items := ⟨_, hol', rfl, nl, rfl⟩
        unfold Builtin.«set.__init__» noKeywords Builtin.Frozenset.updateFrom
        generalize hPI : pyIter = PI
        wp_walk
        subst hPI
        refine wpAny_pyIter_list hl1 ?_
        refine wpAny_bind (wpAny_runValue ?_)
        have lS : l < s.heap.objs.size := Heap.lt_size hol
        have hh3 : A.in1.in1.in1.handled = none := by simp [hh]
        have z1 : (s.heap.push (newObj0 w)).objs.size = s.heap.objs.size + 1 := Heap.size_push ..
        have neI : l ≠ (s.heap.push (newObj0 w)).objs.size := by
          rw [z1]
          exact Nat.ne_of_lt (Nat.lt_succ_of_lt lS)
        have nS : s.heap.objs.size ∉ [(s.heap.push (newObj0 w)).objs.size, l] := by
          rw [z1]
          simp only [List.mem_cons, List.mem_singleton, List.not_mem_nil, or_false, not_or]
          exact ⟨Nat.ne_of_lt (Nat.lt_succ_self _), Nat.ne_of_gt lS⟩
        have vals : ∀ (i : Nat) (v : Value), items[i]? = some v → ∃ m, ms[i]? = some m ∧ Z.mv s.heap m v := fun i v hv => each_get hi (by rw [Array.getElem?_toList]; exact hv)
        have out : ∀ b, s.heap.objs.size ≤ b → s.heap.get? b = none := fun b hb => by
          cases q : s.heap.get? b with
          | none => rfl
          | some o => exact absurd (Nat.lt_of_lt_of_le
                                                       (Heap.lt_size q) hb) (Nat.lt_irrefl _)
        refine fill_loop Z ((Walks.list hh3 _ l neI items).toS) s.heap.objs.size nS ms sz few s.heap vals (fun m hm => each_has hi hm) (out _ (Nat.le_refl _))
          (fun b hb => out b (by rw [List.mem_singleton.mp hb, z1]; exact Nat.le_succ _)) hu (items.size - 0) 0 _ (by omega) (Nat.zero_le _)
          ⟨⟨_, Heap.get?_push_size _ rfl, rfl, rfl⟩, (hl1.push _)⟩ (fun b o e => Heap.get?_push_of_some _ (Heap.get?_push_of_some _ e)) ⟨[], Z.fresh (Heap.get?_push_of_some _ hS), From.start Z ms⟩ ?_
        intro s3 L mv sp g kp
        obtain ⟨h3, g3, d3, tk3, os3⟩ := s3
        have eg : g3 = s.gens := mv.gens
        have ed : d3 = s.drawn := mv.drawn
        have eo : os3 = s.os := mv.os
        subst eg; subst ed; subst eo
        rw [sz] at g
        exact wpAny_pure (wpAny_pure ⟨rfl, h3, tk3, L, rfl, sp, g, kp⟩)
      · cases r₂ with
        | error e => exact hr₂
        | ok fl₂ =>
          cases fl₂ with
          | ret r =>
            obtain ⟨rfl, h', tk, L, rfl, sp, g, kp⟩ := hr₂
            repeat (any_goals (first | assumption | wp_step))
            exact h _ _ _ sp g kp
          | _ => exact hr₂.elim
    | _ => exact hr.elim
end
end KS
set_option maxHeartbeats 3200000
/-! sorted(set) over a Kit -/
namespace KS
open PySem PySem.Spec PyProof.Rows L2
section
variable {P : Program} {w : World} {A : Around} {E : Value → Shared → Prop} {s : Shared} {μ κ : Type} (Z : Kit P w μ κ)
theorem each_reads {enc : μ → PyData} {h h' : Heap} {a : Addr} (rd : ∀ {h : Heap} {m : μ} {v : Value}, Z.mv h m v → Reads h v (enc m) []) (k : ∀ b o, h.get? b = some o → h'.get? b = some o) :
    ∀ {vs : List Value} {ms : List μ}, PySem.W.EachIs (fun v m => Z.mv h m v) vs ms → PySem.W.EachIs (fun v b => ∃ as, Reads h' v (enc b) as ∧ a ∉ as) vs ms
  | _, _, .nil => .nil
  | _, _, .cons r t => .cons ⟨[], rd (Z.mvK r k), by simp⟩ (each_reads rd k t)
/-- sorted(set) -/
theorem sorted_kit {a : Addr} {L : List μ} {enc : μ → PyData} {Q : Value → Shared → Prop} (rd : ∀ {h : Heap} {m : μ} {v : Value}, Z.mv h m v → Reads h v (enc m) []) (R : Z.sp s.heap a L) (hm : ∀ m ∈ L, ∃ v, Z.mv s.heap m v) (hh : A.handled = none)
    (hal : PySem.W.AllAlike (L.map enc)) (hk : PySem.W.Sortable (L.map enc)) (hu : ∀ m ∈ L, A.in1.units + 1 + (enc m).depth < cLine)
    (hQ : ∀ s' p (out : Array Value) (c : Nat) (L1 : List μ), (∀ b o, s.heap.get? b = some o → s'.heap.get? b = some o) → s'.gens = s.gens → s'.os = s.os → s.heap.objs.size ≤ p →
      s'.heap.get? p = some (seqObj "list" out c) → L1.Perm L → PySem.W.EachIs (fun v m => Z.mv s.heap m v) out.toList (L1.mergeSort (PySem.W.dataLe false enc)) → Q (.ref p) s') :
    wpAny (model P w) A (call
                              (.builtin "sorted") [.ref a]) Q E s := by
  have few := Z.spFew R
  refine Calls.call_function_entry kind_sorted plain_sorted entry_sorted
                                                                         (args_sorted1 _) ?_
  unfold Builtin.«sorted»
  refine wpAny_bind
                    (m := checkCount "sorted" 1 1 _) (wpAny_pure ?_)
  refine wpAny_bind (Z.col (A := A.in1) R hm hh fun s1 vs L1 k1 hz g1 o1 pm ei => ?_)
  have len : vs.length = L1.length := ei.length
  have small : vs.length < 64 := by
    rw [len, pm.length_eq]
    exact few
  refine wpAny_bind (wpAny_newList ?_
                                      (by rw [sizeLine_eq]; omega))
  have hoL : (s1.heap.push (seqObj "list" vs.toArray 0)).get? s1.heap.objs.size = some
                                                                                       (seqObj "list" vs.toArray 0) := Heap.get?_push_size _ rfl
  have kk : ∀ b o, s.heap.get? b = some o → (s1.heap.push (seqObj "list" vs.toArray 0)).get? b = some o := fun b o e => Heap.get?_push_of_some _ (k1 b o e)
  have al1 : PySem.W.AllAlike (L1.map enc) := fun d hd d' hd' => hal d ((pm.map enc).mem_iff.mp hd) d' ((pm.map enc).mem_iff.mp hd')
  have so1 : PySem.W.Sortable (L1.map enc) := hk.imp (fun q d hd => q d ((pm.map enc).mem_iff.mp hd)) fun q d hd => q d ((pm.map enc).mem_iff.mp hd)
  refine wpAny_bind (wpAny_holding (PySem.W.list_sort_data (s := { s1 with heap := s1.heap.push (seqObj "list" vs.toArray 0) }) (R := fun v m => Z.mv s.heap m v) hoL ei (each_reads Z rd kk ei) al1 so1 (by rw [← len, sizeLine_eq]; omega) (fun m hm => hu m (pm.mem_iff.mp hm)) fun out e1 e2 => ?_))
  obtain ⟨c, hc⟩ := sortedHeap_at (vs := vs) (out := out.toArray) hoL
  refine wpAny_pure ⟨_, rfl, hQ _ s1.heap.objs.size out.toArray c L1 (fun b u e => ?_) g1 o1 hz hc pm (by simpa using e2)⟩
  have lt := Heap.lt_size e
  show (sortedHeap (s1.heap.push (seqObj "list" vs.toArray 0)) s1.heap.objs.size vs out.toArray).get? b = some u
  rw [sortedHeap_old (Nat.ne_of_lt (Nat.lt_of_lt_of_le lt hz)) (by rw [size_push']; exact Nat.lt_succ_of_lt (Nat.lt_of_lt_of_le lt hz))]
  exact kk b u e
end
end KS
set_option maxHeartbeats 3200000
/-! sets of tuples whose items are ints and texts -/
namespace KS
open PySem PySem.Spec PyProof.Rows L2

abbrev HT (P : Program) (w : World) (k : List Key) : Int := tupleKeyHash (mixKind P w) k
abbrev TpK (P : Program) (w : World) (h : Heap) (k : List Key) (b : Addr) : Prop := IsTupleKey (mixKind P w) h k b
abbrev Mem := Addr × List Key
def hs (P : Program) (w : World) (L : List Mem) : List Int := L.map fun p => HT P w p.2
def rws (P : Program) (w : World) (L : List Mem) : List (Int × Value) := L.map fun p => (HT P w p.2, Value.ref p.1)

section
variable {P : Program} {w : World} {A : Around}
                                                {E : Value → Shared → Prop} {s : Shared}
theorem items_key {k : List Key} {vs : List Value} (h : ItemsAre (mixKind P w) k vs) : ∀ v ∈ vs, ∃ q, keyIs q v = true := by
  induction h with
  | nil => intro v hv; cases hv
  | cons h1 _ ih =>
    intro v hv
    rcases List.mem_cons.mp hv with e | hv
    · rw [e]
      exact ⟨_, h1⟩
    · exact ih v hv
theorem noClass (n : Nat) {q : Key} {v : Value} (h : keyIs q v = true) : ofAClassStatement n v = pure false := by
  rcases keyIs_shape h with ⟨i, t, rfl, rfl⟩ | ⟨x, t, rfl, rfl⟩ <;> cases n <;> rfl
theorem byVal (n : Nat) {q : Key} {v : Value} (h : keyIs q v = true) : ∃ b, hashByValue n v = pure b := by
  rcases keyIs_shape h with ⟨i, t, rfl, rfl⟩ | ⟨x, t, rfl, rfl⟩ <;> cases n <;> exact ⟨_, rfl⟩
theorem tup_noClass {k : List Key} {b : Addr} {Q : Bool → Shared → Prop} (hk : TpK P w s.heap k b) (h : Q false s) : wpAny (model P w) A (ofAClassStatement 8 (.ref b)) Q E s := by
  have hT := hk.typeIs
  obtain ⟨o, its, n, ho, _, hd, hi⟩ := hk
  unfold ofAClassStatement
  refine wpAny_bind (wpAny_typeOf hT ?_)
  dsimp only
  have e : (("tuple" : String) == "tuple") = true := by decide
  simp only [e, if_true, Bool.not_true, Bool.false_eq_true, if_false]
  try refine wpAny_bind (wpAny_pure ?_)
  try simp only [Bool.not_true, Bool.false_eq_true, if_false]
  show wpAny _ _ (seqItems? (.ref b) >>= _) _ _ s
  refine wpAny_bind (wpAny_seqItems ho hd ?_)
  dsimp only
  refine wpAny_bind ?_
  show wpAny _ _ (forIn its _ _) _ _ s
  rw [← Array.forIn_toList]
  refine wpAny_forIn_list _ (fun rest r s' => r.1 = none ∧ s' = s ∧ ∀ v ∈ rest, ∃ q, keyIs q v = true) _ ?_ ?_ _ _ ⟨rfl, rfl, items_key hi⟩
  · rintro v rest r s' ⟨hr, rfl, all⟩
    obtain ⟨q, hq⟩ := all v List.mem_cons_self
    rw [noClass _ hq]
    refine wpAny_bind (wpAny_pure ?_)
    simp only [Bool.false_eq_true, if_false]
    exact wpAny_pure ⟨rfl, rfl, fun u hu' => all u (List.mem_cons_of_mem _ hu')⟩
  · rintro ⟨r1, r2⟩ s' ⟨hr, rfl, _⟩
    simp only at hr
    subst hr
    exact wpAny_pure h
theorem tup_byVal {k : List Key} {b : Addr} {Q : Bool → Shared → Prop} (hk : TpK P w s.heap k b) (h : ∀ z, Q z s) : wpAny (model P w) A (hashByValue 8 (.ref b)) Q E s := by
  have hT := hk.typeIs
  obtain ⟨o, its, n, ho, _, hd, hi⟩ := hk
  unfold hashByValue
  refine wpAny_bind
                    (wpAny_specialOf hT F.slot_tuple_hash.lookup ?_)
  show wpAny _ _ (seqItems? (.ref b) >>= _) _ _ s
  refine wpAny_bind (wpAny_seqItems ho hd ?_)
  refine wpAny_bind ?_
  show wpAny _ _ (forIn its _ _) _ _ s
  rw [← Array.forIn_toList]
  refine wpAny_forIn_list _ (fun rest r s' => r.1 = none ∧ s' = s ∧ ∀ v ∈ rest, ∃ q, keyIs q v = true) _ ?_ ?_ _ _ ⟨rfl, rfl, items_key hi⟩
  · rintro v rest r s' ⟨hr, rfl, all⟩
    obtain ⟨q, hq⟩ := all v List.mem_cons_self
    obtain ⟨z, e⟩ := byVal 7 hq
    rw [e]
    refine wpAny_bind (wpAny_pure ?_)
    cases z with
    | true =>
      simp only [Bool.not_true, Bool.false_eq_true, if_false]
      exact wpAny_pure ⟨rfl, rfl, fun u hu' => all u (List.mem_cons_of_mem _ hu')⟩
    | false =>
      simp only [Bool.not_false, if_true]
      exact wpAny_pure (wpAny_pure (h _))
  · rintro ⟨r1, r2⟩ s' ⟨hr, rfl, _⟩
    simp only at hr
    subst hr
    exact wpAny_pure (h _)
/-- comparing tuples shows nothing -/
theorem tup_unseen {k : List Key} {b : Addr} {Q : Bool → Shared → Prop} (hk : TpK P w s.heap k b) {ys : List Value} (hy : ∀ y ∈ ys, ∃ k' c, y = Value.ref c ∧ TpK P w s.heap k' c) (h : Q false s) :
    wpAny (model P w) A (searchCouldBeSeen
                                           (.ref b) ys) Q E s := by
  unfold searchCouldBeSeen
  refine wpAny_bind ?_
  refine wpAny_forIn_list _ (fun rest r s' => r.1 = none ∧ s' = s ∧ ∀ y ∈ rest, ∃ k' c, y = Value.ref c ∧ TpK P w s.heap k' c) _ ?_ ?_ _ _ ⟨rfl, rfl, hy⟩
  · rintro v rest r s' ⟨hr, rfl, all⟩
    obtain ⟨k', c, rfl, hc⟩ := all v List.mem_cons_self
    have more : ∀ y ∈ rest, ∃ k' c, y = Value.ref c ∧ TpK P w s'.heap k' c := fun u hu' => all u (List.mem_cons_of_mem _ hu')
    dsimp only
    by_cases hv : (b == c || (carriedByValue
                                             (.ref b) && carriedByValue (.ref c))) = true
    · exact wp_if_pos hv (wpAny_pure ⟨rfl, rfl, more⟩)
    · refine wp_if_neg hv (wpAny_bind (wpAny_eqIsQuiet_tuple hk ?_))
      simp only [Bool.not_true, Bool.false_eq_true, if_false]
      refine wpAny_bind (wpAny_eqIsQuiet_tuple hc ?_)
      simp only [Bool.not_true, Bool.false_eq_true, if_false]
      refine wpAny_bind (tup_noClass hk ?_)
      simp only [Bool.false_eq_true, if_false]
      refine wpAny_bind (tup_noClass hc ?_)
      simp only [Bool.false_eq_true, if_false]
      exact wpAny_pure ⟨rfl, rfl, more⟩
  · rintro ⟨r1, r2⟩ s' ⟨hr, rfl, _⟩
    simp only at hr
    subst hr
    exact wpAny_pure h
end

/-! ### the table -/
structure SpT (P : Program) (w : World) (h : Heap) (a : Addr) (L : List Mem) (es : Array (Int × Value)) (ep : Nat) (t : SetTable) (o : Obj) : Prop where
  ho : h.get? a = some o
  hex : o.ExactSet
  hd : o.data = .set es ep t
  rows : es.toList = rws P w L
  tab : TabOk t (hs P w L)
  nd : (L.map (·.2)).Nodup
  led : w.params.followText "set-order" = true ∨ t.led = true
  room : L.length * 5 < t.mask * 3
  few : L.length < 64
section
variable {P : Program} {w : World} {A : Around} {E : Value → Shared → Prop} {s : Shared} {a : Addr} {L : List Mem} {es : Array (Int × Value)} {ep : Nat} {t : SetTable} {o : Obj}
theorem rws_len {es : Array (Int × Value)} {L : List Mem} (h : es.toList = rws P w L) : es.size = L.length := by
  have e := congrArg List.length h
  unfold rws at e
  rw [Array.length_toList, List.length_map] at e
  exact e
theorem hs_len (L : List Mem) : (hs P w L).length = L.length := List.length_map _
theorem fits_of {t : SetTable} {n : Nat} (hz : t.place.size = n) (hd : t.dummies = #[]) (hn : n ≤ t.mask) : t.fits n = true := by
  unfold SetTable.fits SetTable.fill
  rw [hd, Bool.and_eq_true, beq_iff_eq, decide_eq_true_eq]
  show t.place.size = n ∧ t.place.size + 0 ≤ t.mask
  omega
theorem SpT.fit {h : Heap} (R : SpT P w h a L es ep t o) : t.fits es.size = true := by
  have e := R.tab.sz
  rw [hs_len] at e
  have f := rws_len R.rows
  have g := R.room
  exact fits_of (by omega) R.tab.dm (by omega)
theorem SpT.at_ {h : Heap} (R : SpT P w h a L es ep t o) {i : Nat} {p : Mem} (e : L[i]? = some p) : es[i]? = some (HT P w p.2, Value.ref p.1) := by
  rw [← Array.getElem?_toList, R.rows]
  unfold rws
  rw [List.getElem?_map, e] <;> rfl
/-- the c-th step of a search -/
abbrev stp (t : SetTable) (h : Int) (c : Nat) : SetTable.Probe := nth t.mask (runAt t.mask (SetTable.bits h % (t.mask + 1)) (SetTable.bits h)) c
theorem stp_dm (t : SetTable) (h : Int) (c : Nat) : (stp t h c).dummy = none := by
  have key : ∀ (n : Nat) (p : SetTable.Probe), p.dummy = none →
                                                                (nth t.mask p n).dummy = none := by
    intro n
    induction n with
    | zero => intro p h; exact h
    | succ n ih =>
      intro p h
      refine ih (adv t.mask p) ?_
      unfold adv
      split <;> exact h
  exact key c _ rfl
theorem stp_add (t : SetTable) (h : Int) (c q : Nat) : nth t.mask (stp t h c) q = stp t h (c + q) := (nth_add t.mask c _ q).symm

/-- the search, from the c-th step on -/
theorem seek (R : SpT P w s.heap a L es ep t o) (tup : ∀ p ∈ L, TpK P w s.heap p.2 p.1) {x : Addr} {k : List Key} (hx : TpK P w s.heap k x) (hu : A.units < cLine) {K : Nat} (hKf : K < 10 * SetTable.turns t.mask)
    (hK : way t.mask (HT P w k) K ∉ t.place.toList) (hKb : ∀ c, c < K → way t.mask (HT P w k) c ∈ t.place.toList) {Q : SetFound → Shared → Prop}
    (hin : k ∈ L.map (·.2) → Q (.there none) s) (hout : k ∉ L.map (·.2) → Q (.free (way t.mask (HT P w k) K) false) s) :
    ∀ (f c : Nat) (stand : Option SetTable.Probe), stand.getD (t.probeStart (HT P w k)) = stp t (HT P w k) c → c ≤ K → K - c < f →
      (∀ (i : Nat) p, L[i]? = some p → p.2 = k → ∃ c', c ≤ c' ∧ c' < K ∧ t.place.toList[i]? = some (way t.mask (HT P w k) c')) →
      wpAny (model P w) A (setSearchFrom a (.ref x) (HT P w k) true f stand) Q E s
  | 0, c, stand, _, _, hf, _ => absurd hf (Nat.not_lt_zero _)
  | f + 1, c, stand, hst, hc, hf, hre => by
    have gw : ¬ t.gaveWay = true := by
      unfold SetTable.gaveWay
      rw [mask_odd R.tab.mok]
      decide
    rw [setSearchFrom_succ]
    refine wpAny_bind (wpAny_setState_of R.ho R.hd R.fit ?_)
    dsimp only
    refine wp_if_neg gw ?_
    try refine wpAny_bind (wpAny_pure ?_)
    have wj : ∀ q, (nth t.mask (stp t (HT P w k) c) q).j = way t.mask (HT P w k) (c + q) := fun q => congrArg SetTable.Probe.j (stp_add t _ c q)
    have hash_at : ∀ (i : Nat) p, L[i]? = some p → (es[i]?.map (·.1)).getD 0 = HT P w p.2 := fun i p hp => by
      rw [R.at_ hp] <;> rfl
    have spec := go_spec t R.tab.ris R.tab.dm (fun i => (es[i]?.map (·.1)).getD 0) (HT P w k) (10 * SetTable.turns t.mask) (K - c) _ (stp_dm t (HT P w k) c) (by omega)
      (fun q hq => by rw [wj]; exact hKb (c + q) (by omega)) (by rw [wj, show c + (K - c) = K by omega]; exact hK)
    rcases spec with ⟨q, i, hq, hi, hh, hno, hpr⟩ | ⟨hno, hpr⟩
    · have met : t.probe (fun i => (es[i]?.map (·.1)).getD 0) (HT P w k) (stand.getD (t.probeStart (HT P w k))) = some (.candidate (way t.mask (HT P w k) (c + q)) i (stp t (HT P w k) (c + (q + 1)))) := by
        rw [hst, ← wj, ← stp_add]
        exact hpr
      rw [met]
      dsimp only
      rw [wj] at hi
      have hil : i < L.length := by
        have h1 : i < t.place.toList.length :=
                                               (List.getElem?_eq_some_iff.mp hi).1
        have h2 := R.tab.sz
        rw [hs_len] at h2
        rw [Array.length_toList] at h1
        omega
      obtain ⟨p, hp⟩ : ∃ p, L[i]? = some p := ⟨_, List.getElem?_eq_getElem hil⟩
      have pm : p ∈ L := List.mem_of_getElem? hp
      have rest : wpAny (model P w) A (searchRest a (.ref x) (HT P w k) true f es t (way t.mask (HT P w k) (c + q)) i (stp t (HT P w k) (c + (q + 1)))) Q E s := by
        unfold searchRest
        rw [R.at_ hp]
        dsimp only
        refine wpAny_bind (wpAny_holding (wpAny_eqBool_tuple hu (tup p pm) hx ?_))
        refine wpAny_bind (wpAny_setState_of R.ho R.hd R.fit ?_)
        dsimp only
        by_cases same : p.2 = k
        · exact wp_if_pos (by simp [same]) (wpAny_pure (hin (List.mem_map.mpr ⟨p, pm, same⟩)))
        · refine wp_if_neg (by simp [same]) ?_
          try refine wpAny_bind (wpAny_pure ?_)
          rw [sameMem]
          dsimp only
          have here : t.slot (way t.mask (HT P w k) (c + q)) = .live i := slot_live R.tab.ris hi
          simp only [if_true, here, R.at_ hp]
          refine wpAny_bind (wpAny_isSame_ref_self
                                                   (wpAny_bind (wpAny_pure ?_)))
          simp only [if_true]
          refine wp_if_neg (by simp [same]) ?_
          refine seek R tup hx hu hKf hK hKb hin hout f (c + (q + 1)) _ rfl (by omega) (by omega) fun i0 p0 h0 k0 => ?_
          obtain ⟨c', a1, a2, a3⟩ := hre i0 p0 h0 k0
          refine ⟨c', ?_, a2, a3⟩
          -- it has not been passed: neither before the candidate nor at it
          rcases Nat.lt_trichotomy c' (c + q) with z | z | z
          · exact absurd ((hash_at i0 p0 h0).trans (congrArg (HT P w) k0)) (hno (c' - c) i0 (by omega) (by rw [wj, show c + (c' - c) = c' by omega]; exact a3))
          · rw [z] at a3
            have e0 := slot_live R.tab.ris a3
            rw [here] at e0
            injection e0 with e0
            rw [← e0, hp] at h0
            exact absurd ((congrArg Prod.snd (Option.some.inj h0)).trans k0) same
          · omega
      by_cases hl : t.led = true
      · refine wp_if_neg (by simp [hl]) ?_
        try refine wpAny_bind (wpAny_pure ?_)
        exact rest
      · refine wp_if_pos (by simp [hl]) ?_
        refine wpAny_bind (tup_unseen hx (fun y hy => ?_) ?_)
        · obtain ⟨e, he, ee⟩ := List.mem_map.mp hy
          have he1 : e ∈ es ∧ e.1 = HT P w k := by simpa using he
          have he2 : e ∈ es.toList := by simpa using he1.1
          rw [R.rows] at he2
          obtain ⟨p2, m2, e2⟩ := List.mem_map.mp he2
          exact ⟨p2.2, p2.1, by rw [← ee, ← e2], tup p2 m2⟩
        · refine wp_if_neg (by decide) ?_
          try refine wpAny_bind (wpAny_pure ?_)
          exact rest
    · have met : t.probe (fun i => (es[i]?.map (·.1)).getD 0) (HT P w k) (stand.getD (t.probeStart (HT P w k))) = some (.empty (way t.mask (HT P w k) K) none) := by
        have e2 : way t.mask (HT P w k) K = (nth t.mask (stp t (HT P w k) c) (K - c)).j := by
          rw [wj, show c + (K - c) = K by omega]
        rw [hst, e2]
        exact hpr
      rw [met]
      dsimp only
      refine wpAny_pure (hout fun hm => ?_)
      obtain ⟨p0, m0, k0⟩ := List.mem_map.mp hm
      obtain ⟨i0, l0, e0⟩ := List.getElem_of_mem m0
      have h0 : L[i0]? = some p0 := by rw [List.getElem?_eq_getElem l0, e0]
      obtain ⟨c', a1, a2, a3⟩ := hre i0 p0 h0 k0
      exact absurd ((hash_at i0 p0 h0).trans (congrArg (HT P w) k0)) (hno (c' - c) i0 (by omega) (by rw [wj, show c + (c' - c) = c' by omega]; exact a3))
theorem seek0 (R : SpT P w s.heap a L es ep t o) (tup : ∀ p ∈ L, TpK P w s.heap p.2 p.1) {x : Addr} {k : List Key} (hx : TpK P w s.heap k x) (hu : A.units < cLine) {Q : SetFound → Shared → Prop}
    (hin : k ∈ L.map (·.2) → Q (.there none) s)
    (hout : ∀ K, k ∉ L.map (·.2) → way t.mask (HT P w k) K ∉ t.place.toList → (∀ c, c < K → way t.mask (HT P w k) c ∈ t.place.toList) → Q (.free (way t.mask (HT P w k) K) false) s) :
    wpAny (model P w) A (setSearch a (.ref x) (HT P w k) true) Q E s := by
  have hroom := R.room
  obtain ⟨K, f1, f2, f3⟩ := R.tab.first (by rw [hs_len]; omega) (HT P w k)
  have big : 10 * SetTable.turns t.mask ≤ 1420 := by
    unfold SetTable.turns
    rcases R.tab.mok with e | e | e <;> omega
  unfold setSearch
  refine seek R tup hx hu f1 f2 f3 hin (fun hn => hout K hn f2 f3) 100000 0 none rfl (Nat.zero_le _) (by omega) fun i p hp hk => ?_
  have hi : (hs P w L)[i]? = some (HT P w k) := by
    unfold hs
    rw [List.getElem?_map, hp, ← hk] <;> rfl
  have lt : i < t.place.toList.length := by
    have h1 : i < L.length :=
                              (List.getElem?_eq_some_iff.mp hp).1
    have h2 := R.tab.sz
    rw [hs_len] at h2
    rw [Array.length_toList]
    omega
  obtain ⟨c, hc, e⟩ := R.tab.before f2 hi (List.getElem?_eq_getElem lt)
  exact ⟨c, Nat.zero_le _, hc, by rw [List.getElem?_eq_getElem lt, e]⟩
end
end KS
set_option maxHeartbeats 3200000
namespace KS
open PySem PySem.Spec PyProof.Rows L2

section
variable {P : Program} {w : World} {A : Around} {E : Value → Shared → Prop} {s : Shared} {a : Addr} {L : List Mem} {es : Array (Int × Value)} {ep : Nat} {t : SetTable} {o : Obj}
/-- a tuple is not the set that changes -/
theorem tt_same {h h' : Heap} {k : List Key} {b : Addr} (x : TpK P w h k b) (ho : h.get? a = some o) (hd : o.data = .set es ep t) (sb : Heap.SameBut a h h') : TpK P w h' k b := by
  obtain ⟨u, its, n, hu, hc, hd', hi⟩ := x
  refine ⟨u, its, n, (sb.2 b ?_).trans hu, hc, hd', hi⟩
  rintro rfl
  rw [ho] at hu
  rw [← Option.some.inj hu, hd] at hd'
  exact nomatch hd'
theorem tt_keep {h h' : Heap} {k : List Key} {b : Addr} (x : TpK P w h k b) (kk : ∀ c o, h.get? c = some o → h'.get? c = some o) : TpK P w h' k b := by
  obtain ⟨u, its, n, hu, r⟩ := x
  exact ⟨u, its, n, kk b u hu, r⟩
theorem hs_ins (L : List Mem) (i : Nat) (m : Mem) : hs P w (L.take i ++ m :: L.drop i) = (hs P w L).take i ++ HT P w m.2 :: (hs P w L).drop i := by
  unfold hs
  rw [List.map_append, List.map_cons, List.map_take, List.map_drop]
theorem rws_ins (L : List Mem) (i : Nat) (m : Mem) : rws P w (L.take i ++ m :: L.drop i) = (rws P w L).take i ++ (HT P w m.2, Value.ref m.1) :: (rws P w L).drop i := by
  unfold rws
  rw [List.map_append, List.map_cons, List.map_take, List.map_drop]
/-- rows picked by an order -/
theorem picked {es : Array (Int × Value)} (hr : es.toList = rws P w L) : ∀ l : List Nat, (∀ i ∈ l, i < L.length) →
    l.filterMap (fun i => es[i]?) = rws P w (l.filterMap fun i => L[i]?) ∧ hs P w (l.filterMap fun i => L[i]?) = l.map fun i => (es.map (·.1)).getD i 0
  | [], _ => ⟨rfl, rfl⟩
  | i :: l, hl => by
    have lt := hl i List.mem_cons_self
    obtain ⟨e1, e2⟩ := picked hr l fun j hj => hl j (List.mem_cons_of_mem _ hj)
    have q : L[i]? = some L[i] := List.getElem?_eq_getElem lt
    have en : es[i]? = some (HT P w (L[i]).2, Value.ref (L[i]).1) := by
      rw [← Array.getElem?_toList, hr]
      unfold rws
      rw [List.getElem?_map, q] <;> rfl
    have eg : (es.map (·.1)).getD i 0 = HT P w (L[i]).2 := by
      have e5 : (es.map (·.1))[i]? = some (HT P w (L[i]).2) := by rw [Array.getElem?_map, en] <;> rfl
      simp [Array.getD_eq_getD_getElem?, e5]
    refine ⟨?_, ?_⟩
    · rw [List.filterMap_cons_some en, List.filterMap_cons_some q, e1] <;> rfl
    · rw [List.filterMap_cons_some q, List.map_cons, eg, ← e2] <;> rfl
theorem pick_all {α : Type} (L : List α) : ∀ n, n ≤ L.length → (List.range n).filterMap (fun i => L[i]?) = L.take n
  | 0, _ => rfl
  | n + 1, h => by
    have lt : n < L.length := h
    rw [List.range_succ, List.filterMap_append, pick_all L n (Nat.le_of_lt lt), List.take_succ, List.getElem?_eq_getElem lt, List.filterMap_cons_some (List.getElem?_eq_getElem lt)] <;> rfl

theorem relay (ho : s.heap.get? a = some o) (hex : o.ExactSet) (hd : o.data = .set es ep t) (hr : es.toList = rws P w L) (hz : t.place.size = es.size) (dm : t.dummies = #[]) (hm : es.size ≤ t.mask)
    (nd : (L.map (·.2)).Nodup) (led : w.params.followText "set-order" = true ∨ t.led = true) (few : L.length < 64) {wanted M : Nat} (hw : SetTable.sizeAbove wanted - 1 = M) (hM : MaskOk M) (h128 : SetTable.sizeAbove wanted ≤ 128) (room : L.length * 5 < M * 3)
    {Q : Unit → Shared → Prop} (hQ : ∀ h' L' es' ep' t' o', Heap.SameBut a s.heap h' → SpT P w h' a L' es' ep' t' o' → L'.Perm L → Q () { s with heap := h' }) : wpAny (model P w) A (setRelay a wanted) Q E s := by
  have len := rws_len hr
  obtain ⟨t', order, e, pm, T, em, el, _, _⟩ := relaid_ok t (hs := es.map (·.1)) (wanted := wanted) hw hM (by rw [Array.size_map, len]; omega)
  rw [Array.size_map, len] at pm
  obtain ⟨r1, r2⟩ := picked (P := P) (w := w) hr order.toList fun i hi => List.mem_range.mp (pm.mem_iff.mp hi)
  have p2 : (order.toList.filterMap fun i => L[i]?).Perm L := by
    have q := pm.filterMap fun i => L[i]?
    rw [pick_all L L.length (Nat.le_refl _), List.take_length] at q
    exact q
  generalize order.toList.filterMap (fun i => L[i]?) = L2 at r1 r2 p2
  rw [← r2] at T
  have r1' : (order.filterMap (es[·]?)).toList = rws P w L2 := by first | (rw [Array.toList_filterMap]; exact r1) | simpa using r1
  have sz2 : (order.filterMap (es[·]?)).size = es.size := by rw [rws_len r1', p2.length_eq, len]
  rw [setRelay_eq]
  refine wpAny_bind (wpAny_setState_of ho hd (fits_of hz dm hm) ?_)
  dsimp only
  refine wp_if_neg (by rw [sizeLine_eq]; omega) ?_
  try refine wpAny_bind (wpAny_pure ?_)
  rw [e]
  dsimp only
  refine wpAny_bind ?_
  refine wp_if_neg (by rw [sz2]; simp) ?_
  try refine wpAny_bind (wpAny_pure ?_)
  refine wpAny_pure ?_
  dsimp only
  refine wpAny_storeSet_of ho hd ?_ (by rw [sz2, len, sizeLine_eq]; omega)
  exact hQ _ L2 _ (ep + 1) t' _ (Heap.SameBut.update ..) ⟨store_at ho hd, ⟨hex.1, hex.2.1, hex.2.2⟩, rfl, r1', T, (p2.map (·.2)).nodup_iff.mpr nd, by rw [el]; exact led, by rw [p2.length_eq, em]; exact room, by rw [p2.length_eq]; exact few⟩ p2

theorem add_tup (R : SpT P w s.heap a L es ep t o) (tup : ∀ p ∈ L, TpK P w s.heap p.2 p.1) {x : Addr} {k : List Key} (hx : TpK P w s.heap k x) (hu : A.units < cLine) (few : L.length + 1 < 64) {Q : Bool → Shared → Prop}
    (hQ : ∀ b h' L' es' ep' t' o', Heap.SameBut a s.heap h' → SpT P w h' a L' es' ep' t' o' → (k ∈ L.map (·.2) → L' = L) → (k ∉ L.map (·.2) → L'.Perm ((x, k) :: L)) → Q b { s with heap := h' }) :
    wpAny (model P w) A (setAddHashed a (.ref x) (HT P w k)) Q E s := by
  have hroom := R.room
  unfold setAddHashed
  refine wpAny_holding ?_
  rw [show (100000 : Nat) = 99999 + 1 from rfl, setAddHashedIn_succ]
  refine wpAny_bind (wpAny_setState_of R.ho R.hd R.fit ?_)
  dsimp only
  refine wp_if_neg (by simp [byScan, Value.scannable]) ?_
  try refine wpAny_bind (wpAny_pure ?_)
  refine wpAny_bind (seek0 R tup hx hu (fun hm => ?_) fun K hm hK hb => ?_)
  · exact wpAny_pure (hQ false s.heap L es ep t o (Heap.SameBut.refl a s.heap) R (fun _ => rfl) fun z => absurd hm z)
  dsimp only
  refine wpAny_bind (wpAny_setState_of R.ho R.hd R.fit ?_)
  dsimp only
  obtain ⟨q1, q2, q3, q4, q5, _, _, _, q9⟩ := R.tab.put hK hb
  generalize t.put (way t.mask (HT P w k) K) = pt at q1 q3 q4 q5 q9 ⊢
  obtain ⟨t1, i⟩ := pt
  dsimp only at q1 q3 q4 q5 q9 ⊢
  subst q1
  generalize SetTable.below t.place (way t.mask (HT P w k) K) = i at q2 q3 ⊢
  rw [← hs_ins L i (x, k)] at q3
  rw [hs_len] at q9
  have pm : (L.take i ++ (x, k) :: L.drop i).Perm ((x, k) :: L) := put_perm L i (x, k)
  have hr : (SetTable.insertAt es i (HT P w k, Value.ref x)).toList = rws P w (L.take i ++ (x, k) :: L.drop i) := by rw [SetTable.toList_insertAt, rws_ins, R.rows]
  have len : (L.take i ++ (x, k) :: L.drop i).length = L.length + 1 := pm.length_eq
  have nd1 : ((L.take i ++ (x, k) :: L.drop i).map (·.2)).Nodup := by
    refine (pm.map (·.2)).nodup_iff.mpr ?_
    rw [List.map_cons]
    exact List.nodup_cons.mpr ⟨hm, R.nd⟩
  generalize SetTable.insertAt es i (HT P w k, Value.ref x) = es1 at hr ⊢
  generalize L.take i ++ (x, k) :: L.drop i = L1 at pm hr len nd1 q3
  have sz1 : es1.size = L.length + 1 := by rw [rws_len hr, len]
  have led1 : w.params.followText "set-order" = true ∨ t1.led = true := by rw [q5]; exact R.led
  have lenT : t1.place.size = L.length + 1 := by
    have e := q3.sz
    rw [hs_len, len] at e
    exact e
  rw [rws_len R.rows]
  -- what follows, whether or not the table stays plain
  have rest : ∀ t2 : SetTable, t2.mask = t1.mask → t2.place = t1.place → t2.dummies = t1.dummies → t2.led = t1.led → TabOk t2 (hs P w L1) →
      wpAny (model P w) A (do
        storeSet a es1 t2
        if (!false && t2.tooFull) = true then setRelay a (SetTable.grown (L.length + 1))
        return true) Q E s := fun t2 m2 p2 d2 l2 T2 => by
    refine wpAny_bind (wpAny_storeSet_of R.ho R.hd ?_ (by rw [sz1, sizeLine_eq]; omega))
    have sb : Heap.SameBut a s.heap (s.heap.update a (Obj.putSet es1 t2)) := Heap.SameBut.update ..
    have o1 := store_at (es' := es1) (t' := t2) R.ho R.hd
    generalize s.heap.update a (Obj.putSet es1 t2) = h1 at sb o1 ⊢
    have led2 : w.params.followText "set-order" = true ∨ t2.led = true := by rw [l2]; exact led1
    have fill2 : t2.fill = L.length + 1 := by
      show t2.place.size + t2.dummies.size = L.length + 1
      rw [p2, d2]
      exact q9
    by_cases full : t2.tooFull = true
    · have big : (L.length + 1) * 5 ≥ t2.mask * 3 := by
        have h := full
        unfold SetTable.tooFull at h
        rw [decide_eq_true_eq, fill2] at h
        exact h
      have two : (t.mask = 7 ∧ L.length = 4) ∨ (t.mask = 31 ∧ L.length = 18) := by
        rcases R.tab.mok with e | e | e
        · left; rw [m2, q4, e] at big; rw [e] at hroom; exact ⟨e, by omega⟩
        · right; rw [m2, q4, e] at big; rw [e] at hroom; exact ⟨e, by omega⟩
        · exfalso; rw [m2, q4, e] at big; omega
      have go : ∀ M, SetTable.sizeAbove (SetTable.grown (L.length + 1)) - 1 = M → MaskOk M → SetTable.sizeAbove
                                                                                                                (SetTable.grown (L.length + 1)) ≤ 128 → (L.length + 1) * 5 < M * 3 →
          wpAny (model P w) A (setRelay a (SetTable.grown (L.length + 1))) (fun _ s' => wpAny (model P w) A (pure true) Q E s') E { s with heap := h1 } := fun M g1 g2 g3 g4 => by
        refine relay (s := { s with heap := h1 }) o1 ⟨R.hex.1, R.hex.2.1, R.hex.2.2⟩ rfl hr (by rw [p2, lenT, sz1]) (by rw [d2]; exact q3.dm) (by rw [sz1, m2, q4]; rcases two with ⟨e, e2⟩ | ⟨e, e2⟩ <;> omega) nd1 led2 (by rw [len]; exact few) g1 g2 g3 (by rw [len]; exact g4) ?_
        intro h2 L3 es3 ep3 t3 o3 sb3 R3 pm3
        exact wpAny_pure (hQ true h2 L3 es3 ep3 t3 o3 (sb.trans sb3) R3 (fun z => absurd z hm) fun _ => pm3.trans pm)
      first
        | (refine wpAny_bind ?_; refine wp_if_pos (by simp [full]) ?_)
        | (refine wp_if_pos (by simp [full]) ?_; refine wpAny_bind ?_)
      rcases two with ⟨_, e2⟩ | ⟨_, e2⟩
      · exact go 31 (by rw [e2, size_20]) (.inr (.inl rfl)) (by rw [e2, size_20]; decide) (by omega)
      · exact go 127 (by rw [e2, size_76]) (.inr (.inr rfl)) (by rw [e2, size_76]; decide) (by omega)
    · first
        | refine wp_if_neg (by simp [full]) ?_
        | (refine wpAny_bind ?_; refine wp_if_neg (by simp [full]) ?_; refine wpAny_pure ?_)
      refine wpAny_pure (hQ true h1 L1 es1 (ep + 1) t2 _ sb ⟨o1, ⟨R.hex.1, R.hex.2.1, R.hex.2.2⟩, rfl, hr, T2, nd1, led2, ?_, by rw [len]; exact few⟩ (fun z => absurd z hm) fun _ => pm)
      have h := full
      unfold SetTable.tooFull at h
      rw [decide_eq_true_eq, fill2] at h
      rw [len]
      omega
  have T0 : TabOk { t1 with plain := false } (hs P w L1) := ⟨q3.ris, q3.dm, q3.sz, q3.mok, q3.bd, q3.reach⟩
  by_cases pl : t1.plain = true
  · first
      | (refine wpAny_bind ?_; refine wp_if_pos pl ?_; refine tup_byVal hx fun z => ?_)
      | refine wp_if_pos pl (wpAny_bind (tup_byVal hx fun z => ?_))
    cases z with
    | true =>
      simp only [if_true]
      exact rest t1 rfl rfl rfl rfl q3
    | false =>
      simp only [Bool.false_eq_true, if_false]
      exact rest { t1 with plain := false } rfl rfl rfl rfl T0
  · first
      | (refine wpAny_bind ?_; refine wp_if_neg pl ?_; refine wpAny_pure ?_)
      | refine wp_if_neg pl (wpAny_bind (wpAny_pure ?_))
    simp only [if_true]
    exact rest t1 rfl rfl rfl rfl q3
end
end KS
set_option maxHeartbeats 3200000
namespace KS
open PySem PySem.Spec PyProof.Rows L2

theorem perm_pre {α β : Type} {f : α → β} {out l : List β} (p : out.Perm l) : ∀ L : List α, l = L.map f → ∃ L' : List α, L'.Perm L ∧ out = L'.map f := by
  induction p with
  | nil =>
    intro L e
    cases L with
    | nil => exact ⟨[], .nil, rfl⟩
    | cons x L => exact nomatch e
  | cons x _ ih =>
    intro L e
    cases L with
    | nil => exact nomatch e
    | cons y L =>
      rw [List.map_cons] at e
      injection e with e1 e2
      obtain ⟨L', q1, q2⟩ := ih L e2
      exact ⟨y :: L', q1.cons y, by rw [List.map_cons, ← q2, e1]⟩
  | swap x y l =>
    intro L e
    match L, e with
    | a :: b :: L, e =>
      rw [List.map_cons, List.map_cons] at e
      injection e with e1 e2
      injection e2 with e2 e3
      exact ⟨b :: a :: L, .swap _ _ _, by rw [List.map_cons, List.map_cons, e1, e2, e3]⟩
  | trans _ _ ih1 ih2 =>
    intro L e
    obtain ⟨L2, q1, q2⟩ := ih2 L e
    obtain ⟨L1, q3, q4⟩ := ih1 L2 q2
    exact ⟨L1, q3.trans q1, q4⟩
theorem each_map_of {α : Type} {R : Value → α → Prop} {f : α → Value} : ∀ {ms : List α}, (∀ m ∈ ms, R (f m) m) → PySem.W.EachIs R (ms.map f) ms
  | [], _ => .nil
  | m :: ms, h => .cons (h m List.mem_cons_self) (each_map_of fun u hu => h u (List.mem_cons_of_mem _ hu))

/-- tuples of ints and texts -/
def tupKit (P : Program) (w : World) : Kit P w Mem (List Key) where
  key := fun m => m.2
  mv := fun h m v => v = .ref m.1 ∧ TpK P w h m.2 m.1
  sp := fun h a L => ∃ es ep t o, SpT P w h a L es ep t o
  mvK := fun x k => ⟨x.1, tt_keep x.2 k⟩
  spAt := fun R k => by
    obtain ⟨es, ep, t, o, R⟩ := R
    exact ⟨es, ep, t, o, { R with ho := k o R.ho }⟩
  spEx := fun R => by
    obtain ⟨es, ep, t, o, R⟩ := R
    exact ⟨o, R.ho, R.hex.1⟩
  spNd := fun R => by
    obtain ⟨es, ep, t, o, R⟩ := R
    exact R.nd
  spFew := fun R => by
    obtain ⟨es, ep, t, o, R⟩ := R
    exact R.few
  fresh := fun ho => ⟨#[], 0, _, _, ho, ⟨rfl, rfl, rfl⟩, rfl, rfl, ⟨List.Pairwise.nil, rfl, rfl, .inl rfl, (fun x hx => by cases hx), fun i h j hi => by simp [hs] at hi⟩, List.nodup_nil, (by
    show _ ∨ (!w.params.followText "set-order") = true
    cases w.params.followText "set-order"
    · exact .inr rfl
    · exact .inl rfl), (by show 0 * 5 < 7 * 3; decide), by show 0 < 64; decide⟩
  add := fun {A E s a L m v Q} R ht hk room hu hQ => by
    obtain ⟨es, ep, t, o, R⟩ := R
    obtain ⟨rfl, hx⟩ := hk
    unfold setAdd
    refine wpAny_holding (wpAny_bind (wpAny_pyHash_tuple hu hx ?_))
    refine add_tup (s := { s with toks := s.toks + (m.2.length + 1) }) R (fun p hp => ?_) hx hu room fun b h' L' es' ep' t' o' sb r c1 c2 => hQ b h' _ L' sb (Nat.le_add_right _ _) ⟨es', ep', t', o', r⟩ c1 c2
    obtain ⟨_, _, q⟩ := ht p hp
    exact q
  col := fun {A E s a L Q} R ht hh hQ => by
    obtain ⟨es, ep, t, o, R⟩ := R
    have few := R.few
    refine collect_set hh ⟨o, R.ho, R.hex.1, R.hd⟩ R.fit (by rw [rws_len R.rows]; unfold scanBound; omega) R.tab.ris R.led fun s' out k z g os pm => ?_
    have e : es.toList.map (·.2) = L.map fun p => Value.ref p.1 := by
      rw [R.rows]
      unfold rws
      rw [List.map_map] <;> rfl
    obtain ⟨L', q1, q2⟩ := perm_pre pm L e
    subst q2
    refine hQ s' _ L' k z g os q1 (each_map_of fun m hm => ⟨rfl, ?_⟩)
    obtain ⟨_, _, q⟩ := ht m (q1.mem_iff.mp hm)
    exact q
end KS
set_option maxHeartbeats 3200000
/-! rules over tracked heaps: set(xs), sorted(set), the comprehension's add -/
namespace KS
open PySem PySem.Spec PyProof.Rows L2

/-- the set at a with the members L -/
def SetO {P : Program} {w : World} {μ κ : Type} (Z : Kit P w μ κ) (a : Addr) (L : List μ) : HO := .ext fun h => Z.sp h a L
theorem setO_new {P : Program} {w : World} {μ κ : Type} {Z : Kit P w μ κ} {H : Hp} {h : Heap} {a : Addr} {L : List μ} (R : Z.sp h a L) : ObjOk P w H h a (SetO Z a L) := by
  have ⟨o, ho, _⟩ := Z.spEx R
  exact ⟨R, ⟨o, ho⟩, fun h1 h2 p k => Z.spAt p k⟩
/-- how members stand in a tracked heap -/
structure Lnk (X : Cx) {μ κ : Type} (Z : Kit X.prog X.w μ κ) where
  vOf : μ → V
  ok : Hp → μ → Prop
  get : ∀ {pins : List (Addr × Obj)} {σ : L2.St} {H : Hp} {s : Shared} {m : μ} {u : Value}, Inv X pins σ H s → ok H m → RelV (vOf m) u → Z.mv s.heap m u
  some_ : ∀ m, ∃ u, RelV (vOf m) u
  back : ∀ {h : Heap} {m : μ} {u : Value}, Z.mv h m u → RelV (vOf m) u
section
variable {X : Cx} {μ κ : Type} {Z : Kit X.prog X.w μ κ} (K : Lnk X Z)
def linkKey (X : Cx) : Lnk X (keyKit X.prog X.w) where
  vOf := kV
  ok := fun _ _ => True
  get := fun _ _ r => kV_is (P := X.prog) (w := X.w) r
  some_ := fun m => by
    cases m with
    | inl i => exact ⟨.int i 0, 0, rfl⟩
    | inr x => exact ⟨.str x 0, 0, rfl⟩
  back := fun {h m u} q => by
    rcases keyIs_shape (show keyIs m u = true from q) with ⟨i, t, rfl, rfl⟩ | ⟨x, t, rfl, rfl⟩ <;> exact ⟨t, rfl⟩
def linkTup (X : Cx) : Lnk X (tupKit X.prog X.w) where
  vOf := fun m => .ref m.1
  ok := fun H m => SqT X.K H m.1 (m.2.map kV)
  get := fun {pins σ H s m u} I h r => by
    cases r
    obtain ⟨its, rv, ⟨o, ho, hc, n, hd⟩, _⟩ := I.tuple h
    exact ⟨rfl, o, its.toArray, n, ho, hc, hd, by simpa using items_are rv⟩
  some_ := fun m => ⟨.ref m.1, rfl⟩
  back := fun q => q.1
theorem vals_each {pins : List (Addr × Obj)} {σ : L2.St} {H : Hp} {s : Shared} (I : Inv X pins σ H s) : ∀ {ms : List μ} {us : List Value}, (∀ m ∈ ms, K.ok H m) → Vals (ms.map K.vOf) us → PySem.W.EachIs (fun v m => Z.mv s.heap m v) us ms
  | [], _, _, r => by cases r; exact .nil
  | m :: ms, _, h, r => by
    cases r with
    | cons r t => exact .cons (K.get I (h m List.mem_cons_self) r) (vals_each I (fun x hx => h x (List.mem_cons_of_mem _ hx)) t)
theorem each_vals {h : Heap} : ∀ {us : List Value} {ms : List μ}, PySem.W.EachIs (fun v m => Z.mv h m v) us ms → Vals (ms.map K.vOf) us
  | _, _, .nil => .nil
  | _, _, .cons r t => .cons (K.back r) (each_vals t)
theorem all_mv {pins : List (Addr × Obj)} {σ : L2.St} {H : Hp} {s : Shared} (I : Inv X pins σ H s) {L : List μ} (h : ∀ m ∈ L, K.ok H m) : ∀ m ∈ L, ∃ v, Z.mv s.heap m v := fun m hm => by
  obtain ⟨u, hu⟩ := K.some_ m
  exact ⟨u, K.get I (h m hm) hu⟩
/-- set(xs), xs a list of members -/
def rSetOf : List V → Hp → VK → Prop := fun xs H Q => ∃ (l : Addr) (ms : List μ), xs = [V.ref l] ∧ SqL X.K H l (ms.map K.vOf) ∧ (∀ m ∈ ms, K.ok H m) ∧ ms.length < 64 ∧
  ∀ a L, H a = none → From Z ms ms.length L → (L.map Z.key).Nodup → Q (.ref a) (upd H a (SetO Z a L))
theorem cr_setOf (hc : X.calm = true) (hu : X.A.units + 3 < cLine) : CallR X (.type "set") (rSetOf K) := by
  intro pins s σ H xs us Q I r h
  obtain ⟨l, ms, rfl, hl, hk, hf, q⟩ := h
  rw [Vals.ref1 r]
  obtain ⟨its, rv, pl, hz⟩ := I.list hl
  refine call_set Z ms (I.ok.hd hc) pl.isList (by simpa using vals_each K I hk rv) hf hu fun h' tk L R g k => ?_
  exact ⟨.ref s.heap.objs.size, upd H s.heap.objs.size (SetO Z s.heap.objs.size L), I.laid (t' := tk) k (Nat.le_refl _) (setO_new R), rfl, q _ L (I.hok.fresh (Nat.le_refl _)) g (Z.spNd R)⟩
/-- sorted(set) -/
def rSortedK (enc : μ → PyData) : List V → Hp → VK → Prop := fun vs H Q => ∃ (a : Addr) (L : List μ), vs = [V.ref a] ∧ H a = some (SetO Z a L) ∧ (∀ m ∈ L, K.ok H m) ∧ PySem.W.AllAlike (L.map enc) ∧ PySem.W.Sortable (L.map enc) ∧
  ∀ (L1 : List μ) (p : Addr), L1.Perm L → (L.map Z.key).Nodup → H p = none → Q (.ref p) (upd H p (.lst ((L1.mergeSort (PySem.W.dataLe false enc)).map K.vOf)))
theorem cr_sortedK {enc : μ → PyData} (hc : X.calm = true) (rd : ∀ {h : Heap} {m : μ} {v : Value}, Z.mv h m v → Reads h v (enc m) []) (hu : ∀ m, X.A.in1.units + 1 + (enc m).depth < cLine) : CallR X (.builtin "sorted") (rSortedK K enc) := by
  intro pins s σ H vs us Q I r h
  obtain ⟨a, L, rfl, ha, hk, al, so, q⟩ := h
  have R : Z.sp s.heap a L := (I.hok a _ ha).1
  rw [Vals.ref1 r]
  refine sorted_kit Z rd R (all_mv K I hk) (I.ok.hd hc) al so (fun m _ => hu m) fun s' p out c L1 k g o hp hg pm ei => ?_
  have few : (L1.mergeSort (PySem.W.dataLe false enc)).length < 64 := by
    rw [List.length_mergeSort, pm.length_eq]
    exact Z.spFew R
  have hlen : ((L1.mergeSort (PySem.W.dataLe false enc)).map K.vOf).length ≤ sizeLine := by
    rw [List.length_map, sizeLine_eq]
    omega
  have hn : H p = none := I.hok.fresh hp
  have J : Inv X pins σ (upd H p (.lst ((L1.mergeSort (PySem.W.dataLe false enc)).map K.vOf))) { s with heap := s'.heap, gens := s'.gens, drawn := s'.drawn, toks := s'.toks } :=
    I.call (ch := []) (Un.laid k hp hn) (I.hok.laid k hp ⟨hlen, out.toList, c, each_vals K ei, hg⟩) (by rw [g]; exact I.bare) (fun _ z => nomatch z)
  have e : s' =
                { s with heap := s'.heap, gens := s'.gens, drawn := s'.drawn, toks := s'.toks } := by
    cases s'
    cases s
    cases o
    rfl
  rw [e]
  exact ⟨.ref p, _, J, rfl, q L1 p pm (Z.spNd R) hn⟩
end
section
variable {P : Program} {w : World} {A : Around} {E : Value → Shared → Prop} {s : Shared} {μ κ : Type} (Z : Kit P w μ κ)
/-- found.add(x) -/
theorem call_add {a : Addr} {L : List μ} {m : μ} {v : Value} {Q : Value → Shared → Prop} (R : Z.sp s.heap a L) (hm : ∀ m ∈ L, ∃ v, Z.mv s.heap m v) (hv : Z.mv s.heap m v) (room : L.length + 1 < 64) (hu : A.in1.units < cLine)
    (hQ : ∀ h' tk L', Heap.SameBut a s.heap h' → Z.sp h' a L' → (Z.key m ∈ L.map Z.key → L' = L) → (Z.key m ∉ L.map Z.key → L'.Perm (m :: L)) → Q .none { s with heap := h', toks := tk }) :
    wpAny (model P w) A (call (.builtin "set.add") [.ref a, v]) Q E s := by
  obtain ⟨o, ho, hc⟩ := Z.spEx R
  refine wpAny_call_entry F.slot_set_add ⟨o, ho, hc⟩ F.entry_set_add ?_ (F.args_set_add_2 _ _)
  unfold Builtin.«set.add» Builtin.Frozenset.oneOther
  simp only [List.isEmpty_nil, bind_assoc]
  unfold Builtin.Frozenset.addrOf
  refine wpAny_bind (wpAny_pure ?_)
  try dsimp only
  refine wpAny_bind (wpAny_pure ?_)
  try dsimp only
  refine wpAny_bind ?_
  refine Z.add R hm hv room hu fun b h' tk L' sb ht r c1 c2 => ?_
  show wpAny _ _ (ret Value.none) _ _ _
  exact wpAny_pure ⟨_, rfl, hQ h' tk L' sb r c1 c2⟩
end
section
variable {X : Cx} {μ κ : Type} {Z : Kit X.prog X.w μ κ} (K : Lnk X Z)
/-- L and m make L' -/
def Grow (Z : Kit X.prog X.w μ κ) (L : List μ) (m : μ) (L' : List μ) : Prop := (Z.key m ∈ L.map Z.key → L' = L) ∧ (Z.key m ∉ L.map Z.key → L'.Perm (m :: L))
theorem addK_ok {pins : List (Addr × Obj)} {σ : L2.St} {H : Hp} {s : Shared} {E : Value → Shared → Prop} {D : Addr} {L : List μ} {m : μ} {u : Value} {Q : Value → Shared → Prop} (I : Inv X pins σ H s) (hD : H D = some (SetO Z D L))
    (hk : ∀ m ∈ L, K.ok H m) (hm : K.ok H m) (ru : RelV (K.vOf m) u) (room : L.length + 1 < 64) (hu : X.A.in1.units < cLine)
    (h : ∀ s' L', Grow Z L m L' → Inv X pins σ (upd H D (SetO Z D L')) s' → Q .none s') : wpAny (model X.prog X.w) X.A (call (.builtin "set.add") [.ref D, u]) Q E s := by
  have R : Z.sp s.heap D L := (I.hok D _ hD).1
  refine call_add Z R (all_mv K I hk) (K.get I hm ru) room hu fun h' tk L' sb new c1 c2 => ?_
  have he : ∃ u, h'.get? D = some u := by
    have ⟨o, ho, _⟩ := Z.spEx new
    exact ⟨o, ho⟩
  exact h _ L' ⟨c1, c2⟩ (I.write (e := D) (t' := tk) (by rw [hD]; trivial) (.inl rfl) (fun b u hb hu => (sb.2 b hb).trans hu) he (setO_new new))
end
end KS
set_option maxHeartbeats 3200000
/-! {elt for tg in iter if ..} over a Kit -/
namespace KS
open PySem PySem.Spec PyProof.Rows L2
section
variable {X : Cx} {μ κ : Type} {Z : Kit X.prog X.w μ κ} (K : Lnk X Z)
/-- D the new set; W i m: what holds ahead of the i-th turn, m goes down -/
def tSetC (wi : TI) (g : TG) (tt : TT) (te : TE) (vs : List Nat) : TE := fun σ H Q => wi σ H fun J H1 => ∀ D, H1 D = none → ∃ W : Nat → Nat → Hp → Prop, (∃ m, W 0 m (upd H1 D (SetO Z D []))) ∧ ∀ i m H, W i m H →
  (J.stop i H ∧ Q (.ref D) H) ∨ (J.go i H ∧ ∃ Nx : Hp → Prop, (∀ H', Nx H' → ∃ m', m' < m ∧ W
                                                                                              (i + 1) m' H') ∧ ∀ x H', J.yld i H x H' → g x (wipe σ vs) H' fun σ2 H2 => wipe σ2 vs = wipe σ vs ∧ tt σ2 H2 fun b H3 =>
    if b = true then te σ2 H3 fun y H4 => ∃ (m : μ) (L : List μ), y = K.vOf m ∧ H4 D = some (SetO Z D L) ∧ K.ok H4 m ∧ (∀ x ∈ L, K.ok H4 x) ∧ L.length + 1 < 64 ∧ (∀ L', Grow Z L m L' → Nx (upd H4 D (SetO Z D L'))) else Nx H3)
theorem setc {pins : List (Addr × Obj)} {s : Shared} {σ : L2.St} {H : Hp} {Q : VK} {elt tg iter : Expr} {ifs : List Expr} {scope : Scope} {own : List (PySem.Str × Nat)} {pos pos' : Pos} {wi : TI} {g : TG} {tt : TT} {te : TE} {use : Option (Value → Sem Unit)} {Qf : Value → Shared → Prop}
    (hc : X.calm = true) (hu : X.A.in1.units < cLine) (hN : X.N.Nodup) (I : Inv X pins σ H s) (hi : PI X tg iter wi) (ok : BlkOk X.N X.env.scope scope own)
    (hg : ∀ (s : Shared) (H : Hp) (C : Addr) (cl : List (PySem.Str × Addr)) (fp : List Addr), PG (X.blk s H scope (compEnvC scope cl C X.env) fp) tg g)
                                                                                                                                                        (ht : ∀ (s : Shared) (H : Hp) (C : Addr) (cl : List (PySem.Str × Addr)) (fp : List Addr), PTs (X.blk s H scope (compEnvC scope cl C X.env) fp) ifs tt)
    (he : ∀ (s : Shared) (H : Hp) (C : Addr) (cl : List (PySem.Str × Addr)) (fp : List Addr), PE
                                                                                                 (X.blk s H scope (compEnvC scope cl C X.env) fp) elt te) (hs : ∀ x, foldedSetIterable iter X.env x = pure x)
    (hK : ∀ (s : Shared) (H : Hp) (env : Env) (fp : List Addr), ∃ K' : Lnk (X.blk s H scope env fp) Z, K'.vOf = K.vOf ∧ K'.ok = K.ok)
    (h : tSetC K wi g tt te (own.map (·.2)) σ H Q)
    (hRR : ∀ D C s' m H', Inv X pins σ H' s' → Q (.ref D) H' → s'.heap.Ns C m → FpOk X pins H' C → compPost
                                                                                                            (model X.prog X.w) X.A X.xe use Qf (.ref D) C (.ok .next) s') :
    wpAny (model X.prog X.w) X.A (comprehension (.SetComp elt [⟨tg, iter, ifs, 0⟩] scope pos) scope X.env pos'
                                                                                                               (newSet (.type "set")) false (eval iter X.env) use) Qf X.xe s := by
  have free : ∀ y ∈ scope.names, y.2 = .free → ∃ c, X.env.cells.lookup y.1 = some c := fun y hy e => (ok.free y hy e).elim (fun k => I.ok.has _ (.inl k)) fun k => I.ok.has _ (.inr k)
  refine wpAny_comprehension_free (use := use) rfl hs (closure_ok free) ok.kind (fun y hy e => by rw [ok.uniq y hy, e]) (thn (hi.run pins s σ H _ I h) fun xv s1 hx => thn hx fun itv s2 h2 => ?_)
  obtain ⟨it, fp, tn, J, H2, e, I2, T, st2, f2, q⟩ := h2
  subst e
  refine PpSet.newSet_ok (newEnv_comp ?_)
  generalize hD : s2.heap.objs.size = D
  obtain ⟨W, ⟨m0, w0⟩, turn⟩ := q D (I2.hok.fresh (Nat.le_of_eq hD))
  generalize hs3 : ({ s2 with heap := s2.heap.push (newObj0 X.w) } : Shared) = s3
  have hs3' : ({ s2 with heap := s2.heap.push { cls := .type "set", dict := none, data := .set #[] 0 (.fresh 0 0 (!X.w.params.followText "set-order")) } } : Shared) = s3 := hs3
  rw [hs3']
  have h3 : s3.heap = s2.heap.push (newObj0 X.w) := by rw [← hs3]
  have I3 : Inv X pins σ (upd H2 D (SetO Z D [])) s3 := by
    rw [← hs3]
    refine I2.laid (t' := s2.toks) (fun b o e => Heap.get?_push_of_some _ e) (Nat.le_of_eq hD) (setO_new (Z.fresh ?_))
    rw [← hD]
    exact Heap.get?_push_size _ rfl
  have lt : ∀ b ∈ fp, b < s2.heap.objs.size := fun b hb => by
    obtain ⟨o, e, _⟩ := T.obj _ _ st2 b hb
    exact Heap.lt_size e
  have f3 : ∀ b ∈ fp, FpOk X pins (upd H2 D (SetO Z D [])) b ∧ b < s3.heap.objs.size := fun b hb => by
    refine ⟨⟨?_, (f2 b hb).2⟩, by rw [h3, Heap.size_push]; exact Nat.lt_succ_of_lt (lt b hb)⟩
    rw [upd_ne (by rw [← hD]; exact Nat.ne_of_lt (lt b hb))]
    exact (f2 b hb).1
  have st3 : tn 0 s3.heap := T.keep _ _ _ st2 fun b _ o e => by rw [h3]; exact Heap.get?_push_of_some _ e
  generalize hH3 : upd H2 D (SetO Z D []) = H3 at I3 w0 f3
  have I4 := block_start I3 ok hN f3
  have pg := hg s3 H3 s3.heap.objs.size (cellsFrom (s3.heap.objs.size + 1) scope.names (cloFrom X.env.cells scope.names [])) fp
  have pt := ht s3 H3 s3.heap.objs.size (cellsFrom (s3.heap.objs.size + 1) scope.names (cloFrom X.env.cells scope.names [])) fp
  have pe := he s3 H3 s3.heap.objs.size (cellsFrom (s3.heap.objs.size + 1) scope.names (cloFrom X.env.cells scope.names [])) fp
  show codeAny _ _ (.compStart (.SetComp elt [⟨tg, iter, ifs, 0⟩] scope pos) 0 (.ref it) (.ref D) (compEnvC scope (cellsFrom (s3.heap.objs.size + 1) scope.names (cloFrom X.env.cells scope.names [])) s3.heap.objs.size X.env))
                                                                                                                                                                                                                                 (compPost (model X.prog X.w) X.A X.xe use Qf (.ref D) s3.heap.objs.size) { s3 with heap := pushCells (s3.heap.push { cls := .type "dict", data := .dict #[] }) scope.names }
  generalize hce : compEnvC scope (cellsFrom (s3.heap.objs.size + 1) scope.names
                                                                                 (cloFrom X.env.cells scope.names [])) s3.heap.objs.size X.env = ce at I4 pg pt pe ⊢
  have cL : ce.locals = s3.heap.objs.size := by subst hce; rfl
  obtain ⟨K', ev, eo⟩ := hK s3 H3 ce fp
  generalize hs4 : ({ s3 with heap := pushCells (s3.heap.push
                                                              { cls := .type "dict", data := .dict #[] }) scope.names } : Shared) = s4 at I4 ⊢
  have st4 : tn 0 s4.heap := T.keep _ _ _ st3 fun b _ o e => by rw [← hs4]; exact pushCells_keeps _ _ _ _
                                                                                                          (Heap.get?_push_of_some _ e)
  have stat : ∀ {σ' : L2.St} {H' : Hp} {s' : Shared}, Inv (X.blk s3 H3 scope ce fp) [] σ' H' s' →
                                                                                                  (∀ b ∈ fp, H' b = none) → ∀ b ∈ fp, FpOk (X.blk s3 H3 scope ce fp) [] H' b := fun {σ' H' s'} I' hn b hb =>
    ⟨hn b hb, (I'.ok.exf b hb).1, I'.ok.exfs b hb, .inl hb, fun x c e =>
                                                                         (I'.ok.exf b hb).2 x c e, fun p hp => absurd (show p ∈ ([] : List (Addr × Obj)) ++ [] from hp) (by simp)⟩
  have loop : codeAny (model X.prog X.w) X.A (.compLoop (.SetComp elt [⟨tg, iter, ifs, 0⟩] scope pos) 0
                                                                                                        (.ref it) (.ref D) ce) (compPost (model X.prog X.w) X.A X.xe use Qf (.ref D) s3.heap.objs.size) s4 := by
    refine PpSet.compLoopS_any (fun n s' => ∃ i H', Inv (X.blk s3 H3 scope ce fp) [] (wipe σ (own.map (·.2))) H' s' ∧ tn i s'.heap ∧ (∀ b ∈ fp, H' b = none) ∧ W i n H') ?_ m0 ⟨0, H3, I4, st4, fun b hb => (f3 b hb).1.1, w0⟩
    rintro n s5 ⟨i, H5, I5, st5, n5, w5⟩
    rcases turn i n H5 w5 with ⟨stop, qq⟩ | ⟨go, Nx, hNx, step⟩
    · have td := T.done (X.blk s3 H3 scope ce fp) rfl rfl rfl hc i [] s5 _ H5
                                                                              (fun _ _ => False) I5 (stat I5 n5) st5 stop
      refine thnF td fun r s6 ⟨hr, I6⟩ => ?_
      subst hr
      have I7 : Inv X pins σ H5 s6 := I3.call' (ch := fp) I6.os I6.base I6.hok I6.bare fun b hb =>
                                                                                                   ⟨(f3 b hb).1.2.2.2.1, (f3 b hb).1.2.1, (f3 b hb).1.2.2.2.2.1, (f3 b hb).1.2.2.2.2.2⟩
      have z : H5 ce.locals = none := I6.free
      obtain ⟨m, hn, _⟩ := I6.loc
      have hn : s6.heap.Ns ce.locals m := hn
      rw [cL] at hn z
      exact hRR D s3.heap.objs.size s6 m H5 I7 qq hn (I3.fpOk (Nat.le_refl _) z)
    · have ti := T.item (X.blk s3 H3 scope ce fp) rfl rfl rfl hc i [] s5 _ H5
                                                                              (fun _ _ => False) I5 (stat I5 n5) st5 go
      refine thnF ti fun r s6 ⟨u, hr, h6⟩ => ?_
      subst hr
      refine thnF h6 fun _ s7 ⟨x, H7, I7, r7, y7, st7, n7⟩ => ?_
      have P7 := I7.pinned (stat I7 n7) (T.obj _ _ st7)
      refine thnF (pg.run _ s7 _ H7 x u _ P7 r7 (step x H7 y7)) fun _ s8 ⟨σ8, H8, I8, hw8, q8⟩ => ?_
      refine thnF (pt.run _ s8 σ8 H8 _ I8 q8) fun b s9
                                                       ⟨H9, I9, q9⟩ => ?_
      have fin : ∀ {s' : Shared} {H' : Hp}, Inv (X.blk s3 H3 scope ce fp) ([] ++ pinsAt fp s7.heap) σ8 H' s' → Nx H' → ∃ m, m < n ∧ ∃ i H', Inv
                                                                                                                                                (X.blk s3 H3 scope ce fp) [] (wipe σ (own.map (·.2))) H' s' ∧ tn i s'.heap ∧ (∀ b ∈ fp, H' b = none) ∧ W i m H' := fun {s' H'} I' nx => by
        obtain ⟨m', hm, w'⟩ := hNx H' nx
        have pin : ∀ b ∈ fp, ∀ o, s7.heap.get? b = some o → s'.heap.get? b = some o ∧ H' b = none := fun b hb o e =>
          let z := I'.pin (b, o) (List.mem_append_right _
                                                          (List.mem_append_right _ (mem_pinsAt hb e)))
          ⟨z.1, z.2.1⟩
        refine ⟨m', hm, i + 1, H', (I'.unpinned (pins := [])).weak (by rw [← hw8, wipe_length]) (fun j v e => ?_), T.keep _ _ _ st7 fun b hb o e => (pin b hb o e).1, fun b hb => ?_, w'⟩
        · rw [← hw8] at e
          exact (wipe_some e).1
        · obtain ⟨o, e, _⟩ := T.obj _ _ st7 b hb
          exact (pin b hb o e).2
      cases b with
      | false =>
        simp only [Bool.false_eq_true, if_false] at q9 ⊢
        exact fin I9 q9
      | true =>
        simp only [if_true] at q9 ⊢
        refine thnF (pe.run _ s9 σ8 H9 _ I9 q9) fun z s10 ⟨yv, H10, I10, r10, m, L, ey, hD10, om, oL, room, nx⟩ => ?_
        subst ey
        exact addK_ok (X := X.blk s3 H3 scope ce fp) K' I10 hD10 (by rw [eo]; exact oL) (by rw [eo]; exact om) (by rw [ev]; exact r10) room hu fun s11 L' gr I11 => fin I11 (nx L' gr)
  exact PpSet.codeAny_compStart_set loop (T.self X.A 0 _ _ _ st4 loop)
/-- as a value -/
theorem pe_setc {elt tg iter : Expr} {ifs : List Expr} {scope : Scope} {own : List (PySem.Str × Nat)} {pos : Pos} {wi : TI} {g : TG} {tt : TT} {te : TE} (hc : X.calm = true) (hu : X.A.in1.units < cLine) (hN : X.N.Nodup) (hi : PI X tg iter wi) (ok : BlkOk X.N X.env.scope scope own)
    (hg : ∀ (s : Shared) (H : Hp) (C : Addr) (cl : List (PySem.Str × Addr)) (fp : List Addr), PG (X.blk s H scope (compEnvC scope cl C X.env) fp) tg g)
                                                                                                                                                        (ht : ∀ (s : Shared) (H : Hp) (C : Addr) (cl : List (PySem.Str × Addr)) (fp : List Addr), PTs (X.blk s H scope (compEnvC scope cl C X.env) fp) ifs tt)
    (he : ∀ (s : Shared) (H : Hp) (C : Addr) (cl : List (PySem.Str × Addr)) (fp : List Addr), PE (X.blk s H scope (compEnvC scope cl C X.env) fp) elt te)
    (hK : ∀ (s : Shared) (H : Hp) (env : Env) (fp : List Addr), ∃ K' : Lnk (X.blk s H scope env fp) Z, K'.vOf = K.vOf ∧ K'.ok = K.ok) (hs : ∀ x, foldedSetIterable iter X.env x = pure x := by intro _; rfl) :
    PE X (.SetComp elt [⟨tg, iter, ifs, 0⟩] scope pos) (tSetC K wi g tt te (own.map (·.2))) := by
  refine ⟨fun pins s σ H Q I h => ?_⟩
  rw [PpSet.eval_SetComp]
  refine setc K hc hu hN I hi ok hg ht he hs hK h fun D C s' m H' I' q hn f => ⟨m, hn, fun h'' sb => ?_⟩
  obtain ⟨f0, f1, f2, f3, f4, f5⟩ := f
  exact ⟨.ref D, H', I'.turned (t' := s'.toks)
                                               (fun b o hb e => (sb.2 b hb).trans e) f0 f1 f3 f4 f5, rfl, q⟩
end
end KS
/-! sets of texts; sets of pairs of a text and an int -/
namespace KS
open PySem PySem.Spec PyProof.Rows L2

section
variable {P : Program} {w : World} {μ κ ν κ' : Type}
theorem pull_mem {Z : Kit P w μ κ} {f : ν → μ} {key' : ν → κ'} (hk : ∀ a b, key' a = key' b ↔ Z.key (f a) = Z.key (f b)) {m : ν} {L : List ν} : key' m ∈ L.map key' ↔ Z.key (f m) ∈ (L.map f).map Z.key := by
  rw [List.mem_map, List.map_map, List.mem_map]
  exact ⟨fun ⟨x, hx, e⟩ => ⟨x, hx, (hk x m).1 e⟩, fun ⟨x, hx, e⟩ => ⟨x, hx, (hk x m).2 e⟩⟩
/-- a kind of members, told otherwise -/
def Kit.pull (Z : Kit P w μ κ) (f : ν → μ) (key' : ν → κ') (hk : ∀ a b, key' a = key' b ↔ Z.key (f a) = Z.key (f b)) : Kit P w ν κ' where
  key := key'
  mv := fun h n v => Z.mv h (f n) v
  sp := fun h a L => Z.sp h a (L.map f)
  mvK := Z.mvK
  spAt := Z.spAt
  spEx := Z.spEx
  spNd := fun {h a L} R => by
    have q := Z.spNd R
    rw [List.map_map] at q
    refine List.pairwise_map.mpr (List.Pairwise.imp (fun {x y} ne e => ne ?_) (List.pairwise_map.mp q))
    exact (hk x y).1 e
  spFew := fun R => by
    have q := Z.spFew R
    rw [List.length_map] at q
    exact q
  fresh := fun ho => Z.fresh ho
  add := fun {A E s a L m v Q} R hm hv room hu hQ => by
    refine Z.add R (fun x hx => ?_) hv (by rw [List.length_map]; exact room) hu fun b h' tk L' sb ht r c1 c2 => ?_
    · obtain ⟨y, hy, e⟩ := List.mem_map.mp hx
      rw [← e]
      exact hm y hy
    · by_cases c : Z.key (f m) ∈ (L.map f).map Z.key
      · have e := c1 c
        subst e
        exact hQ b h' tk L sb ht r (fun _ => rfl) fun z => absurd ((pull_mem hk).2 c) z
      · obtain ⟨L2, p2, e2⟩ := perm_pre (f := f) (c2 c) (m :: L) rfl
        subst e2
        exact hQ b h' tk L2 sb ht r (fun z => absurd ((pull_mem hk).1 z) c) fun _ => p2
  col := fun {A E s a L Q} R hm hh hQ => by
    refine Z.col R (fun x hx => ?_) hh fun s' out L' k z g o pm ei => ?_
    · obtain ⟨y, hy, e⟩ := List.mem_map.mp hx
      rw [← e]
      exact hm y hy
    · obtain ⟨L2, p2, e2⟩ := perm_pre (f := f) pm L rfl
      subst e2
      exact hQ s' out L2 k z g o p2 (each_un ei)
where each_un {R : Value → μ → Prop} : ∀ {vs : List Value} {ms : List ν}, PySem.W.EachIs R vs (ms.map f) → PySem.W.EachIs (fun v m => R v (f m)) vs ms
  | _, [], e => by cases e; exact .nil
  | _, m :: ms, e => by
    cases e with
    | cons r t => exact .cons r (each_un t)
end
/-- texts -/
def strKit (P : Program) (w : World) : Kit P w Str Str := (keyKit P w).pull Sum.inr id fun a b => by
  show a = b ↔ (Sum.inr a : Key) = Sum.inr b
  exact ⟨fun e => by rw [e], fun e => Sum.inr.inj e⟩
/-- pairs -/
def pairKit (P : Program) (w : World) : Kit P w (Addr × Str × Int) (Str × Int) := (tupKit P w).pull (fun m => (m.1, [.inr m.2.1, .inl m.2.2])) (fun m => m.2) fun a b => by
  obtain ⟨a1, a2, a3⟩ := a
  obtain ⟨b1, b2, b3⟩ := b
  show (a2, a3) = (b2, b3) ↔ ([.inr a2, .inl a3] : List Key) = [.inr b2, .inl b3]
  constructor
  · intro e
    injection e with e1 e2
    rw [e1, e2]
  · intro e
    injection e with e1 e2
    injection e2 with e2 _
    rw [Sum.inr.inj e1, Sum.inl.inj e2]
def linkStr (X : Cx) : Lnk X (strKit X.prog X.w) where
  vOf := V.str
  ok := fun _ _ => True
  get := fun _ _ r => (linkKey X).get (m := .inr _) (by assumption) True.intro r
  some_ := fun m => ⟨.str m 0, 0, rfl⟩
  back := fun {h m u} q => (linkKey X).back (h := h) (m := .inr m) q
def linkPair (X : Cx) : Lnk X (pairKit X.prog X.w) where
  vOf := fun m => .ref m.1
  ok := fun H m => SqT X.K H m.1 [.str m.2.1, .int m.2.2]
  get := fun I h r => (linkTup X).get (m := (_, [.inr _, .inl _])) I h r
  some_ := fun m => ⟨.ref m.1, rfl⟩
  back := fun q => q.1

/-! ### sorted -/
theorem rd_str {P : Program} {w : World} {h : Heap} {m : Str} {v : Value} (q : (strKit P w).mv h m v) : Reads h v (.str m) [] := by
  have q : keyIs (.inr m) v = true := q
  rcases keyIs_shape q with ⟨i, t, e, _⟩ | ⟨x, t, e, rfl⟩
  · cases e
  · cases e
    exact .str _ _
def encP (m : Addr × Str × Int) : PyData := .tuple [.str m.2.1, .int m.2.2]
theorem rd_pair {P : Program} {w : World} {h : Heap} {m : Addr × Str × Int} {v : Value} (q : (pairKit P w).mv h m v) : Reads h v (encP m) [] := by
  obtain ⟨a, x, i⟩ := m
  obtain ⟨rfl, o, its, n, ho, hc, hd, hi⟩ := q
  refine .tuple ho hc hd ?_
  cases hi' : its.toList with
  | nil => rw [hi'] at hi; cases hi
  | cons u us =>
    rw [hi'] at hi
    cases hi with
    | cons h1 h2 =>
      cases h2 with
      | cons h3 h4 =>
        cases h4
        rcases keyIs_shape (show keyIs (.inr x) u = true from h1) with ⟨j, t, e, _⟩ | ⟨y, t, e, rfl⟩
        · cases e
        · cases e
          rcases keyIs_shape (show keyIs (.inl i) _ = true from h3) with ⟨j, t2, e, rfl⟩ | ⟨y, t2, e, _⟩
          · cases e
            exact .cons (as := []) (bs := []) (.str _ _) (.cons (as := []) (bs := []) (.int _ _) .nil)
          · cases e
/-- ys are the members of xs, each once, ascending -/
def Srt (xs ys : List Str) : Prop := ys.Pairwise (fun a b => a.cps.toList < b.cps.toList) ∧ ∀ z, z ∈ ys ↔ z ∈ xs
theorem cps_ext {a b : Str} (h : a.cps.toList = b.cps.toList) : a = b := by
  obtain ⟨a⟩ := a
  obtain ⟨b⟩ := b
  exact congrArg Str.mk (Array.toList_inj.mp h)
theorem srt_unique {xs : List Str} : ∀ {ys zs : List Str}, ys.Pairwise (fun a b => a.cps.toList < b.cps.toList) → zs.Pairwise (fun a b => a.cps.toList < b.cps.toList) → (∀ z, z ∈ ys ↔ z ∈ zs) → ys = zs
  | [], [], _, _, _ => rfl
  | [], z :: zs, _, _, h => absurd ((h z).2 List.mem_cons_self) (by simp)
  | y :: ys, [], _, _, h => absurd ((h y).1 List.mem_cons_self) (by simp)
  | y :: ys, z :: zs, h1, h2, h => by
    obtain ⟨a1, a2⟩ := List.pairwise_cons.mp h1
    obtain ⟨b1, b2⟩ := List.pairwise_cons.mp h2
    have e : y = z := by
      rcases List.mem_cons.mp ((h y).1 List.mem_cons_self) with e | m1
      · exact e
      · rcases List.mem_cons.mp ((h z).2 List.mem_cons_self) with e | m2
        · exact e.symm
        · exact absurd (List.lt_trans (a1 z m2) (b1 y m1)) (List.lt_irrefl _)
    subst e
    refine congrArg _ (srt_unique (xs := xs) a2 b2 fun w => ⟨fun m => ?_, fun m => ?_⟩)
    · rcases List.mem_cons.mp ((h w).1 (List.mem_cons_of_mem _ m)) with e | m'
      · exact absurd (a1 w m) (by rw [e]; exact List.lt_irrefl _)
      · exact m'
    · rcases List.mem_cons.mp ((h w).2 (List.mem_cons_of_mem _ m)) with e | m'
      · exact absurd (b1 w m) (by rw [e]; exact List.lt_irrefl _)
      · exact m'
theorem Srt.eq {xs ys zs : List Str} (a : Srt xs ys) (b : Srt xs zs) : ys = zs := srt_unique (xs := xs) a.1 b.1 fun z => (a.2 z).trans (b.2 z).symm
theorem srt_of {xs L L1 : List Str} (nd : L.Nodup) (mem : ∀ z, z ∈ L ↔ z ∈ xs) (pm : L1.Perm L) : Srt xs (L1.mergeSort (PySem.W.dataLe false PyData.str)) := by
  have e : PySem.W.dataLe false PyData.str = fun a b : Str => decide (a.cps.toList ≤ b.cps.toList) := PySem.W.dataLe_str (fun b : Str => b)
  rw [e]
  have pp := List.mergeSort_perm L1 (fun a b : Str => decide (a.cps.toList ≤ b.cps.toList))
  have tr : ∀ a b c : Str, decide (a.cps.toList ≤ b.cps.toList) = true → decide (b.cps.toList ≤ c.cps.toList) = true → decide (a.cps.toList ≤ c.cps.toList) = true :=
    fun a b c h1 h2 => decide_eq_true (List.le_trans (of_decide_eq_true h1) (of_decide_eq_true h2))
  have tt : ∀ a b : Str, (decide (a.cps.toList ≤ b.cps.toList) || decide (b.cps.toList ≤ a.cps.toList)) = true := fun a b => by
    rcases List.le_total a.cps.toList b.cps.toList with h | h
    · rw [decide_eq_true h, Bool.true_or]
    · rw [decide_eq_true h, Bool.or_true]
  have st := List.pairwise_mergeSort (le := fun a b : Str => decide (a.cps.toList ≤ b.cps.toList)) tr tt L1
  have nd1 : (L1.mergeSort (fun a b : Str => decide (a.cps.toList ≤ b.cps.toList))).Nodup := (pp.trans pm).nodup_iff.mpr nd
  refine ⟨?_, fun z => by rw [(pp.trans pm).mem_iff]; exact mem z⟩
  have both := st.and nd1
  refine List.Pairwise.imp (fun {a b} h => ?_) both
  have h1 : a.cps.toList ≤ b.cps.toList := of_decide_eq_true h.1
  rcases Classical.em (a.cps.toList < b.cps.toList) with c | c
  · exact c
  · exact absurd (cps_ext (List.le_antisymm h1 c)) h.2
end KS
set_option maxHeartbeats 3200000
/-! set(xs) of a tuple over a Kit -/
namespace KS
open PySem PySem.Spec PyProof.Rows L2
section
variable {P : Program} {w : World} {A : Around} {E : Value → Shared → Prop} {s : Shared} {μ κ : Type} (Z : Kit P w μ κ)
/-- set(xs), xs a tuple -/
theorem call_setT {l : Addr} {items : Array Value} (ms : List μ) {Q : Value → Shared → Prop} (hh : A.handled = none) (hl : s.heap.IsTuple l items) (hi : PySem.W.EachIs (fun v m => Z.mv s.heap m v) items.toList ms)
    (few : ms.length < 64) (hu : A.units + 3 < cLine)
    (h : ∀ (h' : Heap) (tk : Nat) L, Z.sp h' s.heap.objs.size L → From Z ms ms.length L → (∀ b o, s.heap.get? b = some o → h'.get? b = some o) → Q (.ref s.heap.objs.size) { s with heap := h', toks := tk }) :
    wpAny (model P w) A (call
                              (.type "set") [.ref l]) Q E s := by
  have sz : items.size = ms.length := by
    have q := hi.length
    rw [Array.length_toList] at q
    exact q
  obtain ⟨c, tl, hmro⟩ := F.called_set.mro
  have hmade := F.called_set.made
  have hsub := F.called_set.sub
  refine wpAny_call (codeAny_of_tree ?_)
  show wpAny _ _ (callAny (.type "set") _) _ _ _
  refine wpAny_pure ⟨Code.quiet_builtin _
                                          (by decide +kernel), codeAny_builtin F.entry_type_call ?_⟩
  rw [Around.under_plain
                         (weight_type_call_type "set" [.ref l] []) rfl]
  have h1 := F.called_set.notType
  have h2 := F.called_set.canCreate
  have hct := F.typeCall_set_1 (.ref l)
  repeat (any_goals (first | assumption | wp_step))
  refine codeAny_mono (code_set_led1 (.ref l) (E := E) (Q₁ := fun obj s₁ => obj = .ref s.heap.objs.size ∧ s₁ = { s with heap := s.heap.push (newObj0 w) }) ⟨rfl, rfl⟩) fun r s₁ hr => ?_
  cases r with
  | error e => exact hr
  | ok fl =>
    cases fl with
    | ret obj =>
      obtain ⟨rfl, rfl⟩ := hr
      have hS : (s.heap.push (newObj0 w)).get? s.heap.objs.size = some (newObj0 w) := Heap.get?_push_size _ rfl
      have hT : Shared.TypeIs { s with heap := s.heap.push (newObj0 w) } (.ref s.heap.objs.size) "set" := ⟨_, hS, rfl⟩
      have hli := F.called_set.init.lookup
      have hbi := F.called_set.init.bind (.ref s.heap.objs.size)
      repeat (any_goals (first | assumption | wp_step))
      refine codeAny_mono (codeAny_call_builtin (R := wants (fun r s₂ => r = .none ∧ ∃ h' tk L, s₂ = { s with heap := h', toks := tk } ∧ Z.sp h' s.heap.objs.size L ∧ From Z ms ms.length L ∧
          (∀ b o, s.heap.get? b = some o → h'.get? b = some o)) E) F.called_set.init.plain F.entry_set_init
                                                                                                            (check_set_init_1 hT ?_)) fun r₂ s₂ hr₂ => ?_
      · obtain ⟨ol, hol, hcl, nl, hdl⟩ := hl
        obtain ⟨ocls, odict, odata, oslots⟩ := ol
        simp only at hcl hdl
        subst hcl; subst hdl
        have hol' : (s.heap.push (newObj0 w)).get? l = some { cls := .type "tuple", dict := odict, data := .seq items nl, slots := oslots } := Heap.get?_push_of_some _ hol
        have hsls := F.sub_tuple_set
        have hslf := F.sub_tuple_frozenset
        have hne :
                   (Value.type "tuple" == Value.type "dict") = false := by decide
        have hl1 : (s.heap.push (newObj0 w)).IsTuple l items := ⟨_, hol', rfl, nl, rfl⟩
        unfold Builtin.«set.__init__» noKeywords Builtin.Frozenset.updateFrom
        generalize hPI : pyIter = PI
        wp_walk
        subst hPI
        refine wpAny_pyIter_tuple hl1 ?_
        refine wpAny_bind (wpAny_runValue ?_)
        have lS : l < s.heap.objs.size := Heap.lt_size hol
        have hh3 : A.in1.in1.in1.handled = none := by simp [hh]
        have z1 : (s.heap.push (newObj0 w)).objs.size = s.heap.objs.size + 1 := Heap.size_push ..
        have neI : l ≠ (s.heap.push (newObj0 w)).objs.size := by
          rw [z1]
          exact Nat.ne_of_lt (Nat.lt_succ_of_lt lS)
        have nS : s.heap.objs.size ∉ [(s.heap.push (newObj0 w)).objs.size, l] := by
          rw [z1]
          simp only [List.mem_cons, List.mem_singleton, List.not_mem_nil, or_false, not_or]
          exact ⟨Nat.ne_of_lt (Nat.lt_succ_self _), Nat.ne_of_gt lS⟩
        have vals : ∀ (i : Nat) (v : Value), items[i]? = some v → ∃ m, ms[i]? = some m ∧ Z.mv s.heap m v := fun i v hv => each_get hi (by rw [Array.getElem?_toList]; exact hv)
        have out : ∀ b, s.heap.objs.size ≤ b → s.heap.get? b = none := fun b hb => by
          cases q : s.heap.get? b with
          | none => rfl
          | some o => exact absurd (Nat.lt_of_lt_of_le
                                                       (Heap.lt_size q) hb) (Nat.lt_irrefl _)
        refine fill_loop Z ((Walks.tuple hh3 _ l neI items).toS) s.heap.objs.size nS ms sz few s.heap vals (fun m hm => each_has hi hm) (out _ (Nat.le_refl _))
          (fun b hb => out b (by rw [List.mem_singleton.mp hb, z1]; exact Nat.le_succ _)) hu (items.size - 0) 0 _ (by omega) (Nat.zero_le _)
          ⟨⟨_, Heap.get?_push_size _ rfl, rfl, rfl⟩, (hl1.push _)⟩ (fun b o e => Heap.get?_push_of_some _ (Heap.get?_push_of_some _ e)) ⟨[], Z.fresh (Heap.get?_push_of_some _ hS), From.start Z ms⟩ ?_
        intro s3 L mv sp g kp
        obtain ⟨h3, g3, d3, tk3, os3⟩ := s3
        have eg : g3 = s.gens := mv.gens
        have ed : d3 = s.drawn := mv.drawn
        have eo : os3 = s.os := mv.os
        subst eg; subst ed; subst eo
        rw [sz] at g
        exact wpAny_pure (wpAny_pure ⟨rfl, h3, tk3, L, rfl, sp, g, kp⟩)
      · cases r₂ with
        | error e => exact hr₂
        | ok fl₂ =>
          cases fl₂ with
          | ret r =>
            obtain ⟨rfl, h', tk, L, rfl, sp, g, kp⟩ := hr₂
            repeat (any_goals (first | assumption | wp_step))
            exact h _ _ _ sp g kp
          | _ => exact hr₂.elim
    | _ => exact hr.elim
end
section
variable {X : Cx} {μ κ : Type} {Z : Kit X.prog X.w μ κ} (K : Lnk X Z)
/-- set(xs), xs a tuple of members -/
def rSetOfU : List V → Hp → VK → Prop := fun xs H Q => ∃ (l : Addr) (ms : List μ), xs = [V.ref l] ∧ SqT X.K H l (ms.map K.vOf) ∧ (∀ m ∈ ms, K.ok H m) ∧ ms.length < 64 ∧
  ∀ a L, H a = none → From Z ms ms.length L → (L.map Z.key).Nodup → Q (.ref a) (upd H a (SetO Z a L))
theorem cr_setOfU (hc : X.calm = true) (hu : X.A.units + 3 < cLine) : CallR X (.type "set") (rSetOfU K) := by
  intro pins s σ H xs us Q I r h
  obtain ⟨l, ms, rfl, hl, hk, hf, q⟩ := h
  rw [Vals.ref1 r]
  obtain ⟨its, rv, ⟨⟨cls, dd, data, sl⟩, ho, hc', m, hd⟩, _⟩ := I.tuple hl
  simp only at hc' hd
  subst hc' hd
  have ht : s.heap.IsTuple l its.toArray := ⟨_, ho, rfl, m, rfl⟩
  refine call_setT Z ms (I.ok.hd hc) ht (by simpa using vals_each K I hk rv) hf hu fun h' tk L R g k => ?_
  exact ⟨.ref s.heap.objs.size, upd H s.heap.objs.size (SetO Z s.heap.objs.size L), I.laid (t' := tk) k (Nat.le_refl _) (setO_new R), rfl, q _ L (I.hok.fresh (Nat.le_refl _)) g (Z.spNd R)⟩
end
end KS
/-! o.m(..) of a method with a parameter for more -/
namespace MR
open PySem PySem.Spec PyProof.Rows L2
section
variable {X : Cx} {CX : CXT} {k : Nat} {C f : Addr} {m : Str} {sp : Sp} {E : XK} {o e : Expr} {es : List Expr} {ta : TE} {t : TA} {apos pos : Pos}
def tMethR (C : Addr) (m : Str) (sp : Sp) (E : XK) (ta : TE) (t : TA) : TE := fun σ H Q => ta σ H fun x H1 => ∃ a dx fs, x = .ref a ∧ H1 a = some
                                                                                                                                                  (.ins C dx fs) ∧ fs.lookup m = none ∧ t σ H1 fun vs H2 => sp (x :: vs) H2 Q E
theorem pe_methR {pl : Sem Bool} (he : PE X o ta) (c : Cls X.K C) (hm : Meth X.K C m f) (F : FnR X.prog X.w X.K X.mg X.base CX k f sp) (hr : Room k X.A) (hx : Passes CX X E)
    (ha : PA X (e :: es) t) (hst : starEach (e :: es) X.env = (false, eval e X.env) :: starEach es X.env := by rfl) (hpl : (backTo pos (starEach es X.env)).any (·.1) = false := by rfl)
    (ht : eval (.Call (.Attribute o m apos)
                                            (e :: es) [] pos) X.env = (do
      let ov ← eval o X.env
      standAt apos.atName
      let (g, front) ← holding [ov] (getMethod ov m pl)
      callWith pos g front (backTo pos (starEach (e :: es) X.env)) (backToKw pos (keywordEach [] X.env))) := by rfl) :
    PE X (.Call (.Attribute o m apos)
                                      (e :: es) [] pos) (tMethR C m sp E ta t) := by
  refine ⟨fun pins s σ H Q I h => ?_⟩
  refine PySem.W.methodCall_KW (pl := pl) (thn (he.run pins s σ H _ I h) fun u s1
                                                                                  ⟨x, H1, I1, rx, a, dx, fs, ex, ea, l, q⟩ => ?_) ht
  subst ex
  obtain rfl : u = Value.ref a := rx
  refine getmeth_ok I1 ea c hm l ?_
  exact PySem.W.callWith_K (first := [.ref a]) (h₀ := X.base) I.ok.mod.kin hm.kp (thn (ha.run pos pins s1 σ H1 _ I1 q) fun us s2 ⟨vs, H2, I2, r, q2⟩ =>
    ⟨I2.kIn, wpAny_call (codeAny_mono (run_fnR (us := .ref a :: us) (vs := .ref a :: vs) F hr hx I2 (.cons rfl r) q2) fun r' s' z => by
      cases r' with
      | error e => exact z
      | ok fl => cases fl <;> exact z)⟩) hst hpl
theorem pe_methR0 {pl : Sem Bool} (he : PE X o ta) (c : Cls X.K C) (hm : Meth X.K C m f) (F : FnR X.prog X.w X.K X.mg X.base CX k f sp) (hr : Room k X.A) (hx : Passes CX X E)
    (ht : eval (.Call
                      (.Attribute o m apos) [] [] pos) X.env = (do
      let ov ← eval o X.env
      standAt apos.atName
      let (g, front) ← holding [ov] (getMethod ov m pl)
      callWith pos g front (backTo pos (starEach [] X.env)) (backToKw pos (keywordEach [] X.env))) := by rfl) :
    PE X (.Call (.Attribute o m apos) [] [] pos) (tMethR C m sp E ta tNil) := by
  refine ⟨fun pins s σ H Q I h => ?_⟩
  refine PySem.W.methodCall_KW (pl := pl) (thn (he.run pins s σ H _ I h) fun u s1
                                                                                  ⟨x, H1, I1, rx, a, dx, fs, ex, ea, l, q⟩ => ?_) ht
  subst ex
  obtain rfl : u = Value.ref a := rx
  refine getmeth_ok I1 ea c hm l ?_
  exact PySem.W.callWith_K0 (first := [.ref a]) I1.kIn hm.kp (wpAny_call (codeAny_mono (run_fnR (us := [.ref a]) (vs := [.ref a]) F hr hx I1 (.cons rfl .nil) q) fun r' s' z => by
      cases r' with
      | error e => exact z
      | ok fl => cases fl <;> exact z))
end
end MR
/-! for loops in generators -/
namespace PySem
open PyProof.Rows
section
variable {prog : Program} {w : World} {A : Around} {R : GenEnd} {Y : Protocol} {n : Nat} {s₀ : Shared} {c : Code} {fs : List Frame} {s : Shared} {env : Env} {K : Flow → Sem Fin} {H : Value → Sem Fin} {gd : Bool → Bool} {lv : List Value → List Value}
theorem seg_ForG {target iter : Expr} {body orelse : List Stmt} {pos : Pos}
    (h : wpAny (model prog w) (A.over c fs) (eval iter env) (fun x s₁ => wpAny (model prog w) (A.over c fs) (pyIter x) (fun it s₂ => ∀ p, Seg (model prog w) A R Y n s₀ (.forLoop target it body orelse env) ((model prog w).den (.forLoop target it body orelse env))
      (.ret (fun r => ((match r with | .ok f =>
                                                (.pure f : Sem Flow) | .error e => .raise e).onRaise fun (x : Value) => do
        if (← field x 1) == Value.none then unsupported "frame.own-activation:exception-without-traceback"
        setFlight x env.frame).wrap K H gd lv) none (gd false) (lv []) c p [] :: fs) s₂) (fun x s' => Seg (model prog w) A R Y n s₀ c (H x) fs s') s₁) (fun x s' => Seg (model prog w) A R Y n s₀ c (H x) fs s') s)
    (hs : ∀ x, foldedSetIterable iter env x = pure x) :
    Seg (model prog w) A R Y n s₀ c ((exec (.For target iter body orelse pos) env).wrap K H gd lv) fs s := by
  rw [exec_For]
  refine seg_at ?_
  show Seg _ _ _ _ _ _ _ ((eval iter env >>= fun v => (foldedSetIterable iter env v >>= fun x => (standAt iter.pos >>= fun _ => (holding [x] (pyIter x) >>= fun it => runOwn (.forLoop target it body orelse env) env)))).wrap K H gd lv) fs s
  rw [Sem.bind_eq_wrap', Sem.wrap_wrap]
  refine seg_wrap (wpAny_mono h (fun x s1 h1 => ?_) fun _ _ q => q)
  rw [hs x]
  show Seg _ _ _ _ _ _ _ ((standAt iter.pos >>= fun _ => (holding [x] (pyIter x) >>= fun it => runOwn (.forLoop target it body orelse env) env)).wrap K H gd lv) fs s1
  refine seg_at ?_
  show Seg _ _ _ _ _ _ _ ((holding [x] (pyIter x) >>= fun it => runOwn (.forLoop target it body orelse env) env).wrap K H gd lv) fs s1
  rw [Sem.bind_eq_wrap', Sem.wrap_wrap]
  refine seg_wrap (wpAny_holding (wpAny_mono h1 (fun it s2 h2 => ?_) fun _ _ q => q))
  exact seg_call h2
def turnB (target : Expr) (it : Value) (body orelse : List Stmt) (env : Env) (r : Option Value) : Sem Fin := do
  match r with
  | none => again (.block orelse env)
  | some v =>
    letOwnedTupleGo target it v
    assign target env v
    match ← execs body env with
    | .next | .cont => again
                             (.forLoop target it body orelse env)
    | .brk => pure (.done .next)
    | .ret v => pure (.done (.ret v))
theorem forTurn_eq (target : Expr) (it : Value) (body orelse : List Stmt) (env : Env) : forTurn target it body orelse env = (standAt target.pos >>= fun _ => ((pyNext it).onRaise (fun _ => standAt { target.pos with line := 0 }) >>= fun r => turnB target it body orelse env r)) := rfl
theorem seg_forLoopG {target : Expr} {it : Value} {body orelse : List Stmt}
    (h : wpAny (model prog w) (A.over (.forLoop target it body orelse env) fs) (pyNext it) (fun r s1 => match r with
        | none => Seg (model prog w) A R Y n s₀ (.block orelse env) ((model prog w).den (.block orelse env)) fs s1
        | some v => wpAny (model prog w) (A.over (.forLoop target it body orelse env) fs) (letOwnedTupleGo target it v) (fun _ s1' => wpAny (model prog w) (A.over (.forLoop target it body orelse env) fs) (assign target env v) (fun _ s2 =>
          Seg (model prog w) A R Y n s₀ (.forLoop target it body orelse env) ((execs body env).wrap (fun f => match f with
            | .next | .cont => .pure (.again (.forLoop target it body orelse env))
            | .brk => .pure (.done .next)
            | .ret v => .pure (.done (.ret v))) (fun e => (do noteFrame e env; theTreesLotGoes e : Sem Unit).wrap (fun _ => .raise e) .raise id id) id id) fs s2)
          (fun x s' => Seg (model prog w) A R Y n s₀ (.forLoop target it body orelse env) ((do noteFrame x env; theTreesLotGoes x : Sem Unit).wrap (fun _ => .raise x) .raise id id) fs s') s1')
          (fun x s' => Seg (model prog w) A R Y n s₀ (.forLoop target it body orelse env) ((do noteFrame x env; theTreesLotGoes x : Sem Unit).wrap (fun _ => .raise x) .raise id id) fs s') s1)
      (fun x s' => Seg (model prog w) A R Y n s₀ (.forLoop target it body orelse env) ((do noteFrame x env; theTreesLotGoes x : Sem Unit).wrap (fun _ => .raise x) .raise id id) fs s') s) :
    Seg (model prog w) A R Y n s₀ (.forLoop target it body orelse env) ((model prog w).den (.forLoop target it body orelse env)) fs s := by
  show Seg _ A R Y n s₀ _ ((forTurn target it body orelse env).onRaise (fun x => do noteFrame x env; theTreesLotGoes x)) fs s
  have bad : ∀ (x : Value) (s' : Shared), Seg (model prog w) A R Y n s₀ (.forLoop target it body orelse env) ((do noteFrame x env; theTreesLotGoes x : Sem Unit).wrap (fun _ => .raise x) .raise id id) fs s' →
      Seg (model prog w) A R Y n s₀ (.forLoop target it body orelse env) ((do noteFrame x env; theTreesLotGoes x : Sem Unit).bind fun _ => .raise x) fs s' := fun x s' hx => by
    rw [Sem.bind_eq_wrap]
    exact hx
  rw [forTurn_eq, Sem.onRaise_eq_wrap]
  refine seg_at ?_
  show Seg _ A R Y n s₀ _ (((pyNext it).onRaise (fun _ => standAt { target.pos with line := 0 }) >>= fun r => turnB target it body orelse env r).wrap Sem.pure (fun e => (do noteFrame e env; theTreesLotGoes e : Sem Unit).bind fun _ => .raise e) id id) fs s
  rw [Sem.bind_eq_wrap', Sem.wrap_wrap]
  refine seg_wrap (wpAny_onRaise (wpAny_mono h (fun r s1 h1 => ?_) fun x s' hx => wpAny_standAt (bad x s' hx)))
  cases r with
  | none => exact seg_again rfl h1
  | some v =>
    dsimp only [turnB]
    rw [Sem.bind_eq_wrap', Sem.wrap_wrap]
    refine seg_wrap (wpAny_mono h1 (fun _ s1' h1' => ?_) fun x s' hx => bad x s' hx)
    rw [Sem.bind_eq_wrap', Sem.wrap_wrap]
    refine seg_wrap (wpAny_mono h1' (fun _ s2 h2 => ?_) fun x s' hx => bad x s' hx)
    rw [Sem.bind_eq_wrap', Sem.wrap_wrap]
    rw [Sem.wrap_congr (execs body env) _ _
                                            (K' := fun f => match f with
            | .next | .cont => .pure (.again (.forLoop target it body orelse env))
            | .brk => .pure (.done .next)
            | .ret v => .pure (.done (.ret v))) (H' := (fun e =>
                                                                 (do noteFrame e env; theTreesLotGoes e : Sem Unit).wrap (fun _ => .raise e) .raise id id))
        (fun f => by cases f <;> rfl)
        (fun e => by first | exact Sem.bind_eq_wrap _ _ | (show
                                                                (do noteFrame e env; theTreesLotGoes e : Sem Unit).bind (fun _ => .raise e) = _; rw [Sem.bind_eq_wrap]))]
    exact h2
end
end PySem
namespace L2
open PySem PySem.Spec PyProof.Rows GenW
section
variable {X : Cx}
def tGFor (wi : TI) (g : TG) (tb : TGn) : TGn := fun D ys σ H => wi σ H fun J H2 => ∃ W : Nat → Nat → List V → St → Hp → Prop, (∃ m, W 0 m ys σ H2) ∧ ∀ i m ys σ H, W i m ys σ H →
  (J.stop i H ∧ D.nx ys σ H) ∨ (J.go i H ∧ ∃ N : List V → St → Hp → Prop, (∀ ys' σ' H', N ys' σ' H' → ∃ m', m' < m ∧ W (i + 1) m' ys' σ' H') ∧ ∀ x H', J.yld i H x H' → g x σ H' fun σ2 H2 => tb { D with nx := N, ct := N, bk := D.nx } ys σ2 H2)
theorem gs_for {tg iter : Expr} {body : List Stmt} {wi : TI} {g : TG} {tb : TGn} {pos : Pos} (hp : PassesOwn (model X.prog X.w) X.A X.env X.xe) (hc : X.calm = true) (hi : PI X tg iter wi) (hg : PG X tg g) (hb : GSs X body tb)
    (hs : ∀ x, foldedSetIterable iter X.env x = pure x := by intro _; rfl) : GS X (.For tg iter body [] pos) (tGFor wi g tb) := by
  refine ⟨fun A S ip R n ys s₀ c fs K J gd lv s σ H D g' hn k hI ht => ?_⟩
  obtain ⟨acc, cc, r, I⟩ := hI
  refine seg_ForG ?_ hs
  rw [g'.over]
  refine wpAny_mono (hi.run _ s σ H _ I ht) (fun v s1 h1 => wpAny_mono h1 (fun itv s2 h2 => ?_) fun x s' hx => k.exc n s₀ x s' hx) fun x s' hx => k.exc n s₀ x s' hx
  obtain ⟨it, fp, tn, JJ, H2, e, I2, T, st2, f2, W, ⟨m0, w0⟩, turn⟩ := h2
  subst e
  intro p
  have stat : ∀ {acc' : Array Value} {cc' : Nat} {H' : Hp}, (∀ b ∈ fp, H' b = none) → ∀ b ∈ fp, FpOk X ((S, lstObj acc' cc') :: ip) H' b := fun {acc' cc' H'} hn b hb => by
    obtain ⟨a0, a1, a2, a3, a4, a5⟩ := f2 b hb
    refine ⟨hn b hb, a1, a2, a3, a4, fun q hq => ?_⟩
    rcases List.mem_append.mp hq with hq | hq
    · exact a5 q (List.mem_append_left _ hq)
    · rcases List.mem_cons.mp hq with hq | hq
      · rw [hq]
        exact a5 (S, lstObj acc cc) (List.mem_append_right _ List.mem_cons_self)
      · exact a5 q (List.mem_append_right _ (List.mem_cons_of_mem _ hq))
  have fpS : ∀ b ∈ fp, b ≠ S := fun b hb z => by
    obtain ⟨_, _, _, _, _, a5⟩ := f2 b hb
    exact a5 (S, lstObj acc cc) (List.mem_append_right _ List.mem_cons_self) z.symm
  have gl := fun (kk : Result → Sem PySem.Fin) => gc_loop (k := kk) (c' := .forLoop tg (.ref it) body [] X.env) (l := lv []) (kp := []) (p := p) g' rfl rfl
  have loop : ∀ (m i n : Nat) (ys : List V) (s₀ s : Shared) (σ : St) (H : Hp), n + ys.length = sizeLine → W i m ys σ H → GI X S ip ys σ H s → tn i s.heap → (∀ b ∈ fp, H b = none) →
      Seg (model X.prog X.w) A R (GY X S) n s₀ (.forLoop tg (.ref it) body [] X.env) ((model X.prog X.w).den (.forLoop tg (.ref it) body [] X.env))
        (.ret (fun r => ((match r with | .ok f => (.pure f : Sem Flow) | .error e => .raise e).onRaise
                                                                                                       (cameBack X.env)).wrap K J gd lv) none (gd false) (lv []) c p [] :: fs) s := by
    intro m
    induction m using Nat.strongRecOn with
    | ind m ih =>
      intro i n ys s₀ s σ H hn w hI st fr
      have ee : ∀ (n : Nat) (s₀ : Shared) (x : Value) (s' : Shared), X.xe x s' → Seg (model X.prog X.w) A R (GY X S) n s₀ (.forLoop tg (.ref it) body [] X.env)
          ((do noteFrame x X.env; theTreesLotGoes x : Sem Unit).wrap
                                                                     (fun _ => .raise x) .raise id id)
          (.ret (fun r => ((match r with | .ok f => (.pure f : Sem Flow) | .error e => .raise e).onRaise
                                                                                                         (cameBack X.env)).wrap K J gd lv) none (gd false) (lv []) c p [] :: fs) s' := fun n s₀ x s' hx => by
        refine seg_wrap ?_
        rw [(gl _).over]
        refine wpAny_bind (wpAny_mono (hp x s' hx)
                                                   (fun _ s'' hcb => wpAny_theTreesLotGoes ?_) fun y s'' hcb => ?_)
        · exact seg_leaf (.error x) (seg_cameBack g' k hcb)
        · exact seg_leaf (.error y) (seg_cameBack g' k hcb)
      refine seg_forLoopG ?_
      rw [(gl _).over]
      obtain ⟨acc, cc, r, I⟩ := hI
      rcases turn i m ys σ H w with ⟨stop, qn⟩ | ⟨go, N, hN, step⟩
      · refine wpAny_mono (T.done X rfl rfl rfl hc i _ s σ H X.xe I (stat fr) st stop) (fun r' s4 z => ?_) fun x s' hx => ee n s₀ x s' hx
        obtain ⟨hr, I4⟩ := z
        subst hr
        exact seg_leaf (.ok .next) (k.ok n ys s₀ s4 .next hn ⟨σ, H, ⟨acc, cc, r, I4⟩, qn⟩)
      · refine wpAny_mono (T.item X rfl rfl rfl hc i _ s σ H X.xe I (stat fr) st go) (fun r' s4 z => ?_) fun x s' hx => ee n s₀ x s' hx
        obtain ⟨u, hr, h4⟩ := z
        subst hr
        refine wpAny_mono h4 (fun _ s5 z => ?_) fun x s' hx => ee n s₀ x s' hx
        obtain ⟨x, H5, I5, r5, y5, st5, fr5⟩ := z
        have I5' := I5.pinned (stat fr5) (T.obj _ _ st5)
        refine wpAny_mono (hg.run _ s5 σ H5 x u _ I5' r5 (step x H5 y5)) (fun _ s6 z => ?_) fun x s' hx => ee n s₀ x s' hx
        obtain ⟨σ6, H6, I6, q6⟩ := z
        have gl2 : ∀ kk : Result → Sem PySem.Fin, GC X S (ip ++ pinsAt fp s5.heap) A (.forLoop tg (.ref it) body [] X.env) (.ret kk none (gd false) (lv []) c p [] :: fs) id := fun kk =>
          ⟨(gl kk).pn, fun q hq => by
            rcases List.mem_append.mp hq with hq | hq
            · exact (gl kk).ip q hq
            · exact fpS _ (of_pinsAt hq).1, (gl kk).apart, (gl kk).over, (gl kk).split, (gl kk).guard, (gl kk).gd⟩
        have back : ∀ {ys' : List V} {σ3 : St} {H3 : Hp} {s3 : Shared}, GI X S (ip ++ pinsAt fp s5.heap) ys' σ3 H3 s3 → GI X S ip ys' σ3 H3 s3 ∧ tn (i + 1) s3.heap ∧ ∀ b ∈ fp, H3 b = none := fun {ys' σ3 H3 s3} hI => by
          obtain ⟨acc', cc', r', I'⟩ := hI
          have I' : Inv X (((S, lstObj acc' cc') :: ip) ++ pinsAt fp s5.heap) σ3 H3 s3 := I'
          refine ⟨⟨acc', cc', r', I'.unpinned⟩, T.keep _ _ _ st5 fun b hb o e => (I'.pin (b, o) (List.mem_append_right _ (List.mem_append_right _ (mem_pinsAt hb e)))).1, fun b hb => ?_⟩
          obtain ⟨o, e, d⟩ := T.obj _ _ st5 b hb
          exact (I'.pin (b, o) (List.mem_append_right _ (List.mem_append_right _ (mem_pinsAt hb e)))).2.1
        refine hb.run A S (ip ++ pinsAt fp s5.heap) R n ys s₀ _ _ _ _ id id s6 σ6 H6 { D with nx := N, ct := N, bk := D.nx } (gl2 _) hn ⟨fun n' ys' s₀' s3 f hn' hs => ?_, fun n' s₀' x s3 hx => ee n' s₀' x s3 hx⟩ ⟨acc, cc, r, I6⟩ q6
        cases f with
        | next =>
          obtain ⟨σ3, H3, I3, n3⟩ := hs
          obtain ⟨m', hm, w3⟩ := hN ys' σ3 H3 n3
          obtain ⟨b1, b2, b3⟩ := back I3
          exact seg_again rfl (ih m' hm (i + 1) n' ys' s₀' s3 σ3 H3 hn' w3 b1 b2 b3)
        | cont =>
          obtain ⟨σ3, H3, I3, n3⟩ := hs
          obtain ⟨m', hm, w3⟩ := hN ys' σ3 H3 n3
          obtain ⟨b1, b2, b3⟩ := back I3
          exact seg_again rfl (ih m' hm (i + 1) n' ys' s₀' s3 σ3 H3 hn' w3 b1 b2 b3)
        | brk =>
          obtain ⟨σ3, H3, I3, n3⟩ := hs
          exact seg_leaf (.ok .next) (k.ok n' ys' s₀' s3 .next hn' ⟨σ3, H3, (back I3).1, n3⟩)
        | ret v =>
          obtain ⟨v3, σ3, H3, I3, r3, n3⟩ := hs
          exact seg_leaf (.ok (.ret v)) (k.ok n' ys' s₀' s3 (.ret v) hn' ⟨v3, σ3, H3, (back I3).1, r3, n3⟩)
  exact loop m0 0 n ys s₀ s2 σ H2 hn w0 ⟨acc, cc, r, I2⟩ st2 fun b hb => (f2 b hb).1
def tGLock (t : TGn) : TGn := fun D ys σ H => ∃ d u, H d = some u ∧ Mut (some u) ∧ ∀ od, t ⟨fun ys' σ' H' => H' d = some (.frz od u) ∧ D.nx ys' σ' (upd H' d u), fun ys' v H' => H' d = some (.frz od u) ∧ D.rt ys' v (upd H' d u), fun ys' σ' H' => H' d = some (.frz od u) ∧ D.bk ys' σ' (upd H' d u), fun ys' σ' H' => H' d = some (.frz od u) ∧ D.ct ys' σ' (upd H' d u)⟩ ys σ (upd H d (.frz od u))
theorem gs_lock {st : Stmt} {t : TGn} (h : GS X st t) : GS X st (tGLock t) := by
  refine ⟨fun A S ip R n ys s₀ c fs K J gd lv s σ H D g hn k hI ht => ?_⟩
  obtain ⟨d, u, hd, mu, hw⟩ := ht
  obtain ⟨acc, cc, r, I⟩ := hI
  obtain ⟨od, I1⟩ := I.lock hd mu
  refine h.run A S ip R n ys s₀ c fs K J gd lv s σ _ _ g hn ⟨fun n' ys' s₀' s' f hn' hs => k.ok n' ys' s₀' s' f hn' ?_, k.exc⟩ ⟨acc, cc, r, I1⟩ (hw od)
  cases f with
  | next => obtain ⟨σ', H', ⟨a, c', r', I2⟩, e, q⟩ := hs; exact ⟨σ', _, ⟨a, c', r', I2.unlock e (I.nofrz hd mu)⟩, q⟩
  | brk => obtain ⟨σ', H', ⟨a, c', r', I2⟩, e, q⟩ := hs; exact ⟨σ', _, ⟨a, c', r', I2.unlock e (I.nofrz hd mu)⟩, q⟩
  | cont => obtain ⟨σ', H', ⟨a, c', r', I2⟩, e, q⟩ := hs; exact ⟨σ', _, ⟨a, c', r', I2.unlock e (I.nofrz hd mu)⟩, q⟩
  | ret v => obtain ⟨x, σ', H', ⟨a, c', r', I2⟩, r3, e, q⟩ := hs; exact ⟨x, σ', _, ⟨a, c', r', I2.unlock e (I.nofrz hd mu)⟩, r3, q⟩
theorem gfor_it {J : It} {n : Nat} {G : Hp → Prop} {Y : Nat → Hp → V → Hp → Prop} (w : Walk J n G Y) {g : TG} {tb : TGn} {D : GEnds} {ys : List V} {σ : St} {H1 : Hp} (Pv : Nat → List V → St → Hp → Prop) (h0 : Pv 0 ys σ H1) (hG : ∀ i ys σ H, i ≤ n → Pv i ys σ H → G H)
    (hs : ∀ i x ys σ H H', i < n → Pv i ys σ H → Y i H x H' → g x σ H' fun σ2 H2 => tb { D with nx := Pv (i + 1), ct := Pv (i + 1), bk := D.nx } ys σ2 H2) (hd : ∀ ys σ H, Pv n ys σ H → D.nx ys σ H) :
    ∃ W : Nat → Nat → List V → St → Hp → Prop, (∃ m, W 0 m ys σ H1) ∧ ∀ i m ys σ H, W i m ys σ H →
      (J.stop i H ∧ D.nx ys σ H) ∨ (J.go i H ∧ ∃ N : List V → St → Hp → Prop, (∀ ys' σ' H', N ys' σ' H' → ∃ m', m' < m ∧ W (i + 1) m' ys' σ' H') ∧ ∀ x H', J.yld i H x H' → g x σ H' fun σ2 H2 => tb { D with nx := N, ct := N, bk := D.nx } ys σ2 H2) := by
  refine ⟨fun i m ys σ H => m = n - i ∧ i ≤ n ∧ Pv i ys σ H, ⟨n, by simp, Nat.zero_le _, h0⟩, ?_⟩
  rintro i m ys σ H ⟨rfl, hi, p⟩
  have q := hG i ys σ H hi p
  by_cases lt : i < n
  · exact .inr ⟨w.goes i H lt q, Pv (i + 1), fun ys' σ' H' p' => ⟨n - (i + 1), by omega, rfl, lt, p'⟩, fun x H' y => hs i x ys σ H H' lt p (w.yields i H x H' lt q y)⟩
  · obtain rfl : i = n := by omega
    exact .inl ⟨w.stops H q, hd ys σ H p⟩
end
end L2
namespace K40
open PySem L2
open PyProof.Rows PySem.Spec
theorem un2 {k : Nat} {A : Around} (r : Room k A) : A.in1.units + 1 + 0 < cLine := by
  have := r.un
  show A.units + 1 + 1 + 0 < cLine
  omega
theorem un3 {k : Nat} {A : Around} (r : Room k A) : A.units + 3 < cLine := by
  have := r.un
  omega
/-- how many values of some names are alive in a tick -/
def alvs (S : Rws) (t k : Int) (ns : List Str) (s : Int) : List Int := ns.map fun n => alv t ((spn S n).1 + k) (spn S n).2 s
def cnt (S : Rws) (t k : Int) (ns : List Str) (s : Int) : Int := (alvs S t k ns s).sum
theorem Cts.get {H : Hp} {t k : Int} {n : Str} : ∀ {L : List (Str × Addr)} {R : Rws}, Cts H t k L R → n ∈ R.map (·.1) → ∃ a, valV (Kvs L) (.inr n) = some (.ref a) ∧ H a = some (.lst (cntL t ((spn R n).1 + k) (spn R n).2))
  | _, _, .nil, h => by cases h
  | _, _, .cons (n := m) (a := a) (b := b) (e := e) (L := L) (R := R) h c, hn => by
    by_cases q : n = m
    · subst q
      have e1 : spn ((n, b, e) :: R) n = (b, e) := by unfold spn; simp
      rw [e1]
      exact ⟨a, valV_pos (p := ((Sum.inr n : Key), V.ref a)) rfl, h⟩
    · have e1 : spn ((m, b, e) :: R) n = spn R n := by
        unfold spn
        rw [List.lookup_cons]
        have : (n == m) = false := by simpa using q
        rw [this]
      rw [e1]
      rcases List.mem_cons.mp hn with z | z
      · exact absurd z q
      · obtain ⟨a', h1, h2⟩ := Cts.get c z
        exact ⟨a', (valV_neg (p := ((Sum.inr m : Key), V.ref a)) (fun z => q (Sum.inr.inj z).symm)).trans h1, h2⟩
theorem cntL_at {t b e : Int} {j : Nat} (h : j < t.toNat) : atI (cntL t b e) (0 + (j : Int)) = some (.int (alv t b e (j : Int))) := by
  rw [Int.zero_add]
  refine atI_nat ?_
  unfold cntL
  rw [List.getElem?_map, List.getElem?_range h]
  rfl
section
variable {P : Program} {w : World} {K : PySem.W.Frag}
                                                      {mg : Str → Option Value} {base : Heap}
def sp_rows (K : PySem.W.Frag) (C : Addr) : Sp := fun vs H Q _ => ∃ (p : Addr) (t : Int) (S : Rws) (r : Addr), vs = [.ref p] ∧ SpS H C p t S r ∧ ∀ (q : Addr) (L : List (Str × Addr)), H q = none → Tups H L S → Q (.ref q) (upd H q (.dK (Kvs L)))
theorem ok_rows (T : T K mg) (U : UX K mg) : FnOk P w K mg base CX0 1 U.pr.g U.pr.d ["self"] (sp_rows K U.C) := by
  refine U.pr.F.ok sc_Spans_rows (fun vs H Q E h => ?_) (fun cdv A outer s H vs Q E hr h => ?_)
  · obtain ⟨p, t, S, r, rfl, _⟩ := h
    rfl
  · obtain ⟨p, t, S, r, rfl, ⟨g, so, dx, rd, nm, lv, cr, L, LL, LC, h1, h2, h3, h4, _⟩, k⟩ := h
    have hu := hu_of hr
    refine ⟨_, (pss_one (ps_ret (pe_callTy call_dictD (by rfl) T.z_dict (by decide +kernel) (pa_cons (pe_fld (pv 0) rfl) pa_nil)))), ?_⟩
    exact ⟨_, rfl, p, U.C, dx, _, .ref rd, rfl, h1, U.cl, U.n2, rfl, rd, Kvs L, rfl, .inl h2, fun q hq => k q L hq h3⟩
def lenR (S : Rws) : List Int := S.map fun r => r.2.2 - r.2.1
def sp_total (K : PySem.W.Frag) (C : Addr) : Sp := fun vs H Q _ => ∃ (p : Addr) (t : Int) (S : Rws) (r : Addr), vs = [.ref p] ∧ SpS H C p t S r ∧ ∀ H', Same H H' → Q (.int (lenR S).sum) H'
theorem ok_total (T : T K mg) (U : UX K mg) : FnOk P w K mg base CX0 1 U.pt.g U.pt.d ["self"] (sp_total K U.C) := by
  refine U.pt.F.ok sc_Spans_total (fun vs H Q E h => ?_) (fun cdv A outer s H vs Q E hr h => ?_)
  · obtain ⟨p, t, S, r, rfl, _⟩ := h
    rfl
  · obtain ⟨p, t, S, r, rfl, ⟨g, so, dx, rd, nm, lv, cr, L, LL, LC, h1, h2, h3, h4, _⟩, k⟩ := h
    have hu := hu_of hr
    refine ⟨_, (pss_one (ps_ret (pe_callB (cr_sum rfl) (by rfl) T.z_sum (by decide +kernel) (pa_cons (pe_lock (pe_lc (own := [("begin", 1), ("end", 2)]) (g := gTup K 2 (gCons (gName 1) (gCons (gName 2) gNil))) rfl sc_Spans_total.nd (pi_values (pe_fld (pv 0) rfl)) (blkOk_by (N := ["self", "begin", "end"]) (sc := defScope s_Spans_total) (by decide +kernel)) (fun _ _ _ _ _ => (pg_tup rfl (pgs_cons (pg_name (i := 1) sc_Spans_total.nd rfl (Or.inl rfl)) (pgs_cons (pg_name (i := 2) sc_Spans_total.nd rfl (Or.inl rfl)) pgs_nil)))) (fun _ _ _ _ _ => pts_nil) (fun _ _ _ _ _ => (pe_op op_sub (pv 2) (pv 1))))) pa_nil)))), ?_⟩
    have ndp : rd ≠ p := fun z => by rw [z, h1] at h2; cases h2
    refine ⟨rd, _, h2, True.intro, fun od => ?_⟩
    have lk : (upd H rd (.frz od (.dK (Kvs L)))) rd = some (.frz od (.dK (Kvs L))) := upd_same
    have ktl : KT H (upd H rd (.frz od (.dK (Kvs L)))) := KT.put h2 (fun _ z => by cases z)
    refine ⟨_, rfl, p, U.C, dx, _, .ref rd, rfl, (by rw [upd_ne ndp.symm]; exact h1), U.cl, U.n2, rfl, rd, od, Kvs L, rfl, lk, fun G hG => ?_⟩
    have nG : G ≠ rd := fun z => by rw [z, upd_same] at hG; cases hG
    refine lc_it walk_values (fun i H' => Same (upd H rd (.frz od (.dK (Kvs L)))) H' ∧ H' G = some (.lst ((lenR (S.take i)).map V.int))) ⟨Same.new hG, upd_same⟩ (fun i H' _ h => h.1 _ _ lk) ?_ ?_
    · rintro i x Ha Hb hi ⟨Sa, eG⟩ ⟨rfl, kk, hx⟩
      obtain ⟨n, a, b, e, rfl, e2, e3, e4⟩ := tups_at (h3.keep (KT.trans ktl (KT.same Sa))) i x (by rw [hx]; rfl)
      refine ⟨a, _, rfl, SqT.of e3, rfl, _, _, rfl, _, _, rfl, rfl, ?_⟩
      refine ⟨rfl, ?_⟩
      unfold tYes
      dsimp only
      rw [if_pos rfl]
      refine ⟨_, rfl, _, rfl, _, _, rfl, rfl, ?_⟩
      have := g.l8
      have : i < S.length := (List.getElem?_eq_some_iff.mp e2).1
      refine ⟨_, eG, by rw [List.length_map]; unfold lenR; rw [List.length_map, List.length_take, sizeLine_eq]; omega, Same.at hG Sa, ?_⟩
      rw [upd_same, List.take_add_one, e2]
      unfold lenR
      simp
    · rintro Ha ⟨Sa, eG⟩
      refine ⟨Sa _ _ lk, ?_⟩
      have SH := same_lock h2 Sa
      refine ⟨G, lenR S, rfl, ?_, k _ SH⟩
      rw [kvs_len, h3.len, List.take_length] at eG
      exact SqL.of ((upd_ne nG).trans eG)
def sp_sums (K : PySem.W.Frag) (C : Addr) : Sp := fun vs H Q _ => ∃ (p cd nl : Addr) (t k : Int) (S : Rws) (r : Addr) (LL : List (Str × Addr)) (ns : List Str), vs = [.ref p, .ref cd, .ref nl] ∧ SpS H C p t S r ∧ H cd = some (.dK (Kvs LL)) ∧ Cts H t k LL S ∧
  SqT K H nl (ns.map V.str) ∧ ns.length ≤ 63 ∧ (∀ n ∈ ns, n ∈ S.map (·.1)) ∧ ∀ q H', H q = none → Same H H' → H' q = some (.lst ((List.range t.toNat).map fun (s : Nat) => V.int (cnt S t k ns (s : Int)))) → Q (.ref q) H'
theorem ok_sums (T : T K mg) (U : UX K mg) : FnOk P w K mg base CX0 1 U.ms.f U.ms.d ["self", "counts", "names"] (sp_sums K U.C) := by
  refine U.ms.F.ok sc_Spans_sums (fun vs H Q E h => ?_) (fun cdv A outer s H vs Q E hr h => ?_)
  · obtain ⟨p, cd, nl, t, k, S, r, LL, ns, rfl, _⟩ := h
    rfl
  · obtain ⟨p, cd, nl, t, k, S, r, LL, ns, rfl, sp, hcd, ct, hnl, l63, hns, fin⟩ := h
    obtain ⟨g, so, dx, rd, nm, lv, cr, L, _, _, h1, _⟩ := id sp
    have hu := hu_of hr
    refine ⟨_, (pss_one (ps_ret (pe_lc (own := [("slot", 3)]) (g := gName 3) rfl sc_Spans_sums.nd (pi_range1 (by rfl) T.z_range (pa_cons (pe_fld (pv 0) rfl) pa_nil)) (blkOk_by (N := ["self", "counts", "names", "slot", "name"]) (sc := defScope s_Spans_sums) (by decide +kernel)) (fun _ _ _ _ _ => (pg_name (i := 3) sc_Spans_sums.nd rfl (Or.inr rfl))) (fun _ _ _ _ _ => pts_nil) (fun _ _ _ _ _ => (pe_callB (r := rSum K) (cr_sum rfl) (by rfl) T.z_sum (by decide +kernel) (pa_cons (pe_lc (wi := iTup K (tVar 2)) (own := [("name", 4)]) (g := gName 4) rfl sc_Spans_sums.nd (pi_tup (pv 2)) (blkOk_by (N := ["self", "counts", "names", "slot", "name"]) (sc := _) (by rfl)) (fun _ _ _ _ _ => (pg_name (i := 4) sc_Spans_sums.nd rfl (Or.inl rfl))) (fun _ _ _ _ _ => pts_nil) (fun _ _ _ _ _ => (pe_ix (r := rIx K) ix_seq (pe_dget (by exact hu) (pv 1) (pv 4) (fun _ _ => rfl)) (pv 3) (fun _ _ => rfl)))) pa_nil)))))), ?_⟩
    have g1 := g.t1
    have g2 := g.t2
    refine ⟨_, rfl, p, U.C, dx, _, .int t, rfl, h1, U.cl, U.n1, rfl, _, rfl, by omega, by omega, fun D hD => ?_⟩
    refine lc_range (n := t.toNat) (fun j H' => Same H H' ∧ H' D = some (.lst ((List.range j).map fun (s : Nat) => V.int (cnt S t k ns (s : Int))))) ⟨Same.new hD, upd_same⟩ ?_ ?_
    · rintro j Hc hj ⟨Sc, eD⟩
      refine ⟨rfl, ?_⟩
      unfold tYes
      dsimp only
      rw [if_pos rfl]
      have hnlc := Same.seqT Sc hnl
      refine ⟨_, rfl, nl, rfl, ⟨_, hnlc⟩, fun G hG => ?_⟩
      refine lc_it (tt := fun _ H Q => Q true H) (g := gName 4) (vs := [4]) (walk_tup (K := K) (a := nl) (xs := ns.map V.str)) (fun i H' => Same Hc H' ∧ H' G = some (.lst ((alvs S t k (ns.take i) (j : Int)).map V.int))) ⟨Same.new hG, upd_same⟩ (fun i H' _ h => Same.seqT h.1 hnlc) ?_ ?_
      · rintro i x Hd He hi ⟨Sd, eG⟩ ⟨rfl, hx⟩
        rw [List.getElem?_map] at hx
        cases e2 : ns[i]? with
        | none => rw [e2] at hx; cases hx
        | some n =>
          rw [e2] at hx
          cases hx
          have ii : i < ns.length := (List.getElem?_eq_some_iff.mp e2).1
          have Se := Same.trans Sc Sd
          obtain ⟨a, va, ha⟩ := (ct.same Se).get (hns n (List.mem_of_getElem? e2))
          refine ⟨rfl, ?_⟩
          dsimp only
          rw [if_pos rfl]
          refine ⟨_, rfl, _, rfl, cd, V.ref a, rfl, ?_, _, rfl, .inl ⟨a, _, _, _, rfl, rfl, SqL.of ha, cntL_at hj, ?_⟩⟩
          · have := DGet.k (k := Sum.inr n) (Se _ _ hcd)
            rw [va] at this
            exact this
          refine ⟨_, eG, by rw [List.length_map]; unfold alvs; rw [List.length_map, List.length_take, sizeLine_eq]; omega, Same.at hG Sd, ?_⟩
          rw [upd_same, List.take_add_one, e2]
          unfold alvs
          simp
      · rintro Hd ⟨Sd, eG⟩
        rw [List.length_map, List.take_length] at eG
        have eD2 := Sd _ _ eD
        refine ⟨G, _, rfl, SqL.of eG, _, eD2, by rw [List.length_map, List.length_range, sizeLine_eq]; omega, Same.at hD (Same.trans Sc Sd), ?_⟩
        rw [upd_same, List.range_succ, List.map_append]
        simp [cnt]
    · rintro Hd ⟨Sd, eD⟩
      exact fin D Hd hD Sd eD
end
end K40
namespace K40
open PySem L2
open PyProof.Rows PySem.Spec
section
variable {P : Program} {w : World} {K : PySem.W.Frag}
                                                      {mg : Str → Option Value} {base : Heap}
theorem okN {x qual : Str} {params : Arguments} {body : List Stmt} {scope : Scope} {dvs kws} {f : Addr} {fd : FuncData} {N ps : List Str} {k : Nat} {sp : Sp} (F : FunD K x qual params body scope dvs kws f fd) (S : FnScope N ps scope) (len : ∀ vs H Q E, sp vs H Q E → vs.length = ps.length)
    (hbody : ∀ (cdv : Value) (A : Around) (outer : List Env) (s : Shared) (H : Hp) (vs : List V) (Q : VK) (E : XK), Room k (A.deeper (PyProof.Rows.envOfC qual scope s.heap.objs.size f cdv)) → sp vs H Q E →
      ∃ t, PSs (cxOf CX0 P w K mg base N qual scope f cdv A outer s H E).nox body t ∧ t { nx := fun _ H' => Q .non H', rt := Q } (L2.start N vs) H) : FnOk P w K mg base CX0 (k + 1) f fd ps sp :=
  F.ok S len fun cdv A outer s H vs Q E hr h => by
    obtain ⟨t, h1, q⟩ := hbody cdv A outer s H vs Q E hr h
    exact ⟨t, h1.nox, q⟩
def sp_chosen (K : PySem.W.Frag) (C : Addr) : Sp := fun vs H Q _ => ∃ (p nl : Addr) (t : Int) (S : Rws) (r : Addr) (ns : List Str), vs = [.ref p, .ref nl] ∧ SpS H C p t S r ∧ SqT K H nl (ns.map V.str) ∧ ns.length < 64 ∧ (∀ n ∈ ns, n ∈ S.map (·.1)) ∧
  ∀ q zs H', Same H H' → SqT K H' q (zs.map V.str) → KS.Srt ns zs → Q (.ref q) H'
theorem ok_chosen (T : T K mg) (U : UX K mg) : FnOk P w K mg base CX0 1 U.mh.f U.mh.d ["self", "names"] (sp_chosen K U.C) := by
  refine okN U.mh.F sc_Spans_chosen (fun vs H Q E h => ?_) (fun cdv A outer s H vs Q E hr h => ?_)
  · obtain ⟨p, nl, t, S, r, ns, rfl, _⟩ := h
    rfl
  · obtain ⟨p, nl, t, S, r, ns, rfl, sp, hnl, few, hns, k⟩ := h
    obtain ⟨g, so, dx, rd, nm, lv, cr, L0, LL, LC, h1, h2, h3, h4, _⟩ := id sp
    have hu := hu_of hr
    refine ⟨_, (pss_cons (ps_for PassesOwn.never rfl (pi_tup (pv 1)) (pg_name (i := 2) sc_Spans_chosen.nd rfl (Or.inl rfl))
      (pss_one (ps_if (pt_cmpR op_notIn_seq (pv 2) (pe_fld (pv 0) rfl) rfl)
      (pss_one ps_never)
      pss_nil)))
      (pss_one (ps_ret (pe_callTy call_tuple_of (by rfl) T.z_tuple (by decide +kernel) (pa_cons (pe_callB (KS.cr_sortedK (KS.linkStr _) (enc := PyData.str) rfl KS.rd_str (fun m => un2 hr)) (by rfl) T.z_sorted (by decide +kernel) (pa_cons (pe_callTy (KS.cr_setOfU (KS.linkStr _) rfl (un3 hr)) (by rfl) T.z_set (by decide +kernel) (pa_cons (pv 1) pa_nil)) pa_nil)) pa_nil))))), ?_⟩
    refine ⟨_, rfl, nl, rfl, ⟨_, hnl⟩, for_tup (xs := ns.map V.str) (fun i σ H' => (∃ v, σ = [some (.ref p), some (.ref nl), v]) ∧ H' = H) ⟨⟨none, rfl⟩, rfl⟩ (fun i σ H' _ h => by rw [h.2]; exact hnl) ?_ ?_⟩
    · rintro i x σ' H' hx ⟨⟨v, rfl⟩, rfl⟩
      rw [List.getElem?_map] at hx
      cases e2 : ns[i]? with
      | none => rw [e2] at hx; cases hx
      | some n =>
        rw [e2] at hx
        cases hx
        refine ⟨_, rfl, _, rfl, p, U.C, dx, _, .ref nm, rfl, h1, U.cl, U.n3, rfl, nm, _, rfl, .inr (SqT.of h4), rfl, flat_strs _, _, rfl, ?_⟩
        rw [inV_strs, decide_eq_true (hns n (List.mem_of_getElem? e2))]
        exact iteF ⟨⟨_, rfl⟩, rfl⟩
    rintro σ' H' ⟨⟨v, rfl⟩, rfl⟩
    refine ⟨_, rfl, nl, ns, rfl, hnl, fun _ _ => True.intro, few, fun a L ha fr nd => ?_⟩
    refine ⟨a, L, rfl, upd_same, fun _ _ => True.intro, PySem.W.AllAlike.of (enc := PyData.str) (fun b b' => by simp [PySem.W.alike]), PySem.W.Sortable.others (enc := PyData.str) (fun b => ⟨by simp, by simp⟩), fun L1 q pm nd' hq => ?_⟩
    have nd2 : L.Nodup := by
      have q : (L.map id).Nodup := nd
      rw [List.map_id] at q
      exact q
    have tk : ns.take ns.length = ns := List.take_length
    have mem : ∀ z, z ∈ L ↔ z ∈ ns := fun z => by
      constructor
      · intro m
        have q := fr.sub z m
        rw [tk] at q
        exact q
      · intro m
        have q : z ∈ L.map id := fr.all z (by rw [tk]; exact m)
        rw [List.map_id] at q
        exact q
    have A1 := Same.new (o := KS.SetO (KS.strKit P w) a L) ha
    refine ⟨q, _, rfl, .inl ⟨SqL.of upd_same, fun l hl => ?_⟩⟩
    exact k l _ _ (Same.trans A1 (Same.trans (Same.new hq) (Same.new hl))) (SqT.of upd_same) (KS.srt_of nd2 mem pm)
end
end K40
namespace K40
open PySem L2
open PyProof.Rows PySem.Spec
/-- the names that are asked for: all, if none is said -/
def chs (S : Rws) (ns zs : List Str) : List Str := if ns = [] then S.map (·.1) else zs
theorem or_join {K : PySem.W.Frag} {x : V} {H1 : Hp} {tb : TE} {σ : L2.St} {Qf : V → Hp → Prop} (k : Bool) (hk : TruV K x H1 k) (z : V) (e1 : k = true → z = x) (e2 : k = false → ∀ Q : V → Hp → Prop, Q z H1 → tb σ H1 Q) (h : Qf z H1) :
    ∃ k, TruV K x H1 k ∧ if k = true then Qf x H1 else tb σ H1 Qf := by
  refine ⟨k, hk, ?_⟩
  cases k with
  | true =>
    rw [if_pos rfl, ← e1 rfl]
    exact h
  | false =>
    rw [if_neg (by decide)]
    exact e2 rfl _ h
theorem srt_nil {zs : List Str} (h : KS.Srt [] zs) : zs = [] := by
  cases zs with
  | nil => rfl
  | cons z r => exact absurd ((h.2 z).mp List.mem_cons_self) (by simp)
theorem srt_ne {ns zs : List Str} (h : KS.Srt ns zs) (hn : ns ≠ []) : zs ≠ [] := fun e => by
  cases ns with
  | nil => exact hn rfl
  | cons n r =>
    have := (h.2 n).mpr List.mem_cons_self
    rw [e] at this
    cases this
theorem srt_nd {ns zs : List Str} (h : KS.Srt ns zs) : zs.Nodup := h.1.imp fun hab e => by
  rw [e] at hab
  exact List.lt_irrefl _ hab
theorem srt_len {ns zs X : List Str} (h : KS.Srt ns zs) (hs : ∀ n ∈ ns, n ∈ X) : zs.length ≤ X.length := (srt_nd h).length_le_of_subset fun z hz => hs z ((h.2 z).mp hz)
section
variable {P : Program} {w : World} {K : PySem.W.Frag}
                                                      {mg : Str → Option Value} {base : Heap}
theorem chs_in {S : Rws} {ns zs : List Str} (st : KS.Srt ns zs) (h : ∀ n ∈ ns, n ∈ S.map (·.1)) : ∀ n ∈ chs S ns zs, n ∈ S.map (·.1) := fun n hn => by
  unfold chs at hn
  split at hn
  · exact hn
  · exact h n ((st.2 n).mp hn)
def sp_alive (K : PySem.W.Frag) (C : Addr) : Sp := fun vs H Q _ => ∃ (p nl : Addr) (t i : Int) (S : Rws) (r : Addr) (ns : List Str), vs = [.ref p, .int i, .ref nl] ∧ SpS H C p t S r ∧ H nl = some (.tup (ns.map V.str)) ∧ ns.length < 64 ∧ (∀ n ∈ ns, n ∈ S.map (·.1)) ∧ (-1000000000000 < i ∧ i < 1000000000000) ∧
  ∀ zs H', Same H H' → KS.Srt ns zs → Q (.int (cnt S t 0 (chs S ns zs) (i % t))) H'
/-- from outside: the names behind the tick are the promise's own -/
def sr_alive (K : PySem.W.Frag) (C : Addr) : Sp := fun vs H Q _ => ∃ (p : Addr) (t i : Int) (S : Rws) (r : Addr) (ns : List Str), vs = V.ref p :: .int i :: ns.map V.str ∧ SpS H C p t S r ∧ ns.length < 64 ∧ (∀ n ∈ ns, n ∈ S.map (·.1)) ∧ (-1000000000000 < i ∧ i < 1000000000000) ∧
  ∀ zs H', Same H H' → KS.Srt ns zs → Q (.int (cnt S t 0 (chs S ns zs) (i % t))) H'
theorem ok_alive (T : T K mg) (U : UX K mg) : FnR P w K mg base CX0 4 U.mv.f (sr_alive K U.C) := by
  have G_check_integer : FnOk P w K mg base CX0 2 T.f_check_integer T.d_check_integer ["value"] (sp_check_integer K) := ok_check_integer T
  have G_chosen : FnOk P w K mg base CX0 1 U.mh.f U.mh.d ["self", "names"] (sp_chosen K U.C) := ok_chosen T U
  obtain ⟨oc, od, kV, doc, pm, an, cdv, ct, osl, hfd, lk, hcd⟩ := U.mv.F.ex
  rw [hfd] at lk
  refine (StX.fn_star (ps := ["self", "tick"]) (pv := "names") (sp := sp_alive K U.C) lk hcd sc_Spans_alive StX.cxUp_none ?_ ?_).imp ?_
  · intro us rest hl
    match us, hl with
    | [a, b], _ => cases rest <;> rfl
  · intro A outer s H vs Q E hr h
    obtain ⟨p, nl, t, i, S, r, ns, rfl, sp, hnl, few, hns, hi, k⟩ := h
    have hu := hu_of hr
    have hr_check_integer : Room 2 _ := hr.mono (by decide)
    obtain ⟨g, so, dx, rd, nm, lv, cr, L0, LL, LC, h1, h2, h3, h4, h5, h6, h7, h8, _⟩ := id sp
    refine ⟨_, (pss_cons (ps_expr (pe_call G_check_integer hr_check_integer rfl T.m_check_integer T.F_check_integer.kp T.b_check_integer .nil pass0 (pa_cons (pv 1) pa_nil)))
      (pss_cons (ps_set (i := 3) sc_Spans_alive.nd rfl (Or.inl rfl) (pe_orT (pe_meth (pv 0) U.cl U.mh.m G_chosen (hr.mono (by decide)) U.mh.b .nil pass0 (pa_cons (pv 2) pa_nil)) (pe_one (pe_fld (pv 0) rfl))))
      (pss_one (ps_ret (pe_callB (cr_sum rfl) (by rfl) T.z_sum (by decide +kernel) (pa_cons (pe_lc (own := [("name", 4)]) (g := gName 4) rfl sc_Spans_alive.nd (pi_tup (pv 3)) (blkOk_by (N := ["self", "tick", "names", "chosen", "name"]) (sc := defScope s_Spans_alive) (by decide +kernel)) (fun _ _ _ _ _ => (pg_name (i := 4) sc_Spans_alive.nd rfl (Or.inl rfl))) (fun _ _ _ _ _ => pts_nil) (fun _ _ _ _ _ => (pe_ix (r := rIx K) ix_seq (pe_dget (by exact hu) (pe_fldK (K := K) rfl (pv 0) rfl) (pv 4) (fun _ _ => rfl)) (pe_op op_mod (pv 1) (pe_fldK (K := K) rfl (pv 0) rfl)) (fun _ _ => rfl)))) pa_nil)))))), ?_⟩
    have g1 := g.t1
    refine ⟨_, rfl, i, rfl, hi, ?_⟩
    -- chosen
    refine ⟨_, rfl, p, dx, _, rfl, h1, rfl, _, rfl, p, nl, t, S, r, ns, rfl, sp, SqT.of hnl, few, hns, fun q zs H1 S1 hq st => ?_⟩
    have hq1 : SqT K H1 q (zs.map V.str) := hq
    obtain ⟨ch, hch, kk, hk, e1, e2⟩ : ∃ (ch : Addr) , SqT K H1 ch ((chs S ns zs).map V.str) ∧ ∃ kk : Bool, TruV K (.ref q) H1 kk ∧ (kk = true → V.ref ch = .ref q) ∧ (kk = false → ch = nm) := by
      by_cases c : ns = []
      · subst c
        obtain rfl := srt_nil st
        exact ⟨nm, SqT.of (S1 _ _ h4), false, .inr (.inl ⟨_, hq1, rfl⟩), (fun z => by cases z), fun _ => rfl⟩
      · refine ⟨q, by unfold chs; rw [if_neg c]; exact hq1, true, .inr (.inl ⟨_, hq1, ?_⟩), fun _ => rfl, fun z => by cases z⟩
        cases zs with
        | nil => exact absurd rfl (srt_ne st c)
        | cons _ _ => rfl
    refine or_join kk hk (.ref ch) e1 (fun z Q' q' => ?_) ?_
    · have e3 := e2 z
      subst e3
      exact ⟨_, rfl, p, U.C, dx, _, .ref ch, rfl, S1 _ _ h1, U.cl, U.n3, rfl, q'⟩
    have hin := chs_in st hns
    have lch : (chs S ns zs).length ≤ 63 := by
      unfold chs
      split
      · rw [List.length_map]
        have := g.l8
        omega
      · have := srt_len st hns
        rw [List.length_map] at this
        have := g.l8
        omega
    have kf := k zs
    generalize chs S ns zs = cs at hch hin lch kf
    have m0 := Int.emod_nonneg i (b := t) (by omega)
    have m1 := Int.emod_lt_of_pos i (b := t) (by omega)
    refine ⟨_, rfl, ch, rfl, ⟨_, hch⟩, fun G hG => ?_⟩
    refine lc_it (walk_tup (K := K) (a := ch) (xs := cs.map V.str)) (fun j H' => Same H1 H' ∧ H' G = some (.lst ((alvs S t 0 (cs.take j) (i % t)).map V.int))) ⟨Same.new hG, upd_same⟩ (fun j H' _ h => Same.seqT h.1 hch) ?_ ?_
    · rintro j x Hd He hj ⟨Sd, eG⟩ ⟨rfl, hx⟩
      rw [List.getElem?_map] at hx
      cases e4 : cs[j]? with
      | none => rw [e4] at hx; cases hx
      | some n =>
        rw [e4] at hx
        cases hx
        have jj : j < cs.length := (List.getElem?_eq_some_iff.mp e4).1
        have Se := Same.trans S1 Sd
        obtain ⟨a, va, ha⟩ := (h6.same Se).get (hin n (List.mem_of_getElem? e4))
        refine ⟨rfl, ?_⟩
        unfold tYes
        dsimp only
        rw [if_pos rfl]
        have pc := Se _ _ h1
        refine ⟨_, rfl, p, U.C, dx, _, .ref lv, rfl, pc, U.cl, U.n4, rfl, _, rfl, lv, V.ref a, rfl, ?_, _, rfl, _, rfl, p, U.C, dx, _, .int t, rfl, pc, U.cl, U.n1, rfl, _, _, rfl, rfl, by omega, .inl ⟨a, _, _, .int (alv t ((spn S n).1 + 0) (spn S n).2 (i % t)), rfl, rfl, SqL.of ha, ?_, ?_⟩⟩
        · have := DGet.k (k := Sum.inr n) (Se _ _ h5)
          rw [va] at this
          exact this
        · have := cntL_at (t := t) (b := (spn S n).1 + 0) (e := (spn S n).2) (j := (i % t).toNat) (by omega)
          rw [Int.zero_add, Int.toNat_of_nonneg m0] at this
          exact this
        refine ⟨_, eG, by rw [List.length_map]; unfold alvs; rw [List.length_map, List.length_take, sizeLine_eq]; omega, Same.at hG Sd, ?_⟩
        rw [upd_same, List.take_add_one, e4]
        unfold alvs
        simp
    · rintro Hd ⟨Sd, eG⟩
      rw [List.length_map, List.take_length] at eG
      exact ⟨G, _, rfl, SqL.of eG, kf _ (Same.trans S1 Sd) st⟩
  · rintro vs H Q E ⟨p, t, i, S, r, ns, rfl, sp, few, hns, hi, k⟩
    refine ⟨[.ref p, .int i], ns.map V.str, rfl, rfl, by rw [List.length_map, sizeLine_eq]; omega, fun q hq => ?_⟩
    exact ⟨p, q, t, i, S, r, ns, rfl, sp.same (Same.new hq), upd_same, few, hns, hi, fun zs H' s' st => k zs H' (Same.trans (Same.new hq) s') st⟩
def sp_across (K : PySem.W.Frag) (C : Addr) : Sp := fun vs H Q _ => ∃ (p nl : Addr) (t i : Int) (S : Rws) (r : Addr) (ns : List Str), vs = [.ref p, .int i, .ref nl] ∧ SpS H C p t S r ∧ H nl = some (.tup (ns.map V.str)) ∧ ns.length < 64 ∧ (∀ n ∈ ns, n ∈ S.map (·.1)) ∧ (-1000000000000 < i ∧ i < 1000000000000) ∧
  ∀ zs H', Same H H' → KS.Srt ns zs → Q (.int (cnt S t 1 (chs S ns zs) (i % t))) H'
/-- from outside: the names behind the tick are the promise's own -/
def sr_across (K : PySem.W.Frag) (C : Addr) : Sp := fun vs H Q _ => ∃ (p : Addr) (t i : Int) (S : Rws) (r : Addr) (ns : List Str), vs = V.ref p :: .int i :: ns.map V.str ∧ SpS H C p t S r ∧ ns.length < 64 ∧ (∀ n ∈ ns, n ∈ S.map (·.1)) ∧ (-1000000000000 < i ∧ i < 1000000000000) ∧
  ∀ zs H', Same H H' → KS.Srt ns zs → Q (.int (cnt S t 1 (chs S ns zs) (i % t))) H'
theorem ok_across (T : T K mg) (U : UX K mg) : FnR P w K mg base CX0 4 U.mc.f (sr_across K U.C) := by
  have G_check_integer : FnOk P w K mg base CX0 2 T.f_check_integer T.d_check_integer ["value"] (sp_check_integer K) := ok_check_integer T
  have G_chosen : FnOk P w K mg base CX0 1 U.mh.f U.mh.d ["self", "names"] (sp_chosen K U.C) := ok_chosen T U
  obtain ⟨oc, od, kV, doc, pm, an, cdv, ct, osl, hfd, lk, hcd⟩ := U.mc.F.ex
  rw [hfd] at lk
  refine (StX.fn_star (ps := ["self", "moment"]) (pv := "names") (sp := sp_across K U.C) lk hcd sc_Spans_across StX.cxUp_none ?_ ?_).imp ?_
  · intro us rest hl
    match us, hl with
    | [a, b], _ => cases rest <;> rfl
  · intro A outer s H vs Q E hr h
    obtain ⟨p, nl, t, i, S, r, ns, rfl, sp, hnl, few, hns, hi, k⟩ := h
    have hu := hu_of hr
    have hr_check_integer : Room 2 _ := hr.mono (by decide)
    obtain ⟨g, so, dx, rd, nm, lv, cr, L0, LL, LC, h1, h2, h3, h4, h5, h6, h7, h8, _⟩ := id sp
    refine ⟨_, (pss_cons (ps_expr (pe_call G_check_integer hr_check_integer rfl T.m_check_integer T.F_check_integer.kp T.b_check_integer .nil pass0 (pa_cons (pv 1) pa_nil)))
      (pss_cons (ps_set (i := 3) sc_Spans_across.nd rfl (Or.inl rfl) (pe_orT (pe_meth (pv 0) U.cl U.mh.m G_chosen (hr.mono (by decide)) U.mh.b .nil pass0 (pa_cons (pv 2) pa_nil)) (pe_one (pe_fld (pv 0) rfl))))
      (pss_one (ps_ret (pe_callB (cr_sum rfl) (by rfl) T.z_sum (by decide +kernel) (pa_cons (pe_lc (own := [("name", 4)]) (g := gName 4) rfl sc_Spans_across.nd (pi_tup (pv 3)) (blkOk_by (N := ["self", "moment", "names", "chosen", "name"]) (sc := defScope s_Spans_across) (by decide +kernel)) (fun _ _ _ _ _ => (pg_name (i := 4) sc_Spans_across.nd rfl (Or.inl rfl))) (fun _ _ _ _ _ => pts_nil) (fun _ _ _ _ _ => (pe_ix (r := rIx K) ix_seq (pe_dget (by exact hu) (pe_fldK (K := K) rfl (pv 0) rfl) (pv 4) (fun _ _ => rfl)) (pe_op op_mod (pv 1) (pe_fldK (K := K) rfl (pv 0) rfl)) (fun _ _ => rfl)))) pa_nil)))))), ?_⟩
    have g1 := g.t1
    refine ⟨_, rfl, i, rfl, hi, ?_⟩
    -- chosen
    refine ⟨_, rfl, p, dx, _, rfl, h1, rfl, _, rfl, p, nl, t, S, r, ns, rfl, sp, SqT.of hnl, few, hns, fun q zs H1 S1 hq st => ?_⟩
    have hq1 : SqT K H1 q (zs.map V.str) := hq
    obtain ⟨ch, hch, kk, hk, e1, e2⟩ : ∃ (ch : Addr) , SqT K H1 ch ((chs S ns zs).map V.str) ∧ ∃ kk : Bool, TruV K (.ref q) H1 kk ∧ (kk = true → V.ref ch = .ref q) ∧ (kk = false → ch = nm) := by
      by_cases c : ns = []
      · subst c
        obtain rfl := srt_nil st
        exact ⟨nm, SqT.of (S1 _ _ h4), false, .inr (.inl ⟨_, hq1, rfl⟩), (fun z => by cases z), fun _ => rfl⟩
      · refine ⟨q, by unfold chs; rw [if_neg c]; exact hq1, true, .inr (.inl ⟨_, hq1, ?_⟩), fun _ => rfl, fun z => by cases z⟩
        cases zs with
        | nil => exact absurd rfl (srt_ne st c)
        | cons _ _ => rfl
    refine or_join kk hk (.ref ch) e1 (fun z Q' q' => ?_) ?_
    · have e3 := e2 z
      subst e3
      exact ⟨_, rfl, p, U.C, dx, _, .ref ch, rfl, S1 _ _ h1, U.cl, U.n3, rfl, q'⟩
    have hin := chs_in st hns
    have lch : (chs S ns zs).length ≤ 63 := by
      unfold chs
      split
      · rw [List.length_map]
        have := g.l8
        omega
      · have := srt_len st hns
        rw [List.length_map] at this
        have := g.l8
        omega
    have kf := k zs
    generalize chs S ns zs = cs at hch hin lch kf
    have m0 := Int.emod_nonneg i (b := t) (by omega)
    have m1 := Int.emod_lt_of_pos i (b := t) (by omega)
    refine ⟨_, rfl, ch, rfl, ⟨_, hch⟩, fun G hG => ?_⟩
    refine lc_it (walk_tup (K := K) (a := ch) (xs := cs.map V.str)) (fun j H' => Same H1 H' ∧ H' G = some (.lst ((alvs S t 1 (cs.take j) (i % t)).map V.int))) ⟨Same.new hG, upd_same⟩ (fun j H' _ h => Same.seqT h.1 hch) ?_ ?_
    · rintro j x Hd He hj ⟨Sd, eG⟩ ⟨rfl, hx⟩
      rw [List.getElem?_map] at hx
      cases e4 : cs[j]? with
      | none => rw [e4] at hx; cases hx
      | some n =>
        rw [e4] at hx
        cases hx
        have jj : j < cs.length := (List.getElem?_eq_some_iff.mp e4).1
        have Se := Same.trans S1 Sd
        obtain ⟨a, va, ha⟩ := (h8.same Se).get (hin n (List.mem_of_getElem? e4))
        refine ⟨rfl, ?_⟩
        unfold tYes
        dsimp only
        rw [if_pos rfl]
        have pc := Se _ _ h1
        refine ⟨_, rfl, p, U.C, dx, _, .ref cr, rfl, pc, U.cl, U.n5, rfl, _, rfl, cr, V.ref a, rfl, ?_, _, rfl, _, rfl, p, U.C, dx, _, .int t, rfl, pc, U.cl, U.n1, rfl, _, _, rfl, rfl, by omega, .inl ⟨a, _, _, .int (alv t ((spn S n).1 + 1) (spn S n).2 (i % t)), rfl, rfl, SqL.of ha, ?_, ?_⟩⟩
        · have := DGet.k (k := Sum.inr n) (Se _ _ h7)
          rw [va] at this
          exact this
        · have := cntL_at (t := t) (b := (spn S n).1 + 1) (e := (spn S n).2) (j := (i % t).toNat) (by omega)
          rw [Int.zero_add, Int.toNat_of_nonneg m0] at this
          exact this
        refine ⟨_, eG, by rw [List.length_map]; unfold alvs; rw [List.length_map, List.length_take, sizeLine_eq]; omega, Same.at hG Sd, ?_⟩
        rw [upd_same, List.take_add_one, e4]
        unfold alvs
        simp
    · rintro Hd ⟨Sd, eG⟩
      rw [List.length_map, List.take_length] at eG
      exact ⟨G, _, rfl, SqL.of eG, kf _ (Same.trans S1 Sd) st⟩
  · rintro vs H Q E ⟨p, t, i, S, r, ns, rfl, sp, few, hns, hi, k⟩
    refine ⟨[.ref p, .int i], ns.map V.str, rfl, rfl, by rw [List.length_map, sizeLine_eq]; omega, fun q hq => ?_⟩
    exact ⟨p, q, t, i, S, r, ns, rfl, sp.same (Same.new hq), upd_same, few, hns, hi, fun zs H' s' st => k zs H' (Same.trans (Same.new hq) s') st⟩
end
end K40
namespace K40
open PySem L2
open PyProof.Rows PySem.Spec
/-- the values of a name that are alive in a tick -/
def turnsOf (t i : Int) (r : Str × Int × Int) : List (Str × Int) := (List.range (alv t r.2.1 r.2.2 (i % t)).toNat).map fun (s : Nat) => (r.1, (i - r.2.1) / t - alv t r.2.1 r.2.2 (i % t) + 1 + (s : Int))
def eachL (t i : Int) (S : Rws) : List (Str × Int) := S.flatMap (turnsOf t i)
/-- pairs, as told -/
def OutAt (H : Hp) (xs : List V) (L : List (Str × Int)) : Prop := Paired (fun (x : V) (q : Str × Int) => ∃ a, x = V.ref a ∧ H a = some (.tup [.str q.1, .int q.2])) xs L
theorem OutAt.keep {H H' : Hp} (k : KT H H') {xs : List V} {L : List (Str × Int)} (h : OutAt H xs L) : OutAt H' xs L := Paired.mapP h fun _ _ ⟨a, e, q⟩ => ⟨a, e, k _ _ q⟩
theorem OutAt.snoc {H : Hp} {a : Addr} {n : Str} {v : Int} (q : H a = some (.tup [.str n, .int v])) : ∀ {xs : List V} {L : List (Str × Int)}, OutAt H xs L → OutAt H (xs ++ [V.ref a]) (L ++ [(n, v)])
  | _, _, .nil => .cons ⟨a, rfl, q⟩ .nil
  | _, _, .cons h t => .cons h (OutAt.snoc q t)
theorem OutAt.len {H : Hp} : ∀ {xs : List V} {L : List (Str × Int)}, OutAt H xs L → xs.length = L.length
  | _, _, .nil => rfl
  | _, _, .cons _ t => by rw [List.length_cons, List.length_cons, OutAt.len t]
theorem alv_le {t b e s : Int} (h : 0 < t) (h8 : e - b ≤ 8 * t) : alv t b e s ≤ 8 := by
  have h1 : (s - b) / t ≤ (s - e + 8 * t) / t := Int.ediv_le_ediv h (by omega)
  rw [Int.add_mul_ediv_right _ _ (by omega)] at h1
  unfold alv
  omega
theorem alv_nn {t b e s : Int} (h : 0 < t) (h8 : 1 ≤ e - b) : 0 ≤ alv t b e s := by
  have h1 : (s - e) / t ≤ (s - b) / t := Int.ediv_le_ediv h (by omega)
  unfold alv
  omega
theorem cts_tups {H : Hp} {t k : Int} : ∀ {L LL : List (Str × Addr)} {S : Rws}, Tups H L S → Cts H t k LL S → 1 ≤ S.length → Kvs L ≠ Kvs LL
  | _, _, [], _, _, h => by cases h
  | _, _, _ :: _, a, c, _ => by
    cases a with
    | cons x _ =>
      cases c with
      | cons y _ =>
        intro z
        unfold Kvs at z
        rw [List.map_cons, List.map_cons] at z
        have z1 := congrArg List.head? z
        simp only [List.head?_cons] at z1
        injection z1 with z1
        injection z1 with _ z1
        injection z1 with z1
        subst z1
        unfold TupAt at x
        rw [x] at y
        cases y
section
variable {P : Program} {w : World} {K : PySem.W.Frag}
                                                      {mg : Str → Option Value} {base : Heap}
def sp_each (K : PySem.W.Frag) (C : Addr) : SpG := fun vs H Q _ => ∃ (p : Addr) (t i : Int) (S : Rws) (r : Addr), vs = [.ref p, .int i] ∧ SpS H C p t S r ∧ (-1000000000000 < i ∧ i < 1000000000000) ∧ ∀ xs H', Same H H' → OutAt H' xs (eachL t i S) → Q xs H'
theorem ok_each (T : T K mg) (U : UX K mg) : GFn P w K mg base 4 U.m8.f U.m8.d ["self", "tick"] (sp_each K U.C) := by
  have G_check_integer : FnOk P w K mg base CX0 2 T.f_check_integer T.d_check_integer ["value"] (sp_check_integer K) := ok_check_integer T
  obtain ⟨oc, od, dV, kV, doc, pm, an, cdv, ct, osl, e, lk, hcd, _, _⟩ := U.m8.F.ex
  rw [e] at lk ⊢
  refine gfn_of lk hcd gc_Spans_each_alive (fun vs H Q E h => ?_) (fun A outer s H vs Q E pn hr h => ?_)
  · obtain ⟨p, t, i, S, r, rfl, _⟩ := h
    rfl
  · obtain ⟨p, t, i, S, r, rfl, sp, hi, k⟩ := h
    have hu := hu_of hr
    have hr_check_integer : Room 2 _ := hr.mono (by decide)
    obtain ⟨g, so, dx, rd, nm, lv, cr, L0, LL, LC, h1, h2, h3, h4, h5, h6, _⟩ := id sp
    refine ⟨_, (gss_cons (gs_ps (ps_expr (pe_call G_check_integer hr_check_integer rfl T.m_check_integer T.F_check_integer.kp T.b_check_integer .nil pass0 (pa_cons (pv 1) pa_nil))))
      (gss_cons (gs_lock (gs_for owns_gcx rfl (pi_items (pe_fld (pv 0) rfl)) (pg_tup rfl (pgs_cons (pg_name (i := 2) gc_Spans_each_alive.nd rfl (Or.inl rfl)) (pgs_cons (pg_tup rfl (pgs_cons (pg_name (i := 3) gc_Spans_each_alive.nd rfl (Or.inl rfl)) (pgs_cons (pg_name (i := 4) gc_Spans_each_alive.nd rfl (Or.inl rfl)) pgs_nil))) pgs_nil)))
        (gss_cons (gs_ps (ps_set (i := 5) gc_Spans_each_alive.nd rfl (Or.inl rfl) (pe_op op_fdivW (pe_op op_sub (pv 1) (pv 3)) (pe_fld (pv 0) rfl))))
        (gss_cons (gs_ps (ps_set (i := 6) gc_Spans_each_alive.nd rfl (Or.inl rfl) (pe_ix ix_seq (pe_dget (by exact hu) (pe_fld (pv 0) rfl) (pv 2) (fun _ _ => rfl)) (pe_op op_mod (pv 1) (pe_fld (pv 0) rfl)) (fun _ _ => rfl))))
        (gss_cons (gs_for owns_gcx rfl (pi_range2 (by rfl) T.z_range (pa_cons (pe_op op_add (pe_op op_sub (pv 5) (pv 6)) pe_int) (pa_cons (pe_op op_add (pv 5) pe_int) pa_nil))) (pg_name (i := 7) gc_Spans_each_alive.nd rfl (Or.inl rfl))
          (gss_cons (gs_yield (pe_tup (pa_cons (pv 2) (pa_cons (pv 7) pa_nil)))) gss_nil)) gss_nil))))) gss_nil)), ?_⟩
    have g3 := g.t2
    have g4 := g.t1
    have g8 := g.l8
    have m0 := Int.emod_nonneg i (b := t) (by omega)
    have m1 := Int.emod_lt_of_pos i (b := t) (by omega)
    refine ⟨_, rfl, i, rfl, hi, ?_⟩
    refine ⟨rd, _, h2, True.intro, fun od => ?_⟩
    have lk : (upd H rd (.frz od (.dK (Kvs L0)))) rd = some (.frz od (.dK (Kvs L0))) := upd_same
    have ktl : KT H (upd H rd (.frz od (.dK (Kvs L0)))) := KT.put h2 (fun _ z => by cases z)
    have nrp : p ≠ rd := fun z => by rw [z, h2] at h1; cases h1
    have nrl : lv ≠ rd := fun z => by
      rw [z, h2] at h5
      injection h5 with h5
      injection h5 with h5
      exact cts_tups h3 h6 g.l1 h5
    refine ⟨_, rfl, p, U.C, dx, _, .ref rd, rfl, (by rw [upd_ne nrp]; exact h1), U.cl, U.n2, rfl, rd, od, Kvs L0, rfl, lk, ?_⟩
    refine gfor_it walk_items (fun j ys σ H' => (∃ x2 x3 x4 x5 x6 x7, σ = [some (V.ref p), some (V.int i), x2, x3, x4, x5, x6, x7]) ∧ Same (upd H rd (.frz od (.dK (Kvs L0)))) H' ∧ OutAt H' ys (eachL t i (S.take j)) ∧ ys.length ≤ 9 * j) ⟨⟨_, _, _, _, _, _, rfl⟩, Same.refl _, .nil, Nat.zero_le _⟩ (fun j ys σ H' _ h => h.2.1 _ _ lk) ?_ ?_
    · rintro j x ys σ Ha Hb hj ⟨⟨x2, x3, x4, x5, x6, x7, rfl⟩, Sa, oa, la⟩ ⟨TT, x1, y1, rfl, hTT, rfl, ex1, ey1⟩
      have Sn : Same Ha (upd Ha TT (.tup [x1, y1])) := Same.new hTT
      obtain ⟨n, a, b, e, rfl, e2, hab, e4⟩ := tups_at (h3.keep (KT.trans ktl (KT.same (Same.trans Sa Sn)))) j y1 ey1
      obtain rfl : V.str n = x1 := by
        unfold Kvs at ex1
        dsimp only at ex1
        rw [List.getElem?_map, e4] at ex1
        exact Option.some.inj ex1
      have Sb : Same (upd H rd (.frz od (.dK (Kvs L0)))) (upd Ha TT (.tup [V.str n, V.ref a])) := Same.trans Sa Sn
      have eTT : (upd Ha TT (.tup [V.str n, V.ref a])) TT = some (.tup [V.str n, V.ref a]) := upd_same
      have ob := oa.keep (KT.same Sn)
      generalize upd Ha TT (.tup [V.str n, V.ref a]) = Hc at Sb eTT hab ob ⊢
      have hS : (n, b, e) ∈ S := List.mem_of_getElem? e2
      have g1 := g.nr _ hS
      have g2 := g.sp _ hS
      unfold Near at g1
      unfold SpOk at g2
      simp only at g1 g2
      have pc : Hc p = some (HO.ins U.C dx (spF t rd nm (V.ref lv) (V.ref cr))) := Sb _ _ (by rw [upd_ne nrp]; exact h1)
      refine ⟨TT, _, rfl, SqT.of eTT, rfl, _, _, rfl, _, _, rfl, a, _, rfl, SqT.of hab, rfl, _, _, rfl, _, _, rfl, rfl, rfl, ?_⟩
      have pin : n ∈ S.map (·.1) := List.mem_map.mpr ⟨(n, b, e), hS, rfl⟩
      have esp : spn S n = (b, e) := spn_at g.nd hS
      have cl0 : Cts Hc t 0 LL S := Cts.same Sb (Cts.put h2 (fun _ z => by cases z) h6)
      obtain ⟨la2, va, ha⟩ := cl0.get pin
      rw [esp, Int.add_zero] at ha
      refine ⟨_, rfl, _, rfl, _, _, rfl, rfl, ?_⟩
      refine ⟨_, rfl, p, U.C, dx, _, .int t, rfl, pc, U.cl, U.n1, rfl, _, _, rfl, rfl, wide_div (b := 6) (by omega) (by omega) (by decide) (by decide), ?_⟩
      refine ⟨_, rfl, p, U.C, dx, _, .ref lv, rfl, pc, U.cl, U.n4, rfl, _, rfl, lv, V.ref la2, rfl, ?_, _, rfl, _, rfl, p, U.C, dx, _, .int t, rfl, pc, U.cl, U.n1, rfl, _, _, rfl, rfl, by omega, .inl ⟨la2, _, _, .int (alv t b e (i % t)), rfl, rfl, SqL.of ha, ?_, ?_⟩⟩
      · have := DGet.k (k := Sum.inr n) (Sb _ _ ((upd_ne nrl).trans h5))
        rw [va] at this
        exact this
      · have := cntL_at (t := t) (b := b) (e := e) (j := (i % t).toNat) (by omega)
        rw [Int.zero_add, Int.toNat_of_nonneg m0] at this
        exact this
      have m8 : alv t b e (i % t) ≤ 8 := alv_le (by omega) (by omega)
      have mz : 0 ≤ alv t b e (i % t) := alv_nn (by omega) (by omega)
      have q1 : (i - b) / t ≤ 2000000000000 := Int.ediv_le_of_le_mul (by omega) (by omega)
      have q2 : -2000000000000 ≤ (i - b) / t := Int.le_ediv_of_mul_le (by omega) (by omega)
      have jl : j < S.length := (List.getElem?_eq_some_iff.mp e2).1
      have eL : eachL t i (S.take (j + 1)) = eachL t i (S.take j) ++ turnsOf t i (n, b, e) := by
        unfold eachL
        rw [List.take_add_one, e2, List.flatMap_append]
        simp
      have lT : (turnsOf t i (n, b, e)).length = (alv t b e (i % t)).toNat := by unfold turnsOf; rw [List.length_map, List.length_range]
      refine ⟨_, rfl, _, rfl, _, _, rfl, rfl, _, _, rfl, rfl, _, rfl, _, _, rfl, rfl, _, _, rfl, ⟨by omega, by omega, by omega, by omega⟩, ?_⟩
      refine gfor_it walk_range (fun j2 ys' σ' H' => (∃ x7, σ' = [some (V.ref p), some (V.int i), some (V.str n), some (V.int b), some (V.int e), some (V.int ((i - b) / t)), some (V.int (alv t b e (i % t))), x7]) ∧ Same (upd H rd (.frz od (.dK (Kvs L0)))) H' ∧ OutAt H' ys' (eachL t i (S.take j) ++ (turnsOf t i (n, b, e)).take j2) ∧ ys'.length = ys.length + j2) ⟨⟨_, rfl⟩, Sb, by rw [List.take_zero, List.append_nil]; exact ob, rfl⟩ (fun _ _ _ _ _ _ => True.intro) ?_ ?_
      · rintro j2 x ys2 σ2 Hd He hj2 ⟨⟨x7', rfl⟩, Sd, od2, ld⟩ ⟨rfl, rfl⟩
        refine ⟨by rw [sizeLine_eq]; omega, _, rfl, _, rfl, by rw [sizeLine_eq]; simp, fun T2 hT2 => ?_⟩
        have hq : (turnsOf t i (n, b, e))[j2]? = some (n, (i - b) / t - alv t b e (i % t) + 1 + (j2 : Int)) := by
          unfold turnsOf
          rw [List.getElem?_map, List.getElem?_range (by show j2 < (alv t b e (i % t)).toNat; omega)]
          rfl
        refine ⟨⟨_, rfl⟩, Same.trans Sd (Same.new hT2), ?_, by rw [List.length_append, ld]; rfl⟩
        rw [List.take_add_one, hq, ← List.append_assoc]
        exact OutAt.snoc upd_same (od2.keep (KT.same (Same.new hT2)))
      · rintro ys2 σ2 H2 ⟨⟨x7', rfl⟩, Sd, od2, ld⟩
        refine ⟨⟨_, _, _, _, _, _, rfl⟩, Sd, ?_, by omega⟩
        rw [List.take_of_length_le (l := turnsOf t i (n, b, e)) (by rw [lT]; omega)] at od2
        rw [eL]
        exact od2
    · rintro ys σ H' ⟨_, Sa, oa, _⟩
      rw [List.take_of_length_le (by
        have := congrArg List.length h3.names
        rw [List.length_map, List.length_map] at this
        unfold Kvs
        rw [List.length_map]
        omega)] at oa
      refine ⟨Sa _ _ lk, k _ _ (same_lock h2 Sa) (oa.keep fun a xs e => ?_)⟩
      rw [upd_ne (fun z => by rw [z, Sa _ _ lk] at e; cases e)]
      exact e
end
end K40
namespace K40
open PySem L2
open PyProof.Rows PySem.Spec
/-- m is the greatest number of values of some names that are alive in a slot -/
def Mst (S : Rws) (t : Int) (ns : List Str) (m : Int) : Prop := m ∈ ((List.range t.toNat).map fun (s : Nat) => cnt S t 0 ns (s : Int)) ∧ ∀ y ∈ ((List.range t.toNat).map fun (s : Nat) => cnt S t 0 ns (s : Int)), y ≤ m
section
variable {P : Program} {w : World} {K : PySem.W.Frag}
                                                      {mg : Str → Option Value} {base : Heap}
theorem cnts_int (S : Rws) (t k : Int) (ns : List Str) : ((List.range t.toNat).map fun (s : Nat) => V.int (cnt S t k ns (s : Int))) = ((List.range t.toNat).map fun (s : Nat) => cnt S t k ns (s : Int)).map V.int := by
  rw [List.map_map]
  rfl
theorem cnts_len {S : Rws} {t k : Int} {ns : List Str} (h : 1 ≤ t) : 0 < ((List.range t.toNat).map fun (s : Nat) => cnt S t k ns (s : Int)).length := by
  rw [List.length_map, List.length_range]
  omega
def sp_most (K : PySem.W.Frag) (C : Addr) : Sp := fun vs H Q _ => ∃ (p : Addr) (t : Int) (S : Rws) (r : Addr), vs = [.ref p] ∧ SpS H C p t S r ∧ ∀ m H', Mst S t (S.map (·.1)) m → Same H H' → Q (.int m) H'
theorem ok_most (T : T K mg) (U : UX K mg) : FnOk P w K mg base CX0 3 U.pm.g U.pm.d ["self"] (sp_most K U.C) := by
  have G_sums : FnOk P w K mg base CX0 1 U.ms.f U.ms.d ["self", "counts", "names"] (sp_sums K U.C) := ok_sums T U
  refine U.pm.F.ok sc_Spans_most (fun vs H Q E h => ?_) (fun cdv A outer s H vs Q E hr h => ?_)
  · obtain ⟨p, t, S, r, rfl, _⟩ := h
    rfl
  · obtain ⟨p, t, S, r, rfl, sp, k⟩ := h
    obtain ⟨g, so, dx, rd, nm, lv, cr, L0, LL, LC, h1, h2, h3, h4, h5, h6, h7, h8, _⟩ := id sp
    have hu := hu_of hr
    refine ⟨_, (pss_one (ps_ret (pe_callB (cr_max rfl) (by rfl) T.z_max (by decide +kernel) (pa_cons (pe_meth (pv 0) U.cl U.ms.m G_sums (hr.mono (by decide)) U.ms.b .nil pass0 (pa_cons (pe_fld (pv 0) rfl) (pa_cons (pe_fld (pv 0) rfl) pa_nil))) pa_nil)))), ?_⟩
    refine ⟨_, rfl, p, dx, _, rfl, h1, rfl, _, rfl, p, U.C, dx, _, .ref lv, rfl, h1, U.cl, U.n4, rfl, _, rfl, p, U.C, dx, _, .ref nm, rfl, h1, U.cl, U.n3, rfl, p, lv, nm, t, 0, S, r, LL, S.map (·.1), rfl, sp, h5, h6, SqT.of h4, by rw [List.length_map]; have := g.l8; omega, fun _ h => h, fun q H1 hq S1 eq => ?_⟩
    rw [cnts_int] at eq
    exact ⟨q, _, rfl, SqL.of eq, cnts_len g.t1, fun m hm hg => k m H1 ⟨hm, hg⟩ S1⟩
end
end K40
namespace K40
open PySem L2
open PyProof.Rows PySem.Spec
section
variable {P : Program} {w : World} {K : PySem.W.Frag}
                                                      {mg : Str → Option Value} {base : Heap}
/-- the slots in which so many are alive -/
def pkS (S : Rws) (t m : Int) (j : Nat) : List Int := ((List.range j).filter fun (s : Nat) => decide (cnt S t 0 (S.map (·.1)) (s : Int) = m)).map fun (s : Nat) => (s : Int)
def sp_peaks (K : PySem.W.Frag) (C : Addr) : Sp := fun vs H Q _ => ∃ (p : Addr) (t : Int) (S : Rws) (r : Addr), vs = [.ref p] ∧ SpS H C p t S r ∧ ∀ m q H', Mst S t (S.map (·.1)) m → Same H H' → H' q = some (.tup ((pkS S t m t.toNat).map V.int)) → Q (.ref q) H'
theorem ok_peaks (T : T K mg) (U : UX K mg) : FnOk P w K mg base CX0 3 U.pp.g U.pp.d ["self"] (sp_peaks K U.C) := by
  have G_sums : FnOk P w K mg base CX0 1 U.ms.f U.ms.d ["self", "counts", "names"] (sp_sums K U.C) := ok_sums T U
  refine U.pp.F.ok sc_Spans_peaks (fun vs H Q E h => ?_) (fun cdv A outer s H vs Q E hr h => ?_)
  · obtain ⟨p, t, S, r, rfl, _⟩ := h
    rfl
  · obtain ⟨p, t, S, r, rfl, sp, k⟩ := h
    obtain ⟨g, so, dx, rd, nm, lv, cr, L0, LL, LC, h1, h2, h3, h4, h5, h6, h7, h8, _⟩ := id sp
    have hu := hu_of hr
    have g2 := g.t2
    refine ⟨_, (pss_cons (ps_set (i := 1) sc_Spans_peaks.nd rfl (Or.inl rfl) (pe_meth (pv 0) U.cl U.ms.m G_sums (hr.mono (by decide)) U.ms.b .nil pass0 (pa_cons (pe_fld (pv 0) rfl) (pa_cons (pe_fld (pv 0) rfl) pa_nil))))
      (pss_cons (ps_set (i := 2) sc_Spans_peaks.nd rfl (Or.inr rfl) (pe_callB (cr_max rfl) (by rfl) T.z_max (by decide +kernel) (pa_cons (pv 1) pa_nil)))
      (pss_one (ps_ret (pe_callTy call_tuple_of (by rfl) T.z_tuple (by decide +kernel) (pa_cons (pe_lc (own := [("slot", 3), ("many", 4)]) (g := gTup K 2 (gCons (gName 3) (gCons (gName 4) gNil))) rfl sc_Spans_peaks.nd (pi_enum (by rfl) T.z_enumerate (pa_cons (pv 1) pa_nil)) (blkOk_by (N := ["self", "counts", "most", "slot", "many"]) (sc := defScope s_Spans_peaks) (by decide +kernel)) (fun _ _ _ _ _ => (pg_tup rfl (pgs_cons (pg_name (i := 3) sc_Spans_peaks.nd rfl (Or.inl rfl)) (pgs_cons (pg_name (i := 4) sc_Spans_peaks.nd rfl (Or.inl rfl)) pgs_nil)))) (fun _ _ _ _ _ => pts_one (pt_cmpR op_eq (pv 4) (pv 2) (nomark _))) (fun _ _ _ _ _ => (pv 3))) pa_nil)))))), ?_⟩
    refine ⟨_, rfl, p, dx, _, rfl, h1, rfl, _, rfl, p, U.C, dx, _, .ref lv, rfl, h1, U.cl, U.n4, rfl, _, rfl, p, U.C, dx, _, .ref nm, rfl, h1, U.cl, U.n3, rfl, p, lv, nm, t, 0, S, r, LL, S.map (·.1), rfl, sp, h5, h6, SqT.of h4, by rw [List.length_map]; have := g.l8; omega, fun _ h => h, fun q H1 hq S1 eq => ?_⟩
    have eq' := eq
    rw [cnts_int] at eq'
    refine ⟨_, rfl, q, _, rfl, SqL.of eq', cnts_len g.t1, fun m hm hg => ?_⟩
    have mst : Mst S t (S.map (·.1)) m := ⟨hm, hg⟩
    refine ⟨_, rfl, q, _, rfl, SqL.of eq, fun D hD => ?_⟩
    refine lc_it (walk_enum (K := K) (a := q) (xs := (List.range t.toNat).map fun (s : Nat) => V.int (cnt S t 0 (S.map (·.1)) (s : Int)))) (fun i H' => Same H1 H' ∧ H' D = some (.lst ((pkS S t m i).map V.int))) ⟨Same.new hD, upd_same⟩ (fun i H' _ h => SqL.of (h.1 _ _ eq)) ?_ ?_
    · rintro i x Hx Hy hi ⟨Sx, eD⟩ ⟨TT, x1, y1, rfl, hTT, rfl, ex1, ey1⟩
      rw [List.length_map, List.length_range] at hi
      dsimp only at ex1 ey1
      rw [List.getElem?_map, List.getElem?_range hi] at ey1
      cases ex1
      cases ey1
      have C1 := Same.new (o := .tup [V.int (i : Int), .int (cnt S t 0 (S.map (·.1)) (i : Int))]) hTT
      have eTT : (upd Hx TT (.tup [V.int (i : Int), .int (cnt S t 0 (S.map (·.1)) (i : Int))])) TT = some (.tup [V.int (i : Int), .int (cnt S t 0 (S.map (·.1)) (i : Int))]) := upd_same
      have eD2 := C1 _ _ eD
      generalize upd Hx TT (.tup [V.int (i : Int), .int (cnt S t 0 (S.map (·.1)) (i : Int))]) = Hy at C1 eTT eD2 ⊢
      refine ⟨TT, _, rfl, SqT.of eTT, rfl, _, _, rfl, _, _, rfl, rfl, ?_⟩
      refine ⟨rfl, ?_⟩
      have lp : (pkS S t m i).length ≤ i := by
        unfold pkS
        rw [List.length_map]
        exact Nat.le_trans (List.length_filter_le _ _) (by rw [List.length_range]; exact Nat.le_refl _)
      have e10 : pkS S t m (i + 1) = pkS S t m i ++ (if cnt S t 0 (S.map (·.1)) (i : Int) = m then [(i : Int)] else []) := by
        unfold pkS
        rw [List.range_succ, List.filter_append, List.map_append]
        congr 1
        by_cases c : cnt S t 0 (S.map (·.1)) (i : Int) = m <;> simp [c]
      refine ⟨_, rfl, _, rfl, rfl, _, rfl, ?_⟩
      by_cases c : cnt S t 0 (S.map (·.1)) (i : Int) = m
      · rw [decide_eq_true (congrArg V.int c)]
        rw [if_pos c] at e10
        refine iteT ⟨_, rfl, _, eD2, by rw [List.length_map, sizeLine_eq]; omega, Same.at hD (Same.trans Sx C1), ?_⟩
        rw [upd_same, e10, List.map_append]
        rfl
      · rw [decide_eq_false (fun z => c (V.int.inj z))]
        rw [if_neg c, List.append_nil] at e10
        rw [e10]
        exact iteF ⟨Same.trans Sx C1, eD2⟩
    · rintro Hx ⟨Sx, eD⟩
      rw [List.length_map, List.length_range] at eD
      refine ⟨D, _, rfl, .inl ⟨SqL.of eD, fun l hl => ?_⟩⟩
      exact k m l _ mst (Same.trans S1 (Same.trans Sx (Same.new hl))) upd_same
end
end K40
namespace K40
open PySem L2
open PyProof.Rows PySem.Spec
/-- data whose text is short -/
structure TL (d : PyData) (n : Nat) : Prop where
  sh : d.showable = true
  ls : d.leavesShort 13 = true
  bk : d.bulk ≤ n
  dp : d.depth ≤ 10
structure TLs (k : Nat) (ds : List PyData) (n : Nat) : Prop where
  sh : PyData.showableAll ds = true
  ls : PyData.leavesShortAll 13 ds = true
  bk : PyData.bulkAll ds ≤ n
  dp : PyData.depthAll ds ≤ k
structure TD (k : Nat) (d : PyData) (n : Nat) : Prop where
  sh : d.showable = true
  ls : d.leavesShort 13 = true
  bk : d.bulk ≤ n
  dp : d.depth ≤ k
theorem TLs.nil {k : Nat} : TLs k [] 0 := ⟨by simp [PyData.showableAll], by simp [PyData.leavesShortAll], by simp [PyData.bulkAll], by simp [PyData.depthAll]⟩
theorem TLs.cons {k : Nat} {d : PyData} {ds : List PyData} {a b : Nat} (h : TD k d a) (t : TLs k ds b) : TLs k (d :: ds) (a + 1 + b) := by
  obtain ⟨h1, h2, h3, h4⟩ := h
  obtain ⟨t1, t2, t3, t4⟩ := t
  refine ⟨by simp [PyData.showableAll, h1, t1], by simp [PyData.leavesShortAll, h2, t2], ?_, ?_⟩
  · simp only [PyData.bulkAll]
    omega
  · simp only [PyData.depthAll]
    omega
theorem TD.list {k : Nat} {ds : List PyData} {a : Nat} (t : TLs k ds a) : TD (k + 1) (.list ds) a := by
  obtain ⟨t1, t2, t3, t4⟩ := t
  exact ⟨by simpa [PyData.showable] using t1, by simpa [PyData.leavesShort] using t2, by simpa [PyData.bulk] using t3, by simp only [PyData.depth]; omega⟩
theorem TD.tup {k : Nat} {ds : List PyData} {a : Nat} (t : TLs k ds a) : TD (k + 1) (.tuple ds) a := by
  obtain ⟨t1, t2, t3, t4⟩ := t
  exact ⟨by simpa [PyData.showable] using t1, by simpa [PyData.leavesShort] using t2, by simpa [PyData.bulk] using t3, by simp only [PyData.depth]; omega⟩
theorem TD.up {k : Nat} {d : PyData} {a : Nat} (t : TD k d a) : TD (k + 1) d a := ⟨t.sh, t.ls, t.bk, Nat.le_succ_of_le t.dp⟩
theorem TD.int {i : Int} (h1 : -999999999999 ≤ i) (h2 : i ≤ 999999999999) : TD 0 (.int i) 0 := by
  refine ⟨?_, ?_, by simp [PyData.bulk], by simp [PyData.depth]⟩
  · simp only [PyData.showable, decide_eq_true_eq]
    have : i.natAbs.log2 < 40 := by
      refine PySem.Flt.log2_lt_of (by decide) ?_
      omega
    omega
  · simp only [PyData.leavesShort, decide_eq_true_eq]
    exact PyData.shown_int_le2 h1 h2
theorem TD.name {z : Str} (h : nmC z = true) : TD 0 (.str z) 8 := by
  have nl := nmC_len h
  refine ⟨by simp [PyData.showable], ?_, ?_, by simp [PyData.depth]⟩
  · simp only [PyData.leavesShort, List.all_eq_true, decide_eq_true_eq]
    have ok := nm_ok h
    unfold PyData.strOk at ok
    rw [← Array.all_toList, List.all_eq_true] at ok
    intro c hc
    have := of_decide_eq_true (ok c hc)
    have e : (16 : Nat) ^ 8 = 4294967296 := by decide
    omega
  · simp only [PyData.bulk]
    exact nl.2
theorem TD.span {b e : Int} (h : Near 900000000000 (n, b, e)) (h2 : 1 ≤ e - b) : TD 1 (.tuple [.int b, .int e]) 2 := by
  unfold Near at h
  simp only at h
  exact TD.tup (TLs.cons (TD.int (by omega) (by omega)) (TLs.cons (TD.int (by omega) (by omega)) TLs.nil))
theorem TLs.mapd {α : Type} {k m : Nat} {f : α → PyData} : ∀ {xs : List α}, (∀ x ∈ xs, TD k (f x) m) → TLs k (xs.map f) ((m + 1) * xs.length)
  | [], _ => TLs.nil
  | x :: xs, h => by
    have t := TLs.cons (h x List.mem_cons_self) (TLs.mapd (f := f) (xs := xs) fun y hy => h y (List.mem_cons_of_mem _ hy))
    refine ⟨t.sh, t.ls, Nat.le_trans t.bk ?_, t.dp⟩
    rw [List.length_cons, Nat.mul_add]
    omega
theorem TD.rows {t : Int} {R : Rws} (g : Good t R) : TD 2 (rowsD R) 96 := by
  have key : ∀ R : Rws, (∀ x ∈ R, nmC x.1 = true) → (∀ x ∈ R, SpOk t x) → (∀ x ∈ R, Near 900000000000 x) → PyData.showableKv (R.map rowD) = true ∧ PyData.leavesShortKv 13 (R.map rowD) = true ∧ PyData.bulkKv (R.map rowD) ≤ 12 * R.length ∧ PyData.depthKv (R.map rowD) ≤ 1 := by
    intro R
    induction R with
    | nil => intro _ _ _; exact ⟨by simp [PyData.showableKv], by simp [PyData.leavesShortKv], by simp [PyData.bulkKv], by simp [PyData.depthKv]⟩
    | cons x R ih =>
      intro h1 h2 h3
      obtain ⟨i1, i2, i3, i4⟩ := ih (fun y hy => h1 y (List.mem_cons_of_mem _ hy)) (fun y hy => h2 y (List.mem_cons_of_mem _ hy)) (fun y hy => h3 y (List.mem_cons_of_mem _ hy))
      obtain ⟨n, b0, e0⟩ := x
      have a : TD 0 (.str n) 8 := TD.name (h1 (n, b0, e0) List.mem_cons_self)
      have b : TD 1 (.tuple [.int b0, .int e0]) 2 := TD.span (h3 (n, b0, e0) List.mem_cons_self) (h2 (n, b0, e0) List.mem_cons_self).1
      refine ⟨?_, ?_, ?_, ?_⟩
      · simp only [List.map_cons, rowD, PyData.showableKv, a.sh, b.sh, Bool.true_and]
        exact i1
      · simp only [List.map_cons, rowD, PyData.leavesShortKv, a.ls, b.ls, Bool.true_and]
        exact i2
      · have := a.bk
        have := b.bk
        simp only [List.map_cons, rowD, PyData.bulkKv, List.length_cons]
        omega
      · have := a.dp
        have := b.dp
        simp only [List.map_cons, rowD, PyData.depthKv]
        omega
  obtain ⟨k1, k2, k3, k4⟩ := key R g.nm g.sp g.nr
  have := g.l8
  unfold rowsD
  exact ⟨by simpa [PyData.showable] using k1, by simpa [PyData.leavesShort] using k2, by simp only [PyData.bulk]; omega, by simp only [PyData.depth]; omega⟩
theorem TD.names {ns : List Str} (h : ∀ n ∈ ns, nmC n = true) : TD 1 (.tuple (ns.map PyData.str)) (9 * ns.length) := TD.tup (TLs.mapd fun x hx => TD.name (h x hx))
theorem TD.tell {k n : Nat} {d : PyData} (t : TD k d n) (h1 : n ≤ 1000) (h2 : k ≤ 60) : d.showable = true ∧ d.shown.length ≤ sizeLine ∧ d.depth ≤ 60 :=
  ⟨t.sh, PyData.shown_fits_bulk (by decide) (by decide) t.ls (Nat.le_trans (Nat.le_trans t.bk h1) (by decide)), Nat.le_trans t.dp h2⟩
theorem dss_app1 {K : PySem.W.Frag} {H : Hp} {v : V} {d : PyData} (h : RL.DS K H v d) : ∀ {vs : List V} {ds : List PyData}, RL.DSs K H vs ds → RL.DSs K H (vs ++ [v]) (ds ++ [d])
  | _, _, .nil => .cons h .nil
  | _, _, .cons a t => .cons a (dss_app1 h t)
/-- pairs as data -/
def qD (q : Str × Int) : PyData := .tuple [.str q.1, .int q.2]
def outD (L : List (Str × Int)) : PyData := .list (L.map qD)
theorem out_dss {K : PySem.W.Frag} {H : Hp} : ∀ {xs : List V} {L : List (Str × Int)}, OutAt H xs L → RL.DSs K H xs (L.map qD)
  | _, _, .nil => .nil
  | _, _, .cons ⟨a, e, q⟩ t => .cons (by rw [e]; exact .tup (SqT.of q) (.cons (.str _) (.cons (.int _) .nil))) (out_dss t)
theorem q_dp {K : PySem.W.Frag} {H : Hp} {a : Addr} {q : Str × Int} (h : H a = some (.tup [.str q.1, .int q.2])) : Dp K H (.ref a) (qD q) := .tup (SqT.of h) (.cons (.str _) (.cons (.int _) .nil))
theorem out_dpa {K : PySem.W.Frag} {H : Hp} : ∀ {xs : List V} {L : List (Str × Int)}, OutAt H xs L → DpAll K H xs (L.map qD)
  | _, _, .nil => .nil
  | _, _, .cons ⟨a, e, q⟩ t => .cons (by rw [e]; exact q_dp q) (out_dpa t)
theorem q_lay {q : Str × Int} (h : nmC q.1 = true) : (qD q).canLay0 = true := by
  simp [qD, PyData.canLay0, PyData.canLayAll0, nm_ok h]
theorem outs_lay : ∀ {L : List (Str × Int)}, (∀ q ∈ L, nmC q.1 = true) → PyData.canLayAll0 (L.map qD) = true
  | [], _ => rfl
  | q :: L, h => by
    rw [List.map_cons, PyData.canLayAll0, q_lay (h q List.mem_cons_self), outs_lay fun x hx => h x (List.mem_cons_of_mem _ hx)]
    rfl
theorem outs_dep : ∀ L : List (Str × Int), PyData.depthAll (L.map qD) ≤ 1
  | [] => by simp [PyData.depthAll]
  | q :: L => by
    have := outs_dep L
    simp only [List.map_cons, PyData.depthAll, qD, PyData.depth]
    omega
theorem shaped_out {L : List (Str × Int)} (h : ∀ q ∈ L, nmC q.1 = true) : SeqAt.shaped (outD L) = true := by
  have h1 := outs_lay h
  have h2 := outs_dep L
  unfold SeqAt.shaped outD
  rw [Bool.and_eq_true, decide_eq_true_eq]
  refine ⟨by simpa [PyData.canLay0] using h1, ?_⟩
  simp only [PyData.depth]
  omega
theorem shaped_q {q : Str × Int} (h : nmC q.1 = true) : SeqAt.shaped (qD q) = true := by
  unfold SeqAt.shaped
  rw [Bool.and_eq_true, decide_eq_true_eq]
  refine ⟨q_lay h, ?_⟩
  simp [qD, PyData.depth, PyData.depthAll]
theorem eqv_out {L : List (Str × Int)} (h : ∀ q ∈ L, nmC q.1 = true) : PyData.eqv (outD L) (outD L) = true := by
  have := shaped_out h
  unfold SeqAt.shaped at this
  rw [Bool.and_eq_true] at this
  exact PySem.SeqAt.eqv_refl _ this.1
theorem eqv_q (a b : Str × Int) : PyData.eqv (qD a) (qD b) = decide (a = b) := by
  obtain ⟨n, v⟩ := a
  obtain ⟨m, u⟩ := b
  rw [Bool.eq_iff_iff]
  simp [qD, PyData.eqv, PyData.eqvAll]
theorem any_q (L : List (Str × Int)) (q : Str × Int) : ((L.map qD).any fun z => PyData.eqv z (qD q)) = decide (q ∈ L) := by
  induction L with
  | nil => simp
  | cons a L ih =>
    rw [List.map_cons, List.any_cons, ih, eqv_q, Bool.eq_iff_iff]
    simp only [Bool.or_eq_true, decide_eq_true_eq, List.mem_cons]
    exact or_congr_left eq_comm
theorem TD.out {L : List (Str × Int)} (h : ∀ q ∈ L, nmC q.1 = true) (hv : ∀ q ∈ L, -999999999999 ≤ q.2 ∧ q.2 ≤ 999999999999) : TD 2 (outD L) (11 * L.length) := by
  refine TD.list (TLs.mapd fun q hq => ?_)
  exact TD.tup (TLs.cons (TD.name (h q hq)) (TLs.cons (TD.int (hv q hq).1 (hv q hq).2) TLs.nil))
theorem each_names {t i : Int} {S : Rws} {q : Str × Int} (h : q ∈ eachL t i S) : q.1 ∈ S.map (·.1) := by
  unfold eachL turnsOf at h
  obtain ⟨r, hr, h2⟩ := List.mem_flatMap.mp h
  obtain ⟨s, _, rfl⟩ := List.mem_map.mp h2
  exact List.mem_map.mpr ⟨r, hr, rfl⟩
theorem each_nm {t i : Int} {S : Rws} (g : Good t S) : ∀ q ∈ eachL t i S, nmC q.1 = true := fun q h => by
  obtain ⟨r, hr, e⟩ := List.mem_map.mp (each_names h)
  rw [← e]
  exact g.nm r hr
theorem each_len {t i : Int} (ht : 0 < t) : ∀ {S : Rws}, (∀ x ∈ S, SpOk t x) → (eachL t i S).length ≤ 8 * S.length
  | [], _ => Nat.le_refl _
  | r :: S, h => by
    have ih := each_len ht (i := i) fun x hx => h x (List.mem_cons_of_mem _ hx)
    have h1 := h r List.mem_cons_self
    unfold SpOk at h1
    have m8 := alv_le (t := t) (b := r.2.1) (e := r.2.2) (s := i % t) ht (by omega)
    have e : eachL t i (r :: S) = turnsOf t i r ++ eachL t i S := by unfold eachL; rw [List.flatMap_cons]
    rw [e, List.length_append, List.length_cons]
    unfold turnsOf
    rw [List.length_map, List.length_range]
    omega
/-- the values of a tick that is so many intervals later -/
theorem each_later {t i m : Int} (ht : 0 < t) : ∀ S : Rws, eachL t (i + m * t) S = (eachL t i S).map fun q => (q.1, q.2 + m)
  | [] => rfl
  | r :: S => by
    have e : ∀ j, eachL t j (r :: S) = turnsOf t j r ++ eachL t j S := fun j => by unfold eachL; rw [List.flatMap_cons]
    rw [e, e, List.map_append, each_later ht S]
    congr 1
    unfold turnsOf
    rw [List.map_map, Int.add_mul_emod_self_right]
    refine List.map_congr_left fun s _ => ?_
    show (_, _) = (_, _)
    have e2 : (i + m * t - r.2.1) / t = (i - r.2.1) / t + m := by
      rw [show i + m * t - r.2.1 = i - r.2.1 + m * t by omega, Int.add_mul_ediv_right _ _ (by omega)]
    rw [e2]
    show _ = (r.1, (i - r.2.1) / t - alv t r.2.1 r.2.2 (i % t) + 1 + (s : Int) + m)
    congr 1
    omega
end K40
namespace PC
open PySem
/-- the sum of f over those of a list for which A holds -/
def sA (A : Str → Bool) (f : Str → Int) (l : List Str) : Int := (l.map fun n => if A n = true then f n else 0).sum
def nt (A : Str → Bool) : Str → Bool := fun n => !A n
theorem nt_nt (A : Str → Bool) : nt (nt A) = A := funext fun n => by unfold nt; simp
theorem sA_nil (A : Str → Bool) (f : Str → Int) : sA A f [] = 0 := rfl
theorem sA_cons (A : Str → Bool) (f : Str → Int) (n : Str) (l : List Str) : sA A f (n :: l) = (if A n = true then f n else 0) + sA A f l := by
  unfold sA
  rw [List.map_cons, List.sum_cons]
theorem sA_app (A : Str → Bool) (f : Str → Int) : ∀ l m : List Str, sA A f (l ++ m) = sA A f l + sA A f m
  | [], m => by rw [List.nil_append, sA_nil, Int.zero_add]
  | n :: l, m => by rw [List.cons_append, sA_cons, sA_cons, sA_app A f l m, Int.add_assoc]
theorem sA_perm {A : Str → Bool} {f : Str → Int} {l m : List Str} (p : l.Perm m) : sA A f l = sA A f m := by
  unfold sA
  have q := p.map fun n => if A n = true then f n else 0
  generalize l.map (fun n => if A n = true then f n else 0) = x at q
  generalize m.map (fun n => if A n = true then f n else 0) = y at q
  induction q with
  | nil => rfl
  | cons a _ ih => rw [List.sum_cons, List.sum_cons, ih]
  | swap a b l => rw [List.sum_cons, List.sum_cons, List.sum_cons, List.sum_cons]; omega
  | trans _ _ i j => rw [i, j]
theorem sA_le {A : Str → Bool} {f g : Str → Int} : ∀ {l : List Str}, (∀ n ∈ l, A n = true → f n ≤ g n) → sA A f l ≤ sA A g l
  | [], _ => Int.le_refl _
  | n :: l, h => by
    rw [sA_cons, sA_cons]
    have := sA_le (l := l) fun m hm => h m (List.mem_cons_of_mem _ hm)
    by_cases q : A n = true
    · have := h n List.mem_cons_self q
      rw [if_pos q, if_pos q]; omega
    · rw [if_neg q, if_neg q]; omega
theorem sA_add {A : Str → Bool} {f g : Str → Int} : ∀ l : List Str, sA A (fun n => f n + g n) l = sA A f l + sA A g l
  | [] => rfl
  | n :: l => by
    rw [sA_cons, sA_cons, sA_cons, sA_add l]
    by_cases q : A n = true
    · rw [if_pos q, if_pos q, if_pos q]; omega
    · rw [if_neg q, if_neg q, if_neg q]; omega
theorem sA_sub {A : Str → Bool} {f g : Str → Int} : ∀ l : List Str, sA A (fun n => f n - g n) l = sA A f l - sA A g l
  | [] => rfl
  | n :: l => by
    rw [sA_cons, sA_cons, sA_cons, sA_sub l]
    by_cases q : A n = true
    · rw [if_pos q, if_pos q, if_pos q]; omega
    · rw [if_neg q, if_neg q, if_neg q]; omega
theorem sA_nt {A : Str → Bool} {f : Str → Int} : ∀ l : List Str, sA A f l + sA (nt A) f l = (l.map f).sum
  | [] => rfl
  | n :: l => by
    have := sA_nt (A := A) (f := f) l
    rw [sA_cons, sA_cons, List.map_cons, List.sum_cons, ← this]
    unfold nt
    by_cases q : A n = true
    · rw [if_pos q, if_neg (by rw [q]; decide)]; omega
    · rw [if_neg q, if_pos (by simpa using q)]; omega
theorem sA_congr {A : Str → Bool} {f g : Str → Int} {l : List Str} (h : ∀ n ∈ l, f n = g n) : sA A f l = sA A g l := by
  unfold sA
  congr 1
  exact List.map_congr_left fun n hn => by rw [h n hn]
theorem sA_congrA {A B : Str → Bool} {f : Str → Int} {l : List Str} (h : ∀ n ∈ l, A n = B n) : sA A f l = sA B f l := by
  unfold sA
  congr 1
  exact List.map_congr_left fun n hn => by rw [h n hn]
theorem sA_nn {A : Str → Bool} {f : Str → Int} : ∀ {l : List Str}, (∀ n ∈ l, 0 ≤ f n) → 0 ≤ sA A f l
  | [], _ => Int.le_refl _
  | n :: l, h => by
    have := sA_nn (A := A) (l := l) fun m hm => h m (List.mem_cons_of_mem _ hm)
    have := h n List.mem_cons_self
    rw [sA_cons]
    by_cases q : A n = true
    · rw [if_pos q]; omega
    · rw [if_neg q]; omega
/-- one by one -/
theorem sA_zip {A : Str → Bool} {f g : Str → Int} : ∀ {l m : List Str}, l.length = m.length → (∀ p ∈ l.zip m, (if A p.1 = true then f p.1 else 0) ≤ (if A p.2 = true then g p.2 else 0)) → sA A f l ≤ sA A g m
  | [], [], _, _ => Int.le_refl _
  | x :: l, y :: m, e, h => by
    rw [sA_cons, sA_cons]
    have := sA_zip (l := l) (m := m) (by simpa using e) fun p hp => h p (List.mem_cons_of_mem _ hp)
    have := h (x, y) List.mem_cons_self
    simp only at this
    omega
/-- one for each -/
def one1 : Str → Int := fun _ => 1
def lq (f : Str → Int) (x : Int) : Str → Int := fun n => if f n ≤ x then 1 else 0
def lt (f : Str → Int) (x : Int) : Str → Int := fun n => if f n < x then 1 else 0
theorem lq_one {f : Str → Int} {x : Int} {n : Str} : 0 ≤ lq f x n ∧ lq f x n ≤ 1 := by unfold lq; split <;> omega
theorem lt_lq {f : Str → Int} {x : Int} {n : Str} : 0 ≤ lt f x n ∧ lt f x n ≤ lq f x n := by unfold lt lq; split <;> split <;> omega
section
variable {t : Int} {N : List Str} {b e : Str → Int}
/-- alive in a tick, across a moment -/
def al (t : Int) (b e : Str → Int) (s : Int) : Str → Int := fun n => (s - b n) / t - (s - e n) / t
def ac (t : Int) (b e : Str → Int) (s : Int) : Str → Int := fun n => (s - b n - 1) / t - (s - e n) / t
def Al (t : Int) (b e : Str → Int) (N : List Str) (A : Str → Bool) (s : Int) : Int := sA A (al t b e s) N
def Ac (t : Int) (b e : Str → Int) (N : List Str) (A : Str → Bool) (s : Int) : Int := sA A (ac t b e s) N
def Most (t : Int) (b e : Str → Int) (N : List Str) (A : Str → Bool) (m : Int) : Prop := (∀ s, Al t b e N A s ≤ m) ∧ ∃ s, Al t b e N A s = m
structure Apart (t : Int) (b e : Str → Int) (N : List Str) (A : Str → Bool) (a r : Int) : Prop where
  ma : Most t b e N A a
  mr : Most t b e N (nt A) r
  fu : ∀ s, Ac t b e N A s = a ∨ Ac t b e N (nt A) s = r
theorem Apart.nt {A : Str → Bool} {a r : Int} (h : Apart t b e N A a r) : Apart t b e N (nt A) r a := ⟨h.mr, by rw [nt_nt]; exact h.ma, fun s => by rw [nt_nt]; exact (h.fu s).symm⟩
theorem ac_al (ht : 0 < t) (s : Int) (n : Str) : ac t b e s n ≤ al t b e s n ∧ ac t b e s n ≤ al t b e (s - 1) n := by
  unfold ac al
  have h1 : (s - b n - 1) / t ≤ (s - b n) / t := Int.ediv_le_ediv ht (by omega)
  have h2 : (s - 1 - e n) / t ≤ (s - e n) / t := Int.ediv_le_ediv ht (by omega)
  rw [show s - b n - 1 = s - 1 - b n by omega] at *
  omega
theorem Ac_Al (ht : 0 < t) (A : Str → Bool) (s : Int) : Ac t b e N A s ≤ Al t b e N A s ∧ Ac t b e N A s ≤ Al t b e N A (s - 1) :=
  ⟨sA_le fun n _ _ => (ac_al ht s n).1, sA_le fun n _ _ => (ac_al ht s n).2⟩
theorem ac_per (ht : 0 < t) (s : Int) (k : Int) (n : Str) : ac t b e (s + t * k) n = ac t b e s n := by
  unfold ac
  rw [show s + t * k - b n - 1 = s - b n - 1 + t * k by omega, show s + t * k - e n = s - e n + t * k by omega, Int.add_mul_ediv_left _ _ (by omega), Int.add_mul_ediv_left _ _ (by omega)]
  omega
theorem al_per (ht : 0 < t) (s : Int) (k : Int) (n : Str) : al t b e (s + t * k) n = al t b e s n := by
  unfold al
  rw [show s + t * k - b n = s - b n + t * k by omega, show s + t * k - e n = s - e n + t * k by omega, Int.add_mul_ediv_left _ _ (by omega), Int.add_mul_ediv_left _ _ (by omega)]
  omega
theorem Ac_per (ht : 0 < t) (A : Str → Bool) (s k : Int) : Ac t b e N A (s + t * k) = Ac t b e N A s := sA_congr fun n _ => ac_per ht s k n
theorem Al_per (ht : 0 < t) (A : Str → Bool) (s k : Int) : Al t b e N A (s + t * k) = Al t b e N A s := sA_congr fun n _ => al_per ht s k n
theorem least_ex {P : Int → Prop} (s : Int) : ∀ k : Nat, P (s + k) → ¬ P s → ∃ x, s < x ∧ P x ∧ ¬ P (x - 1)
  | 0, h, n => absurd (by simpa using h) n
  | k + 1, h, n => by
    by_cases q : P (s + k)
    · exact least_ex s k q n
    · exact ⟨s + (k : Int) + 1, by omega, by rw [show s + (k : Int) + 1 = s + ((k + 1 : Nat) : Int) by omega]; exact h, by rw [show s + (k : Int) + 1 - 1 = s + (k : Int) by omega]; exact q⟩
theorem Apart.meet {A : Str → Bool} {a r : Int} (ht : 0 < t) (h : Apart t b e N A a r) : ∃ s, Al t b e N A s = a ∧ Al t b e N (PC.nt A) s = r := by
  by_cases q1 : ∀ s, Ac t b e N A s = a
  · obtain ⟨s, hs⟩ := h.mr.2
    refine ⟨s, ?_, hs⟩
    have := (Ac_Al (N := N) (b := b) (e := e) ht A s).1
    have := h.ma.1 s
    have := q1 s
    omega
  · by_cases q2 : ∃ s, Ac t b e N A s = a
    · obtain ⟨s2, h2⟩ := q2
      obtain ⟨s1, h1⟩ : ∃ s1, ¬ Ac t b e N A s1 = a := Classical.not_forall.mp q1
      -- s2 moved behind s1
      obtain ⟨k, hk⟩ : ∃ k : Nat, s1 ≤ s2 + t * (k : Int) := ⟨(s1 - s2).toNat, by
        have : ((s1 - s2).toNat : Int) ≥ s1 - s2 := by omega
        have h2 : (1 : Int) * ((s1 - s2).toNat : Int) ≤ t * ((s1 - s2).toNat : Int) := Int.mul_le_mul_of_nonneg_right (by omega) (by omega)
        omega⟩
      have h3 : Ac t b e N A (s2 + t * (k : Int)) = a := by rw [Ac_per ht]; exact h2
      obtain ⟨x, _, hx, hx1⟩ := least_ex (P := fun s => Ac t b e N A s = a) s1 (s2 + t * (k : Int) - s1).toNat (by rw [show s1 + (((s2 + t * (k : Int) - s1).toNat : Nat) : Int) = s2 + t * (k : Int) by omega]; exact h3) h1
      have hr := (h.fu (x - 1)).resolve_left hx1
      refine ⟨x - 1, ?_, ?_⟩
      · have := (Ac_Al (N := N) (b := b) (e := e) ht A x).2
        have := h.ma.1 (x - 1)
        omega
      · have := (Ac_Al (N := N) (b := b) (e := e) ht (PC.nt A) (x - 1)).1
        have := h.mr.1 (x - 1)
        omega
    · obtain ⟨s, hs⟩ := h.ma.2
      refine ⟨s, hs, ?_⟩
      have := (h.fu s).resolve_left fun z => q2 ⟨s, z⟩
      have := (Ac_Al (N := N) (b := b) (e := e) ht (PC.nt A) s).1
      have := h.mr.1 s
      omega
/-- in a tick with the most values each side has its most -/
theorem Apart.peak {A : Str → Bool} {a r p : Int} (ht : 0 < t) (h : Apart t b e N A a r) (hp : ∀ s, (N.map (al t b e s)).sum ≤ (N.map (al t b e p)).sum) : Al t b e N A p = a ∧ Al t b e N (PC.nt A) p = r := by
  obtain ⟨s, h1, h2⟩ := h.meet ht
  have e1 := sA_nt (A := A) (f := al t b e s) N
  have e2 := sA_nt (A := A) (f := al t b e p) N
  have := hp s
  have := h.ma.1 p
  have := h.mr.1 p
  unfold Al at *
  omega
/-- the places behind a tick -/
def pos (t c : Int) (f : Str → Int) : Str → Int := fun n => (f n - c) % t
theorem pos_lt (ht : 0 < t) (c : Int) (f : Str → Int) (n : Str) : 0 ≤ pos t c f n ∧ pos t c f n < t := ⟨Int.emod_nonneg _ (by omega), Int.emod_lt_of_pos _ ht⟩
theorem came_of {t c p x : Int} (ht : 0 < t) (h0 : -1 ≤ p) (h1 : p < t) : (c + p - x) / t - (c - 1 - x) / t = if (x - c) % t ≤ p then 1 else 0 := by
  have a := Int.mul_ediv_add_emod (x - c) t
  have a0 := Int.emod_nonneg (x - c) (b := t) (by omega)
  have a1 := Int.emod_lt_of_pos (x - c) ht
  generalize (x - c) % t = m at a a0 a1 ⊢
  generalize (x - c) / t = k at a
  have e1 : (c - 1 - x) / t = -k - 1 := by
    rw [show c - 1 - x = (t - 1 - m) + t * (-k - 1) by rw [Int.mul_sub, Int.mul_neg]; omega, Int.add_mul_ediv_left _ _ (by omega), Int.ediv_eq_zero_of_lt (by omega) (by omega)]
    omega
  rw [e1]
  by_cases q : m ≤ p
  · rw [if_pos q, show c + p - x = (p - m) + t * (-k) by rw [Int.mul_neg]; omega, Int.add_mul_ediv_left _ _ (by omega), Int.ediv_eq_zero_of_lt (by omega) (by omega)]
    omega
  · rw [if_neg q, show c + p - x = (t + p - m) + t * (-k - 1) by rw [Int.mul_sub, Int.mul_neg]; omega, Int.add_mul_ediv_left _ _ (by omega), Int.ediv_eq_zero_of_lt (by omega) (by omega)]
    omega
theorem al_at (ht : 0 < t) {c x : Int} (h0 : 0 ≤ x) (h1 : x < t) (n : Str) : al t b e (c + x) n = al t b e (c - 1) n + lq (pos t c b) x n - lq (pos t c e) x n := by
  have a := came_of (t := t) (c := c) (p := x) (x := b n) ht (by omega) h1
  have d := came_of (t := t) (c := c) (p := x) (x := e n) ht (by omega) h1
  unfold al lq pos
  omega
theorem ac_at (ht : 0 < t) {c x : Int} (h0 : 0 ≤ x) (h1 : x < t) (n : Str) : ac t b e (c + x) n = al t b e (c - 1) n + lt (pos t c b) x n - lq (pos t c e) x n := by
  have a := came_of (t := t) (c := c) (p := x - 1) (x := b n) ht (by omega) (by omega)
  have d := came_of (t := t) (c := c) (p := x) (x := e n) ht (by omega) h1
  have l : lt (pos t c b) x n = if (b n - c) % t ≤ x - 1 then 1 else 0 := by
    unfold lt pos
    by_cases q : (b n - c) % t < x
    · rw [if_pos q, if_pos (by omega)]
    · rw [if_neg q, if_neg (by omega)]
  unfold ac al lq pos at *
  rw [l, show c + x - b n - 1 = c + (x - 1) - b n by omega]
  omega
theorem Al_at (ht : 0 < t) {c x : Int} (h0 : 0 ≤ x) (h1 : x < t) (A : Str → Bool) : Al t b e N A (c + x) = Al t b e N A (c - 1) + sA A (lq (pos t c b) x) N - sA A (lq (pos t c e) x) N := by
  unfold Al
  rw [← sA_add, ← sA_sub]
  exact sA_congr fun n _ => al_at ht h0 h1 n
theorem Ac_at (ht : 0 < t) {c x : Int} (h0 : 0 ≤ x) (h1 : x < t) (A : Str → Bool) : Ac t b e N A (c + x) = Al t b e N A (c - 1) + sA A (lt (pos t c b) x) N - sA A (lq (pos t c e) x) N := by
  unfold Ac Al
  rw [← sA_add, ← sA_sub]
  exact sA_congr fun n _ => ac_at ht h0 h1 n
/-- the ends and the begins in their order -/
structure Lnk (t c : Int) (b e : Str → Int) (N es bs : List Str) : Prop where
  ep : es.Perm N
  bp : bs.Perm N
  es : es.Pairwise fun x y => pos t c e x ≤ pos t c e y
  bs : bs.Pairwise fun x y => pos t c b x ≤ pos t c b y
theorem split_at {α : Type} {l : List α} {k : Nat} {x : α} (h : l[k]? = some x) : l = l.take k ++ x :: l.drop (k + 1) := by
  obtain ⟨hk, hx⟩ := List.getElem?_eq_some_iff.mp h
  rw [← hx, List.getElem_cons_drop, List.take_append_drop]
theorem pw_take {R : Str → Str → Prop} {l : List Str} {k : Nat} {x : Str} (p : l.Pairwise R) (h : l[k]? = some x) : (∀ y ∈ l.take k, R y x) ∧ ∀ y ∈ l.drop (k + 1), R x y := by
  rw [split_at h, List.pairwise_append] at p
  exact ⟨fun y hy => p.2.2 y hy x List.mem_cons_self, fun y hy => (List.pairwise_cons.mp p.2.1).1 y hy⟩
def allA : Str → Bool := fun _ => true
theorem sA_all (f : Str → Int) (l : List Str) : sA allA f l = (l.map f).sum := by
  unfold sA allA
  simp
theorem sA_ge {A : Str → Bool} {f : Str → Int} : ∀ {l : List Str}, (∀ n ∈ l, f n = 1) → sA A f l = sA A one1 l := fun h => sA_congr fun n hn => h n hn
variable {c : Int} {es bs : List Str}
/-- behind a peak each end comes before its begin -/
theorem Lnk.le (ht : 0 < t) (L : Lnk t c b e N es bs) (hp : ∀ s, (N.map (al t b e s)).sum ≤ (N.map (al t b e (c - 1))).sum) {k : Nat} {x y : Str} (hx : es[k]? = some x) (hy : bs[k]? = some y) : pos t c e x ≤ pos t c b y := by
  apply Decidable.byContradiction
  intro z
  have yb := pos_lt ht c b y
  have a := Al_at (N := N) (b := b) (e := e) (c := c) ht yb.1 yb.2 allA
  have h1 := hp (c + pos t c b y)
  unfold Al at a
  rw [sA_all, sA_all] at a
  have pe := sA_perm (A := allA) (f := lq (pos t c e) (pos t c b y)) L.ep
  have pb := sA_perm (A := allA) (f := lq (pos t c b) (pos t c b y)) L.bp
  rw [← pe, ← pb] at a
  -- begins: k + 1 at least
  have s1 := pw_take L.bs hy
  have s2 := pw_take L.es hx
  rw [split_at hx, split_at hy] at a
  rw [sA_app, sA_app, sA_cons, sA_cons] at a
  have lk : (es.take k).length = k ∧ (bs.take k).length = k := by
    have h1 := (List.getElem?_eq_some_iff.mp hx).1
    have h2 := (List.getElem?_eq_some_iff.mp hy).1
    rw [List.length_take, List.length_take]
    omega
  have cnt1 : ∀ l : List Str, sA allA one1 l = l.length := fun l => by
    induction l with
    | nil => rfl
    | cons n l ih => rw [sA_cons, ih, List.length_cons]; unfold allA one1; simp; omega
  have b1 : sA allA (lq (pos t c b) (pos t c b y)) (bs.take k) = (k : Int) := by
    rw [sA_ge (fun n hn => by unfold lq; rw [if_pos (s1.1 n hn)]), cnt1, lk.2]
  have b2 := sA_nn (A := allA) (f := lq (pos t c b) (pos t c b y)) (l := bs.drop (k + 1)) fun n _ => lq_one.1
  have b3 : (if allA y = true then lq (pos t c b) (pos t c b y) y else 0) = 1 := by unfold allA lq; simp
  have e1 : sA allA (lq (pos t c e) (pos t c b y)) (es.take k) ≤ (k : Int) := by
    have := sA_le (A := allA) (f := lq (pos t c e) (pos t c b y)) (g := one1) (l := es.take k) fun n _ _ => lq_one.2
    rw [cnt1, lk.1] at this
    exact this
  have e2 : sA allA (lq (pos t c e) (pos t c b y)) (es.drop (k + 1)) = 0 := by
    have := sA_congr (A := allA) (f := lq (pos t c e) (pos t c b y)) (g := fun _ => 0) (l := es.drop (k + 1)) fun n hn => by
      have := s2.2 n hn
      unfold lq
      rw [if_neg (by omega)]
    rw [this]
    generalize es.drop (k + 1) = l
    induction l with
    | nil => rfl
    | cons n l ih => rw [sA_cons, ih]; simp
  have e3 : (if allA x = true then lq (pos t c e) (pos t c b y) x else 0) = 0 := by unfold allA lq; simp; omega
  rw [b1, b3, e2, e3] at a
  omega
theorem sA_one_nn (A : Str → Bool) (l : List Str) : 0 ≤ sA A one1 l := sA_nn fun _ _ => by unfold one1; omega
/-- what one side ends and begins together belongs together -/
theorem Lnk.one (ht : 0 < t) (L : Lnk t c b e N es bs) (hp : ∀ s, (N.map (al t b e s)).sum ≤ (N.map (al t b e (c - 1))).sum) {A : Str → Bool} {a r : Int} (h : Apart t b e N A a r) {k : Nat} {x y : Str} (hx : es[k]? = some x) (hy : bs[k]? = some y)
    (ih : sA A one1 (es.take k) = sA A one1 (bs.take k)) (ih2 : sA (PC.nt A) one1 (es.take k) = sA (PC.nt A) one1 (bs.take k)) (hA : A x = true) : A y = true := by
  apply Decidable.byContradiction
  intro z
  have nA : PC.nt A y = true := by unfold PC.nt; simpa using z
  have yb := pos_lt ht c b y
  have xy := L.le ht hp hx hy
  obtain ⟨pa, pr⟩ := h.peak ht hp
  have s1 := pw_take L.bs hy
  have s2 := pw_take L.es hx
  have ca := Ac_at (N := N) (b := b) (e := e) (c := c) ht yb.1 yb.2 A
  have cr := Ac_at (N := N) (b := b) (e := e) (c := c) ht yb.1 yb.2 (PC.nt A)
  have lr := Al_at (N := N) (b := b) (e := e) (c := c) ht yb.1 yb.2 (PC.nt A)
  have mr := h.mr.1 (c + pos t c b y)
  have fu := h.fu (c + pos t c b y)
  rw [← sA_perm (A := A) (f := lt (pos t c b) (pos t c b y)) L.bp, ← sA_perm (A := A) (f := lq (pos t c e) (pos t c b y)) L.ep] at ca
  rw [← sA_perm (A := PC.nt A) (f := lt (pos t c b) (pos t c b y)) L.bp, ← sA_perm (A := PC.nt A) (f := lq (pos t c e) (pos t c b y)) L.ep] at cr
  rw [← sA_perm (A := PC.nt A) (f := lq (pos t c b) (pos t c b y)) L.bp, ← sA_perm (A := PC.nt A) (f := lq (pos t c e) (pos t c b y)) L.ep] at lr
  -- begins before y
  have blt : ∀ B : Str → Bool, sA B (lt (pos t c b) (pos t c b y)) bs ≤ sA B one1 (bs.take k) := fun B => by
    conv => lhs; rw [split_at hy]
    rw [sA_app, sA_cons]
    have h1 := sA_le (A := B) (f := lt (pos t c b) (pos t c b y)) (g := one1) (l := bs.take k) fun n _ _ => by
      have := lt_lq (f := pos t c b) (x := pos t c b y) (n := n)
      have := lq_one (f := pos t c b) (x := pos t c b y) (n := n)
      unfold one1
      omega
    have h2 : sA B (lt (pos t c b) (pos t c b y)) (bs.drop (k + 1)) ≤ 0 := by
      have := sA_le (A := B) (f := lt (pos t c b) (pos t c b y)) (g := fun _ => 0) (l := bs.drop (k + 1)) fun n hn _ => by
        have := s1.2 n hn
        unfold lt
        rw [if_neg (by omega)]
        exact Int.le_refl _
      have z0 : ∀ l : List Str, sA B (fun _ => 0) l = 0 := fun l => by
        induction l with
        | nil => rfl
        | cons n l ih => rw [sA_cons, ih]; simp
      rw [z0] at this
      exact this
    have h3 : (if B y = true then lt (pos t c b) (pos t c b y) y else 0) = 0 := by unfold lt; simp
    omega
  have elq : ∀ B : Str → Bool, sA B one1 (es.take k) + (if B x = true then 1 else 0) ≤ sA B (lq (pos t c e) (pos t c b y)) es := fun B => by
    conv => rhs; rw [split_at hx]
    rw [sA_app, sA_cons]
    have h1 : sA B (lq (pos t c e) (pos t c b y)) (es.take k) = sA B one1 (es.take k) := sA_ge fun n hn => by
      have := s2.1 n hn
      unfold lq
      rw [if_pos (by omega)]
    have h2 := sA_nn (A := B) (f := lq (pos t c e) (pos t c b y)) (l := es.drop (k + 1)) fun n _ => lq_one.1
    have h3 : lq (pos t c e) (pos t c b y) x = 1 := by unfold lq; rw [if_pos xy]
    rw [h1, h3]
    omega
  have blq : sA (PC.nt A) one1 (bs.take k) + 1 ≤ sA (PC.nt A) (lq (pos t c b) (pos t c b y)) bs := by
    conv => rhs; rw [split_at hy]
    rw [sA_app, sA_cons, if_pos nA]
    have h1 : sA (PC.nt A) (lq (pos t c b) (pos t c b y)) (bs.take k) = sA (PC.nt A) one1 (bs.take k) := sA_ge fun n hn => by
      have := s1.1 n hn
      unfold lq
      rw [if_pos (by omega)]
    have h2 := sA_nn (A := PC.nt A) (f := lq (pos t c b) (pos t c b y)) (l := bs.drop (k + 1)) fun n _ => lq_one.1
    have h3 : lq (pos t c b) (pos t c b y) y = 1 := by unfold lq; rw [if_pos (Int.le_refl _)]
    rw [h1, h3]
    omega
  have b1 := blt A
  have b2 := blt (PC.nt A)
  have e1 := elq A
  rw [if_pos hA] at e1
  rcases fu with f | f
  · omega
  · omega
theorem Lnk.len (L : Lnk t c b e N es bs) : es.length = bs.length := L.ep.length_eq.trans L.bp.length_eq.symm
theorem Lnk.sums (ht : 0 < t) (L : Lnk t c b e N es bs) (hp : ∀ s, (N.map (al t b e s)).sum ≤ (N.map (al t b e (c - 1))).sum) {A : Str → Bool} {a r : Int} (h : Apart t b e N A a r) : ∀ k : Nat, k ≤ es.length →
    sA A one1 (es.take k) = sA A one1 (bs.take k) ∧ sA (PC.nt A) one1 (es.take k) = sA (PC.nt A) one1 (bs.take k) ∧ ∀ p ∈ (es.zip bs).take k, A p.1 = A p.2
  | 0, _ => ⟨rfl, rfl, fun p hp => by simp at hp⟩
  | k + 1, hk => by
    obtain ⟨i1, i2, i3⟩ := Lnk.sums ht L hp h k (by omega)
    have le := L.len
    have hx : es[k]? = some es[k] := List.getElem?_eq_getElem (by omega)
    have hy : bs[k]? = some (bs[k]'(by omega)) := List.getElem?_eq_getElem (by omega)
    generalize es[k] = x at hx
    generalize bs[k]'(by omega) = y at hy
    have same : A x = A y := by
      cases q : A x with
      | true => exact (L.one ht hp h hx hy i1 i2 q).symm
      | false =>
        have := L.one (A := PC.nt A) ht hp h.nt hx hy i2 (by rw [nt_nt]; exact i1) (by unfold PC.nt; rw [q]; rfl)
        unfold PC.nt at this
        simpa using this.symm
    rw [List.take_add_one, List.take_add_one, hx, hy]
    refine ⟨?_, ?_, fun p hp => ?_⟩
    · show sA A one1 (_ ++ [x]) = sA A one1 (_ ++ [y])
      rw [sA_app, sA_app, i1, sA_cons, sA_cons, same]
      rfl
    · show sA (PC.nt A) one1 (_ ++ [x]) = sA (PC.nt A) one1 (_ ++ [y])
      rw [sA_app, sA_app, i2, sA_cons, sA_cons, show PC.nt A x = PC.nt A y by unfold PC.nt; rw [same]]
      rfl
    · rw [List.take_add_one] at hp
      rcases List.mem_append.mp hp with hp | hp
      · exact i3 p hp
      · have hz : (es.zip bs)[k]? = some (x, y) := by
          rw [List.getElem?_zip_eq_some]
          exact ⟨hx, hy⟩
        rw [hz] at hp
        simp at hp
        rw [hp]
        exact same
theorem Lnk.same (ht : 0 < t) (L : Lnk t c b e N es bs) (hp : ∀ s, (N.map (al t b e s)).sum ≤ (N.map (al t b e (c - 1))).sum) {A : Str → Bool} {a r : Int} (h : Apart t b e N A a r) : ∀ p ∈ es.zip bs, A p.1 = A p.2 := fun p hm => by
  have := (L.sums ht hp h es.length (Nat.le_refl _)).2.2 p
  rw [List.take_of_length_le (by rw [List.length_zip]; omega)] at this
  exact this hm
/-- a set of names that holds what is linked has its most at the peak -/
theorem Lnk.clo (ht : 0 < t) (L : Lnk t c b e N es bs) (hp : ∀ s, (N.map (al t b e s)).sum ≤ (N.map (al t b e (c - 1))).sum) {A : Str → Bool} (h : ∀ p ∈ es.zip bs, A p.1 = A p.2) (s : Int) : Al t b e N A s ≤ Al t b e N A (c - 1) := by
  have e0 : Al t b e N A s = Al t b e N A (c + (s - c) % t) := by
    have := Al_per (N := N) (b := b) (e := e) ht A (c + (s - c) % t) ((s - c) / t)
    rw [show c + (s - c) % t + t * ((s - c) / t) = s by have := Int.mul_ediv_add_emod (s - c) t; omega] at this
    exact this
  have x0 := Int.emod_nonneg (s - c) (b := t) (by omega)
  have x1 := Int.emod_lt_of_pos (s - c) ht
  generalize (s - c) % t = x at e0 x0 x1
  rw [e0, Al_at ht x0 x1, ← sA_perm L.bp, ← sA_perm L.ep]
  have := sA_zip (A := A) (f := lq (pos t c e) x) (g := lq (pos t c b) x) (l := es) (m := bs)
  have z : sA A (lq (pos t c b) x) bs ≤ sA A (lq (pos t c e) x) es := by
    refine sA_zip L.len.symm fun p hm => ?_
    obtain ⟨u, v⟩ := p
    obtain ⟨k, hk⟩ := List.getElem?_of_mem hm
    rw [List.getElem?_zip_eq_some] at hk
    dsimp only at hk
    have le := L.le ht hp hk.2 hk.1
    have sm := h (v, u) (List.mem_of_getElem? (by rw [List.getElem?_zip_eq_some]; exact ⟨hk.2, hk.1⟩))
    simp only at sm ⊢
    rw [sm]
    by_cases q : A u = true
    · rw [if_pos q, if_pos q]
      unfold lq
      by_cases q2 : pos t c b u ≤ x
      · rw [if_pos q2, if_pos (by omega)]; exact Int.le_refl _
      · rw [if_neg q2]
        split <;> omega
    · rw [if_neg q, if_neg q]; exact Int.le_refl _
  omega
end
/-! ### parts -/
section
variable {N : List Str} {ps : List (List Str)}
def inB (p : List Str) : Str → Bool := fun n => decide (n ∈ p)
structure Prt (N : List Str) (ps : List (List Str)) : Prop where
  nd : N.Nodup
  pm : ps.flatten.Perm N
  ne : ∀ p ∈ ps, p ≠ []
theorem Prt.fl (h : Prt N ps) : ps.flatten.Nodup := h.pm.nodup_iff.mpr h.nd
theorem Prt.mem (h : Prt N ps) {n : Str} : n ∈ N ↔ ∃ p ∈ ps, n ∈ p := by
  rw [← h.pm.mem_iff, List.mem_flatten]
theorem Prt.one (h : Prt N ps) {p q : List Str} (hp : p ∈ ps) (hq : q ∈ ps) {n : Str} (h1 : n ∈ p) (h2 : n ∈ q) : p = q := by
  have fl := h.fl
  clear h
  induction ps with
  | nil => cases hp
  | cons x ps ih =>
    rw [List.flatten_cons, List.nodup_append] at fl
    rcases List.mem_cons.mp hp with rfl | hp2
    · rcases List.mem_cons.mp hq with rfl | hq2
      · rfl
      · exact absurd rfl (fl.2.2 n h1 n (List.mem_flatten.mpr ⟨q, hq2, h2⟩))
    · rcases List.mem_cons.mp hq with rfl | hq2
      · exact absurd rfl (fl.2.2 n h2 n (List.mem_flatten.mpr ⟨p, hp2, h1⟩))
      · exact ih hp2 hq2 fl.2.1
theorem sA_in {f : Str → Int} (p : List Str) : ∀ {l : List Str}, (∀ n ∈ l, n ∈ p) → sA (inB p) f l = (l.map f).sum
  | [], _ => rfl
  | n :: l, h => by
    rw [sA_cons, sA_in p (l := l) (fun m hm => h m (List.mem_cons_of_mem _ hm)), List.map_cons, List.sum_cons, if_pos (show inB p n = true from decide_eq_true (h n List.mem_cons_self))]
theorem sA_out {f : Str → Int} (p : List Str) : ∀ {l : List Str}, (∀ n ∈ l, n ∉ p) → sA (inB p) f l = 0
  | [], _ => rfl
  | n :: l, h => by
    rw [sA_cons, sA_out p (l := l) (fun m hm => h m (List.mem_cons_of_mem _ hm)), if_neg (by unfold inB; simpa using h n List.mem_cons_self)]
    rfl
/-- the sum over a part, and over the others -/
theorem Prt.sum (h : Prt N ps) {p : List Str} (hp : p ∈ ps) (f : Str → Int) : sA (inB p) f N = (p.map f).sum ∧ ∃ l r, ps = l ++ p :: r ∧ sA (PC.nt (inB p)) f N = ((l ++ r).flatten.map f).sum := by
  obtain ⟨l, r, e⟩ := List.append_of_mem hp
  have fl := h.fl
  have a := sA_perm (A := inB p) (f := f) h.pm
  have c := sA_nt (A := inB p) (f := f) N
  have d : (N.map f).sum = (ps.flatten.map f).sum := by rw [← sA_all, ← sA_all]; exact (sA_perm h.pm).symm
  rw [e, List.flatten_append, List.flatten_cons, List.nodup_append, List.nodup_append] at fl
  have o1 : sA (inB p) f l.flatten = 0 := sA_out p fun n hn z => fl.2.2 n hn n (List.mem_append_left _ z) rfl
  have o2 : sA (inB p) f r.flatten = 0 := sA_out p fun n hn z => fl.2.1.2.2 n z n hn rfl
  rw [e, List.flatten_append, List.flatten_cons, sA_app, sA_app, o1, o2, sA_in p (fun n h => h)] at a
  rw [e, List.flatten_append, List.flatten_cons, List.map_append, List.map_append, List.sum_append, List.sum_append] at d
  refine ⟨by omega, l, r, e, ?_⟩
  rw [List.flatten_append, List.map_append, List.sum_append]
  omega
/-- the parts that hold one of some names become one -/
def hit (ns : List Str) (p : List Str) : Bool := ns.any fun n => decide (n ∈ p)
def mrg (ps : List (List Str)) (ns : List Str) : List (List Str) := ps.filter (fun p => !hit ns p) ++ [(ps.filter (hit ns)).flatten]
theorem hit_iff {ns p : List Str} : hit ns p = true ↔ ∃ n ∈ ns, n ∈ p := by
  unfold hit
  rw [List.any_eq_true]
  simp
theorem fil_perm (q : List Str → Bool) : ∀ ps : List (List Str), ((ps.filter fun p => !q p) ++ [(ps.filter q).flatten]).flatten.Perm ps.flatten
  | [] => by simp
  | x :: ps => by
    have ih := fil_perm q ps
    rw [List.flatten_append, List.flatten_cons, List.flatten_nil, List.append_nil] at ih ⊢
    cases e : q x with
    | true =>
      rw [List.filter_cons_of_neg (by rw [e]; decide), List.filter_cons_of_pos e, List.flatten_cons, List.flatten_cons]
      exact (List.perm_append_comm_assoc _ _ _).trans (List.Perm.append_left x ih)
    | false =>
      rw [List.filter_cons_of_pos (by rw [e]; decide), List.filter_cons_of_neg (by rw [e]; decide), List.flatten_cons, List.flatten_cons, List.append_assoc]
      exact List.Perm.append_left x ih
theorem mrg_mem {ns : List Str} {p : List Str} : p ∈ mrg ps ns ↔ (p ∈ ps ∧ hit ns p = false) ∨ p = (ps.filter (hit ns)).flatten := by
  unfold mrg
  rw [List.mem_append, List.mem_filter, List.mem_singleton]
  simp
theorem Prt.mrg (h : Prt N ps) {ns : List Str} (hn : ns ≠ []) (hN : ∀ n ∈ ns, n ∈ N) : Prt N (mrg ps ns) := by
  refine ⟨h.nd, (fil_perm (hit ns) ps).trans h.pm, fun p hp => ?_⟩
  rcases mrg_mem.mp hp with ⟨h1, _⟩ | rfl
  · exact h.ne p h1
  · intro z
    obtain ⟨n, ns', rfl⟩ : ∃ n ns', ns = n :: ns' := by cases ns with
      | nil => exact absurd rfl hn
      | cons n ns' => exact ⟨n, ns', rfl⟩
    obtain ⟨p, hp, hm⟩ := h.mem.mp (hN n List.mem_cons_self)
    have : n ∈ (ps.filter (hit (n :: ns'))).flatten := List.mem_flatten.mpr ⟨p, List.mem_filter.mpr ⟨hp, hit_iff.mpr ⟨n, List.mem_cons_self, hm⟩⟩, hm⟩
    rw [z] at this
    cases this
/-- what holds for members of old parts together holds in the new ones -/
theorem mrg_rel {ns : List Str} (h : Prt N ps) {rel : Str → Str → Prop} (tr : ∀ x y z, rel x y → rel y z → rel x z) (hs : ∀ p ∈ ps, ∀ x ∈ p, ∀ y ∈ p, rel x y) (hn : ∀ x ∈ ns, ∀ y ∈ ns, rel x y) : ∀ p ∈ mrg ps ns, ∀ x ∈ p, ∀ y ∈ p, rel x y := fun p hp x hx y hy => by
  rcases mrg_mem.mp hp with ⟨h1, _⟩ | rfl
  · exact hs p h1 x hx y hy
  · obtain ⟨p1, h1, x1⟩ := List.mem_flatten.mp hx
    obtain ⟨p2, h2, y2⟩ := List.mem_flatten.mp hy
    obtain ⟨m1, f1⟩ := List.mem_filter.mp h1
    obtain ⟨m2, f2⟩ := List.mem_filter.mp h2
    obtain ⟨u, hu, u1⟩ := hit_iff.mp f1
    obtain ⟨v, hv, v2⟩ := hit_iff.mp f2
    exact tr _ _ _ (hs p1 m1 x x1 u u1) (tr _ _ _ (hn u hu v hv) (hs p2 m2 v v2 y y2))
/-- what stands together stays together -/
theorem mrg_iff {ns : List Str} {x y : Str} (hs : ∀ p ∈ ps, x ∈ p ↔ y ∈ p) : ∀ p ∈ mrg ps ns, x ∈ p ↔ y ∈ p := fun p hp => by
  rcases mrg_mem.mp hp with ⟨h1, _⟩ | rfl
  · exact hs p h1
  · rw [List.mem_flatten, List.mem_flatten]
    constructor
    · rintro ⟨q, hq, hx⟩
      exact ⟨q, hq, (hs q (List.mem_filter.mp hq).1).mp hx⟩
    · rintro ⟨q, hq, hx⟩
      exact ⟨q, hq, (hs q (List.mem_filter.mp hq).1).mpr hx⟩
theorem mrg_in {ns : List Str} (h : Prt N ps) {x : Str} (hx : x ∈ ns) (hN : x ∈ N) {p : List Str} (hp : p ∈ mrg ps ns) : x ∈ p ↔ p = (ps.filter (hit ns)).flatten := by
  constructor
  · intro z
    rcases mrg_mem.mp hp with ⟨_, h2⟩ | e
    · have := hit_iff.mpr ⟨x, hx, z⟩
      rw [h2] at this
      cases this
    · exact e
  · rintro rfl
    obtain ⟨q, hq, hm⟩ := h.mem.mp hN
    exact List.mem_flatten.mpr ⟨q, List.mem_filter.mpr ⟨hq, hit_iff.mpr ⟨x, hx, hm⟩⟩, hm⟩
end
section
variable {t : Int} {N : List Str} {b e : Str → Int} {c : Int} {es bs : List Str}
def Rel (t : Int) (b e : Str → Int) (N : List Str) (x y : Str) : Prop := ∀ A a r, Apart t b e N A a r → A x = A y
theorem Rel.tr {x y z : Str} (h : Rel t b e N x y) (g : Rel t b e N y z) : Rel t b e N x z := fun A a r ap => (h A a r ap).trans (g A a r ap)
/-- a part that has free registers at a moment -/
def gA (t : Int) (b e : Str → Int) (c s : Int) : Str → Int := fun n => ac t b e s n - al t b e (c - 1) n
def Fre (t : Int) (b e : Str → Int) (c s : Int) (p : List Str) : Prop := (p.map (gA t b e c s)).sum < 0
/-- the parts while they grow: linked ones stand together, no part is torn by an apart set -/
structure Pcs (t : Int) (b e : Str → Int) (N : List Str) (c : Int) (es bs : List Str) (ps : List (List Str)) : Prop where
  pr : Prt N ps
  cl : ∀ q ∈ es.zip bs, ∀ p ∈ ps, q.1 ∈ p ↔ q.2 ∈ p
  re : ∀ p ∈ ps, ∀ x ∈ p, ∀ y ∈ p, Rel t b e N x y
theorem Pcs.clo {ps : List (List Str)} (ht : 0 < t) (L : Lnk t c b e N es bs) (hp : ∀ s, (N.map (al t b e s)).sum ≤ (N.map (al t b e (c - 1))).sum) (h : Pcs t b e N c es bs ps) {p : List Str} (hm : p ∈ ps) (s : Int) : Al t b e N (inB p) s ≤ Al t b e N (inB p) (c - 1) ∧ Al t b e N (PC.nt (inB p)) s ≤ Al t b e N (PC.nt (inB p)) (c - 1) := by
  have e1 : ∀ q ∈ es.zip bs, inB p q.1 = inB p q.2 := fun q hq => by
    unfold inB
    rw [decide_eq_decide]
    exact h.cl q hq p hm
  exact ⟨L.clo ht hp e1 s, L.clo ht hp (fun q hq => by unfold PC.nt; rw [e1 q hq]) s⟩
theorem gA_sum (A : Str → Bool) (s : Int) : sA A (gA t b e c s) N = Ac t b e N A s - Al t b e N A (c - 1) := sA_sub N
theorem Pcs.gle {ps : List (List Str)} (ht : 0 < t) (L : Lnk t c b e N es bs) (hp : ∀ s, (N.map (al t b e s)).sum ≤ (N.map (al t b e (c - 1))).sum) (h : Pcs t b e N c es bs ps) {p : List Str} (hm : p ∈ ps) (s : Int) : (p.map (gA t b e c s)).sum ≤ 0 := by
  rw [← (h.pr.sum hm (gA t b e c s)).1, gA_sum]
  have := (Ac_Al (N := N) (b := b) (e := e) ht (inB p) s).1
  have := (h.clo ht L hp hm s).1
  omega
theorem sum_flat (f : Str → Int) : ∀ ps : List (List Str), (ps.flatten.map f).sum = (ps.map fun p => (p.map f).sum).sum
  | [] => rfl
  | p :: ps => by rw [List.flatten_cons, List.map_append, List.sum_append, sum_flat f ps, List.map_cons, List.sum_cons]
theorem sum_nn : ∀ {l : List Int}, (∀ x ∈ l, 0 ≤ x) → 0 ≤ l.sum
  | [], _ => Int.le_refl _
  | x :: l, h => by
    have := sum_nn (l := l) fun y hy => h y (List.mem_cons_of_mem _ hy)
    have := h x List.mem_cons_self
    rw [List.sum_cons]; omega
theorem sum_np : ∀ {l : List Int}, (∀ x ∈ l, x ≤ 0) → l.sum ≤ 0 ∧ ∀ x ∈ l, x < 0 → l.sum < 0
  | [], _ => ⟨Int.le_refl _, fun x hx => by cases hx⟩
  | y :: l, h => by
    have i := sum_np (l := l) fun y hy => h y (List.mem_cons_of_mem _ hy)
    have := h y List.mem_cons_self
    rw [List.sum_cons]
    refine ⟨by omega, fun x hx z => ?_⟩
    rcases List.mem_cons.mp hx with rfl | hx
    · omega
    · have := i.2 x hx z
      omega
/-- two parts that have free registers at one moment are torn by no apart set -/
theorem Pcs.two {ps : List (List Str)} (ht : 0 < t) (L : Lnk t c b e N es bs) (hp : ∀ s, (N.map (al t b e s)).sum ≤ (N.map (al t b e (c - 1))).sum) (h : Pcs t b e N c es bs ps) {p q : List Str} (hm : p ∈ ps) (hq : q ∈ ps) {s : Int} (f1 : Fre t b e c s p) (f2 : Fre t b e c s q) : ∀ x ∈ p, ∀ y ∈ q, Rel t b e N x y := fun x hx y hy A a r ap => by
  apply Decidable.byContradiction
  intro z
  -- what is free lies on one side
  have side : ∀ {B : Str → Bool} {u v : Int}, Apart t b e N B u v → ∀ {p : List Str}, p ∈ ps → Fre t b e c s p → ∀ x ∈ p, B x = true → Ac t b e N B s < u := fun {B u v} ap {p} hm f x hx hB => by
    have pk := (ap.peak ht hp).1
    have g0 := gA_sum (N := N) (t := t) (b := b) (e := e) (c := c) B s
    -- the sum over B is that of its parts
    have e1 : sA B (gA t b e c s) N = (ps.map fun p => sA B (gA t b e c s) p).sum := by
      rw [← sA_perm h.pr.pm]
      generalize ps = l
      induction l with
      | nil => rfl
      | cons p l ih => rw [List.flatten_cons, sA_app, ih, List.map_cons, List.sum_cons]
    have all : ∀ q ∈ ps, sA B (gA t b e c s) q = (q.map (gA t b e c s)).sum ∨ sA B (gA t b e c s) q = 0 := fun q hq => by
      by_cases w : ∃ n ∈ q, B n = true
      · obtain ⟨n, hn, hb⟩ := w
        left
        rw [← sA_all]
        exact sA_congrA fun m hm => by
          have := h.re q hq m hm n hn B u v ap
          unfold allA
          rw [this, hb]
      · right
        have : sA B (gA t b e c s) q = sA (fun _ => false) (gA t b e c s) q := sA_congrA fun m hm => by
          cases e : B m with
          | true => exact absurd ⟨m, hm, e⟩ w
          | false => rfl
        rw [this]
        generalize q = l
        induction l with
        | nil => rfl
        | cons n l ih => rw [sA_cons, ih]; rfl
    have np := sum_np (l := ps.map fun p => sA B (gA t b e c s) p) fun v hv => by
      obtain ⟨q, hq, rfl⟩ := List.mem_map.mp hv
      have := h.gle ht L hp hq s
      rcases all q hq with w | w <;> omega
    have fp : sA B (gA t b e c s) p < 0 := by
      have : sA B (gA t b e c s) p = (p.map (gA t b e c s)).sum := by
        rw [← sA_all]
        exact sA_congrA fun m hm' => by
          have := h.re p hm m hm' x hx B u v ap
          unfold allA
          rw [this, hB]
      rw [this]
      exact f
    have := np.2 _ (List.mem_map.mpr ⟨p, hm, rfl⟩) fp
    omega
  have fu := ap.fu s
  cases ex : A x with
  | true =>
    have ey : PC.nt A y = true := by
      unfold PC.nt
      cases ey : A y with
      | true => exact absurd (ex.trans ey.symm) z
      | false => rfl
    have s1 := side ap hm f1 x hx ex
    have s2 := side ap.nt hq f2 y hy ey
    omega
  | false =>
    have ey : A y = true := by
      cases ey : A y with
      | true => rfl
      | false => exact absurd (ex.trans ey.symm) z
    have s1 := side ap hq f2 y hy ey
    have s2 := side ap.nt hm f1 x hx (by unfold PC.nt; rw [ex]; rfl)
    omega
/-- a part is apart when at each moment one part at most has free registers -/
theorem Pcs.apart {ps : List (List Str)} (ht : 0 < t) (L : Lnk t c b e N es bs) (hp : ∀ s, (N.map (al t b e s)).sum ≤ (N.map (al t b e (c - 1))).sum) (h : Pcs t b e N c es bs ps) (one : ∀ s : Int, 0 ≤ s → s < t → ∀ p ∈ ps, ∀ q ∈ ps, Fre t b e c s p → Fre t b e c s q → p = q) {p : List Str} (hm : p ∈ ps) : Apart t b e N (inB p) (Al t b e N (inB p) (c - 1)) (Al t b e N (PC.nt (inB p)) (c - 1)) := by
  refine ⟨⟨fun s => (h.clo ht L hp hm s).1, c - 1, rfl⟩, ⟨fun s => (h.clo ht L hp hm s).2, c - 1, rfl⟩, fun s => ?_⟩
  have per : ∀ B : Str → Bool, Ac t b e N B s = Ac t b e N B (s % t) := fun B => by
    have := Ac_per (N := N) (b := b) (e := e) ht B (s % t) (s / t)
    rw [show s % t + t * (s / t) = s by have := Int.mul_ediv_add_emod s t; omega] at this
    exact this
  rw [per, per]
  have x0 := Int.emod_nonneg s (b := t) (by omega)
  have x1 := Int.emod_lt_of_pos s ht
  generalize s % t = x at x0 x1
  obtain ⟨s1, l, r, el, s2⟩ := h.pr.sum hm (gA t b e c x)
  rw [gA_sum] at s1 s2
  by_cases f : Fre t b e c x p
  · right
    have nn : 0 ≤ ((l ++ r).flatten.map (gA t b e c x)).sum := by
      rw [sum_flat]
      refine sum_nn fun v hv => ?_
      obtain ⟨q, hq, rfl⟩ := List.mem_map.mp hv
      have hqp : q ∈ ps := by
        rw [el]
        rcases List.mem_append.mp hq with w | w
        · exact List.mem_append_left _ w
        · exact List.mem_append_right _ (List.mem_cons_of_mem _ w)
      apply Decidable.byContradiction
      intro z
      have e2 := one x x0 x1 p hm q hqp f (by unfold Fre; omega)
      -- q is p: it stands twice
      subst e2
      have fl := h.pr.fl
      rw [el, List.flatten_append, List.flatten_cons, List.nodup_append, List.nodup_append] at fl
      have ne := h.pr.ne p hm
      obtain ⟨n, p', rfl⟩ : ∃ n p', p = n :: p' := by cases p with
        | nil => exact absurd rfl ne
        | cons n p' => exact ⟨n, p', rfl⟩
      rcases List.mem_append.mp hq with w | w
      · exact fl.2.2 n (List.mem_flatten.mpr ⟨_, w, List.mem_cons_self⟩) n (List.mem_append_left _ List.mem_cons_self) rfl
      · exact fl.2.1.2.2 n List.mem_cons_self n (List.mem_flatten.mpr ⟨_, w, List.mem_cons_self⟩) rfl
    have := (Ac_Al (N := N) (b := b) (e := e) ht (PC.nt (inB p)) x).1
    have := (h.clo ht L hp hm x).2
    omega
  · left
    unfold Fre at f
    have := (Ac_Al (N := N) (b := b) (e := e) ht (inB p) x).1
    have := (h.clo ht L hp hm x).1
    omega
/-- the parts are the classes of names that no apart set tears -/
theorem Pcs.rel {ps : List (List Str)} (ht : 0 < t) (L : Lnk t c b e N es bs) (hp : ∀ s, (N.map (al t b e s)).sum ≤ (N.map (al t b e (c - 1))).sum) (h : Pcs t b e N c es bs ps) (one : ∀ s : Int, 0 ≤ s → s < t → ∀ p ∈ ps, ∀ q ∈ ps, Fre t b e c s p → Fre t b e c s q → p = q) {p : List Str} (hm : p ∈ ps) {x y : Str} (hx : x ∈ p) (hy : y ∈ N) : y ∈ p ↔ Rel t b e N x y := by
  constructor
  · intro z
    exact h.re p hm x hx y z
  · intro z
    have := z _ _ _ (h.apart ht L hp one hm)
    unfold inB at this
    rw [decide_eq_true hx] at this
    exact of_decide_eq_true this.symm
end
end PC
namespace K40
open PySem L2
open PyProof.Rows PySem.Spec
theorem dp_allS {K : PySem.W.Frag} {H : Hp} : ∀ ns : List Str, DpAll K H (ns.map V.str) (ns.map PyData.str)
  | [] => .nil
  | n :: r => .cons (.str n) (dp_allS r)
/-- a comprehension that makes one value of each item and keeps all -/
theorem lc_map {J : It} {G : Hp → Prop} {xs : List V} (w : Walk J xs.length G (YAt xs)) {g : TG} {tt : TT} {te : TE} {vs : List Nat} {σ : L2.St} {H1 : Hp} {D : Addr} {Qd : Hp → Prop} (f : V → V) (hG : ∀ H', Same H1 H' → G H') (h63 : xs.length ≤ 63) (hD : H1 D = none)
    (hs : ∀ x H', x ∈ xs → Same H1 H' → ∀ (C : VK) (N : Hp → Prop), (∀ H'', Same H' H'' → C (f x) H'') → g x (wipe σ vs) H' fun σ2 H2 => wipe σ2 vs = wipe σ vs ∧ tt σ2 H2 fun b H3 => if b = true then te σ2 H3 C else N H3)
    (hd : ∀ H', Same H1 H' → H' D = some (.lst (xs.map f)) → Qd H') :
    ∃ W : Nat → Nat → Hp → Prop, (∃ m, W 0 m
                                             (upd H1 D (.lst []))) ∧ ∀ i m H, W i m H →
      (J.stop i H ∧ Qd H) ∨ (J.go i H ∧ ∃ Nx : Hp → Prop, (∀ H', Nx H' → ∃ m', m' < m ∧ W
                                                                                          (i + 1) m' H') ∧ ∀ x H', J.yld i H x H' → g x (wipe σ vs) H' fun σ2 H2 => wipe σ2 vs = wipe σ vs ∧ tt σ2 H2 fun b H3 =>
        if b = true then te σ2 H3 fun y H4 => ∃ acc, H4 D = some
                                                                 (.lst acc) ∧ acc.length < sizeLine ∧ Nx (upd H4 D (.lst (acc ++ [y]))) else Nx H3) := by
  refine lc_it w (fun i H' => Same H1 H' ∧ H' D = some (.lst ((xs.take i).map f))) ⟨Same.new hD, upd_same⟩ (fun i H' _ h => hG H' h.1) ?_ (fun H' h => hd H' h.1 (by rw [h.2, List.take_length]))
  rintro i x Ha Hb hi ⟨Sa, eD⟩ ⟨rfl, hx⟩
  refine hs x _ (List.mem_of_getElem? hx) Sa _ _ fun Hc Sc => ?_
  refine ⟨_, Sc _ _ eD, by rw [List.length_map, List.length_take, sizeLine_eq]; omega, Same.at hD (Same.trans Sa Sc), ?_⟩
  rw [upd_same, List.take_add_one, hx]
  simp
theorem lay_strs {c : List Str} (h : ∀ n ∈ c, nmC n = true) : PyData.canLayAll0 (c.map PyData.str) = true ∧ PyData.depthAll (c.map PyData.str) ≤ 1 := by
  have := shaped_names h
  unfold SeqAt.shaped at this
  rw [Bool.and_eq_true, decide_eq_true_eq] at this
  refine ⟨by simpa [PyData.canLay0] using this.1, ?_⟩
  clear this
  induction c with
  | nil => simp [PyData.depthAll]
  | cons a c ih =>
    have := ih fun n hn => h n (List.mem_cons_of_mem _ hn)
    simp only [List.map_cons, PyData.depthAll, PyData.depth]
    omega
theorem shaped_cyc : ∀ {cs : List (List Str)}, (∀ c ∈ cs, ∀ n ∈ c, nmC n = true) → PyData.canLayAll0 (cs.map fun c => PyData.tuple (c.map PyData.str)) = true ∧ PyData.depthAll (cs.map fun c => PyData.tuple (c.map PyData.str)) ≤ 2
  | [], _ => ⟨by simp [PyData.canLayAll0], by simp [PyData.depthAll]⟩
  | c :: cs, h => by
    obtain ⟨a1, a2⟩ := lay_strs (h c List.mem_cons_self)
    obtain ⟨b1, b2⟩ := shaped_cyc fun d hd => h d (List.mem_cons_of_mem _ hd)
    refine ⟨by simpa [PyData.canLayAll0, PyData.canLay0, a1] using b1, ?_⟩
    simp only [List.map_cons, PyData.depthAll, PyData.depth]
    omega
/-- over the items of a list or of a tuple -/
def iAny (K : PySem.W.Frag) (tl : TE) : TI := fun σ H R => iList K tl σ H R ∨ iTup K tl σ H R
theorem pi_any {X : Cx} {K : PySem.W.Frag} {tg l : Expr} {tl : TE} (hK : X.K = K) (hl : PE X l tl) : PI X tg l (iAny K tl) := by
  subst hK
  exact ⟨fun pins s σ H R I h => h.elim ((pi_list hl).run pins s σ H R I) ((pi_tup hl).run pins s σ H R I)⟩
theorem pi_tupK {X : Cx} {K : PySem.W.Frag} {tg l : Expr} {tl : TE} (hK : X.K = K) (hl : PE X l tl) : PI X tg l (iTup K tl) := by
  subst hK
  exact pi_tup hl
theorem cr_anyK {X : Cx} {K : PySem.W.Frag} (hK : X.K = K) (hc : X.calm = true) : CallR X (.builtin "any") (rAny K) := by
  subst hK
  exact cr_any hc
/-- parts of names in a list -/
abbrev AP := List (Addr × List Str)
def refs (ap : AP) : List V := ap.map fun x => V.ref x.1
def prt (ap : AP) : List (List Str) := ap.map (·.2)
def PTs (H : Hp) (ap : AP) : Prop := ∀ x ∈ ap, H x.1 = some (.tup (x.2.map V.str))
theorem PTs.keep {H H' : Hp} {ap : AP} (h : PTs H ap) (k : KT H H') : PTs H' ap := fun x hx => k _ _ (h x hx)
theorem refs_at {ap : AP} {i : Nat} {v : V} (h : (refs ap)[i]? = some v) : ∃ x, ap[i]? = some x ∧ v = V.ref x.1 := by
  unfold refs at h
  rw [List.getElem?_map] at h
  cases e : ap[i]? with
  | none => rw [e] at h; cases h
  | some x => rw [e] at h; cases h; exact ⟨x, rfl, rfl⟩
theorem str_at {c : List Str} {i : Nat} {v : V} (h : (c.map V.str)[i]? = some v) : ∃ n, c[i]? = some n ∧ v = V.str n := by
  rw [List.getElem?_map] at h
  cases e : c[i]? with
  | none => rw [e] at h; cases h
  | some x => rw [e] at h; cases h; exact ⟨x, rfl, rfl⟩
/-- a comprehension that keeps some of its items -/
theorem lc_fil {J : It} {G : Hp → Prop} {ap : AP} (w : Walk J (refs ap).length G (YAt (refs ap))) {g : TG} {tt : TT} {te : TE} {vs : List Nat} {σ : L2.St} {H1 : Hp} {D : Addr} {Qd : Hp → Prop} (f : Addr × List Str → Bool) (hG : ∀ H', Same H1 H' → G H') (h63 : ap.length ≤ 63) (hD : H1 D = none)
    (hs : ∀ x H', x ∈ ap → Same H1 H' → ∀ (C : VK) (N : Hp → Prop), (∀ H'', Same H' H'' → if f x = true then C (.ref x.1) H'' else N H'') → g (.ref x.1) (wipe σ vs) H' fun σ2 H2 => wipe σ2 vs = wipe σ vs ∧ tt σ2 H2 fun b H3 => if b = true then te σ2 H3 C else N H3)
    (hd : ∀ H', Same H1 H' → H' D = some (.lst (refs (ap.filter f))) → Qd H') :
    ∃ W : Nat → Nat → Hp → Prop, (∃ m, W 0 m
                                             (upd H1 D (.lst []))) ∧ ∀ i m H, W i m H →
      (J.stop i H ∧ Qd H) ∨ (J.go i H ∧ ∃ Nx : Hp → Prop, (∀ H', Nx H' → ∃ m', m' < m ∧ W
                                                                                          (i + 1) m' H') ∧ ∀ x H', J.yld i H x H' → g x (wipe σ vs) H' fun σ2 H2 => wipe σ2 vs = wipe σ vs ∧ tt σ2 H2 fun b H3 =>
        if b = true then te σ2 H3 fun y H4 => ∃ acc, H4 D = some
                                                                 (.lst acc) ∧ acc.length < sizeLine ∧ Nx (upd H4 D (.lst (acc ++ [y]))) else Nx H3) := by
  refine lc_it w (fun i H' => Same H1 H' ∧ H' D = some (.lst (refs ((ap.take i).filter f)))) ⟨Same.new hD, upd_same⟩ (fun i H' _ h => hG H' h.1) ?_ (fun H' h => hd H' h.1 (by have := h.2; rw [List.take_of_length_le (by unfold refs; rw [List.length_map]; exact Nat.le_refl _)] at this; exact this))
  rintro i x Ha Hb hi ⟨Sa, eD⟩ ⟨rfl, hx⟩
  obtain ⟨y, ey, rfl⟩ := refs_at hx
  have hf : (ap.take (i + 1)).filter f = (ap.take i).filter f ++ if f y = true then [y] else [] := by
    rw [List.take_add_one, ey, List.filter_append]
    by_cases q : f y = true
    · simp [q]
    · simp [q]
  refine hs y _ (List.mem_of_getElem? ey) Sa _ _ fun Hc Sc => ?_
  by_cases q : f y = true
  · rw [if_pos q]
    refine ⟨_, Sc _ _ eD, ?_, Same.at hD (Same.trans Sa Sc), ?_⟩
    · unfold refs
      rw [List.length_map, sizeLine_eq]
      have := List.length_filter_le f (ap.take i)
      rw [List.length_take] at this
      omega
    · rw [upd_same, hf, if_pos q]
      unfold refs
      simp
  · rw [if_neg q]
    refine ⟨Same.trans Sa Sc, ?_⟩
    rw [hf, if_neg q, List.append_nil]
    exact Sc _ _ eD
theorem un65 {k : Nat} {A : Around} (r : Room k A) : A.units + 65 < cLine := by
  have := r.un
  omega
theorem op_notInDK {X : Cx} {K : PySem.W.Frag} (hK : X.K = K) (hu : X.A.units + 65 < cLine) : OpR X (compareOp .NotIn) (rNotInD K) := by
  subst hK
  exact op_notInD hu
theorem op_in_seqK {X : Cx} {K : PySem.W.Frag} (hK : X.K = K) : OpR X (compareOp .In) (rIn K false) := by
  subst hK
  exact op_in_seq
theorem hit_nil {p : List Str} : PC.hit [] p = false := rfl
section
variable {P : Program} {w : World} {K : PySem.W.Frag}
                                                      {mg : Str → Option Value} {base : Heap}
/-- some names, in a list or in a tuple -/
def NmAt (K : PySem.W.Frag) (H : Hp) (a : Addr) (ns : List Str) : Prop := H a = some (.lst (ns.map V.str)) ∨ SqT K H a (ns.map V.str)
theorem NmAt.same {K : PySem.W.Frag} {H H' : Hp} {a : Addr} {ns : List Str} (s : Same H H') (h : NmAt K H a ns) : NmAt K H' a ns := h.imp (fun e => s _ _ e) fun e => Same.seqT s e
theorem any_seq {K : PySem.W.Frag} {H : Hp} {a : Addr} {ns : List Str} {σ : L2.St} {i : Nat} {R : It → Hp → Prop} (h : NmAt K H a ns) (hv : σ[i]? = some (some (.ref a))) (kR : ∀ J G, Walk J (ns.map V.str).length G (YAt (ns.map V.str)) → (∀ H', Same H H' → G H') → R J H) : iAny K (tVar i) σ H R := by
  rcases h with h | h
  · exact .inl ⟨_, hv, a, rfl, ⟨_, SqL.of h⟩, kR _ _ (walk_list (K := K) (a := a) (xs := ns.map V.str)) fun H' s => SqL.of (s _ _ h)⟩
  · exact .inr ⟨_, hv, a, rfl, ⟨_, h⟩, kR _ _ (walk_tup (K := K) (a := a) (xs := ns.map V.str)) fun H' s => Same.seqT s h⟩
def partD (p : List Str) : PyData := .tuple (p.map PyData.str)
theorem eqv_strs : ∀ a b : List Str, PyData.eqvAll (a.map PyData.str) (b.map PyData.str) = decide (a = b)
  | [], [] => rfl
  | [], _ :: _ => rfl
  | _ :: _, [] => rfl
  | x :: a, y :: b => by
    rw [List.map_cons, List.map_cons, PyData.eqvAll, eqv_strs a b, Bool.eq_iff_iff]
    simp [PyData.eqv]
theorem eqv_part (a b : List Str) : PyData.eqv (partD a) (partD b) = decide (a = b) := by
  unfold partD
  rw [show PyData.eqv (.tuple (a.map PyData.str)) (.tuple (b.map PyData.str)) = PyData.eqvAll (a.map PyData.str) (b.map PyData.str) by simp [PyData.eqv], eqv_strs]
theorem any_part (L : List (List Str)) (q : List Str) : ((L.map partD).any fun z => PyData.eqv z (partD q)) = decide (q ∈ L) := by
  induction L with
  | nil => simp
  | cons a L ih =>
    rw [List.map_cons, List.any_cons, ih, eqv_part, Bool.eq_iff_iff]
    simp only [Bool.or_eq_true, decide_eq_true_eq, List.mem_cons]
    exact or_congr_left eq_comm
theorem part_dp {K : PySem.W.Frag} {H : Hp} {a : Addr} {p : List Str} (h : H a = some (.tup (p.map V.str))) : Dp K H (.ref a) (partD p) := .tup (SqT.of h) (dp_allS p)
theorem parts_dp {K : PySem.W.Frag} {H : Hp} : ∀ {ap : AP}, PTs H ap → DpAll K H (refs ap) ((prt ap).map partD)
  | [], _ => .nil
  | x :: ap, h => .cons (part_dp (h x List.mem_cons_self)) (parts_dp (ap := ap) fun y hy => h y (List.mem_cons_of_mem _ hy))
theorem shaped_part {p : List Str} (h : ∀ n ∈ p, nmC n = true) : SeqAt.shaped (partD p) = true := by
  have a := lay_strs h
  unfold SeqAt.shaped partD
  rw [Bool.and_eq_true, decide_eq_true_eq]
  refine ⟨by simpa [PyData.canLay0] using a.1, ?_⟩
  simp only [PyData.depth]
  omega
theorem shaped_parts {L : List (List Str)} (h : ∀ p ∈ L, ∀ n ∈ p, nmC n = true) : SeqAt.shaped (.list (L.map partD)) = true := by
  have a := shaped_cyc h
  unfold SeqAt.shaped
  rw [Bool.and_eq_true, decide_eq_true_eq]
  have a1 : PyData.canLayAll0 (L.map partD) = true := a.1
  refine ⟨by simpa [PyData.canLay0] using a1, ?_⟩
  have : PyData.depthAll (L.map partD) ≤ 2 := a.2
  simp only [PyData.depth]
  omega
theorem any_map_id (ns p : List Str) : (ns.map fun n => decide (n ∈ p)).any id = PC.hit ns p := by
  unfold PC.hit
  rw [List.any_map]
  rfl
def sp_merged (K : PySem.W.Frag) : Sp := fun vs H Q _ => ∃ (pa na : Addr) (ap : AP) (ns : List Str), vs = [.ref pa, .ref na] ∧ H pa = some (.lst (refs ap)) ∧ PTs H ap ∧ NmAt K H na ns ∧ ns.length ≤ 8 ∧ ap.length ≤ 8 ∧ (∀ x ∈ ap, x.2.length ≤ 8 ∧ ∀ n ∈ x.2, nmC n = true) ∧
  ∀ q ap' H', Same H H' → H q = none → H' q = some (.lst (refs ap')) → PTs H' ap' → prt ap' = PC.mrg (prt ap) ns → Q (.ref q) H'
theorem ok_merged (T : T K mg) : FnOk P w K mg base CX0 2 T.f_merged T.d_merged ["parts", "names"] (sp_merged K) := by
  refine T.F_merged.ok sc_merged (fun vs H Q E h => ?_) (fun cdv A outer s H vs Q E hr h => ?_)
  · obtain ⟨pa, na, ap, ns, rfl, _⟩ := h
    rfl
  · obtain ⟨pa, na, ap, ns, rfl, hpa, hap, hna, l8, p8, nm, k⟩ := h
    have hu := hu_of hr
    refine ⟨_, PSs.nox (pss_cons (ps_set (i := 2) sc_merged.nd rfl (Or.inr rfl) (pe_lc (own := [("part", 4)]) (g := gName 4) rfl sc_merged.nd (pi_list (pv 0)) (blkOk_by (N := ["parts", "names", "chosen", "others", "part", "name"]) (sc := defScope s_merged) (by decide +kernel)) (fun _ _ _ _ _ => (pg_name (i := 4) sc_merged.nd rfl (Or.inr rfl))) (fun _ _ _ _ _ => pts_one (pt_val (pe_callB (cr_anyK (K := K) rfl rfl) (by rfl) T.z_any (by decide +kernel) (pa_cons (pe_lc (own := [("name", 5)]) (g := gName 5) rfl sc_merged.nd (pi_any (K := K) rfl (pv 1)) (blkOk_by (N := ["parts", "names", "chosen", "others", "part", "name"]) (sc := _) (by rfl)) (fun _ _ _ _ _ => (pg_name (i := 5) sc_merged.nd rfl (Or.inl rfl))) (fun _ _ _ _ _ => pts_nil) (fun _ _ _ _ _ => (pe_cmpR (op_in_seqK (K := K) rfl) (pv 5) (pv 4) (by with_unfolding_all rfl)))) pa_nil)))) (fun _ _ _ _ _ => (pv 4))))
      (pss_cons (ps_setLc (i := 3) (own := [("part", 4)]) (g := gName 4) rfl sc_merged.nd rfl rfl (sw_true rfl rfl rfl (by decide +kernel)) (pi_list (pv 0)) (blkOk_by (N := ["parts", "names", "chosen", "others", "part", "name"]) (sc := defScope s_merged) (by decide +kernel)) (fun _ _ _ _ _ => (pg_name (i := 4) sc_merged.nd rfl (Or.inl rfl))) (fun _ _ _ _ _ => pts_one (pt_cmpR (op_notInDK (K := K) rfl (un65 hr)) (pv 4) (pv 2) (by with_unfolding_all rfl))) (fun _ _ _ _ _ => (pv 4)))
      (pss_one (ps_ret (pe_op op_cat (pv 3) (pe_lst (pa_cons (pe_callTy call_tuple_of (by rfl) T.z_tuple (by decide +kernel) (pa_cons (pe_lc2 (own := [("part", 4), ("name", 5)]) (vs1 := [5]) (g := gName 4) (g1 := gName 5) rfl sc_merged.nd (pi_list (pv 2)) (blkOk_by (N := ["parts", "names", "chosen", "others", "part", "name"]) (sc := defScope s_merged) (by decide +kernel)) (by decide) (fun _ _ _ _ _ => (pg_name (i := 4) sc_merged.nd rfl (Or.inl rfl))) (fun _ _ _ _ _ => pts_nil) (fun _ _ _ _ _ => (pi_tupK (K := K) rfl (pv 4))) (fun _ _ _ _ _ => (pg_name (i := 5) sc_merged.nd rfl (Or.inl rfl))) (fun _ _ _ _ _ => pts_nil) (fun _ _ _ _ _ => (pv 5))) pa_nil)) pa_nil))))))), ?_⟩
    refine ⟨_, rfl, pa, rfl, ⟨_, SqL.of hpa⟩, fun D1 hD1 => ?_⟩
    refine lc_fil (walk_list (K := K) (a := pa) (xs := refs ap)) (fun x => PC.hit ns x.2) (fun H' s => SqL.of (s _ _ hpa)) (by omega) hD1 ?_ ?_
    · intro x Ha hx Sa C N kC
      refine ⟨rfl, ?_⟩
      have hxa := Sa _ _ (hap x hx)
      refine any_seq (hna.same Sa) rfl fun J G wk hG => fun D2 hD2 => ?_
      refine lc_map wk (fun v => match v with | .str n => .bl (decide (n ∈ x.2)) | _ => .bl false) hG (by rw [List.length_map]; omega) hD2 ?_ ?_
      · intro v Hb hv Sb C2 N2 kC2
        obtain ⟨n, hn, rfl⟩ := List.mem_map.mp hv
        refine ⟨rfl, ?_⟩
        unfold tYes
        dsimp only
        rw [if_pos rfl]
        refine ⟨_, rfl, _, rfl, x.1, _, rfl, .inr (SqT.of (Sb _ _ hxa)), rfl, flat_strs _, ?_⟩
        rw [inV_strs]
        exact kC2 _ (Same.refl _)
      · intro Hb Sb e2
        refine ⟨D2, ns.map fun n => decide (n ∈ x.2), rfl, SqL.of (by rw [e2]; simp [List.map_map, Function.comp_def]), ?_⟩
        rw [any_map_id]
        refine ⟨_, rfl, ?_⟩
        have kk := kC Hb Sb
        dsimp only
        by_cases q : PC.hit ns x.2 = true
        · rw [if_pos q] at kk ⊢
          exact ⟨_, rfl, kk⟩
        · rw [if_neg q] at kk ⊢
          exact kk
    intro H1 S1 e1
    have hpa1 := S1 _ _ hpa
    have hap1 := hap.keep (KT.same S1)
    refine ⟨_, rfl, pa, rfl, ⟨_, SqL.of hpa1⟩, fun D2 hD2 => ?_⟩
    refine lc_fil (walk_list (K := K) (a := pa) (xs := refs ap)) (fun x => !PC.hit ns x.2) (fun H' s => SqL.of (s _ _ hpa1)) (by omega) hD2 ?_ ?_
    · intro x Ha hx Sa C N kC
      refine ⟨rfl, ?_⟩
      have capF : PTs Ha (ap.filter fun x => PC.hit ns x.2) := fun y hy => Sa _ _ (hap1 y (List.mem_filter.mp hy).1)
      refine ⟨_, rfl, _, rfl, partD x.2, _, part_dp (Sa _ _ (hap1 x hx)), .lst (SqL.of (Sa _ _ e1)) (parts_dp capF), shaped_part (nm x hx).2, shaped_parts (fun p hp => ?_), _, rfl, ?_⟩
      · obtain ⟨y, hy, rfl⟩ := List.mem_map.mp hp
        exact (nm y (List.mem_filter.mp hy).1).2
      rw [any_part]
      have em : decide (x.2 ∈ prt (ap.filter fun x => PC.hit ns x.2)) = PC.hit ns x.2 := by
        cases q : PC.hit ns x.2 with
        | true => exact decide_eq_true (List.mem_map.mpr ⟨x, List.mem_filter.mpr ⟨hx, q⟩, rfl⟩)
        | false =>
          refine decide_eq_false fun z => ?_
          obtain ⟨y, hy, ey⟩ := List.mem_map.mp z
          have := (List.mem_filter.mp hy).2
          rw [ey, q] at this
          cases this
      rw [em]
      have kk := kC Ha (Same.refl _)
      dsimp only
      by_cases q : (!PC.hit ns x.2) = true
      · rw [if_pos q] at kk ⊢
        exact ⟨_, rfl, kk⟩
      · rw [if_neg q] at kk ⊢
        exact kk
    intro H2 S2 e2
    have e12 := S2 _ _ e1
    have hap2 := hap1.keep (KT.same S2)
    have capF : PTs H2 (ap.filter fun x => PC.hit ns x.2) := fun y hy => hap2 y (List.mem_filter.mp hy).1
    have capL : (ap.filter fun x => PC.hit ns x.2).length ≤ 8 := Nat.le_trans (List.length_filter_le _ _) p8
    have cn : ∀ x ∈ ap.filter fun x => PC.hit ns x.2, x.2.length ≤ 8 := fun x hx => (nm x (List.mem_filter.mp hx).1).1
    refine ⟨_, rfl, _, rfl, D1, rfl, ⟨_, SqL.of e12⟩, fun D3 hD3 => ?_⟩
    generalize hcp : (ap.filter fun x => PC.hit ns x.2) = cp at *
    -- the names of the chosen
    have w1 := walk_list (K := K) (a := D1) (xs := refs cp)
    have lrefs : (refs cp).length = cp.length := by unfold refs; rw [List.length_map]
    refine ⟨fun i m H' => m = cp.length - i ∧ i ≤ cp.length ∧ Same H2 H' ∧ H' D3 = some (.lst (((prt cp).take i).flatten.map V.str)), ⟨cp.length, by simp, Nat.zero_le _, Same.new hD3, upd_same⟩, ?_⟩
    rintro i m H' ⟨rfl, hi, S', e'⟩
    by_cases lt : i < cp.length
    · refine .inr ⟨w1.goes i H' (by rw [lrefs]; exact lt) (SqL.of (S' _ _ e12)), fun H'' => i + 1 ≤ cp.length ∧ Same H2 H'' ∧ H'' D3 = some (.lst (((prt cp).take (i + 1)).flatten.map V.str)), fun H'' h => ⟨cp.length - (i + 1), by omega, rfl, h.1, h.2⟩, fun v Hv yv => ?_⟩
      obtain ⟨rfl, hv⟩ := w1.yields i H' v Hv (by rw [lrefs]; exact lt) (SqL.of (S' _ _ e12)) yv
      obtain ⟨x, ex, rfl⟩ := refs_at hv
      have hxm := List.mem_of_getElem? ex
      have hx2 := capF x hxm
      have ep : (prt cp)[i]? = some x.2 := by unfold prt; rw [List.getElem?_map, ex]; rfl
      have lf : (((prt cp).take i).flatten).length ≤ 8 * 8 := by
        have : ∀ l : List (List Str), (∀ p ∈ l, p.length ≤ 8) → l.flatten.length ≤ 8 * l.length := fun l => by
          induction l with
          | nil => intro _; exact Nat.le_refl _
          | cons p l ih =>
            intro h
            rw [List.flatten_cons, List.length_append, List.length_cons]
            have := ih fun q hq => h q (List.mem_cons_of_mem _ hq)
            have := h p List.mem_cons_self
            omega
        have h1 := this ((prt cp).take i) fun p hp => by
          obtain ⟨y, hy, rfl⟩ := List.mem_map.mp (List.mem_of_mem_take hp)
          exact cn y hy
        rw [List.length_take] at h1
        omega
      refine ⟨rfl, ?_⟩
      unfold tYes
      dsimp only
      rw [if_pos rfl]
      refine ⟨_, rfl, x.1, rfl, ⟨_, SqT.of (S' _ _ hx2)⟩, ?_⟩
      have w2 := walk_tup (K := K) (a := x.1) (xs := x.2.map V.str)
      refine ⟨fun j k H'' => k = x.2.length - j ∧ j ≤ x.2.length ∧ Same H2 H'' ∧ H'' D3 = some (.lst ((((prt cp).take i).flatten ++ x.2.take j).map V.str)), ⟨x.2.length, by simp, Nat.zero_le _, S', by rw [List.take_zero, List.append_nil]; exact e'⟩, ?_⟩
      rintro j k H'' ⟨rfl, hj, S'', e''⟩
      by_cases lt2 : j < x.2.length
      · refine .inr ⟨w2.goes j H'' (by rw [List.length_map]; exact lt2) (SqT.of (S'' _ _ hx2)), fun H3 => j + 1 ≤ x.2.length ∧ Same H2 H3 ∧ H3 D3 = some (.lst ((((prt cp).take i).flatten ++ x.2.take (j + 1)).map V.str)), fun H3 h => ⟨x.2.length - (j + 1), by omega, rfl, h.1, h.2⟩, fun v2 Hv2 yv2 => ?_⟩
        obtain ⟨rfl, hv2⟩ := w2.yields j H'' v2 Hv2 (by rw [List.length_map]; exact lt2) (SqT.of (S'' _ _ hx2)) yv2
        obtain ⟨n, en, rfl⟩ := str_at hv2
        have l8x := cn x hxm
        refine ⟨rfl, ?_⟩
        dsimp only
        rw [if_pos rfl]
        refine ⟨_, rfl, _, e'', by rw [List.length_map, List.length_append, List.length_take, sizeLine_eq]; omega, lt2, Same.at hD3 S'', ?_⟩
        rw [upd_same, List.take_add_one, en]
        simp
      · obtain rfl : j = x.2.length := by omega
        refine .inl ⟨by have := w2.stops H'' (SqT.of (S'' _ _ hx2)); rw [List.length_map] at this; exact this, lt, S'', ?_⟩
        rw [e'', List.take_length, List.take_add_one, ep]
        simp
    · obtain rfl : i = cp.length := by omega
      refine .inl ⟨by have := w1.stops H' (SqL.of (S' _ _ e12)); rw [lrefs] at this; exact this, ?_⟩
      have lp : (prt cp).length = cp.length := by unfold prt; rw [List.length_map]
      rw [← lp, List.take_length] at e'
      refine ⟨D3, _, rfl, .inl ⟨SqL.of e', fun l hl => ?_⟩⟩
      have S3 := Same.new (o := .tup ((prt cp).flatten.map V.str)) hl
      have e3 : (upd H' l (.tup ((prt cp).flatten.map V.str))) l = some (.tup ((prt cp).flatten.map V.str)) := upd_same
      generalize upd H' l (.tup ((prt cp).flatten.map V.str)) = H4 at S3 e3 ⊢
      refine ⟨by show 1 ≤ sizeLine; decide, fun p1 hp1 => ?_⟩
      have S4 := Same.new (o := .lst [.ref l]) hp1
      have S14 := Same.trans S1 (Same.trans S2 (Same.trans S' (Same.trans S3 S4)))
      have e24 := S4 _ _ (S3 _ _ (S' _ _ e2))
      have lo : (refs (ap.filter fun x => !PC.hit ns x.2)).length ≤ 8 := by
        unfold refs
        rw [List.length_map]
        exact Nat.le_trans (List.length_filter_le _ _) p8
      refine ⟨D2, p1, _, _, rfl, rfl, e24, upd_same, by rw [sizeLine_eq]; show _ + 1 ≤ _; omega, fun q hq => ?_⟩
      have S5 := Same.new (o := .lst (refs (ap.filter fun x => !PC.hit ns x.2) ++ [.ref l])) hq
      have hqH : H q = none := by
        cases z : H q with
        | none => rfl
        | some o => rw [S14 _ _ z] at hq; cases hq
      refine k q ((ap.filter fun x => !PC.hit ns x.2) ++ [(l, (prt cp).flatten)]) _ (Same.trans S14 S5) hqH ?_ ?_ ?_
      · rw [upd_same]
        unfold refs
        simp
      · intro y hy
        rcases List.mem_append.mp hy with hy | hy
        · exact S5 _ _ (S14 _ _ (hap y (List.mem_filter.mp hy).1))
        · rw [List.mem_singleton.mp hy]
          exact S5 _ _ (S4 _ _ e3)
      · unfold PC.mrg
        have f1 : ∀ (q : List Str → Bool) (l : AP), prt (l.filter fun x => q x.2) = (prt l).filter q := fun q l => by
          unfold prt
          rw [List.filter_map]
          rfl
        have h2 := f1 (PC.hit ns) ap
        rw [hcp] at h2
        have h3 := f1 (fun p => !PC.hit ns p) ap
        show prt (_ ++ [_]) = _
        unfold prt at *
        rw [List.map_append, h3, h2]
        rfl
end
/-- a tuple (int, text) by its place -/
abbrev IS := Addr × Int × Str
def encIS (b : IS) : PyData := .tuple [.int b.2.1, .str b.2.2]
theorem each_refs : ∀ {bs : List IS} {us : List Value}, Vals (bs.map fun b => V.ref b.1) us → PySem.W.EachIs (fun v (b : IS) => v = Value.ref b.1) us bs
  | [], _, r => by cases r; exact .nil
  | b :: bs, _, r => by
    cases r with
    | cons r t => exact .cons r (each_refs t)
theorem refs_each : ∀ {bs : List IS} {us : List Value}, PySem.W.EachIs (fun v (b : IS) => v = Value.ref b.1) us bs → Vals (bs.map fun b => V.ref b.1) us
  | _, _, .nil => .nil
  | _, _, .cons r t => .cons r (refs_each t)
theorem each_with {R R' : Value → IS → Prop} : ∀ {us : List Value} {bs : List IS}, PySem.W.EachIs R us bs → (∀ v, ∀ b ∈ bs, R v b → R' v b) → PySem.W.EachIs R' us bs
  | _, _, .nil, _ => .nil
  | _, _, .cons r t, h => .cons (h _ _ List.mem_cons_self r) (each_with t fun v b hb => h v b (List.mem_cons_of_mem _ hb))
section
variable {X : Cx}
/-- sorted(xs), xs a list of tuples (int, text) -/
def rSortIS (K : PySem.W.Frag) : List V → Hp → VK → Prop := fun vs H Q => ∃ (a : Addr) (bs : List IS), vs = [V.ref a] ∧ SqL K H a (bs.map fun b => V.ref b.1) ∧ (∀ b ∈ bs, H b.1 = some (.tup [.int b.2.1, .str b.2.2])) ∧ bs.length < 64 ∧
  ∀ p, H p = none → Q (.ref p) (upd H p (.lst ((bs.mergeSort (PySem.W.dataLe false encIS)).map fun b => V.ref b.1)))
theorem cr_sortIS (hu : X.A.units + 64 < cLine) : CallR X (.builtin "sorted") (rSortIS X.K) := by
  intro pins s σ H vs us Q I r h
  obtain ⟨a, bs, rfl, hs, ht, h64, q⟩ := h
  obtain ⟨its, rv, hl, _⟩ := I.list hs
  rw [Vals.ref1 r]
  have e := each_refs rv
  refine PySem.W.sorted_data (R := fun v (b : IS) => v = Value.ref b.1) (enc := encIS) hl.isList e (each_with e fun v b hb ev => ?_) (PySem.W.AllAlike.of fun b b' => ?_) (PySem.W.Sortable.tuples fun b => ⟨_, _, rfl⟩) (small64 h64) (fun b _ => ?_) fun out ho eo => ?_
  · exact Dp.reads I (encIS b) (.ref b.1) v (.tup (SqT.of (ht b hb)) (.cons (.int _) (.cons (.str _) .nil))) ev
  · simp [PySem.W.alike, PySem.W.alikeAll, encIS]
  · have : (encIS b).depth ≤ 2 := by simp [encIS, PyData.depth, PyData.depthAll]
    omega
  · obtain ⟨ep, he'⟩ := PyProof.Rows.sortedAll_at s.heap its out.toArray
    have hlen : ((bs.mergeSort (PySem.W.dataLe false encIS)).map fun b => V.ref b.1).length ≤ sizeLine := by rw [List.length_map, List.length_mergeSort]; exact small64 h64
    exact ⟨.ref _, upd H (s.heap.objs.size + 1) (.lst ((bs.mergeSort (PySem.W.dataLe false encIS)).map fun b => V.ref b.1)), I.laid (t' := s.toks) (fun _ _ => PyProof.Rows.sortedAll_old) (Nat.le_succ _) ⟨hlen, out, ep, refs_each eo, he'⟩, rfl, q _ (I.hok.fresh (Nat.le_succ _))⟩
end
theorem dataLe_is (b c : IS) (h : PySem.W.dataLe false encIS b c = true) : b.2.1 ≤ c.2.1 := by
  rw [PySem.W.dataLe_eq] at h
  have h' : (!PySem.W.dataLt (.tuple [.int c.2.1, .str c.2.2]) (.tuple [.int b.2.1, .str b.2.2])) = true := h
  rw [PySem.W.dataLt_pair (by simp [PySem.W.alike]) (by simp [PySem.W.alike]), PySem.W.dataLt_int] at h'
  rcases Int.lt_or_le c.2.1 b.2.1 with w | w
  · rw [show PyData.eqv (.int c.2.1) (.int b.2.1) = false by simp [PyData.eqv]; omega] at h'
    simp [w] at h'
  · exact w
end K40
namespace K40
open PySem L2
open PyProof.Rows PySem.Spec
def bF (S : Rws) (n : Str) : Int := (spn S n).1
def eF (S : Rws) (n : Str) : Int := (spn S n).2
def lnk (ps : List (List Str)) (qs : List (Str × Str)) : List (List Str) := qs.foldl (fun ps q => PC.mrg ps [q.1, q.2]) ps
theorem prt_bd {N : List Str} {ps : List (List Str)} (h : PC.Prt N ps) (l8 : N.length ≤ 8) : ps.length ≤ 8 ∧ ∀ p ∈ ps, p.length ≤ 8 ∧ ∀ n ∈ p, n ∈ N := by
  have l := h.pm.length_eq
  have a : ∀ l : List (List Str), (∀ p ∈ l, p ≠ []) → l.length ≤ l.flatten.length ∧ ∀ p ∈ l, p.length ≤ l.flatten.length := fun l => by
    induction l with
    | nil => intro _; exact ⟨Nat.le_refl _, fun p hp => by cases hp⟩
    | cons q l ih =>
      intro hn
      have i := ih fun p hp => hn p (List.mem_cons_of_mem _ hp)
      have q0 : 0 < q.length := List.length_pos_iff.mpr (hn q List.mem_cons_self)
      rw [List.flatten_cons, List.length_append, List.length_cons]
      refine ⟨by omega, fun p hp => ?_⟩
      rcases List.mem_cons.mp hp with rfl | hp
      · omega
      · have := i.2 p hp
        omega
  have b := a ps h.ne
  exact ⟨by omega, fun p hp => ⟨by have := b.2 p hp; omega, fun n hn => h.mem.mpr ⟨p, hp, hn⟩⟩⟩
theorem prt_one {N : List Str} (nd : N.Nodup) : PC.Prt N (N.map fun n => [n]) := by
  refine ⟨nd, ?_, fun p hp => ?_⟩
  · have : (N.map fun n => [n]).flatten = N := by
      clear nd
      induction N with
      | nil => rfl
      | cons n N ih => rw [List.map_cons, List.flatten_cons, ih]; rfl
    rw [this]
  · obtain ⟨n, _, rfl⟩ := List.mem_map.mp hp
    exact fun z => by cases z
theorem lnk_snoc (ps : List (List Str)) (qs : List (Str × Str)) (q : Str × Str) : lnk ps (qs ++ [q]) = PC.mrg (lnk ps qs) [q.1, q.2] := by
  unfold lnk
  rw [List.foldl_append]
  rfl
theorem lnk_prt {N : List Str} {ps : List (List Str)} (h : PC.Prt N ps) : ∀ (k : Nat) {qs : List (Str × Str)}, (∀ q ∈ qs, q.1 ∈ N ∧ q.2 ∈ N) → PC.Prt N (lnk ps (qs.take k))
  | 0, _, _ => h
  | k + 1, qs, hq => by
    rw [List.take_add_one]
    cases e : qs[k]? with
    | none => simpa using lnk_prt h k hq
    | some q =>
      show PC.Prt N (lnk ps (qs.take k ++ [q]))
      rw [lnk_snoc]
      have m := hq q (List.mem_of_getElem? e)
      exact (lnk_prt h k hq).mrg (by simp) fun n hn => by
        simp only [List.mem_cons, List.not_mem_nil, or_false] at hn
        rcases hn with rfl | rfl
        · exact m.1
        · exact m.2
section
variable {P : Program} {w : World} {K : PySem.W.Frag}
                                                      {mg : Str → Option Value} {base : Heap}
def sp_linked (K : PySem.W.Frag) (C : Addr) : Sp := fun vs H Q _ => ∃ (p : Addr) (t pk : Int) (S : Rws) (r : Addr), vs = [.ref p, .int pk] ∧ SpS H C p t S r ∧ (0 ≤ pk ∧ pk < t) ∧
  ∀ q ap es bs H', Same H H' → H q = none → H' q = some (.lst (refs ap)) → PTs H' ap → PC.Lnk t (pk + 1) (bF S) (eF S) (S.map (·.1)) es bs → prt ap = lnk ((S.map (·.1)).map fun n => [n]) (es.zip bs) → Q (.ref q) H'
theorem ok_linked (T : T K mg) (U : UX K mg) : FnOk P w K mg base CX0 4 U.mx.f U.mx.d ["self", "peak"] (sp_linked K U.C) := by
  have G_merged : FnOk P w K mg base CX0 2 T.f_merged T.d_merged ["parts", "names"] (sp_merged K) := ok_merged T
  refine U.mx.F.ok sc_Spans_linked (fun vs H Q E h => ?_) (fun cdv A outer s H vs Q E hr h => ?_)
  · obtain ⟨p, t, pk, S, r, rfl, _⟩ := h
    rfl
  · obtain ⟨p, t, pk, S, r, rfl, ⟨g, so, dx, rd, nm, lv, cr, L, LL, LC, h1, h2, h3, h4, h5, h6, h7, h8, h9, h10⟩, hpk, k⟩ := h
    have hu := hu_of hr
    have hr_merged : Room 2 _ := hr.mono (by decide)
    refine ⟨_, PSs.nox (pss_cons (ps_set (i := 2) sc_Spans_linked.nd rfl (Or.inr rfl) (pe_op op_add (pv 1) pe_int))
      (pss_cons (ps_set (i := 3) sc_Spans_linked.nd rfl (Or.inl rfl) (pe_callB (cr_sortIS (un64 hr)) (by rfl) T.z_sorted (by decide +kernel) (pa_cons (pe_lock (pe_lc (own := [("name", 8), ("_", 9), ("end", 6)]) (g := gTup K 2 (gCons (gName 8) (gCons (gTup K 2 (gCons (gName 9) (gCons (gName 6) gNil))) gNil))) rfl sc_Spans_linked.nd (pi_items (pe_fld (pv 0) rfl)) (blkOk_by (N := ["self", "peak", "first", "ends", "begins", "parts", "end", "begin", "name", "_"]) (sc := defScope s_Spans_linked) (by decide +kernel)) (fun _ _ _ _ _ => (pg_tup rfl (pgs_cons (pg_name (i := 8) sc_Spans_linked.nd rfl (Or.inl rfl)) (pgs_cons (pg_tup rfl (pgs_cons (pg_name (i := 9) sc_Spans_linked.nd rfl (Or.inl rfl)) (pgs_cons (pg_name (i := 6) sc_Spans_linked.nd rfl (Or.inl rfl)) pgs_nil))) pgs_nil)))) (fun _ _ _ _ _ => pts_nil) (fun _ _ _ _ _ => (pe_tup (pa_cons (pe_op op_mod (pe_op op_sub (pv 6) (pv 2)) (pe_fldK (K := K) rfl (pv 0) rfl)) (pa_cons (pv 8) pa_nil)))))) pa_nil)))
      (pss_cons (ps_set (i := 4) sc_Spans_linked.nd rfl (Or.inl rfl) (pe_callB (cr_sortIS (un64 hr)) (by rfl) T.z_sorted (by decide +kernel) (pa_cons (pe_lock (pe_lc (own := [("name", 8), ("begin", 7), ("_", 9)]) (g := gTup K 2 (gCons (gName 8) (gCons (gTup K 2 (gCons (gName 7) (gCons (gName 9) gNil))) gNil))) rfl sc_Spans_linked.nd (pi_items (pe_fld (pv 0) rfl)) (blkOk_by (N := ["self", "peak", "first", "ends", "begins", "parts", "end", "begin", "name", "_"]) (sc := defScope s_Spans_linked) (by decide +kernel)) (fun _ _ _ _ _ => (pg_tup rfl (pgs_cons (pg_name (i := 8) sc_Spans_linked.nd rfl (Or.inl rfl)) (pgs_cons (pg_tup rfl (pgs_cons (pg_name (i := 7) sc_Spans_linked.nd rfl (Or.inl rfl)) (pgs_cons (pg_name (i := 9) sc_Spans_linked.nd rfl (Or.inl rfl)) pgs_nil))) pgs_nil)))) (fun _ _ _ _ _ => pts_nil) (fun _ _ _ _ _ => (pe_tup (pa_cons (pe_op op_mod (pe_op op_sub (pv 7) (pv 2)) (pe_fldK (K := K) rfl (pv 0) rfl)) (pa_cons (pv 8) pa_nil)))))) pa_nil)))
      (pss_cons (ps_setLc (i := 5) (own := [("name", 8)]) (g := gName 8) rfl sc_Spans_linked.nd rfl rfl (sw_true rfl rfl rfl (by decide +kernel)) (pi_tup (pe_fld (pv 0) rfl)) (blkOk_by (N := ["self", "peak", "first", "ends", "begins", "parts", "end", "begin", "name", "_"]) (sc := defScope s_Spans_linked) (by decide +kernel)) (fun _ _ _ _ _ => (pg_name (i := 8) sc_Spans_linked.nd rfl (Or.inl rfl))) (fun _ _ _ _ _ => pts_nil) (fun _ _ _ _ _ => (pe_tup (pa_cons (pv 8) pa_nil))))
      (pss_cons (ps_for PassesOwn.never rfl (pi_zip (by rfl) T.z_zip (pa_cons (pv 3) (pa_cons (pv 4) pa_nil))) (pg_tup rfl (pgs_cons (pg_name (i := 6) sc_Spans_linked.nd rfl (Or.inl rfl)) (pgs_cons (pg_name (i := 7) sc_Spans_linked.nd rfl (Or.inl rfl)) pgs_nil)))
      (pss_one (ps_set (i := 5) sc_Spans_linked.nd rfl (Or.inl rfl) (pe_call G_merged hr_merged rfl T.m_merged T.F_merged.kp T.b_merged .nil pass0 (pa_cons (pv 5) (pa_cons (pe_tup (pa_cons (pe_ix (r := rIx K) ix_seq (pv 6) pe_int (fun _ _ => rfl)) (pa_cons (pe_ix (r := rIx K) ix_seq (pv 7) pe_int (fun _ _ => rfl)) pa_nil))) pa_nil))))))
      (pss_one (ps_ret (pv 5)))))))), ?_⟩
    have ndp : rd ≠ p := fun z => by rw [z, h1] at h2; cases h2
    have g8 := g.l8
    have g1 := g.t1
    have g2 := g.t2
    refine ⟨_, rfl, _, _, rfl, rfl, ?_⟩
    have S0 : Same H H := Same.refl H
    -- the ends
    have A1 := S0 _ _ h1
    have A2 := S0 _ _ h2
    have A3 := h3.keep (KT.same S0)
    refine ⟨rd, _, A2, True.intro, fun od => ?_⟩
    have lk : (upd H rd (.frz od (.dK (Kvs L)))) rd = some (.frz od (.dK (Kvs L))) := upd_same
    have ktl : KT H (upd H rd (.frz od (.dK (Kvs L)))) := KT.put A2 (fun _ z => by cases z)
    refine ⟨_, rfl, p, U.C, dx, _, .ref rd, rfl, (by rw [upd_ne ndp.symm]; exact A1), U.cl, U.n2, rfl, rd, od, Kvs L, rfl, lk, fun D1 hD1 => ?_⟩
    have nD1 : D1 ≠ rd := fun z => by rw [z, upd_same] at hD1; cases hD1
    refine lc_it walk_items (fun i H' => Same (upd H rd (.frz od (.dK (Kvs L)))) H' ∧ ∃ bs : List IS, H' D1 = some (.lst (bs.map fun b => V.ref b.1)) ∧ (∀ b ∈ bs, H' b.1 = some (.tup [.int b.2.1, .str b.2.2])) ∧ bs.map (·.2) = (S.take i).map fun r => (PC.pos t (pk + 1) (eF S) r.1, r.1)) ⟨Same.new hD1, [], upd_same, (fun b hb => by cases hb), rfl⟩ (fun i H' _ h => h.1 _ _ lk) ?_ ?_
    · rintro i x Ha Hb hi ⟨Sa, bs, eD, tb, eb⟩ ⟨TT, x1, y1, rfl, hTT, rfl, ex1, ey1⟩
      have Sn : Same Ha (upd Ha TT (.tup [x1, y1])) := Same.new hTT
      obtain ⟨n, a, b, e, rfl, e2, hab, e4⟩ := tups_at (A3.keep (KT.trans ktl (KT.same (Same.trans Sa Sn)))) i y1 ey1
      obtain rfl : V.str n = x1 := by
        unfold Kvs at ex1
        dsimp only at ex1
        rw [List.getElem?_map, e4] at ex1
        exact Option.some.inj ex1
      have eTT : (upd Ha TT (.tup [V.str n, V.ref a])) TT = some (.tup [V.str n, V.ref a]) := upd_same
      have Sb := Same.trans Sa Sn
      have eDb := Sn _ _ eD
      have tbb : ∀ b ∈ bs, (upd Ha TT (.tup [V.str n, V.ref a])) b.1 = some (.tup [.int b.2.1, .str b.2.2]) := fun b hb => Sn _ _ (tb b hb)
      generalize upd Ha TT (.tup [V.str n, V.ref a]) = Hc at Sb eTT hab eDb tbb ⊢
      refine ⟨TT, _, rfl, SqT.of eTT, rfl, _, _, rfl, _, _, rfl, a, _, rfl, SqT.of hab, rfl, _, _, rfl, _, _, rfl, rfl, rfl, ?_⟩
      refine ⟨rfl, ?_⟩
      unfold tYes
      dsimp only
      rw [if_pos rfl]
      have esp : spn S n = (b, e) := spn_at g.nd (List.mem_of_getElem? e2)
      have ev : (e - (pk + 1)) % t = PC.pos t (pk + 1) (eF S) n := by unfold PC.pos eF; rw [esp]
      have pc : Hc p = some (HO.ins U.C dx (spF t rd nm (V.ref lv) (V.ref cr))) := Sb _ _ (by rw [upd_ne ndp.symm]; exact A1)
      refine ⟨_, rfl, _, rfl, _, _, rfl, rfl, ?_⟩
      refine ⟨_, rfl, p, U.C, dx, _, .int t, rfl, pc, U.cl, U.n1, rfl, _, _, rfl, rfl, by omega, ?_⟩
      dsimp only
      rw [ev]
      refine ⟨_, rfl, by show 2 ≤ sizeLine; decide, fun q hq => ?_⟩
      have nDq : D1 ≠ q := ne_of_none eDb hq
      have iS : i < S.length := (List.getElem?_eq_some_iff.mp e2).1
      have lb : bs.length = i := by
        have := congrArg List.length eb
        rw [List.length_map, List.length_map, List.length_take] at this
        omega
      refine ⟨_, (upd_ne nDq).trans eDb, by rw [List.length_map, sizeLine_eq]; omega, Same.at hD1 (Same.trans Sb (Same.new hq)), bs ++ [(q, PC.pos t (pk + 1) (eF S) n, n)], by rw [upd_same, List.map_append]; rfl, fun b hb => ?_, ?_⟩
      · have kt : KT Hc (upd (upd Hc q (.tup [.int (PC.pos t (pk + 1) (eF S) n), .str n])) D1 (.lst ((bs.map fun b => V.ref b.1) ++ [.ref q]))) := KT.trans (KT.new hq) (KT.put (u := .lst (bs.map fun b => V.ref b.1)) ((upd_ne nDq).trans eDb) (fun _ z => by cases z))
        rcases List.mem_append.mp hb with hb | hb
        · exact kt _ _ (tbb b hb)
        · rw [List.mem_singleton.mp hb]
          exact (upd_ne nDq.symm).trans upd_same
      · rw [List.map_append, eb, List.take_add_one, e2, List.map_append]
        rfl
    rintro Ha ⟨Sa, bsA, eD, tb, eb⟩
    refine ⟨Sa _ _ lk, ?_⟩
    rw [kvs_len, A3.len, List.take_length] at eb
    have SLA : Same H (upd Ha rd (.dK (Kvs L))) := same_lock A2 Sa
    have eD2 : (upd Ha rd (.dK (Kvs L))) D1 = some (.lst (bsA.map fun b => V.ref b.1)) := (upd_ne nD1).trans eD
    have tb2 : ∀ b ∈ bsA, (upd Ha rd (.dK (Kvs L))) b.1 = some (.tup [.int b.2.1, .str b.2.2]) := fun b hb => by
      have := tb b hb
      rw [upd_ne (fun z => by rw [z, Sa _ _ lk] at this; cases this)]
      exact this
    generalize upd Ha rd (.dK (Kvs L)) = HkA at SLA eD2 tb2 ⊢
    clear Sa tb lk ktl eD
    have lbA : bsA.length = S.length := by
      have := congrArg List.length eb
      rw [List.length_map, List.length_map] at this
      exact this
    refine ⟨D1, bsA, rfl, SqL.of eD2, tb2, by omega, fun sA hsA => ?_⟩
    have SMA := Same.new (o := .lst ((bsA.mergeSort (PySem.W.dataLe false encIS)).map fun b => V.ref b.1)) hsA
    have esA : (upd HkA sA (.lst ((bsA.mergeSort (PySem.W.dataLe false encIS)).map fun b => V.ref b.1))) sA = some (.lst ((bsA.mergeSort (PySem.W.dataLe false encIS)).map fun b => V.ref b.1)) := upd_same
    have pmA := List.mergeSort_perm bsA (PySem.W.dataLe false encIS)
    have soA : (bsA.mergeSort (PySem.W.dataLe false encIS)).Pairwise fun a b => a.2.1 ≤ b.2.1 := (PySem.W.sort_pairwise (PySem.W.sortLe_total _ _ _) bsA).imp fun {a b} h => dataLe_is a b h
    have tbA : ∀ b ∈ bsA.mergeSort (PySem.W.dataLe false encIS), (upd HkA sA (.lst ((bsA.mergeSort (PySem.W.dataLe false encIS)).map fun b => V.ref b.1))) b.1 = some (.tup [.int b.2.1, .str b.2.2]) := fun b hb => SMA _ _ (tb2 b (pmA.mem_iff.mp hb))
    have STA := Same.trans S0 (Same.trans SLA SMA)
    have SNA := Same.trans SLA SMA
    have nSA : H sA = none := by
      cases z : H sA with
      | none => rfl
      | some o => rw [SLA _ _ (S0 _ _ z)] at hsA; cases hsA
    have plA : ((bsA.mergeSort (PySem.W.dataLe false encIS)).map (·.2)).Perm (S.map fun r => (PC.pos t (pk + 1) (eF S) r.1, r.1)) := by rw [← eb]; exact pmA.map (·.2)
    generalize bsA.mergeSort (PySem.W.dataLe false encIS) = csA at soA tbA esA SMA SNA STA pmA plA ⊢
    generalize upd HkA sA (.lst (csA.map fun b => V.ref b.1)) = HmA at esA tbA SMA SNA STA ⊢
    clear SLA SMA eD2 tb2 hsA nD1 A1 A2 A3 eb lbA nSA pmA
    -- the begins
    have B1 := STA _ _ h1
    have B2 := STA _ _ h2
    have B3 := h3.keep (KT.same STA)
    refine ⟨rd, _, B2, True.intro, fun od => ?_⟩
    have lk : (upd HmA rd (.frz od (.dK (Kvs L)))) rd = some (.frz od (.dK (Kvs L))) := upd_same
    have ktl : KT HmA (upd HmA rd (.frz od (.dK (Kvs L)))) := KT.put B2 (fun _ z => by cases z)
    refine ⟨_, rfl, p, U.C, dx, _, .ref rd, rfl, (by rw [upd_ne ndp.symm]; exact B1), U.cl, U.n2, rfl, rd, od, Kvs L, rfl, lk, fun D2 hD2 => ?_⟩
    have nD2 : D2 ≠ rd := fun z => by rw [z, upd_same] at hD2; cases hD2
    refine lc_it walk_items (fun i H' => Same (upd HmA rd (.frz od (.dK (Kvs L)))) H' ∧ ∃ bs : List IS, H' D2 = some (.lst (bs.map fun b => V.ref b.1)) ∧ (∀ b ∈ bs, H' b.1 = some (.tup [.int b.2.1, .str b.2.2])) ∧ bs.map (·.2) = (S.take i).map fun r => (PC.pos t (pk + 1) (bF S) r.1, r.1)) ⟨Same.new hD2, [], upd_same, (fun b hb => by cases hb), rfl⟩ (fun i H' _ h => h.1 _ _ lk) ?_ ?_
    · rintro i x Ha Hb hi ⟨Sa, bs, eD, tb, eb⟩ ⟨TT, x1, y1, rfl, hTT, rfl, ex1, ey1⟩
      have Sn : Same Ha (upd Ha TT (.tup [x1, y1])) := Same.new hTT
      obtain ⟨n, a, b, e, rfl, e2, hab, e4⟩ := tups_at (B3.keep (KT.trans ktl (KT.same (Same.trans Sa Sn)))) i y1 ey1
      obtain rfl : V.str n = x1 := by
        unfold Kvs at ex1
        dsimp only at ex1
        rw [List.getElem?_map, e4] at ex1
        exact Option.some.inj ex1
      have eTT : (upd Ha TT (.tup [V.str n, V.ref a])) TT = some (.tup [V.str n, V.ref a]) := upd_same
      have Sb := Same.trans Sa Sn
      have eDb := Sn _ _ eD
      have tbb : ∀ b ∈ bs, (upd Ha TT (.tup [V.str n, V.ref a])) b.1 = some (.tup [.int b.2.1, .str b.2.2]) := fun b hb => Sn _ _ (tb b hb)
      generalize upd Ha TT (.tup [V.str n, V.ref a]) = Hc at Sb eTT hab eDb tbb ⊢
      refine ⟨TT, _, rfl, SqT.of eTT, rfl, _, _, rfl, _, _, rfl, a, _, rfl, SqT.of hab, rfl, _, _, rfl, _, _, rfl, rfl, rfl, ?_⟩
      refine ⟨rfl, ?_⟩
      unfold tYes
      dsimp only
      rw [if_pos rfl]
      have esp : spn S n = (b, e) := spn_at g.nd (List.mem_of_getElem? e2)
      have ev : (b - (pk + 1)) % t = PC.pos t (pk + 1) (bF S) n := by unfold PC.pos bF; rw [esp]
      have pc : Hc p = some (HO.ins U.C dx (spF t rd nm (V.ref lv) (V.ref cr))) := Sb _ _ (by rw [upd_ne ndp.symm]; exact B1)
      refine ⟨_, rfl, _, rfl, _, _, rfl, rfl, ?_⟩
      refine ⟨_, rfl, p, U.C, dx, _, .int t, rfl, pc, U.cl, U.n1, rfl, _, _, rfl, rfl, by omega, ?_⟩
      dsimp only
      rw [ev]
      refine ⟨_, rfl, by show 2 ≤ sizeLine; decide, fun q hq => ?_⟩
      have nDq : D2 ≠ q := ne_of_none eDb hq
      have iS : i < S.length := (List.getElem?_eq_some_iff.mp e2).1
      have lb : bs.length = i := by
        have := congrArg List.length eb
        rw [List.length_map, List.length_map, List.length_take] at this
        omega
      refine ⟨_, (upd_ne nDq).trans eDb, by rw [List.length_map, sizeLine_eq]; omega, Same.at hD2 (Same.trans Sb (Same.new hq)), bs ++ [(q, PC.pos t (pk + 1) (bF S) n, n)], by rw [upd_same, List.map_append]; rfl, fun b hb => ?_, ?_⟩
      · have kt : KT Hc (upd (upd Hc q (.tup [.int (PC.pos t (pk + 1) (bF S) n), .str n])) D2 (.lst ((bs.map fun b => V.ref b.1) ++ [.ref q]))) := KT.trans (KT.new hq) (KT.put (u := .lst (bs.map fun b => V.ref b.1)) ((upd_ne nDq).trans eDb) (fun _ z => by cases z))
        rcases List.mem_append.mp hb with hb | hb
        · exact kt _ _ (tbb b hb)
        · rw [List.mem_singleton.mp hb]
          exact (upd_ne nDq.symm).trans upd_same
      · rw [List.map_append, eb, List.take_add_one, e2, List.map_append]
        rfl
    rintro Ha ⟨Sa, bsB, eD, tb, eb⟩
    refine ⟨Sa _ _ lk, ?_⟩
    rw [kvs_len, B3.len, List.take_length] at eb
    have SLB : Same HmA (upd Ha rd (.dK (Kvs L))) := same_lock B2 Sa
    have eD2 : (upd Ha rd (.dK (Kvs L))) D2 = some (.lst (bsB.map fun b => V.ref b.1)) := (upd_ne nD2).trans eD
    have tb2 : ∀ b ∈ bsB, (upd Ha rd (.dK (Kvs L))) b.1 = some (.tup [.int b.2.1, .str b.2.2]) := fun b hb => by
      have := tb b hb
      rw [upd_ne (fun z => by rw [z, Sa _ _ lk] at this; cases this)]
      exact this
    generalize upd Ha rd (.dK (Kvs L)) = HkB at SLB eD2 tb2 ⊢
    clear Sa tb lk ktl eD
    have lbB : bsB.length = S.length := by
      have := congrArg List.length eb
      rw [List.length_map, List.length_map] at this
      exact this
    refine ⟨D2, bsB, rfl, SqL.of eD2, tb2, by omega, fun sB hsB => ?_⟩
    have SMB := Same.new (o := .lst ((bsB.mergeSort (PySem.W.dataLe false encIS)).map fun b => V.ref b.1)) hsB
    have esB : (upd HkB sB (.lst ((bsB.mergeSort (PySem.W.dataLe false encIS)).map fun b => V.ref b.1))) sB = some (.lst ((bsB.mergeSort (PySem.W.dataLe false encIS)).map fun b => V.ref b.1)) := upd_same
    have pmB := List.mergeSort_perm bsB (PySem.W.dataLe false encIS)
    have soB : (bsB.mergeSort (PySem.W.dataLe false encIS)).Pairwise fun a b => a.2.1 ≤ b.2.1 := (PySem.W.sort_pairwise (PySem.W.sortLe_total _ _ _) bsB).imp fun {a b} h => dataLe_is a b h
    have tbB : ∀ b ∈ bsB.mergeSort (PySem.W.dataLe false encIS), (upd HkB sB (.lst ((bsB.mergeSort (PySem.W.dataLe false encIS)).map fun b => V.ref b.1))) b.1 = some (.tup [.int b.2.1, .str b.2.2]) := fun b hb => SMB _ _ (tb2 b (pmB.mem_iff.mp hb))
    have STB := Same.trans STA (Same.trans SLB SMB)
    have SNB := Same.trans SLB SMB
    have nSB : H sB = none := by
      cases z : H sB with
      | none => rfl
      | some o => rw [SLB _ _ (STA _ _ z)] at hsB; cases hsB
    have plB : ((bsB.mergeSort (PySem.W.dataLe false encIS)).map (·.2)).Perm (S.map fun r => (PC.pos t (pk + 1) (bF S) r.1, r.1)) := by rw [← eb]; exact pmB.map (·.2)
    generalize bsB.mergeSort (PySem.W.dataLe false encIS) = csB at soB tbB esB SMB SNB STB pmB plB ⊢
    generalize upd HkB sB (.lst (csB.map fun b => V.ref b.1)) = HmB at esB tbB SMB SNB STB ⊢
    clear SLB SMB eD2 tb2 hsB nD2 B1 B2 B3 eb lbB nSB pmB
    -- the parts of one name
    have z1 := STB _ _ h1
    have z4 := STB _ _ h4
    have eA2 := SNB _ _ esA
    have tA2 : ∀ b ∈ csA, HmB b.1 = some (.tup [.int b.2.1, .str b.2.2]) := fun b hb => SNB _ _ (tbA b hb)
    clear SNB SNA STA esA tbA
    have sqn : SqT K HmB nm ((S.map (·.1)).map V.str) := SqT.of z4
    refine ⟨_, rfl, p, U.C, dx, _, .ref nm, rfl, z1, U.cl, U.n3, rfl, nm, rfl, ⟨_, sqn⟩, fun D3 hD3 => ?_⟩
    refine lc_it (walk_tup (K := K) (a := nm) (xs := (S.map (·.1)).map V.str)) (fun i H' => Same HmB H' ∧ ∃ ap : AP, H' D3 = some (.lst (refs ap)) ∧ PTs H' ap ∧ prt ap = ((S.map (·.1)).take i).map fun n => [n]) ⟨Same.new hD3, [], upd_same, (fun x hx => by cases hx), rfl⟩ (fun i H' _ h => Same.seqT h.1 sqn) ?_ ?_
    · rintro i x Ha Hb hi ⟨Sa, ap, eD, pt, ep⟩ ⟨rfl, hx⟩
      obtain ⟨n, en, rfl⟩ := str_at hx
      refine ⟨rfl, ?_⟩
      unfold tYes
      dsimp only
      rw [if_pos rfl]
      refine ⟨_, rfl, by show 1 ≤ sizeLine; decide, fun q hq => ?_⟩
      have nDq : D3 ≠ q := ne_of_none eD hq
      have la : ap.length ≤ 8 := by
        have := congrArg List.length ep
        unfold prt at this
        rw [List.length_map, List.length_map, List.length_take, List.length_map] at this
        omega
      refine ⟨_, (upd_ne nDq).trans eD, by unfold refs; rw [List.length_map, sizeLine_eq]; omega, Same.at hD3 (Same.trans Sa (Same.new hq)), ap ++ [(q, [n])], by rw [upd_same]; unfold refs; rw [List.map_append]; rfl, fun b hb => ?_, ?_⟩
      · have kt : KT Hb (upd (upd Hb q (.tup [.str n])) D3 (.lst (refs ap ++ [.ref q]))) := KT.trans (KT.new hq) (KT.put (u := .lst (refs ap)) ((upd_ne nDq).trans eD) (fun _ z => by cases z))
        rcases List.mem_append.mp hb with hb | hb
        · exact kt _ _ (pt b hb)
        · rw [List.mem_singleton.mp hb]
          exact (upd_ne nDq.symm).trans upd_same
      · unfold prt at *
        rw [List.map_append, ep, List.take_add_one, en, List.map_append]
        rfl
    rintro H3 ⟨S3, ap, eD, pt, ep⟩
    rw [List.take_of_length_le (by rw [List.length_map, List.length_map, List.length_map]; exact Nat.le_refl _)] at ep
    have eA3 := S3 _ _ eA2
    have eB3 := S3 _ _ esB
    have tA3 : ∀ b ∈ csA, H3 b.1 = some (.tup [.int b.2.1, .str b.2.2]) := fun b hb => S3 _ _ (tA2 b hb)
    have tB3 : ∀ b ∈ csB, H3 b.1 = some (.tup [.int b.2.1, .str b.2.2]) := fun b hb => S3 _ _ (tbB b hb)
    have ST3 := Same.trans STB S3
    have hD3H : H D3 = none := by
      cases z : H D3 with
      | none => rfl
      | some o => rw [STB _ _ z] at hD3; cases hD3
    -- the links
    have lnks : ∀ (f : Str → Int) {cs : List IS}, (cs.map (·.2)).Perm (S.map fun r => (PC.pos t (pk + 1) f r.1, r.1)) → (cs.Pairwise fun a b => a.2.1 ≤ b.2.1) → (cs.map (·.2.2)).Perm (S.map (·.1)) ∧ (cs.map (·.2.2)).Pairwise fun x y => PC.pos t (pk + 1) f x ≤ PC.pos t (pk + 1) f y := fun f cs pm so => by
      have e1 : cs.map (·.2.2) = (cs.map (·.2)).map (·.2) := by rw [List.map_map]; rfl
      have e2 : (S.map fun r => (PC.pos t (pk + 1) f r.1, r.1)).map (·.2) = S.map (·.1) := by rw [List.map_map]; rfl
      refine ⟨by rw [e1, ← e2]; exact pm.map _, ?_⟩
      rw [List.pairwise_map]
      refine so.imp_of_mem fun {a b} ha hb h => ?_
      have v : ∀ c ∈ cs, c.2.1 = PC.pos t (pk + 1) f c.2.2 := fun c hc => by
        obtain ⟨r, hr, er⟩ := List.mem_map.mp (pm.mem_iff.mp (List.mem_map.mpr ⟨c, hc, rfl⟩))
        rw [← er]
      rw [← v a ha, ← v b hb]
      exact h
    have LE := lnks (eF S) plA soA
    have LB := lnks (bF S) plB soB
    have Lk : PC.Lnk t (pk + 1) (bF S) (eF S) (S.map (·.1)) (csA.map (·.2.2)) (csB.map (·.2.2)) := ⟨LE.1, LB.1, LE.2, LB.2⟩
    have lA : csA.length = S.length := by have := LE.1.length_eq; rw [List.length_map, List.length_map] at this; exact this
    have lB : csB.length = S.length := by have := LB.1.length_eq; rw [List.length_map, List.length_map] at this; exact this
    have qN : ∀ q ∈ (csA.map (·.2.2)).zip (csB.map (·.2.2)), q.1 ∈ S.map (·.1) ∧ q.2 ∈ S.map (·.1) := fun q hq => by
      have := List.of_mem_zip hq
      exact ⟨LE.1.mem_iff.mp this.1, LB.1.mem_iff.mp this.2⟩
    have p0 := prt_one g.nd
    have l8 : (S.map (·.1)).length ≤ 8 := by rw [List.length_map]; exact g8
    refine ⟨_, rfl, _, rfl, sA, sB, _, _, rfl, SqL.of eA3, SqL.of eB3, ?_⟩
    refine RZ.for_zipL (xs := csA.map fun b => V.ref b.1) (ys := csB.map fun b => V.ref b.1) (by rw [List.length_map, List.length_map, lA, lB]) (fun i σ G => ∃ (v6 v7 v8 v9 : Option V) (q : Addr) (ap : AP), σ = [some (.ref p), some (.int pk), some (.int (pk + 1)), some (.ref sA), some (.ref sB), some (.ref q), v6, v7, v8, v9] ∧ Same H3 G ∧ H q = none ∧ G q = some (.lst (refs ap)) ∧ PTs G ap ∧ prt ap = lnk ((S.map (·.1)).map fun n => [n]) (((csA.map (·.2.2)).zip (csB.map (·.2.2))).take i)) ⟨none, none, none, none, D3, ap, rfl, Same.refl _, hD3H, eD, pt, ep⟩ (fun i σ G h => by obtain ⟨_, _, _, _, _, _, _, s, _⟩ := h; exact ⟨SqL.of (s _ _ eA3), SqL.of (s _ _ eB3)⟩) ?_ ?_
    · rintro i x y TT σ G hx hy ⟨v6, v7, v8, v9, q, ap, rfl, SG, hqH, eq, pt, ep⟩ hT
      rw [List.getElem?_map] at hx hy
      cases e1 : csA[i]? with
      | none => rw [e1] at hx; cases hx
      | some a =>
      cases e2 : csB[i]? with
      | none => rw [e2] at hy; cases hy
      | some b =>
      rw [e1] at hx
      rw [e2] at hy
      cases hx
      cases hy
      have ha := tA3 a (List.mem_of_getElem? e1)
      have hb := tB3 b (List.mem_of_getElem? e2)
      have SX := Same.new (o := .tup [V.ref a.1, V.ref b.1]) hT
      have eT : (upd G TT (.tup [V.ref a.1, V.ref b.1])) TT = some (.tup [V.ref a.1, V.ref b.1]) := upd_same
      generalize upd G TT (.tup [V.ref a.1, V.ref b.1]) = G1 at SX eT ⊢
      have SG1 := Same.trans SG SX
      refine ⟨TT, _, rfl, SqT.of eT, rfl, _, _, rfl, _, _, rfl, rfl, ?_⟩
      refine ⟨_, rfl, _, rfl, .inr (.inl ⟨_, _, _, _, rfl, rfl, SqT.of (SG1 _ _ ha), rfl, ?_⟩)⟩
      refine ⟨_, rfl, .inr (.inl ⟨_, _, _, _, rfl, rfl, SqT.of (SG1 _ _ hb), rfl, ?_⟩)⟩
      refine ⟨by show 2 ≤ sizeLine; decide, fun u hu2 => ?_⟩
      have SU := Same.new (o := .tup [V.str a.2.2, V.str b.2.2]) hu2
      have pr := lnk_prt p0 i qN
      have bd := prt_bd pr l8
      rw [← ep] at pr bd
      refine ⟨q, u, ap, [a.2.2, b.2.2], rfl, SU _ _ (SX _ _ eq), (pt.keep (KT.same SX)).keep (KT.same SU), .inr (SqT.of upd_same), by show 2 ≤ 8; decide, by unfold prt at bd; rw [List.length_map] at bd; exact bd.1, fun x hx => ?_, fun q2 ap2 G2 S2 hq2 eq2 pt2 ep2 => ?_⟩
      · have := bd.2 x.2 (List.mem_map.mpr ⟨x, hx, rfl⟩)
        refine ⟨this.1, fun n hn => ?_⟩
        obtain ⟨y, hy, ey⟩ := List.mem_map.mp (this.2 n hn)
        rw [← ey]
        exact g.nm y hy
      · have SS := Same.trans SG (Same.trans SX (Same.trans SU S2))
        have hq2H : H q2 = none := by
          cases z : H q2 with
          | none => rfl
          | some o => rw [SU _ _ (SX _ _ (SG _ _ (ST3 _ _ z)))] at hq2; cases hq2
        refine ⟨_, _, v8, v9, q2, ap2, rfl, SS, hq2H, eq2, pt2, ?_⟩
        have ez : ((csA.map (·.2.2)).zip (csB.map (·.2.2)))[i]? = some (a.2.2, b.2.2) := by
          rw [List.getElem?_zip_eq_some, List.getElem?_map, List.getElem?_map, e1, e2]
          exact ⟨rfl, rfl⟩
        rw [ep2, ep, List.take_add_one, ez]
        exact (lnk_snoc _ _ (a.2.2, b.2.2)).symm
    · rintro σ G ⟨v6, v7, v8, v9, q, ap, rfl, SG, hqH, eq, pt, ep⟩
      rw [List.take_of_length_le (by rw [List.length_zip, List.length_map, List.length_map, List.length_map]; omega)] at ep
      exact ⟨_, rfl, k q ap _ _ _ (Same.trans ST3 SG) hqH eq pt Lk ep⟩
end
end K40
namespace PC
open PySem
section
variable {t : Int} {N : List Str} {b e : Str → Int} {c : Int} {es bs : List Str}
theorem Rel.rfl' {x : Str} : Rel t b e N x x := fun _ _ _ _ => rfl
theorem Rel.sy {x y : Str} (h : Rel t b e N x y) : Rel t b e N y x := fun A a r ap => (h A a r ap).symm
def lnk (ps : List (List Str)) (qs : List (Str × Str)) : List (List Str) := qs.foldl (fun ps q => mrg ps [q.1, q.2]) ps
theorem lnk_snoc (ps : List (List Str)) (qs : List (Str × Str)) (q : Str × Str) : lnk ps (qs ++ [q]) = mrg (lnk ps qs) [q.1, q.2] := by
  unfold lnk
  rw [List.foldl_append]
  rfl
theorem lnk_pcs (ht : 0 < t) (L : Lnk t c b e N es bs) (hp : ∀ s, (N.map (al t b e s)).sum ≤ (N.map (al t b e (c - 1))).sum) {ps : List (List Str)} (h0 : Prt N ps) (h1 : ∀ p ∈ ps, ∀ x ∈ p, ∀ y ∈ p, Rel t b e N x y) : ∀ k : Nat,
    Prt N (lnk ps ((es.zip bs).take k)) ∧ (∀ q ∈ (es.zip bs).take k, ∀ p ∈ lnk ps ((es.zip bs).take k), q.1 ∈ p ↔ q.2 ∈ p) ∧ ∀ p ∈ lnk ps ((es.zip bs).take k), ∀ x ∈ p, ∀ y ∈ p, Rel t b e N x y
  | 0 => ⟨h0, fun q hq => by simp at hq, h1⟩
  | k + 1 => by
    obtain ⟨i1, i2, i3⟩ := lnk_pcs ht L hp h0 h1 k
    rw [List.take_add_one]
    cases z : (es.zip bs)[k]? with
    | none => rw [Option.toList_none, List.append_nil]; exact ⟨i1, i2, i3⟩
    | some q =>
      rw [Option.toList_some, lnk_snoc]
      have hq := List.mem_of_getElem? z
      have hm := List.of_mem_zip (show (q.1, q.2) ∈ es.zip bs from hq)
      have m1 : q.1 ∈ N := L.ep.mem_iff.mp hm.1
      have m2 : q.2 ∈ N := L.bp.mem_iff.mp hm.2
      have rl : Rel t b e N q.1 q.2 := fun A a r ap => L.same ht hp ap q hq
      have hN : ∀ n ∈ [q.1, q.2], n ∈ N := fun n hn => by
        simp only [List.mem_cons, List.not_mem_nil, or_false] at hn
        rcases hn with rfl | rfl
        · exact m1
        · exact m2
      refine ⟨i1.mrg (by simp) hN, fun q' hq' p hp' => ?_, mrg_rel i1 (fun x y z => Rel.tr) i3 fun x hx y hy => ?_⟩
      · rcases List.mem_append.mp hq' with w | w
        · exact mrg_iff (i2 q' w) p hp'
        · rw [List.mem_singleton.mp w, mrg_in i1 (by simp) m1 hp', mrg_in i1 (by simp) m2 hp']
      · simp only [List.mem_cons, List.not_mem_nil, or_false] at hx hy
        rcases hx with rfl | rfl <;> rcases hy with rfl | rfl
        · exact Rel.rfl'
        · exact rl
        · exact rl.sy
        · exact Rel.rfl'
theorem lnk_all (ht : 0 < t) (L : Lnk t c b e N es bs) (hp : ∀ s, (N.map (al t b e s)).sum ≤ (N.map (al t b e (c - 1))).sum) {ps : List (List Str)} (h0 : Prt N ps) (h1 : ∀ p ∈ ps, ∀ x ∈ p, ∀ y ∈ p, Rel t b e N x y) : Pcs t b e N c es bs (lnk ps (es.zip bs)) := by
  have := lnk_pcs ht L hp h0 h1 (es.zip bs).length
  rw [List.take_length] at this
  exact ⟨this.1, this.2.1, this.2.2⟩
/-- one slot: the parts that have free registers there become one -/
def freB (t : Int) (b e : Str → Int) (c s : Int) (p : List Str) : Bool := decide ((p.map (gA t b e c s)).sum < 0)
theorem fre_iff {s : Int} {p : List Str} : freB t b e c s p = true ↔ Fre t b e c s p := by
  unfold freB Fre
  rw [decide_eq_true_eq]
def hd (p : List Str) : Str := p.headD Str.empty
def stp (t : Int) (b e : Str → Int) (c s : Int) (ps : List (List Str)) : List (List Str) := if ps.filter (freB t b e c s) = [] then ps else mrg ps ((ps.filter (freB t b e c s)).map hd)
theorem hd_mem {p : List Str} (h : p ≠ []) : hd p ∈ p := by
  cases p with
  | nil => exact absurd rfl h
  | cons n p => exact List.mem_cons_self
def One (t : Int) (b e : Str → Int) (c : Int) (ps : List (List Str)) (s : Int) : Prop := ∀ p ∈ ps, ∀ q ∈ ps, Fre t b e c s p → Fre t b e c s q → p = q
theorem stp_pcs (ht : 0 < t) (L : Lnk t c b e N es bs) (hp : ∀ s, (N.map (al t b e s)).sum ≤ (N.map (al t b e (c - 1))).sum) {ps : List (List Str)} (h : Pcs t b e N c es bs ps) (s : Int) : Pcs t b e N c es bs (stp t b e c s ps) ∧ One t b e c (stp t b e c s ps) s ∧ ∀ s', One t b e c ps s' → One t b e c (stp t b e c s ps) s' := by
  unfold stp
  by_cases z : ps.filter (freB t b e c s) = []
  · rw [if_pos z]
    refine ⟨h, fun p hp' q hq f => ?_, fun s' o => o⟩
    have : p ∈ ps.filter (freB t b e c s) := List.mem_filter.mpr ⟨hp', fre_iff.mpr f⟩
    rw [z] at this
    cases this
  · rw [if_neg z]
    have mem : ∀ {p}, p ∈ ps.filter (freB t b e c s) → p ∈ ps ∧ Fre t b e c s p := fun {p} hm => ⟨(List.mem_filter.mp hm).1, fre_iff.mp (List.mem_filter.mp hm).2⟩
    have hN : ∀ n ∈ (ps.filter (freB t b e c s)).map hd, n ∈ N := fun n hn => by
      obtain ⟨p, hm, rfl⟩ := List.mem_map.mp hn
      exact h.pr.mem.mpr ⟨p, (mem hm).1, hd_mem (h.pr.ne p (mem hm).1)⟩
    have hne : (ps.filter (freB t b e c s)).map hd ≠ [] := fun w => z (List.map_eq_nil_iff.mp w)
    -- what is hit is what is free
    have hh : ∀ p ∈ ps, hit ((ps.filter (freB t b e c s)).map hd) p = true ↔ Fre t b e c s p := fun p hm => by
      rw [hit_iff]
      constructor
      · rintro ⟨n, hn, hnp⟩
        obtain ⟨q, hq, rfl⟩ := List.mem_map.mp hn
        have := h.pr.one hm (mem hq).1 hnp (hd_mem (h.pr.ne q (mem hq).1))
        rw [this]
        exact (mem hq).2
      · intro f
        exact ⟨hd p, List.mem_map.mpr ⟨p, List.mem_filter.mpr ⟨hm, fre_iff.mpr f⟩, rfl⟩, hd_mem (h.pr.ne p hm)⟩
    have rel : ∀ x ∈ (ps.filter (freB t b e c s)).map hd, ∀ y ∈ (ps.filter (freB t b e c s)).map hd, Rel t b e N x y := fun x hx y hy => by
      obtain ⟨p, hm, rfl⟩ := List.mem_map.mp hx
      obtain ⟨q, hq, rfl⟩ := List.mem_map.mp hy
      exact h.two ht L hp (mem hm).1 (mem hq).1 (mem hm).2 (mem hq).2 _ (hd_mem (h.pr.ne p (mem hm).1)) _ (hd_mem (h.pr.ne q (mem hq).1))
    -- a merged part that is free has a free one in it
    have sub : ∀ s', Fre t b e c s' (ps.filter (hit ((ps.filter (freB t b e c s)).map hd))).flatten → ∃ p ∈ ps, hit ((ps.filter (freB t b e c s)).map hd) p = true ∧ Fre t b e c s' p := fun s' f => by
      apply Classical.byContradiction
      intro w
      unfold Fre at f
      rw [sum_flat] at f
      have := sum_nn (l := (ps.filter (hit ((ps.filter (freB t b e c s)).map hd))).map fun p => (p.map (gA t b e c s')).sum) fun v hv => by
        obtain ⟨p, hm, rfl⟩ := List.mem_map.mp hv
        apply Decidable.byContradiction
        intro w2
        exact w ⟨p, (List.mem_filter.mp hm).1, (List.mem_filter.mp hm).2, by unfold Fre; omega⟩
      omega
    refine ⟨⟨h.pr.mrg hne hN, fun q hq => mrg_iff (h.cl q hq), mrg_rel h.pr (fun x y z => Rel.tr) h.re rel⟩, fun p hp' q hq f1 f2 => ?_, fun s' o p hp' q hq f1 f2 => ?_⟩
    · rcases mrg_mem.mp hp' with ⟨m1, n1⟩ | e1
      · rw [(hh p m1).mpr f1] at n1; cases n1
      · rcases mrg_mem.mp hq with ⟨m2, n2⟩ | e2
        · rw [(hh q m2).mpr f2] at n2; cases n2
        · rw [e1, e2]
    · rcases mrg_mem.mp hp' with ⟨m1, n1⟩ | e1
      · rcases mrg_mem.mp hq with ⟨m2, n2⟩ | e2
        · exact o p m1 q m2 f1 f2
        · rw [e2] at f2
          obtain ⟨x, hx, hx2, fx⟩ := sub s' f2
          have := o p m1 x hx f1 fx
          rw [this, hx2] at n1
          cases n1
      · rcases mrg_mem.mp hq with ⟨m2, n2⟩ | e2
        · rw [e1] at f1
          obtain ⟨x, hx, hx2, fx⟩ := sub s' f1
          have := o q m2 x hx f2 fx
          rw [this, hx2] at n2
          cases n2
        · rw [e1, e2]
def stps (t : Int) (b e : Str → Int) (c : Int) (ps : List (List Str)) : Nat → List (List Str)
  | 0 => ps
  | k + 1 => stp t b e c (k : Int) (stps t b e c ps k)
theorem stps_pcs (ht : 0 < t) (L : Lnk t c b e N es bs) (hp : ∀ s, (N.map (al t b e s)).sum ≤ (N.map (al t b e (c - 1))).sum) {ps : List (List Str)} (h : Pcs t b e N c es bs ps) : ∀ k : Nat, Pcs t b e N c es bs (stps t b e c ps k) ∧ ∀ s : Nat, s < k → One t b e c (stps t b e c ps k) (s : Int)
  | 0 => ⟨h, fun s hs => absurd hs (Nat.not_lt_zero _)⟩
  | k + 1 => by
    obtain ⟨i1, i2⟩ := stps_pcs ht L hp h k
    obtain ⟨a, o1, o2⟩ := stp_pcs ht L hp i1 (k : Int)
    refine ⟨a, fun s hs => ?_⟩
    by_cases q : s = k
    · rw [q]; exact o1
    · exact o2 _ (i2 s (by omega))
/-- the parts at the end -/
theorem stps_rel (ht : 0 < t) (L : Lnk t c b e N es bs) (hp : ∀ s, (N.map (al t b e s)).sum ≤ (N.map (al t b e (c - 1))).sum) {ps : List (List Str)} (h : Pcs t b e N c es bs ps) : Prt N (stps t b e c ps t.toNat) ∧ ∀ p ∈ stps t b e c ps t.toNat, ∀ x ∈ p, ∀ y ∈ N, y ∈ p ↔ Rel t b e N x y := by
  obtain ⟨a, o⟩ := stps_pcs ht L hp h t.toNat
  refine ⟨a.pr, fun p hm x hx y hy => a.rel ht L hp (fun s s0 s1 p hp' q hq => ?_) hm hx hy⟩
  have := o s.toNat (by omega)
  rw [show ((s.toNat : Nat) : Int) = s by omega] at this
  exact this p hp' q hq
/-! ### the parts in their order -/
open Classical in
noncomputable def cls (t : Int) (b e : Str → Int) (N : List Str) (n : Str) : List Str := N.filter fun m => decide (Rel t b e N n m)
open Classical in
noncomputable def pcs (t : Int) (b e : Str → Int) (N : List Str) : List (List Str) := (N.filter fun n => decide (∀ m ∈ N, Rel t b e N n m → ¬ m.cps.toList < n.cps.toList)).map (cls t b e N)
open Classical in
theorem cls_mem {n m : Str} : m ∈ cls t b e N n ↔ m ∈ N ∧ Rel t b e N n m := by
  unfold cls
  rw [List.mem_filter, decide_eq_true_eq]
open Classical in
theorem cls_eq {n m : Str} (h : Rel t b e N n m) : cls t b e N n = cls t b e N m := by
  unfold cls
  apply List.filter_congr
  intro x _
  rw [decide_eq_decide]
  exact ⟨fun z => h.sy.tr z, fun z => h.tr z⟩
end
end PC
namespace KST
open PySem PySem.Spec PyProof.Rows L2 PySem.Calls
theorem rising_of : ∀ (p : Str) (l : List Str), (∀ y ∈ l, ltCps y.cps.toList p.cps.toList = false) → l.Pairwise (fun a b => ltCps b.cps.toList a.cps.toList = false) → risingS p l = true
  | p, [], _, _ => rfl
  | p, x :: r, h, q => by
    obtain ⟨q1, q2⟩ := List.pairwise_cons.mp q
    show (!ltCps x.cps.toList p.cps.toList && risingS x r) = true
    rw [h x List.mem_cons_self, rising_of x r q1 q2]
    rfl
theorem sorted_of {l : List Str} (q : l.Pairwise fun a b => ltCps b.cps.toList a.cps.toList = false) : sortedS l = true := by
  cases l with
  | nil => rfl
  | cons x r =>
    obtain ⟨q1, q2⟩ := List.pairwise_cons.mp q
    exact rising_of x r q1 q2
/-- sorted(t), t a tuple of texts -/
def rSortedTS (K : PySem.W.Frag) : List V → Hp → VK → Prop := fun vs H Q => ∃ (a : Addr) (xs : List Str), vs = [V.ref a] ∧ SqT K H a (xs.map V.str) ∧ xs.length < 64 ∧
  ∀ (ys : List Str) (p : Addr), ys.Perm xs → sortedS ys = true → H p = none → Q
                                                                                (.ref p) (upd H p (.lst (ys.map V.str)))
theorem each_strs : ∀ {xs : List Str} {us : List Value}, Vals (xs.map V.str) us → PySem.W.EachIs (fun v (x : Str) => RelV (.str x) v) us xs
  | [], _, r => by cases r; exact .nil
  | x :: xs, _, r => by
    cases r with
    | cons r t => exact .cons r (each_strs t)
theorem strs_each : ∀ {xs : List Str} {us : List Value}, PySem.W.EachIs (fun v (x : Str) => RelV (.str x) v) us xs → Vals (xs.map V.str) us
  | _, _, .nil => .nil
  | _, _, .cons r t => .cons r (strs_each t)
variable {X : Cx}
theorem cr_sortedTS (hu : X.A.units + 64 < cLine) : CallR X (.builtin "sorted") (rSortedTS X.K) := by
  intro pins s σ H vs us Q I r h
  obtain ⟨a, xs, rfl, hs, h64, q⟩ := h
  obtain ⟨its, rv, p, hz⟩ := I.tuple hs
  rw [Vals.ref1 r]
  have e := each_strs rv
  obtain ⟨o, ho, hc, n, hd⟩ := p
  have lits : its.length = xs.length := by have := rv.length; rw [List.length_map] at this; exact this.symm
  refine Calls.call_function_entry kind_sorted plain_sorted entry_sorted
                                                                         (args_sorted1 _) ?_
  unfold Builtin.«sorted»
  refine wpAny_bind
                    (m := checkCount "sorted" 1 1 _) (wpAny_pure ?_)
  refine wpAny_bind (wpAny_collect_seq a (T := "tuple") (.inr rfl) ho hc hd (fun h1 k1 => ?_) (by rw [sizeLine_eq]; show its.length ≤ _; omega))
  have I1 : Inv X pins σ H { s with heap := h1 } := I.kept (t' := s.toks) k1
  refine wpAny_bind (wpAny_newList ?_ (by rw [sizeLine_eq]; show its.length ≤ _; omega))
  have hoL : (h1.push (seqObj "list" its.toArray.toList.toArray 0)).get? h1.objs.size = some (seqObj "list" its.toArray.toList.toArray 0) := Heap.get?_push_size _ rfl
  have kk : ∀ b o, h1.get? b = some o → (h1.push (seqObj "list" its.toArray.toList.toArray 0)).get? b = some o := fun b o e => Heap.get?_push_of_some _ e
  have er : PySem.W.EachIs (fun v (b : Str) => ∃ as, Reads (h1.push (seqObj "list" its.toArray.toList.toArray 0)) v (PyData.str b) as ∧ h1.objs.size ∉ as) its.toArray.toList xs := by
    have : ∀ {us : List Value} {ys : List Str}, PySem.W.EachIs (fun v (x : Str) => RelV (.str x) v) us ys → PySem.W.EachIs (fun v (b : Str) => ∃ as, Reads (h1.push (seqObj "list" its.toArray.toList.toArray 0)) v (PyData.str b) as ∧ h1.objs.size ∉ as) us ys := by
      intro us ys h
      induction h with
      | nil => exact .nil
      | cons r _ ih =>
        obtain ⟨tk, rfl⟩ := r
        exact .cons ⟨[], .str _ _, by simp⟩ ih
    exact this e
  refine wpAny_bind (wpAny_holding (PySem.W.list_sort_data (s := { s with heap := h1.push (seqObj "list" its.toArray.toList.toArray 0) }) (R := fun v (x : Str) => RelV (.str x) v) (enc := PyData.str) hoL e er (PySem.W.AllAlike.of fun b b' => ?_) ?_ (by rw [sizeLine_eq]; omega) (fun m _ => ?_) fun out e1 e2 => ?_))
  · simp [PySem.W.alike]
  · exact PySem.W.Sortable.others fun b => ⟨(fun z => by cases z), fun _ z => by cases z⟩
  · have : (PyData.str m).depth = 0 := by simp [PyData.depth]
    show X.A.units + 1 + 1 + (PyData.str m).depth < cLine
    omega
  obtain ⟨c, hcc⟩ := sortedHeap_at (vs := its.toArray.toList) (out := out.toArray) hoL
  have pmy := List.mergeSort_perm xs (PySem.W.dataLe false PyData.str)
  have soy : (xs.mergeSort (PySem.W.dataLe false PyData.str)).Pairwise (fun a b => PySem.W.dataLe false PyData.str a b = true) := PySem.W.sort_pairwise (PySem.W.sortLe_total _ _ _) xs
  have hlen : ((xs.mergeSort (PySem.W.dataLe false PyData.str)).map V.str).length ≤ sizeLine := by rw [List.length_map, List.length_mergeSort, sizeLine_eq]; omega
  have hn : H h1.objs.size = none := I1.hok.fresh (Nat.le_refl _)
  refine wpAny_pure ⟨_, rfl, ?_⟩
  refine ⟨.ref h1.objs.size, upd H h1.objs.size (.lst ((xs.mergeSort (PySem.W.dataLe false PyData.str)).map V.str)), I1.laid (t' := s.toks) (fun b u e => ?_) (Nat.le_refl _) ⟨hlen, out.toArray.toList, c, strs_each (by simpa using e2), by simpa using hcc⟩, rfl, q _ _ pmy ?_ hn⟩
  · have lt := Heap.lt_size e
    rw [sortedHeap_old (Nat.ne_of_lt lt) (by rw [size_push']; exact Nat.lt_succ_of_lt lt)]
    exact kk b u e
  · refine sorted_of (soy.imp fun {a b} h => ?_)
    rw [PySem.W.dataLe_eq] at h
    have h2 : (!PySem.W.dataLt (.str b) (.str a)) = true := h
    rw [PySem.W.dataLt_str] at h2
    rw [ltCps_eq]
    simpa using h2
/-! ### sorted(xs), xs a list of tuples of texts -/
abbrev TS := Addr × List Str
def encTS (b : TS) : PyData := .tuple (b.2.map PyData.str)
theorem each_ts : ∀ {bs : List TS} {us : List Value}, Vals (bs.map fun b => V.ref b.1) us → PySem.W.EachIs (fun v (b : TS) => v = Value.ref b.1) us bs
  | [], _, r => by cases r; exact .nil
  | b :: bs, _, r => by
    cases r with
    | cons r t => exact .cons r (each_ts t)
theorem ts_each : ∀ {bs : List TS} {us : List Value}, PySem.W.EachIs (fun v (b : TS) => v = Value.ref b.1) us bs → Vals (bs.map fun b => V.ref b.1) us
  | _, _, .nil => .nil
  | _, _, .cons r t => .cons r (ts_each t)
theorem ts_with {R R' : Value → TS → Prop} : ∀ {us : List Value} {bs : List TS}, PySem.W.EachIs R us bs → (∀ v, ∀ b ∈ bs, R v b → R' v b) → PySem.W.EachIs R' us bs
  | _, _, .nil, _ => .nil
  | _, _, .cons r t, h => .cons (h _ _ List.mem_cons_self r) (ts_with t fun v b hb => h v b (List.mem_cons_of_mem _ hb))
theorem alike_strs : ∀ a b : List Str, PySem.W.alikeAll (a.map PyData.str) (b.map PyData.str) = true
  | [], [] => by simp [PySem.W.alikeAll]
  | [], _ :: _ => by simp [PySem.W.alikeAll]
  | _ :: _, [] => by simp [PySem.W.alikeAll]
  | x :: a, y :: b => by
    have := alike_strs a b
    simp [PySem.W.alikeAll, PySem.W.alike, this]
theorem dp_strs {K : PySem.W.Frag} {H : Hp} : ∀ ns : List Str, DpAll K H (ns.map V.str) (ns.map PyData.str)
  | [] => .nil
  | n :: ns => .cons (.str n) (dp_strs ns)
def rSortTT (K : PySem.W.Frag) : List V → Hp → VK → Prop := fun vs H Q => ∃ (a : Addr) (bs : List TS), vs = [V.ref a] ∧ SqL K H a (bs.map fun b => V.ref b.1) ∧ (∀ b ∈ bs, H b.1 = some (.tup (b.2.map V.str)) ∧ b.2 ≠ []) ∧ bs.length < 64 ∧
  ∀ p, H p = none → Q (.ref p) (upd H p (.lst ((bs.mergeSort (PySem.W.dataLe false encTS)).map fun b => V.ref b.1)))
theorem cr_sortTT (hu : X.A.units + 65 < cLine) : CallR X (.builtin "sorted") (rSortTT X.K) := by
  intro pins s σ H vs us Q I r h
  obtain ⟨a, bs, rfl, hs, ht, h64, q⟩ := h
  obtain ⟨its, rv, hl, _⟩ := I.list hs
  rw [Vals.ref1 r]
  have e := each_ts rv
  refine PySem.W.sorted_data (R := fun v (b : TS) => v = Value.ref b.1) (enc := encTS) hl.isList e (ts_with e fun v b hb ev => ?_) (PySem.W.AllAlike.of fun b b' => ?_) (.inl fun d hd => ?_) (small64 h64) (fun b _ => ?_) fun out ho eo => ?_
  · exact Dp.reads I (encTS b) (.ref b.1) v (.tup (SqT.of (ht b hb).1) (dp_strs b.2)) ev
  · have := alike_strs b.2 b'.2
    simp [PySem.W.alike, encTS, this]
  · obtain ⟨b, hb, rfl⟩ := List.mem_map.mp hd
    have ne := (ht b hb).2
    unfold encTS
    cases e2 : b.2 with
    | nil => exact absurd e2 ne
    | cons x r => exact ⟨_, _, rfl⟩
  · have : (encTS b).depth ≤ 2 := by
      have : ∀ l : List Str, PyData.depthAll (l.map PyData.str) ≤ 1 := fun l => by
        induction l with
        | nil => simp [PyData.depthAll]
        | cons x l ih => simp only [List.map_cons, PyData.depthAll, PyData.depth]; omega
      have := this b.2
      simp only [encTS, PyData.depth]
      omega
    omega
  · obtain ⟨ep, he'⟩ := PyProof.Rows.sortedAll_at s.heap its out.toArray
    have hlen : ((bs.mergeSort (PySem.W.dataLe false encTS)).map fun b => V.ref b.1).length ≤ sizeLine := by rw [List.length_map, List.length_mergeSort]; exact small64 h64
    exact ⟨.ref _, upd H (s.heap.objs.size + 1) (.lst ((bs.mergeSort (PySem.W.dataLe false encTS)).map fun b => V.ref b.1)), I.laid (t' := s.toks) (fun _ _ => PyProof.Rows.sortedAll_old) (Nat.le_succ _) ⟨hlen, out, ep, ts_each eo, he'⟩, rfl, q _ (I.hok.fresh (Nat.le_succ _))⟩
/-- the heads rise -/
theorem dataLe_ts {x y : Str} {a b : List Str} {p q : Addr} (h : PySem.W.dataLe false encTS (p, x :: a) (q, y :: b) = true) : ¬ y.cps.toList < x.cps.toList := by
  rw [PySem.W.dataLe_eq] at h
  have h' : (!PySem.W.dataLt (.tuple (.str y :: b.map PyData.str)) (.tuple (.str x :: a.map PyData.str))) = true := h
  intro lt
  have ne : ¬ PyData.eqv (.str y) (.str x) = true := fun z => by
    have e : y = x := by simpa [PyData.eqv] using z
    rw [e] at lt
    exact List.lt_irrefl _ lt
  rw [PySem.W.dataLt_tuple, PySem.W.dataLt_cons (by simp [PySem.W.alike]), if_neg ne, PySem.W.dataLt_str, decide_eq_true lt] at h'
  cases h'
end KST
namespace K40
open PySem L2
open PyProof.Rows PySem.Spec
theorem sort_to {xs ys zs : List Str} (p : ys.Perm xs) (s : sortedS ys = true) (q : xs.Perm zs) (t : sortedS zs = true) : ys = zs := sorted_eq p q.symm s t
theorem pw_lt {l : List Str} (nd : l.Nodup) (s : sortedS l = true) : l.Pairwise fun a b => a.cps.toList < b.cps.toList := by
  refine List.Pairwise.imp₂ (fun a b h1 h2 => ?_) (sortedS_pw s) nd
  have h3 : ¬ b.cps.toList < a.cps.toList := fun w => by
    rw [ltCps_eq, decide_eq_false_iff_not] at h1
    exact h1 w
  rcases List.le_iff_lt_or_eq.mp (List.not_lt.mp h3) with w | w
  · exact w
  · exact absurd (str_ext w) h2
theorem srt_pw {l : List Str} (h : l.Pairwise fun a b => a.cps.toList < b.cps.toList) : sortedS l = true := KST.sorted_of (h.imp fun {a b} q => by
  rw [ltCps_eq, decide_eq_false_iff_not]
  exact fun z => List.lt_irrefl _ (List.lt_trans q z))
theorem map_nd {f : List Str → Str} : ∀ {ps : List (List Str)}, ps.flatten.Nodup → (∀ p ∈ ps, f p ∈ p) → (ps.map f).Nodup
  | [], _, _ => List.nodup_nil
  | p :: ps, h, hf => by
    rw [List.flatten_cons, List.nodup_append] at h
    rw [List.map_cons, List.nodup_cons]
    refine ⟨fun z => ?_, map_nd h.2.1 fun q hq => hf q (List.mem_cons_of_mem _ hq)⟩
    obtain ⟨q, hq, eq⟩ := List.mem_map.mp z
    exact h.2.2 _ (hf p List.mem_cons_self) _ (List.mem_flatten.mpr ⟨q, hq, hf q (List.mem_cons_of_mem _ hq)⟩) eq.symm
theorem cps_inj {a b : Str} (h : a.cps.toList = b.cps.toList) : a = b := by
  obtain ⟨a⟩ := a
  obtain ⟨b⟩ := b
  congr 1
  exact Array.toList_inj.mp h
open Classical in
/-- the parts in their order, whatever way they were found -/
theorem pcs_eq {t : Int} {b e : Str → Int} {N : List Str} {ps zs : List (List Str)} (so : sortedS N = true) (h : PC.Prt N ps) (rel : ∀ p ∈ ps, ∀ x ∈ p, ∀ y ∈ N, y ∈ p ↔ PC.Rel t b e N x y) {srt : List Str → List Str} (hs : ∀ p ∈ ps, (srt p).Perm p ∧ sortedS (srt p) = true) (pm : zs.Perm (ps.map srt)) (hz : (zs.map PC.hd).Pairwise fun x y => ¬ y.cps.toList < x.cps.toList) : zs = PC.pcs t b e N := by
  have pwN := pw_lt h.nd so
  -- a sorted part is the class of each of its names
  have cl : ∀ p ∈ ps, ∀ x ∈ p, srt p = PC.cls t b e N x := fun p hp x hx => by
    have sc : sortedS (PC.cls t b e N x) = true := srt_pw (by unfold PC.cls; exact pwN.filter _)
    have ndp : p.Nodup := by
      have fl := h.fl
      obtain ⟨l, r, e⟩ := List.append_of_mem hp
      rw [e, List.flatten_append, List.flatten_cons, List.nodup_append, List.nodup_append] at fl
      exact fl.2.1.1
    have pc : p.Perm (PC.cls t b e N x) := by
      have ndc : (PC.cls t b e N x).Nodup := by unfold PC.cls; exact h.nd.filter _
      rw [List.perm_ext_iff_of_nodup ndp ndc]
      intro y
      rw [PC.cls_mem]
      constructor
      · intro hy
        have hN := h.mem.mpr ⟨p, hp, hy⟩
        exact ⟨hN, (rel p hp x hx y hN).mp hy⟩
      · rintro ⟨hN, hr⟩
        exact (rel p hp x hx y hN).mpr hr
    exact sort_to (hs p hp).1 (hs p hp).2 pc sc
  have hmem : ∀ z ∈ zs, ∃ p ∈ ps, z = srt p := fun z hz => by
    obtain ⟨p, hp, e⟩ := List.mem_map.mp (pm.mem_iff.mp hz)
    exact ⟨p, hp, e.symm⟩
  have sne : ∀ p ∈ ps, srt p ≠ [] := fun p hp w => by
    have := (hs p hp).1.length_eq
    rw [w] at this
    exact h.ne p hp (List.length_eq_zero_iff.mp this.symm)
  have hdp : ∀ p ∈ ps, PC.hd (srt p) ∈ p := fun p hp => (hs p hp).1.mem_iff.mp (PC.hd_mem (sne p hp))
  have hcl : ∀ z ∈ zs, z = PC.cls t b e N (PC.hd z) := fun z hz => by
    obtain ⟨p, hp, rfl⟩ := hmem z hz
    exact cl p hp _ (hdp p hp)
  have e1 : zs = (zs.map PC.hd).map (PC.cls t b e N) := by
    rw [List.map_map]
    conv => lhs; rw [← List.map_id zs]
    exact List.map_congr_left fun z hz => hcl z hz
  -- the heads
  have ndz : (zs.map PC.hd).Nodup := by
    have := (pm.map PC.hd).nodup_iff
    rw [this, List.map_map]
    exact map_nd h.fl fun p hp => hdp p hp
  have sz : sortedS (zs.map PC.hd) = true := KST.sorted_of (hz.imp fun {x y} q => by rw [ltCps_eq, decide_eq_false_iff_not]; exact q)
  have first : ∀ {l : List Str}, l.Pairwise (fun a b => a.cps.toList < b.cps.toList) → ∀ y ∈ l, ¬ y.cps.toList < (PC.hd l).cps.toList := fun {l} pw y hy => by
    cases l with
    | nil => cases hy
    | cons a l =>
      rcases List.mem_cons.mp hy with rfl | hy
      · exact List.lt_irrefl _
      · intro z
        exact List.lt_irrefl _ (List.lt_trans ((List.pairwise_cons.mp pw).1 y hy) z)
  have pwc : ∀ x, (PC.cls t b e N x).Pairwise (fun a b => a.cps.toList < b.cps.toList) := fun x => by unfold PC.cls; exact pwN.filter _
  rw [e1]
  unfold PC.pcs
  congr 1
  refine sort_to (List.Perm.refl _) sz ?_ (srt_pw (pwN.filter _))
  rw [List.perm_ext_iff_of_nodup ndz (h.nd.filter _)]
  intro n
  rw [List.mem_filter, List.mem_map]
  constructor
  · rintro ⟨z, hz, rfl⟩
    obtain ⟨p, hp, ez⟩ := hmem z hz
    have hp2 : PC.hd z ∈ p := by rw [ez]; exact hdp p hp
    have hN := h.mem.mpr ⟨p, hp, hp2⟩
    refine ⟨hN, decide_eq_true fun m hm hr => ?_⟩
    have hc := hcl z hz
    have := first (pwc (PC.hd z)) m (PC.cls_mem.mpr ⟨hm, hr⟩)
    rw [← hc] at this
    exact this
  · rintro ⟨hN, hd⟩
    have hd := of_decide_eq_true hd
    obtain ⟨p, hp, hnp⟩ := h.mem.mp hN
    refine ⟨srt p, pm.mem_iff.mpr (List.mem_map.mpr ⟨p, hp, rfl⟩), ?_⟩
    have ec := cl p hp n hnp
    have hh := hdp p hp
    have hhN := h.mem.mpr ⟨p, hp, hh⟩
    have a1 := hd _ hhN ((rel p hp n hnp _ hhN).mp hh)
    have a2 : ¬ n.cps.toList < (PC.hd (srt p)).cps.toList := by
      rw [ec]
      exact first (pwc n) n (PC.cls_mem.mpr ⟨hN, PC.Rel.rfl'⟩)
    exact cps_inj (List.le_antisymm (List.not_lt.mp a2) (List.not_lt.mp a1))
end K40
namespace K40
open PySem L2
open PyProof.Rows PySem.Spec
theorem rising_of : ∀ (p : Str) (l : List Str), (∀ y ∈ l, ltCps y.cps.toList p.cps.toList = false) → l.Pairwise (fun a b => ltCps b.cps.toList a.cps.toList = false) → risingS p l = true
  | p, [], _, _ => rfl
  | p, x :: r, h, q => by
    obtain ⟨q1, q2⟩ := List.pairwise_cons.mp q
    show (!ltCps x.cps.toList p.cps.toList && risingS x r) = true
    rw [h x List.mem_cons_self, rising_of x r q1 q2]
    rfl
theorem sorted_of {l : List Str} (q : l.Pairwise fun a b => ltCps b.cps.toList a.cps.toList = false) : sortedS l = true := by
  cases l with
  | nil => rfl
  | cons x r =>
    obtain ⟨q1, q2⟩ := List.pairwise_cons.mp q
    exact rising_of x r q1 q2
theorem sort_ex (ns : List Str) : ∃ ys : List Str, ys.Perm ns ∧ sortedS ys = true := by
  refine ⟨ns.mergeSort fun a b => !ltCps b.cps.toList a.cps.toList, List.mergeSort_perm _ _, sorted_of ?_⟩
  refine (List.pairwise_mergeSort (le := fun a b : Str => !ltCps b.cps.toList a.cps.toList) (fun a b c h1 h2 => ?_) (fun a b => ?_) ns).imp fun {a b} h => by simpa using h
  · simp only [Bool.not_eq_true', ltCps_eq, decide_eq_false_iff_not] at h1 h2 ⊢
    exact List.not_lt.mpr (List.le_trans (List.not_lt.mp h1) (List.not_lt.mp h2))
  · simp only [Bool.or_eq_true, Bool.not_eq_true', ltCps_eq, decide_eq_false_iff_not]
    rcases List.le_total a.cps.toList b.cps.toList with h | h
    · exact .inl (List.not_lt.mpr h)
    · exact .inr (List.not_lt.mpr h)
/-- tuple(xs) -/
def rTupOf (K : PySem.W.Frag) : List V → Hp → VK → Prop := fun xs H Q => ∃ p ys, xs = [V.ref p] ∧ ((SqL K H p ys ∧ ∀ l, H l = none → Q (.ref l) (upd H l (.tup ys))) ∨ SqT K H p ys ∧ Q (.ref p) H)
theorem call_tuple_ofK {X : Cx} {K : PySem.W.Frag} (hK : X.K = K) : CallR X (.type "tuple") (rTupOf K) := by
  subst hK
  exact call_tuple_of
theorem cr_sortedTSK {X : Cx} {K : PySem.W.Frag} (hK : X.K = K) (hu : X.A.units + 64 < cLine) : CallR X (.builtin "sorted") (KST.rSortedTS K) := by
  subst hK
  exact KST.cr_sortedTS hu
noncomputable def srt (p : List Str) : List Str := (sort_ex p).choose
theorem srt_ok (p : List Str) : (srt p).Perm p ∧ sortedS (srt p) = true := (sort_ex p).choose_spec
/-- a comprehension that keeps some of its items, and tells another thing of them -/
theorem lc_fm {J : It} {G : Hp → Prop} {ap : AP} (w : Walk J (refs ap).length G (YAt (refs ap))) {g : TG} {tt : TT} {te : TE} {vs : List Nat} {σ : L2.St} {H1 : Hp} {D : Addr} {Qd : Hp → Prop} (f : Addr × List Str → Bool) (val : Addr × List Str → V) (hG : ∀ H', Same H1 H' → G H') (h63 : ap.length ≤ 63) (hD : H1 D = none)
    (hs : ∀ x H', x ∈ ap → Same H1 H' → ∀ (C : VK) (N : Hp → Prop), (∀ H'', Same H' H'' → if f x = true then C (val x) H'' else N H'') → g (.ref x.1) (wipe σ vs) H' fun σ2 H2 => wipe σ2 vs = wipe σ vs ∧ tt σ2 H2 fun b H3 => if b = true then te σ2 H3 C else N H3)
    (hd : ∀ H', Same H1 H' → H' D = some (.lst ((ap.filter f).map val)) → Qd H') :
    ∃ W : Nat → Nat → Hp → Prop, (∃ m, W 0 m
                                             (upd H1 D (.lst []))) ∧ ∀ i m H, W i m H →
      (J.stop i H ∧ Qd H) ∨ (J.go i H ∧ ∃ Nx : Hp → Prop, (∀ H', Nx H' → ∃ m', m' < m ∧ W
                                                                                          (i + 1) m' H') ∧ ∀ x H', J.yld i H x H' → g x (wipe σ vs) H' fun σ2 H2 => wipe σ2 vs = wipe σ vs ∧ tt σ2 H2 fun b H3 =>
        if b = true then te σ2 H3 fun y H4 => ∃ acc, H4 D = some
                                                                 (.lst acc) ∧ acc.length < sizeLine ∧ Nx (upd H4 D (.lst (acc ++ [y]))) else Nx H3) := by
  refine lc_it w (fun i H' => Same H1 H' ∧ H' D = some (.lst (((ap.take i).filter f).map val))) ⟨Same.new hD, upd_same⟩ (fun i H' _ h => hG H' h.1) ?_ (fun H' h => hd H' h.1 (by have := h.2; rw [List.take_of_length_le (by unfold refs; rw [List.length_map]; exact Nat.le_refl _)] at this; exact this))
  rintro i x Ha Hb hi ⟨Sa, eD⟩ ⟨rfl, hx⟩
  obtain ⟨y, ey, rfl⟩ := refs_at hx
  have hf : (ap.take (i + 1)).filter f = (ap.take i).filter f ++ if f y = true then [y] else [] := by
    rw [List.take_add_one, ey, List.filter_append]
    by_cases q : f y = true
    · simp [q]
    · simp [q]
  refine hs y _ (List.mem_of_getElem? ey) Sa _ _ fun Hc Sc => ?_
  by_cases q : f y = true
  · rw [if_pos q]
    refine ⟨_, Sc _ _ eD, ?_, Same.at hD (Same.trans Sa Sc), ?_⟩
    · rw [List.length_map, sizeLine_eq]
      have := List.length_filter_le f (ap.take i)
      rw [List.length_take] at this
      omega
    · rw [upd_same, hf, if_pos q]
      simp
  · rw [if_neg q]
    refine ⟨Same.trans Sa Sc, ?_⟩
    rw [hf, if_neg q, List.append_nil]
    exact Sc _ _ eD
theorem Mst.le {S : Rws} {t : Int} {ns : List Str} {m : Int} (ht : 0 < t) (a : Mst S t ns m) (i : Int) : cnt S t 0 ns (i % t) ≤ m := by
  have h0 := Int.emod_nonneg i (b := t) (by omega)
  have h1 := Int.emod_lt_of_pos i ht
  refine a.2 _ (List.mem_map.mpr ⟨(i % t).toNat, List.mem_range.mpr (by omega), ?_⟩)
  rw [show (((i % t).toNat : Nat) : Int) = i % t by omega]
theorem al_cnt (S : Rws) (t s : Int) (ns : List Str) : (ns.map (PC.al t (bF S) (eF S) s)).sum = cnt S t 0 ns s := by
  unfold cnt alvs
  congr 1
  refine List.map_congr_left fun n _ => ?_
  unfold PC.al alv bF eF
  rw [Int.add_zero]
theorem peak_al {S : Rws} {t m pk : Int} {ns : List Str} (ht : 0 < t) (a : Mst S t ns m) (hp : cnt S t 0 ns pk = m) (s : Int) : (ns.map (PC.al t (bF S) (eF S) s)).sum ≤ (ns.map (PC.al t (bF S) (eF S) (pk + 1 - 1))).sum := by
  rw [show pk + 1 - 1 = pk by omega, al_cnt S t pk ns, hp]
  have e : (ns.map (PC.al t (bF S) (eF S) s)).sum = cnt S t 0 ns (s % t) := by
    rw [← al_cnt]
    congr 1
    refine List.map_congr_left fun n _ => ?_
    have := PC.al_per (b := bF S) (e := eF S) ht (s % t) (s / t) n
    rw [show s % t + t * (s / t) = s by have := Int.mul_ediv_add_emod s t; omega] at this
    exact this
  rw [e]
  exact a.le ht s
theorem pk_first {S : Rws} {t m : Int} {ns : List Str} (hn : ns = S.map (·.1)) (a : Mst S t ns m) : ∃ pk rest, pkS S t m t.toNat = pk :: rest ∧ (0 ≤ pk ∧ pk < t) ∧ cnt S t 0 ns pk = m := by
  have hmem : ∀ x ∈ pkS S t m t.toNat, (0 ≤ x ∧ x < t) ∧ cnt S t 0 ns x = m := fun x hx => by
    unfold pkS at hx
    obtain ⟨s, hs, rfl⟩ := List.mem_map.mp hx
    obtain ⟨h1, h2⟩ := List.mem_filter.mp hs
    have := List.mem_range.mp h1
    rw [hn]
    exact ⟨by omega, of_decide_eq_true h2⟩
  obtain ⟨s, hs, es⟩ := List.mem_map.mp a.1
  have : (s : Int) ∈ pkS S t m t.toNat := by
    unfold pkS
    exact List.mem_map.mpr ⟨s, List.mem_filter.mpr ⟨hs, decide_eq_true (by rw [← hn]; exact es)⟩, rfl⟩
  cases e : pkS S t m t.toNat with
  | nil => rw [e] at this; cases this
  | cons x r => exact ⟨x, r, rfl, (hmem x (by rw [e]; exact List.mem_cons_self)).1, (hmem x (by rw [e]; exact List.mem_cons_self)).2⟩
section
variable {P : Program} {w : World} {K : PySem.W.Frag}
                                                      {mg : Str → Option Value} {base : Heap}
def sp_has_free (K : PySem.W.Frag) (C : Addr) : Sp := fun vs H Q _ => ∃ (p a : Addr) (t pk sl : Int) (S : Rws) (r : Addr) (ns : List Str), vs = [.ref p, .ref a, .int pk, .int sl] ∧ SpS H C p t S r ∧ H a = some (.tup (ns.map V.str)) ∧ (∀ n ∈ ns, n ∈ S.map (·.1)) ∧ ns.length ≤ 8 ∧ (0 ≤ pk ∧ pk < t) ∧ (0 ≤ sl ∧ sl < t) ∧
  ∀ H', Same H H' → Q (.bl (PC.freB t (bF S) (eF S) (pk + 1) sl ns)) H'
theorem ok_has_free (T : T K mg) (U : UX K mg) : FnOk P w K mg base CX0 1 U.mf.f U.mf.d ["self", "names", "peak", "slot"] (sp_has_free K U.C) := by
  refine U.mf.F.ok sc_Spans_has_free (fun vs H Q E h => ?_) (fun cdv A outer s H vs Q E hr h => ?_)
  · obtain ⟨p, a, t, pk, sl, S, r, ns, rfl, _⟩ := h
    rfl
  · obtain ⟨p, a, t, pk, sl, S, r, ns, rfl, ⟨g, so, dx, rd, nm, lv, cr, L, LL, LC, h1, h2, h3, h4, h5, h6, h7, h8, _⟩, ha, hn, l8, hpk, hsl, k⟩ := h
    have hu := hu_of hr
    refine ⟨_, PSs.nox (pss_one (ps_ret (pe_cmpR op_lt (pe_callB (cr_sum rfl) (by rfl) T.z_sum (by decide +kernel) (pa_cons (pe_lc (own := [("name", 4)]) (g := gName 4) rfl sc_Spans_has_free.nd (pi_tup (pv 1)) (blkOk_by (N := ["self", "names", "peak", "slot", "name"]) (sc := defScope s_Spans_has_free) (by decide +kernel)) (fun _ _ _ _ _ => (pg_name (i := 4) sc_Spans_has_free.nd rfl (Or.inl rfl))) (fun _ _ _ _ _ => pts_nil) (fun _ _ _ _ _ => (pe_op op_sub (pe_ix (r := rIx K) ix_seq (pe_dget (by exact hu) (pe_fldK (K := K) rfl (pv 0) rfl) (pv 4) (fun _ _ => rfl)) (pv 3) (fun _ _ => rfl)) (pe_ix (r := rIx K) ix_seq (pe_dget (by exact hu) (pe_fldK (K := K) rfl (pv 0) rfl) (pv 4) (fun _ _ => rfl)) (pv 2) (fun _ _ => rfl))))) pa_nil)) pe_int (nomark _)))), ?_⟩
    refine ⟨_, rfl, a, rfl, ⟨_, SqT.of ha⟩, fun D hD => ?_⟩
    refine lc_map (walk_tup (K := K) (a := a) (xs := ns.map V.str)) (fun v => match v with | .str n => .int (PC.gA t (bF S) (eF S) (pk + 1) sl n) | _ => .non) (fun H' s => SqT.of (s _ _ ha)) (by rw [List.length_map]; omega) hD ?_ ?_
    · intro x Ha hx Sa C N kC
      obtain ⟨n, hn2, rfl⟩ := List.mem_map.mp hx
      have hnS := hn n hn2
      refine ⟨rfl, ?_⟩
      unfold tYes
      dsimp only
      rw [if_pos rfl]
      replace kC : ∀ H'' : Hp, Same Ha H'' → C (.int (PC.gA t (bF S) (eF S) (pk + 1) sl n)) H'' := kC
      obtain ⟨la1, va1, hl1⟩ := (Cts.same Sa h8).get hnS
      obtain ⟨la2, va2, hl2⟩ := (Cts.same Sa h6).get hnS
      have pc := Sa _ _ h1
      refine ⟨_, rfl, p, U.C, dx, _, .ref cr, rfl, pc, U.cl, U.n5, rfl, _, rfl, cr, V.ref la1, rfl, ?_, _, rfl, .inl ⟨la1, _, _, .int (alv t ((spn S n).1 + 1) (spn S n).2 sl), rfl, rfl, SqL.of hl1, ?_, ?_⟩⟩
      · have := DGet.k (k := Sum.inr n) (Sa _ _ h7)
        rw [va1] at this
        exact this
      · have := cntL_at (t := t) (b := (spn S n).1 + 1) (e := (spn S n).2) (j := sl.toNat) (by omega)
        rw [Int.zero_add, Int.toNat_of_nonneg hsl.1] at this
        exact this
      refine ⟨_, rfl, p, U.C, dx, _, .ref lv, rfl, pc, U.cl, U.n4, rfl, _, rfl, lv, V.ref la2, rfl, ?_, _, rfl, .inl ⟨la2, _, _, .int (alv t ((spn S n).1 + 0) (spn S n).2 pk), rfl, rfl, SqL.of hl2, ?_, ?_⟩⟩
      · have := DGet.k (k := Sum.inr n) (Sa _ _ h5)
        rw [va2] at this
        exact this
      · have := cntL_at (t := t) (b := (spn S n).1 + 0) (e := (spn S n).2) (j := pk.toNat) (by omega)
        rw [Int.zero_add, Int.toNat_of_nonneg hpk.1] at this
        exact this
      refine ⟨_, _, rfl, rfl, ?_⟩
      have ev : alv t ((spn S n).1 + 1) (spn S n).2 sl - alv t ((spn S n).1 + 0) (spn S n).2 pk = PC.gA t (bF S) (eF S) (pk + 1) sl n := by
        unfold PC.gA PC.ac PC.al alv bF eF
        rw [show sl - ((spn S n).1 + 1) = sl - (spn S n).1 - 1 by omega, show pk + 1 - 1 = pk by omega, Int.add_zero]
      dsimp only
      rw [ev]
      exact kC _ fun _ _ e => e
    · intro H1 S1 e1
      refine ⟨D, ns.map (PC.gA t (bF S) (eF S) (pk + 1) sl), rfl, SqL.of (by rw [e1]; simp [List.map_map, Function.comp_def]), ?_⟩
      exact ⟨_, _, rfl, rfl, k _ S1⟩
def sp_pieces (K : PySem.W.Frag) (C : Addr) : Sp := fun vs H Q _ => ∃ (p : Addr) (t : Int) (S : Rws) (r : Addr), vs = [.ref p] ∧ SpS H C p t S r ∧
  ∀ q ap H', Same H H' → H' q = some (.tup (refs ap)) → PTs H' ap → prt ap = PC.pcs t (bF S) (eF S) (S.map (·.1)) → Q (.ref q) H'
theorem ok_pieces (T : T K mg) (U : UX K mg) : FnOk P w K mg base CX0 6 U.pq.g U.pq.d ["self"] (sp_pieces K U.C) := by
  have G_merged : FnOk P w K mg base CX0 2 T.f_merged T.d_merged ["parts", "names"] (sp_merged K) := ok_merged T
  have Gp : FnOk P w K mg base CX0 3 U.pp.g U.pp.d ["self"] (sp_peaks K U.C) := ok_peaks T U
  have Gl : FnOk P w K mg base CX0 4 U.mx.f U.mx.d ["self", "peak"] (sp_linked K U.C) := ok_linked T U
  have Gh : FnOk P w K mg base CX0 1 U.mf.f U.mf.d ["self", "names", "peak", "slot"] (sp_has_free K U.C) := ok_has_free T U
  refine U.pq.F.ok sc_Spans_pieces (fun vs H Q E h => ?_) (fun cdv A outer s H vs Q E hr h => ?_)
  · obtain ⟨p, t, S, r, rfl, _⟩ := h
    rfl
  · obtain ⟨p, t, S, r, rfl, sp, k⟩ := h
    obtain ⟨g, so, dx, rd, nm, lv, cr, L, LL, LC, h1, h2, h3, h4, h5, h6, h7, h8, h9⟩ := id sp
    have hu := hu_of hr
    have hr_merged : Room 2 _ := hr.mono (by decide)
    refine ⟨_, PSs.nox (pss_cons (ps_set (i := 1) sc_Spans_pieces.nd rfl (Or.inr rfl) (pe_ix ix_seq (pe_prop (pv 0) U.cl U.pp.pr Gp (hr.mono (by decide)) U.pp.b .nil pass0 rfl) pe_int (fun _ _ => rfl)))
      (pss_cons (ps_set (i := 2) sc_Spans_pieces.nd rfl (Or.inl rfl) (pe_meth (pv 0) U.cl U.mx.m Gl (hr.mono (by decide)) U.mx.b .nil pass0 (pa_cons (pv 1) pa_nil)))
      (pss_cons (ps_for PassesOwn.never rfl (pi_range1 (by rfl) T.z_range (pa_cons (pe_fld (pv 0) rfl) pa_nil)) (pg_name (i := 3) sc_Spans_pieces.nd rfl (Or.inr rfl))
      (pss_cons (ps_setLc (i := 4) (own := [("part", 5)]) (g := gName 5) rfl sc_Spans_pieces.nd rfl rfl (sw_true rfl rfl rfl (by decide +kernel)) (pi_list (pv 2)) (blkOk_by (N := ["self", "peak", "parts", "slot", "free", "part"]) (sc := defScope s_Spans_pieces) (by decide +kernel)) (fun _ _ _ _ _ => (pg_name (i := 5) sc_Spans_pieces.nd rfl (Or.inl rfl))) (fun _ _ _ _ _ => pts_one (pt_val (pe_meth (pv 0) U.cl U.mf.m Gh (hr.mono (by decide)) U.mf.b .nil pass0 (pa_cons (pv 5) (pa_cons (pv 1) (pa_cons (pv 3) pa_nil)))))) (fun _ _ _ _ _ => (pe_ix (r := rIx K) ix_seq (pv 5) pe_int (fun _ _ => rfl))))
      (pss_one (ps_if (pt_truth (pv 4) (fun _ => rfl))
      (pss_one (ps_set (i := 2) sc_Spans_pieces.nd rfl (Or.inl rfl) (pe_call G_merged hr_merged rfl T.m_merged T.F_merged.kp T.b_merged .nil pass0 (pa_cons (pv 2) (pa_cons (pv 4) pa_nil)))))
      pss_nil))))
      (pss_one (ps_ret (pe_callTy call_tuple_of (by rfl) T.z_tuple (by decide +kernel) (pa_cons (pe_callB (KST.cr_sortTT (un65 hr)) (by rfl) T.z_sorted (by decide +kernel) (pa_cons (pe_lc (own := [("part", 5)]) (g := gName 5) rfl sc_Spans_pieces.nd (pi_list (pv 2)) (blkOk_by (N := ["self", "peak", "parts", "slot", "free", "part"]) (sc := defScope s_Spans_pieces) (by decide +kernel)) (fun _ _ _ _ _ => (pg_name (i := 5) sc_Spans_pieces.nd rfl (Or.inl rfl))) (fun _ _ _ _ _ => pts_nil) (fun _ _ _ _ _ => (pe_callTy (call_tuple_ofK (K := K) rfl) (by rfl) T.z_tuple (by decide +kernel) (pa_cons (pe_callB (cr_sortedTSK (K := K) rfl (un64 hr)) (by rfl) T.z_sorted (by decide +kernel) (pa_cons (pv 5) pa_nil)) pa_nil)))) pa_nil)) pa_nil))))))), ?_⟩
    have g8 := g.l8
    have t1 := g.t1
    have t2 := g.t2
    have ht : 0 < t := by omega
    have l8 : (S.map (·.1)).length ≤ 8 := by rw [List.length_map]; exact g8
    refine ⟨_, rfl, p, dx, _, rfl, h1, p, t, S, r, rfl, sp, fun m qk H1 mst S1 ek => ?_⟩
    obtain ⟨pk, rest, epk, hpk, hcn⟩ := pk_first rfl mst
    have hp := peak_al ht mst hcn
    rw [epk] at ek
    refine .inr (.inl ⟨qk, _, _, .int pk, rfl, rfl, SqT.of ek, atI_nat (j := 0) rfl, ?_⟩)
    refine ⟨_, rfl, p, dx, _, rfl, S1 _ _ h1, rfl, _, rfl, p, t, pk, S, r, rfl, sp.same S1, hpk, fun q ap es bs H2 S2 hq eq pt Lk ep => ?_⟩
    have one := prt_one (N := S.map (·.1)) g.nd
    have pcs0 : PC.Pcs t (bF S) (eF S) (S.map (·.1)) (pk + 1) es bs (prt ap) := by
      rw [ep]
      exact PC.lnk_all ht Lk hp one fun p hp' x hx y hy => by
        obtain ⟨n, _, rfl⟩ := List.mem_map.mp hp'
        rw [List.mem_singleton.mp hx, List.mem_singleton.mp hy]
        exact PC.Rel.rfl'
    clear ep
    have S12 := Same.trans S1 S2
    have z1 := S12 _ _ h1
    refine ⟨_, rfl, p, U.C, dx, _, .int t, rfl, z1, U.cl, U.n1, rfl, t, rfl, by omega, by omega, ?_⟩
    have ps_bd : ∀ {ap : AP}, PC.Pcs t (bF S) (eF S) (S.map (·.1)) (pk + 1) es bs (prt ap) → ap.length ≤ 8 ∧ ∀ x ∈ ap, x.2.length ≤ 8 ∧ (∀ n ∈ x.2, n ∈ S.map (·.1)) ∧ (∀ n ∈ x.2, nmC n = true) ∧ x.2 ≠ [] := fun {ap} h => by
      have bd := prt_bd h.pr l8
      refine ⟨by have := bd.1; unfold prt at this; rw [List.length_map] at this; exact this, fun x hx => ?_⟩
      have hm : x.2 ∈ prt ap := List.mem_map.mpr ⟨x, hx, rfl⟩
      have := bd.2 x.2 hm
      refine ⟨this.1, this.2, fun n hn => ?_, h.pr.ne _ hm⟩
      obtain ⟨y, hy, ey⟩ := List.mem_map.mp (this.2 n hn)
      rw [← ey]
      exact g.nm y hy
    refine for_range (n := t.toNat) (fun j σ' H' => ∃ (x3 x4 x5 : Option V) (q' : Addr) (ap' : AP), σ' = [some (.ref p), some (.int pk), some (.ref q'), x3, x4, x5] ∧ Same H2 H' ∧ H' q' = some (.lst (refs ap')) ∧ PTs H' ap' ∧ prt ap' = PC.stps t (bF S) (eF S) (pk + 1) (prt ap) j) ⟨none, none, none, q, ap, rfl, Same.refl _, eq, pt, rfl⟩ ?_ ?_
    · rintro j σ' Ha hj ⟨x3, x4, x5, q', ap', rfl, Sa, eq', pt', ep'⟩
      rw [Int.zero_add]
      have pj := (PC.stps_pcs ht Lk hp pcs0 j).1
      rw [← ep'] at pj
      have bd := ps_bd pj
      have Sa2 := Same.trans S12 Sa
      refine ⟨_, rfl, q', rfl, ⟨_, SqL.of eq'⟩, fun D hD => ?_⟩
      refine lc_fm (walk_list (K := K) (a := q') (xs := refs ap')) (fun x => PC.freB t (bF S) (eF S) (pk + 1) (j : Int) x.2) (fun x => .str (PC.hd x.2)) (fun H' s => SqL.of (s _ _ eq')) (by have := bd.1; omega) hD ?_ ?_
      · intro x Hb hx Sb C N kC
        have bx := bd.2 x hx
        have hxb := Sb _ _ (pt' x hx)
        have Sab := Same.trans Sa2 Sb
        refine ⟨rfl, ?_⟩
        refine ⟨_, rfl, p, dx, _, rfl, Sab _ _ h1, rfl, _, rfl, _, rfl, _, rfl, p, x.1, t, pk, (j : Int), S, r, x.2, rfl, sp.same Sab, hxb, bx.2.1, bx.1, hpk, by omega, fun Hc Sc => ?_⟩
        refine ⟨_, rfl, ?_⟩
        have kk := kC Hc Sc
        dsimp only
        by_cases z : PC.freB t (bF S) (eF S) (pk + 1) (j : Int) x.2 = true
        · rw [if_pos z] at kk ⊢
          refine ⟨_, rfl, .inr (.inl ⟨_, _, _, .str (PC.hd x.2), rfl, rfl, SqT.of (Sc _ _ hxb), ?_, kk⟩)⟩
          obtain ⟨n, l, el⟩ : ∃ n l, x.2 = n :: l := by
            cases e : x.2 with
            | nil => exact absurd e bx.2.2.2
            | cons n l => exact ⟨n, l, rfl⟩
          rw [el]
          exact atI_nat (j := 0) rfl
        · rw [if_neg z] at kk ⊢
          exact kk
      intro H3 S3 e3
      have lF : ((ap'.filter fun x => PC.freB t (bF S) (eF S) (pk + 1) (j : Int) x.2).map fun x => V.str (PC.hd x.2)).length ≤ 8 := by
        rw [List.length_map]
        exact Nat.le_trans (List.length_filter_le _ _) bd.1
      have eF1 : (prt ap').filter (PC.freB t (bF S) (eF S) (pk + 1) (j : Int)) = (ap'.filter fun x => PC.freB t (bF S) (eF S) (pk + 1) (j : Int) x.2).map (·.2) := by
        unfold prt
        rw [List.filter_map]
        rfl
      refine ⟨_, rfl, _, .inl ⟨_, SqL.of e3, rfl⟩, ?_⟩
      by_cases z : (ap'.filter fun x => PC.freB t (bF S) (eF S) (pk + 1) (j : Int) x.2) = []
      · rw [z]
        refine iteF ?_
        refine ⟨_, _, _, q', ap', rfl, Same.trans Sa S3, S3 _ _ eq', pt'.keep (KT.same S3), ?_⟩
        show _ = PC.stp t (bF S) (eF S) (pk + 1) (j : Int) (PC.stps t (bF S) (eF S) (pk + 1) (prt ap) j)
        rw [← ep']
        unfold PC.stp
        rw [eF1, z, List.map_nil, if_pos rfl]
      · have nz : (!((ap'.filter fun x => PC.freB t (bF S) (eF S) (pk + 1) (j : Int) x.2).map fun x => V.str (PC.hd x.2)).isEmpty) = true := by
          rw [List.isEmpty_map]
          cases w : (ap'.filter fun x => PC.freB t (bF S) (eF S) (pk + 1) (j : Int) x.2) with
          | nil => exact absurd w z
          | cons _ _ => rfl
        rw [nz]
        refine iteT ?_
        refine ⟨_, rfl, _, rfl, q', D, ap', (ap'.filter fun x => PC.freB t (bF S) (eF S) (pk + 1) (j : Int) x.2).map fun x => PC.hd x.2, rfl, S3 _ _ eq', pt'.keep (KT.same S3), .inl (by rw [e3, List.map_map]; rfl), by rw [List.length_map] at lF ⊢; exact lF, bd.1, fun x hx => ⟨(bd.2 x hx).1, (bd.2 x hx).2.2.1⟩, fun q2 ap2 H4 S4 hq2 eq2 pt2 ep2 => ?_⟩
        refine ⟨_, _, _, q2, ap2, rfl, Same.trans Sa (Same.trans S3 S4), eq2, pt2, ?_⟩
        show _ = PC.stp t (bF S) (eF S) (pk + 1) (j : Int) (PC.stps t (bF S) (eF S) (pk + 1) (prt ap) j)
        rw [← ep', ep2]
        unfold PC.stp
        rw [eF1, if_neg (fun w => z (List.map_eq_nil_iff.mp w)), List.map_map]
        rfl
    rintro σ' Ha ⟨x3, x4, x5, q', ap', rfl, Sa, eq', pt', ep'⟩
    have pj := (PC.stps_pcs ht Lk hp pcs0 t.toNat).1
    have rel := PC.stps_rel ht Lk hp pcs0
    rw [← ep'] at pj rel
    have bd := ps_bd pj
    refine ⟨_, rfl, q', rfl, ⟨_, SqL.of eq'⟩, fun D hD => ?_⟩
    refine lc_it (walk_list (K := K) (a := q') (xs := refs ap')) (fun i H' => Same Ha H' ∧ ∃ ap2 : AP, H' D = some (.lst (refs ap2)) ∧ PTs H' ap2 ∧ prt ap2 = (prt (ap'.take i)).map srt) ⟨Same.new hD, [], upd_same, (fun x hx => by cases hx), rfl⟩ (fun i H' _ h => SqL.of (h.1 _ _ eq')) ?_ ?_
    · rintro i x Hb Hc hi ⟨Sb, ap2, eD, pt2, ep2⟩ ⟨rfl, hx⟩
      obtain ⟨y, ey, rfl⟩ := refs_at hx
      have hy := List.mem_of_getElem? ey
      have by1 := bd.2 y hy
      refine ⟨rfl, ?_⟩
      unfold tYes
      dsimp only
      rw [if_pos rfl]
      refine ⟨_, rfl, y.1, y.2, rfl, SqT.of (Sb _ _ (pt' y hy)), by omega, fun ys p1 pm so2 hp1 => ?_⟩
      have eys : ys = srt y.2 := sort_to pm so2 (srt_ok y.2).1.symm (srt_ok y.2).2
      have B1 := Same.new (o := .lst (ys.map V.str)) hp1
      have e1 : (upd Hc p1 (.lst (ys.map V.str))) p1 = some (.lst (ys.map V.str)) := upd_same
      have eD1 := B1 _ _ eD
      generalize upd Hc p1 (.lst (ys.map V.str)) = Hd at B1 e1 eD1 ⊢
      refine ⟨p1, _, rfl, .inl ⟨SqL.of e1, fun l hl => ?_⟩⟩
      have nDl : D ≠ l := ne_of_none eD1 hl
      have la : ap2.length ≤ 8 := by
        have := congrArg List.length ep2
        unfold prt at this
        rw [List.length_map, List.length_map, List.length_map, List.length_take] at this
        have := bd.1
        omega
      refine ⟨_, (upd_ne nDl).trans eD1, by unfold refs; rw [List.length_map, sizeLine_eq]; omega, Same.at hD (Same.trans Sb (Same.trans B1 (Same.new hl))), ap2 ++ [(l, ys)], by rw [upd_same]; unfold refs; rw [List.map_append]; rfl, fun b hb => ?_, ?_⟩
      · have kt : KT Hd (upd (upd Hd l (.tup (ys.map V.str))) D (.lst (refs ap2 ++ [.ref l]))) := KT.trans (KT.new hl) (KT.put (u := .lst (refs ap2)) ((upd_ne nDl).trans eD1) (fun _ z => by cases z))
        rcases List.mem_append.mp hb with hb | hb
        · exact kt _ _ (B1 _ _ (pt2 b hb))
        · rw [List.mem_singleton.mp hb]
          exact (upd_ne nDl.symm).trans upd_same
      · rw [eys, List.take_add_one, ey]
        unfold prt at *
        rw [List.map_append, ep2]
        simp
    rintro Hb ⟨Sb, ap2, eD, pt2, ep2⟩
    rw [List.take_of_length_le (by unfold refs; rw [List.length_map]; exact Nat.le_refl _)] at ep2
    have la : ap2.length ≤ 8 := by
      have := congrArg List.length ep2
      unfold prt at this
      rw [List.length_map, List.length_map, List.length_map] at this
      have := bd.1
      omega
    have ne2 : ∀ b ∈ ap2, b.2 ≠ [] := fun b hb w => by
      have : b.2 ∈ (prt ap').map srt := by rw [← ep2]; exact List.mem_map.mpr ⟨b, hb, rfl⟩
      obtain ⟨p', hp', e'⟩ := List.mem_map.mp this
      have := (srt_ok p').1.length_eq
      rw [e', w] at this
      exact pj.pr.ne p' hp' (List.length_eq_zero_iff.mp this.symm)
    refine ⟨D, ap2, rfl, SqL.of eD, fun b hb => ⟨pt2 b hb, ne2 b hb⟩, by omega, fun sl hsl => ?_⟩
    have pms := List.mergeSort_perm ap2 (PySem.W.dataLe false KST.encTS)
    have sos : (ap2.mergeSort (PySem.W.dataLe false KST.encTS)).Pairwise fun a b => PySem.W.dataLe false KST.encTS a b = true := PySem.W.sort_pairwise (PySem.W.sortLe_total _ _ _) ap2
    have B2 := Same.new (o := .lst ((ap2.mergeSort (PySem.W.dataLe false KST.encTS)).map fun b => V.ref b.1)) hsl
    have esl : (upd Hb sl (.lst ((ap2.mergeSort (PySem.W.dataLe false KST.encTS)).map fun b => V.ref b.1))) sl = some (.lst ((ap2.mergeSort (PySem.W.dataLe false KST.encTS)).map fun b => V.ref b.1)) := upd_same
    generalize upd Hb sl (.lst ((ap2.mergeSort (PySem.W.dataLe false KST.encTS)).map fun b => V.ref b.1)) = Hc at B2 esl ⊢
    generalize ap2.mergeSort (PySem.W.dataLe false KST.encTS) = zs at pms sos B2 esl ⊢
    refine ⟨sl, _, rfl, .inl ⟨SqL.of esl, fun l hl => ?_⟩⟩
    have B3 := Same.new (o := .tup (zs.map fun b => V.ref b.1)) hl
    refine k l zs _ (Same.trans S12 (Same.trans Sa (Same.trans Sb (Same.trans B2 B3)))) upd_same (fun b hb => B3 _ _ (B2 _ _ (pt2 b (pms.mem_iff.mp hb)))) ?_
    refine pcs_eq so rel.1 rel.2 (srt := srt) (fun p' _ => srt_ok p') ?_ ?_
    · rw [← ep2]
      exact pms.map _
    · unfold prt
      rw [List.map_map, List.pairwise_map]
      refine sos.imp_of_mem fun {x y} hx hy h => ?_
      obtain ⟨xa, xl⟩ := x
      obtain ⟨ya, yl⟩ := y
      have nx := ne2 _ (pms.mem_iff.mp hx)
      have ny := ne2 _ (pms.mem_iff.mp hy)
      cases xl with
      | nil => exact absurd rfl nx
      | cons x1 xl => cases yl with
        | nil => exact absurd rfl ny
        | cons y1 yl => exact KST.dataLe_ts h
end
end K40
namespace K40
open PySem L2
open PyProof.Rows PySem.Spec
theorem farR_snoc (f : Int) (R : Rws) (n : Str) (b e : Int) : farR f (R ++ [(n, b, e)]) = farR f R ++ [(n, b + f, e + f)] := by
  unfold farR
  rw [List.map_append]
  rfl
theorem farR_good {f t : Int} {R : Rws} (g : Good t R) (h : ∀ x ∈ R, -800000000000 ≤ x.2.1 ∧ x.2.2 ≤ 800000000000) (hf : -3000000000 ≤ f ∧ f ≤ 3000000000) : Good t (farR f R) := by
  refine ⟨by rw [farR_names]; exact g.nd, by unfold farR; rw [List.length_map]; exact g.l1, by unfold farR; rw [List.length_map]; exact g.l8, fun x hx => ?_, fun x hx => ?_, fun x hx => ?_, g.t1, g.t2⟩ <;> obtain ⟨y, hy, rfl⟩ := List.mem_map.mp hx
  · exact g.nm y hy
  · have := g.sp y hy
    unfold SpOk at *
    simp only
    omega
  · have := h y hy
    unfold Near
    simp only
    omega
section
variable {P : Program} {w : World} {K : PySem.W.Frag}
                                                      {mg : Str → Option Value} {base : Heap}
def sp_later (K : PySem.W.Frag) (C : Addr) : Sp := fun vs H Q _ => ∃ (p : Addr) (t f : Int) (S : Rws), vs = [.ref p, .int f] ∧ SpAt H C p t S ∧ ∀ q L' H', Same H H' → H q = none → H' q = some (.dK (Kvs L')) → Tups H' L' (farR f S) → Q (.ref q) H'
theorem ok_later (T : T K mg) (U : UX K mg) : FnOk P w K mg base CX0 1 U.ml.f U.ml.d ["self", "ticks"] (sp_later K U.C) := by
  refine U.ml.F.ok sc_Spans_later (fun vs H Q E h => ?_) (fun cdv A outer s H vs Q E hr h => ?_)
  · obtain ⟨p, t, f, S, rfl, _⟩ := h
    rfl
  · obtain ⟨p, t, f, S, rfl, ⟨g, so, dx, rd, nm, lv, cr, L, h1, h2, h3, h4⟩, k⟩ := h
    have hu := hu_of hr
    refine ⟨_, (pss_one (ps_ret (pe_lock (pe_dc (own := [("name", 2), ("begin", 3), ("end", 4)]) (g := gTup K 2 (gCons (gName 2) (gCons (gTup K 2 (gCons (gName 3) (gCons (gName 4) gNil))) gNil))) rfl sc_Spans_later.nd (pi_items (pe_fld (pv 0) rfl)) (blkOk_by (N := ["self", "ticks", "name", "begin", "end"]) (sc := defScope s_Spans_later) (by decide +kernel)) (fun _ _ _ _ _ => (pg_tup rfl (pgs_cons (pg_name (i := 2) sc_Spans_later.nd rfl (Or.inl rfl)) (pgs_cons (pg_tup rfl (pgs_cons (pg_name (i := 3) sc_Spans_later.nd rfl (Or.inl rfl)) (pgs_cons (pg_name (i := 4) sc_Spans_later.nd rfl (Or.inl rfl)) pgs_nil))) pgs_nil)))) (fun _ _ _ _ _ => pts_nil) (fun _ _ _ _ _ => (pv 2)) (fun _ _ _ _ _ => (pe_tup (pa_cons (pe_op op_add (pv 3) (pv 1)) (pa_cons (pe_op op_add (pv 4) (pv 1)) pa_nil)))))))), ?_⟩
    have ndp : rd ≠ p := fun z => by rw [z, h1] at h2; cases h2
    refine ⟨rd, _, h2, True.intro, fun od => ?_⟩
    have lk : (upd H rd (.frz od (.dK (Kvs L)))) rd = some (.frz od (.dK (Kvs L))) := upd_same
    have ktl : KT H (upd H rd (.frz od (.dK (Kvs L)))) := KT.put h2 (fun _ z => by cases z)
    refine ⟨_, rfl, p, U.C, dx, _, .ref rd, rfl, (by rw [upd_ne ndp.symm]; exact h1), U.cl, U.n2, rfl, rd, od, Kvs L, rfl, lk, fun G hG => ?_⟩
    have nG : G ≠ rd := fun z => by rw [z, upd_same] at hG; cases hG
    have hG0 : H G = none := by rw [upd_ne nG] at hG; exact hG
    have g8 := g.l8
    refine dc_it walk_items (fun i H' => Same (upd H rd (.frz od (.dK (Kvs L)))) H' ∧ ∃ M, H' G = some (.dK (Kvs M)) ∧ Tups H' M (farR f (S.take i))) ⟨Same.new hG, [], upd_same, .nil⟩ (fun i H' _ h => h.1 _ _ lk) ?_ ?_
    · rintro i x Ha Hb hi ⟨Sa, M, eG, tm⟩ ⟨TT, x1, y1, rfl, hTT, rfl, ex1, ey1⟩
      have Sn : Same Ha (upd Ha TT (.tup [x1, y1])) := Same.new hTT
      obtain ⟨n, a, b, e, rfl, e2, hab, e4⟩ := tups_at (h3.keep (KT.trans ktl (KT.same (Same.trans Sa Sn)))) i y1 ey1
      obtain rfl : V.str n = x1 := by
        unfold Kvs at ex1
        dsimp only at ex1
        rw [List.getElem?_map, e4] at ex1
        exact Option.some.inj ex1
      have eTT : (upd Ha TT (.tup [V.str n, V.ref a])) TT = some (.tup [V.str n, V.ref a]) := upd_same
      have Sb := Same.trans Sa Sn
      have eGb := Sn _ _ eG
      have tmb := tm.keep (KT.same Sn)
      generalize upd Ha TT (.tup [V.str n, V.ref a]) = Hc at Sb eTT hab eGb tmb ⊢
      refine ⟨TT, _, rfl, SqT.of eTT, rfl, _, _, rfl, _, _, rfl, a, _, rfl, SqT.of hab, rfl, _, _, rfl, _, _, rfl, rfl, rfl, ?_⟩
      refine ⟨rfl, ?_⟩
      unfold tYes
      dsimp only
      rw [if_pos rfl]
      refine ⟨_, rfl, _, rfl, _, rfl, _, _, rfl, rfl, _, rfl, _, rfl, _, _, rfl, rfl, by show 2 ≤ sizeLine; decide, fun q hq => ?_⟩
      have iS : i < S.length := (List.getElem?_eq_some_iff.mp e2).1
      have A1 := Same.new (o := .tup [V.int (b + f), .int (e + f)]) hq
      have eq1 : (upd Hc q (.tup [V.int (b + f), .int (e + f)])) q = some (.tup [V.int (b + f), .int (e + f)]) := upd_same
      have eGd := A1 _ _ eGb
      have tmd := tmb.keep (KT.same A1)
      have Sd := Same.trans Sb A1
      generalize upd Hc q (.tup [V.int (b + f), .int (e + f)]) = Hd at A1 eq1 eGd tmd Sd ⊢
      have hn : n ∉ M.map (·.1) := by
        rw [tmd.names, farR_names]
        intro hm
        have nd := g.nd
        rw [← List.take_append_drop i S, List.map_append] at nd
        have hd2 : n ∈ (S.drop i).map (·.1) := List.mem_map.mpr ⟨(n, b, e), by rw [List.mem_iff_getElem?]; exact ⟨0, by rw [List.getElem?_drop]; exact e2⟩, rfl⟩
        exact (List.nodup_append.mp nd).2.2 n hm n hd2 rfl
      have lM : M.length ≤ 8 := by
        rw [tmd.len]
        unfold farR
        rw [List.length_map, List.length_take]
        omega
      refine ⟨Kvs M, Sum.inr n, rfl, eGd, by rw [kvs_len, sizeLine_eq]; omega, Same.at hG Sd, M ++ [(n, q)], by rw [upd_same, putK_kvs hn], ?_⟩
      have kt : KT Hd (upd Hd G (.dK (putK (Kvs M) (.inr n) (.ref q)))) := KT.put eGd (fun _ z => by cases z)
      rw [List.take_add_one, e2]
      show Tups _ _ (farR f (S.take i ++ [(n, b, e)]))
      rw [farR_snoc]
      exact (tmd.keep kt).snoc (kt _ _ eq1)
    · rintro Ha ⟨Sa, M, eG, tm⟩
      refine ⟨Sa _ _ lk, ?_⟩
      rw [kvs_len, h3.len, List.take_length] at tm
      refine k G M _ (same_lock h2 Sa) hG0 ((upd_ne nG).trans eG) (tm.keep fun a xs e => ?_)
      rw [upd_ne (fun z => by rw [z, Sa _ _ lk] at e; cases e)]
      exact e
end
def norR (t : Int) (R : Rws) : Rws := R.map fun r => (r.1, r.2.1 % t, r.2.1 % t + r.2.2 - r.2.1)
theorem norR_names (f : Int) (R : Rws) : (norR f R).map (·.1) = R.map (·.1) := by
  unfold norR
  rw [List.map_map]
  rfl
theorem norR_snoc (f : Int) (R : Rws) (n : Str) (b e : Int) : norR f (R ++ [(n, b, e)]) = norR f R ++ [(n, b % f, b % f + e - b)] := by
  unfold norR
  rw [List.map_append]
  rfl
theorem norR_good {t : Int} {R : Rws} (g : Good t R) : Good t (norR t R) := by
  refine ⟨by rw [norR_names]; exact g.nd, by unfold norR; rw [List.length_map]; exact g.l1, by unfold norR; rw [List.length_map]; exact g.l8, fun x hx => ?_, fun x hx => ?_, fun x hx => ?_, g.t1, g.t2⟩ <;> obtain ⟨y, hy, rfl⟩ := List.mem_map.mp hx
  · exact g.nm y hy
  · have := g.sp y hy
    unfold SpOk at *
    simp only
    omega
  · have := g.sp y hy
    have h1 := g.t1
    have h2 := g.t2
    unfold SpOk at this
    have a := Int.emod_nonneg y.2.1 (show t ≠ 0 by omega)
    have b := Int.emod_lt_of_pos y.2.1 (show 0 < t by omega)
    unfold Near
    simp only
    omega
theorem none_same {H H' : Hp} {q : Addr} (s : Same H H') (h : H' q = none) : H q = none := by
  cases z : H q with
  | none => rfl
  | some o => rw [s _ _ z] at h; cases h
theorem some_same {H H' : Hp} {q : Addr} (s : Same H H') (h : H q ≠ none) : H' q ≠ none := by
  cases z : H q with
  | none => exact absurd z h
  | some o => rw [s _ _ z]; exact fun w => by cases w
section
variable {P : Program} {w : World} {K : PySem.W.Frag}
                                                      {mg : Str → Option Value} {base : Heap}
def sp_addS (K : PySem.W.Frag) (C : Addr) : Sp := fun vs H Q _ => ∃ (p : Addr) (t f : Int) (S : Rws) (r : Addr), vs = [.ref p, .int f] ∧ SpS H C p t S r ∧ (∀ x ∈ S, -800000000000 ≤ x.2.1 ∧ x.2.2 ≤ 800000000000) ∧ (-3000000000 ≤ f ∧ f ≤ 3000000000) ∧ ∀ q H', Same H H' → H q = none → (∀ r, H r ≠ none → SpS H' C q t (farR f S) r) → Q (.ref q) H'
theorem ok_addS (T : T K mg) (U : UX K mg) : FnOk P w K mg base CX0 8 U.ma.f U.ma.d ["self", "other"] (sp_addS K U.C) := by
  have G_are_rows : FnOk P w K mg base CX0 3 T.f_are_rows T.d_are_rows ["interval", "value"] (sp_are_rows K) := ok_are_rows T
  have G_is_integer : FnOk P w K mg base CX0 1 T.f_is_integer T.d_is_integer ["value"] (sp_is_integer K) := ok_is_integer T
  have G_later : FnOk P w K mg base CX0 1 U.ml.f U.ml.d ["self", "ticks"] (sp_later K U.C) := ok_later T U
  have G_init : FnOk P w K mg base CX0 6 U.fI U.dI ["self", "interval", "rows"] (sp_initS K U.C) := ok_initS T U
  refine U.ma.F.ok sc_Spans_add (fun vs H Q E h => ?_) (fun cdv A outer s H vs Q E hr h => ?_)
  · obtain ⟨p, t, f, S, r, rfl, _⟩ := h
    rfl
  · obtain ⟨p, t, f, S, r, rfl, spS, hS, hf, k⟩ := h
    have sp := spS.weak
    obtain ⟨g, so, dx, rd, nm, lv, cr, L, h1, h2, h3, h4⟩ := id sp
    have hu := hu_of hr
    have hr_are_rows : Room 3 _ := hr.mono (by decide)
    have hr_is_integer : Room 1 _ := hr.mono (by decide)
    have gf := farR_good g hS hf
    refine ⟨_, (pss_cons (ps_if (PW.pt (pw_or (pt_not (pt_val (pe_call G_is_integer hr_is_integer rfl T.m_is_integer T.F_is_integer.kp T.b_is_integer .nil pass0 (pa_cons (pv 1) pa_nil)))) (pw_or1 (pt_not (pt_val (pe_call G_are_rows hr_are_rows rfl T.m_are_rows T.F_are_rows.kp T.b_are_rows .nil pass0 (pa_cons (pe_fld (pv 0) rfl) (pa_cons (pe_meth (pv 0) U.cl U.ml.m G_later (hr.mono (by decide)) U.ml.b .nil pass0 (pa_cons (pv 1) pa_nil)) pa_nil))))))))
      (pss_one ps_never)
      pss_nil)
      (pss_one (ps_ret (pe_make U.mkI G_init (hr.mono (by decide)) rfl U.mC U.bI .nil pass0 (pa_cons (pe_fld (pv 0) rfl) (pa_cons (pe_meth (pv 0) U.cl U.ml.m G_later (hr.mono (by decide)) U.ml.b .nil pass0 (pa_cons (pv 1) pa_nil)) pa_nil)))))), ?_⟩
    refine ⟨_, rfl, .int f, .int f, rfl, .inl (.int _), _, rfl, ?_⟩
    rw [isInD_int (by omega)]
    refine iteF ?_
    refine ⟨_, rfl, p, U.C, dx, _, .int t, rfl, h1, U.cl, U.n1, rfl, _, rfl, p, dx, _, rfl, h1, rfl, _, rfl, p, t, f, S, rfl, sp, fun q L1 H1 S1 _ e1 t1 => ?_⟩
    refine ⟨t, q, L1, farR f S, rfl, e1, t1, gf, fun H2 S2 => ⟨_, rfl, iteF ?_⟩⟩
    have S12 := Same.trans S1 S2
    have sp2 := sp.same S12
    have h12 := S12 _ _ h1
    refine ⟨_, rfl, p, U.C, dx, _, .int t, rfl, h12, U.cl, U.n1, rfl, _, rfl, p, dx, _, rfl, h12, rfl, _, rfl, p, t, f, S, rfl, sp2, fun q3 L3 H3 S3 _ e3 t3 x xd hx hxd nxd => ?_⟩
    have S03 := Same.trans S12 S3
    have S4 : Same H3 (upd (upd H3 xd (.own x)) x (.ins U.C xd [])) := Same.trans (Same.new hxd) (Same.new (by rw [upd_ne nxd.symm]; exact hx))
    refine ⟨x, q3, xd, t, L3, farR f S, rfl, upd_same, S4 _ _ e3, t3.keep (KT.same S4), gf, fun S' H' B sp' srd => ⟨rfl, ?_⟩⟩
    have nd' : ((farR f S).map (·.1)).Nodup := gf.nd
    have e' : S' = farR f S := Srd.eq nd' srd ⟨List.Perm.refl _, by rw [farR_names]; exact so⟩
    rw [e'] at sp'
    have hx0 := none_same S03 hx
    refine k x H' (fun b o hb => ?_) hx0 (fun r hr => sp' r (some_same (Same.trans S03 S4) hr))
    exact B b o (fun z => by rw [z, hx0] at hb; cases hb) (S4 _ _ (S03 _ _ hb))
def sp_len (K : PySem.W.Frag) (C : Addr) : Sp := fun vs H Q _ => ∃ (p : Addr) (t : Int) (S : Rws), vs = [.ref p] ∧ SpAt H C p t S ∧ Q (.int ((S.length : Nat) : Int)) H
theorem ok_len (T : T K mg) (U : UX K mg) : FnOk P w K mg base CX0 1 U.mw.f U.mw.d ["self"] (sp_len K U.C) := by
  refine U.mw.F.ok sc_Spans_len (fun vs H Q E h => ?_) (fun cdv A outer s H vs Q E hr h => ?_)
  · obtain ⟨p, t, S, rfl, _⟩ := h
    rfl
  · obtain ⟨p, t, S, rfl, ⟨g, so, dx, rd, nm, lv, cr, L, h1, h2, h3, h4⟩, k⟩ := h
    have hu := hu_of hr
    refine ⟨_, (pss_one (ps_ret (pe_callB call_len (by rfl) T.z_len (by decide +kernel) (pa_cons (pe_fld (pv 0) rfl) pa_nil)))), ?_⟩
    refine ⟨_, rfl, p, U.C, dx, _, .ref nm, rfl, h1, U.cl, U.n3, rfl, _, _, rfl, .inr ⟨_, SqT.of h4, rfl⟩, ?_⟩
    rw [List.length_map, List.length_map]
    exact k
def sp_normal (K : PySem.W.Frag) (C : Addr) : Sp := fun vs H Q _ => ∃ (p : Addr) (t : Int) (S : Rws) (r : Addr), vs = [.ref p] ∧ SpS H C p t S r ∧ ∀ q H', Same H H' → H q = none → (∀ r, H r ≠ none → SpS H' C q t (norR t S) r) → Q (.ref q) H'
theorem ok_normal (T : T K mg) (U : UX K mg) : FnOk P w K mg base CX0 8 U.pz.g U.pz.d ["self"] (sp_normal K U.C) := by
  have G_init : FnOk P w K mg base CX0 6 U.fI U.dI ["self", "interval", "rows"] (sp_initS K U.C) := ok_initS T U
  refine U.pz.F.ok sc_Spans_normal (fun vs H Q E h => ?_) (fun cdv A outer s H vs Q E hr h => ?_)
  · obtain ⟨p, t, S, r, rfl, _⟩ := h
    rfl
  · obtain ⟨p, t, S, r, rfl, spS, k⟩ := h
    obtain ⟨g, so, dx, rd, nm, lv, cr, L, h1, h2, h3, h4⟩ := spS.weak
    have hu := hu_of hr
    have gf := norR_good g
    have t1 := g.t1
    refine ⟨_, (pss_cons (ps_lock (RL.ps_setDc (i := 1) (own := [("name", 2), ("begin", 3), ("end", 4)]) (g := gTup K 2 (gCons (gName 2) (gCons (gTup K 2 (gCons (gName 3) (gCons (gName 4) gNil))) gNil))) rfl sc_Spans_normal.nd rfl rfl (RL.sw_trueD rfl rfl rfl (by decide +kernel)) (pi_items (pe_fld (pv 0) rfl)) (blkOk_by (N := ["self", "rows", "name", "begin", "end"]) (sc := defScope s_Spans_normal) (by decide +kernel)) (fun _ _ _ _ _ => (pg_tup rfl (pgs_cons (pg_name (i := 2) sc_Spans_normal.nd rfl (Or.inl rfl)) (pgs_cons (pg_tup rfl (pgs_cons (pg_name (i := 3) sc_Spans_normal.nd rfl (Or.inl rfl)) (pgs_cons (pg_name (i := 4) sc_Spans_normal.nd rfl (Or.inl rfl)) pgs_nil))) pgs_nil)))) (fun _ _ _ _ _ => pts_nil) (fun _ _ _ _ _ => (pv 2)) (fun _ _ _ _ _ => (pe_tup (pa_cons (pe_op op_mod (pv 3) (pe_fldK (K := K) rfl (pv 0) rfl)) (pa_cons (pe_op op_sub (pe_op op_add (pe_op op_mod (pv 3) (pe_fldK (K := K) rfl (pv 0) rfl)) (pv 4)) (pv 3)) pa_nil))))))
      (pss_one (ps_ret (pe_make U.mkI G_init (hr.mono (by decide)) rfl U.mC U.bI .nil pass0 (pa_cons (pe_fld (pv 0) rfl) (pa_cons (pv 1) pa_nil)))))), ?_⟩
    have ndp : rd ≠ p := fun z => by rw [z, h1] at h2; cases h2
    refine ⟨rd, _, h2, True.intro, fun od => ?_⟩
    have lk : (upd H rd (.frz od (.dK (Kvs L)))) rd = some (.frz od (.dK (Kvs L))) := upd_same
    have ktl : KT H (upd H rd (.frz od (.dK (Kvs L)))) := KT.put h2 (fun _ z => by cases z)
    have h1l : (upd H rd (.frz od (.dK (Kvs L)))) p = some (.ins U.C dx (spF t rd nm lv cr)) := by rw [upd_ne ndp.symm]; exact h1
    refine ⟨_, rfl, p, U.C, dx, _, .ref rd, rfl, h1l, U.cl, U.n2, rfl, rd, od, Kvs L, rfl, lk, fun G hG => ?_⟩
    have nG : G ≠ rd := fun z => by rw [z, upd_same] at hG; cases hG
    have hG0 : H G = none := by rw [upd_ne nG] at hG; exact hG
    have g8 := g.l8
    refine dc_it walk_items (fun i H' => Same (upd H rd (.frz od (.dK (Kvs L)))) H' ∧ ∃ M, H' G = some (.dK (Kvs M)) ∧ Tups H' M (norR t (S.take i))) ⟨Same.new hG, [], upd_same, .nil⟩ (fun i H' _ h => h.1 _ _ lk) ?_ ?_
    · rintro i x Ha Hb hi ⟨Sa, M, eG, tm⟩ ⟨TT, x1, y1, rfl, hTT, rfl, ex1, ey1⟩
      have Sn : Same Ha (upd Ha TT (.tup [x1, y1])) := Same.new hTT
      obtain ⟨n, a, b, e, rfl, e2, hab, e4⟩ := tups_at (h3.keep (KT.trans ktl (KT.same (Same.trans Sa Sn)))) i y1 ey1
      obtain rfl : V.str n = x1 := by
        unfold Kvs at ex1
        dsimp only at ex1
        rw [List.getElem?_map, e4] at ex1
        exact Option.some.inj ex1
      have eTT : (upd Ha TT (.tup [V.str n, V.ref a])) TT = some (.tup [V.str n, V.ref a]) := upd_same
      have Sb := Same.trans Sa Sn
      have eGb := Sn _ _ eG
      have tmb := tm.keep (KT.same Sn)
      generalize upd Ha TT (.tup [V.str n, V.ref a]) = Hc at Sb eTT hab eGb tmb ⊢
      refine ⟨TT, _, rfl, SqT.of eTT, rfl, _, _, rfl, _, _, rfl, a, _, rfl, SqT.of hab, rfl, _, _, rfl, _, _, rfl, rfl, rfl, ?_⟩
      refine ⟨rfl, ?_⟩
      unfold tYes
      dsimp only
      rw [if_pos rfl]
      have h1c := Sb _ _ h1l
      refine ⟨_, rfl, ?_⟩
      refine ⟨_, rfl, _, rfl, p, U.C, dx, _, .int t, rfl, h1c, U.cl, U.n1, rfl, _, _, rfl, rfl, by omega, ?_⟩
      refine ⟨_, rfl, _, rfl, p, U.C, dx, _, .int t, rfl, h1c, U.cl, U.n1, rfl, _, _, rfl, rfl, by omega, ?_⟩
      refine ⟨_, rfl, _, _, rfl, rfl, _, rfl, _, _, rfl, rfl, ?_⟩
      refine ⟨by show 2 ≤ sizeLine; decide, fun q hq => ?_⟩
      have iS : i < S.length := (List.getElem?_eq_some_iff.mp e2).1
      have A1 := Same.new (o := .tup [V.int (b % t), .int (b % t + e - b)]) hq
      have eq1 : (upd Hc q (.tup [V.int (b % t), .int (b % t + e - b)])) q = some (.tup [V.int (b % t), .int (b % t + e - b)]) := upd_same
      have eGd := A1 _ _ eGb
      have tmd := tmb.keep (KT.same A1)
      have Sd := Same.trans Sb A1
      generalize upd Hc q (.tup [V.int (b % t), .int (b % t + e - b)]) = Hd at A1 eq1 eGd tmd Sd ⊢
      have hn : n ∉ M.map (·.1) := by
        rw [tmd.names, norR_names]
        intro hm
        have nd := g.nd
        rw [← List.take_append_drop i S, List.map_append] at nd
        have hd2 : n ∈ (S.drop i).map (·.1) := List.mem_map.mpr ⟨(n, b, e), by rw [List.mem_iff_getElem?]; exact ⟨0, by rw [List.getElem?_drop]; exact e2⟩, rfl⟩
        exact (List.nodup_append.mp nd).2.2 n hm n hd2 rfl
      have lM : M.length ≤ 8 := by
        rw [tmd.len]
        unfold norR
        rw [List.length_map, List.length_take]
        omega
      refine ⟨Kvs M, Sum.inr n, rfl, eGd, by rw [kvs_len, sizeLine_eq]; omega, Same.at hG Sd, M ++ [(n, q)], by rw [upd_same, putK_kvs hn], ?_⟩
      have kt : KT Hd (upd Hd G (.dK (putK (Kvs M) (.inr n) (.ref q)))) := KT.put eGd (fun _ z => by cases z)
      rw [List.take_add_one, e2]
      show Tups _ _ (norR t (S.take i ++ [(n, b, e)]))
      rw [norR_snoc]
      exact (tmd.keep kt).snoc (kt _ _ eq1)
    · rintro Ha ⟨Sa, M, eG, tm⟩
      refine ⟨Sa _ _ lk, ?_⟩
      rw [kvs_len, h3.len, List.take_length] at tm
      have S01 := same_lock h2 Sa
      have eG1 : (upd Ha rd (.dK (Kvs L))) G = some (.dK (Kvs M)) := (upd_ne nG).trans eG
      have tm1 : Tups (upd Ha rd (.dK (Kvs L))) M (norR t S) := tm.keep fun a xs e => by
        rw [upd_ne (fun z => by rw [z, Sa _ _ lk] at e; cases e)]
        exact e
      generalize upd Ha rd (.dK (Kvs L)) = Hb at S01 eG1 tm1 ⊢
      refine ⟨_, rfl, p, U.C, dx, _, .int t, rfl, S01 _ _ h1, U.cl, U.n1, rfl, _, rfl, fun x xd hx hxd nxd => ?_⟩
      have S4 : Same Hb (upd (upd Hb xd (.own x)) x (.ins U.C xd [])) := Same.trans (Same.new hxd) (Same.new (by rw [upd_ne nxd.symm]; exact hx))
      refine ⟨x, G, xd, t, M, norR t S, rfl, upd_same, S4 _ _ eG1, tm1.keep (KT.same S4), gf, fun S' H' B sp' srd => ⟨rfl, ?_⟩⟩
      have e' : S' = norR t S := Srd.eq gf.nd srd ⟨List.Perm.refl _, by rw [norR_names]; exact so⟩
      rw [e'] at sp'
      have hx0 := none_same S01 hx
      refine k x H' (fun b o hb => ?_) hx0 (fun r hr => sp' r (some_same (Same.trans S01 S4) hr))
      exact B b o (fun z => by rw [z, hx0] at hb; cases hb) (S4 _ _ (S01 _ _ hb))
end
end K40
namespace K40
open PySem L2
open PyProof.Rows PySem.Spec
/-- names one above the other -/
def ascN (ns : List Str) : Prop := ∀ i m n, ns[i]? = some m → ns[i + 1]? = some n → m.cps.toList < n.cps.toList
theorem ascN_of {ns : List Str} (so : sortedS ns = true) (nd : ns.Nodup) : ascN ns := by
  intro i m n h1 h2
  have a := sortedS_pw so
  obtain ⟨i1, e1⟩ := List.getElem?_eq_some_iff.mp h1
  obtain ⟨i2, e2⟩ := List.getElem?_eq_some_iff.mp h2
  have q := List.pairwise_iff_getElem.mp a i (i + 1) i1 i2 (Nat.lt_succ_self i)
  have ne := List.pairwise_iff_getElem.mp nd i (i + 1) i1 i2 (Nat.lt_succ_self i)
  rw [e1, e2] at q ne
  rw [ltCps_eq, decide_eq_false_iff_not] at q
  rcases Decidable.em (m.cps.toList < n.cps.toList) with h | h
  · exact h
  · exact absurd (str_ext (List.le_antisymm (List.not_lt.mp q) (List.not_lt.mp h))) ne
theorem bl_rep (n : Nat) : (List.replicate n true).all id = true := by
  rw [List.all_eq_true]
  intro x hx
  rw [(List.mem_replicate.mp hx).2]
  rfl
section
variable {P : Program} {w : World} {K : PySem.W.Frag}
                                                      {mg : Str → Option Value} {base : Heap}
def sp_ascends (K : PySem.W.Frag) : Sp := fun vs H Q _ => ∃ (a : Addr) (ns : List Str), vs = [.ref a] ∧ SqT K H a (ns.map V.str) ∧ ascN ns ∧ ns.length ≤ 63 ∧ ∀ H', Same H H' → Q (.bl true) H'
theorem ok_ascends (T : T K mg) : FnOk P w K mg base CX0 1 T.f_ascends T.d_ascends ["row"] (sp_ascends K) := by
  refine T.F_ascends.ok sc_ascends (fun vs H Q E h => ?_) (fun cdv A outer s H vs Q E hr h => ?_)
  · obtain ⟨a, ns, rfl, _⟩ := h
    rfl
  · obtain ⟨a, ns, rfl, sq, asc, l63, k⟩ := h
    have hu := hu_of hr
    refine ⟨_, (pss_one (ps_ret (pe_callB (cr_all rfl) (by rfl) T.z_all (by decide +kernel) (pa_cons (pe_lc (own := [("at", 1)]) (g := gName 1) rfl sc_ascends.nd (pi_range2 (by rfl) T.z_range (pa_cons pe_int (pa_cons (pe_callB call_len (by rfl) T.z_len (by decide +kernel) (pa_cons (pv 0) pa_nil)) pa_nil))) (blkOk_by (N := ["row", "at"]) (sc := defScope s_ascends) (by decide +kernel)) (fun _ _ _ _ _ => (pg_name (i := 1) sc_ascends.nd rfl (Or.inl rfl))) (fun _ _ _ _ _ => pts_nil) (fun _ _ _ _ _ => (pe_cmpR op_lt_str (pe_ix (r := rIx K) ix_seq (pv 0) (pe_op op_sub (pv 1) pe_int) (fun _ _ => rfl)) (pe_ix (r := rIx K) ix_seq (pv 0) (pv 1) (fun _ _ => rfl)) (nomark _)))) pa_nil)))), ?_⟩
    refine ⟨_, rfl, _, _, rfl, .inr ⟨_, sq, rfl⟩, 1, _, rfl, by rw [List.length_map]; omega, fun D hD => ?_⟩
    refine lc_range (fun j H' => Same H H' ∧ H' D = some (.lst ((List.replicate j true).map V.bl))) ⟨Same.new hD, upd_same⟩ ?_ ?_
    · rintro j Hc hj ⟨Sc, eD⟩
      rw [List.length_map] at hj
      refine ⟨rfl, ?_⟩
      unfold tYes
      dsimp only
      rw [if_pos rfl]
      have sqc := Same.seqT Sc sq
      have i1 : j + 1 < ns.length := by omega
      obtain ⟨m, hm⟩ : ∃ m, ns[j]? = some m := ⟨_, List.getElem?_eq_getElem (by omega)⟩
      obtain ⟨n, hn⟩ : ∃ n, ns[j + 1]? = some n := ⟨_, List.getElem?_eq_getElem i1⟩
      have e1 : atI (ns.map V.str) (1 + (j : Int) - 1) = some (V.str m) := by
        rw [show (1 + (j : Int) - 1) = (j : Int) by omega]
        exact atI_nat (by rw [List.getElem?_map, hm]; rfl)
      have e2 : atI (ns.map V.str) (1 + (j : Int)) = some (V.str n) := by
        rw [show (1 + (j : Int)) = ((j + 1 : Nat) : Int) by omega]
        exact atI_nat (by rw [List.getElem?_map, hn]; rfl)
      refine ⟨_, rfl, _, rfl, _, _, rfl, rfl, .inr (.inl ⟨a, _, _, _, rfl, rfl, sqc, e1, _, rfl, _, rfl, .inr (.inl ⟨a, _, _, _, rfl, rfl, sqc, e2, ?_⟩)⟩)⟩
      refine ⟨m, n, rfl, rfl, ?_⟩
      rw [decide_eq_true (asc j m n hm hn)]
      refine ⟨_, eD, by rw [List.length_map, List.length_replicate, sizeLine_eq]; omega, Same.at hD Sc, ?_⟩
      rw [upd_same, List.replicate_succ', List.map_append]
      rfl
    rintro H' ⟨S', eD⟩
    refine ⟨D, _, rfl, SqL.of eD, ?_⟩
    rw [bl_rep]
    exact k H' S'
end
end K40
/-! {**a, **b} -/
namespace PySem
open Sem (wp)
section
variable {prog : Program} {w : World}
                                      {K : Type} [DecidableEq K]
                                                                 {knd : KeyKind prog w K} {A : Around} {E : Value → Shared → Prop} {s : Shared}
theorem kdu_put {d : Addr} {kvs : List (K × Value)} {k : K} {key v : Value} {Q : Unit → Shared → Prop} (hkey : knd.is k key = true) (hm : s.heap.DictOf knd d kvs)
    (hQ : ∀ h', h'.DictOf knd d (stored kvs k v) → Heap.SameBut d s.heap h' → Q () { s with heap := h' }) (hsz : kvs.length ≤ sizeLine) : wpAny (model prog w) A (dictPut d (knd.hash k) key v) Q E s := by
  obtain ⟨o, es, ep, ho, hc, hd, hk, hp, hn⟩ := hm
  have hes : es.size ≤ sizeLine := by
    have e1 := hp.length
    have e2 : es.toList.length = es.size := by simp
    omega
  unfold dictPut
  refine wpAny_bind (wpAny_dictFind_of hkey ho hd hk ?_)
  have hidx : (es.findIdx? fun e => knd.is k e.key) = kvs.findIdx? fun kv => decide
                                                                                    (kv.1 = k) := by
    rw [← hp.findIdx k]
    obtain ⟨l⟩ := es
    simp
  cases hi : es.findIdx? fun e => knd.is k e.key with
  | some i =>
    refine wpAny_updateDict ho hd (hQ _ ⟨_, _, ep, Heap.get?_update_self _ ho (Obj.isFreed_of_dict (Obj.data_mapDict hd _)), hc.mapDict _, Obj.data_mapDict hd _, hk.modify _ _, ?_, ?_⟩ (Heap.SameBut.update ..))
    · rw [stored, if_pos (any_of_findIdx_some (hidx ▸ hi))]
      have hl : (es.toList.findIdx? fun e => knd.is k e.key) = some i := by
        rw [← hi]
        obtain ⟨l⟩ := es
        simp
      have := hp.modify hn hl v
      obtain ⟨l⟩ := es
      simpa using this
    · rw [stored, if_pos (any_of_findIdx_some
                                              (hidx ▸ hi)), keys_map_store]
      exact hn
  | none =>
    have hnot : k ∉ kvs.map
                            (·.1) := not_mem_of_findIdx_none (hidx ▸ hi)
    have hany : ¬ (kvs.any fun kv => decide
                                            (kv.1 = k)) = true := by
      rw [List.any_eq_true]
      rintro ⟨kv, hkv, he⟩
      exact hnot (List.mem_map.mpr
                                   ⟨kv, hkv, of_decide_eq_true he⟩)
    refine wpAny_updateDictKeys (hz := hes) ho hd (hQ _ ⟨_, _, ep + 1, Heap.get?_update_self _ ho (Obj.isFreed_of_dict (Obj.data_mapDictKeys hd _)), hc.mapDictKeys _, Obj.data_mapDictKeys hd _, hk.push hkey _, ?_, ?_⟩ (Heap.SameBut.update ..))
    · rw [stored, if_neg hany]
      have := hp.append hkey (knd.hash k) v
      obtain ⟨l⟩ := es
      simpa using this
    · rw [stored, if_neg hany, List.map_append, List.nodup_append]
      refine ⟨hn, by simp, ?_⟩
      intro a ha b hb
      simp only [List.map_cons, List.map_nil, List.mem_singleton] at hb
      subst hb
      exact fun e => hnot (e ▸ ha)
theorem kdu_merge (nr : ∀ k v, knd.is k v = true → ∀ a, v ≠ .ref a) {d o : Addr} {kvs more : List (K × Value)} {Q : Unit → Shared → Prop} (hdo : d ≠ o) (hoS : (o == sysModules) = false)
    (hd : s.heap.DictOf knd d kvs)
                                   (ho : s.heap.DictOf knd o more)
    (hQ : ∀ h', h'.DictOf knd d (merged kvs more) → h'.DictOf knd o more → Heap.SameBut d s.heap h' → Q () { s with heap := h' }) (hsz : kvs.length + more.length ≤ sizeLine) :
    wpAny (model prog w) A (mergeMapping d (.ref o) false) Q E s := by
  obtain ⟨od, esd, epd, hod, hcd, hdd, hkd, hpd, hnd⟩ := id hd
  obtain ⟨oo, eso, epo, hoo, hco, hdo', hko, hpo, hno⟩ := id ho
  have hlen : more.length = eso.size := by
    rw [← hpo.length]
    simp
  unfold mergeMapping
  refine wpAny_bind
                    (wpAny_isInstance ho.typeIs isSubtype_dict_dict ?_)
  rw [if_pos rfl]
  refine wpAny_bind (wpAny_specialOf ho.typeIs F.slot_dict_iter.lookup ?_)
  refine wpAny_bind (wpAny_pure ?_)
  rw [beq_self_eq_true]
  dsimp only
  rw [if_neg (by rw [hoS]; exact Bool.false_ne_true)]
  refine wpAny_bind (wpAny_dictEntries hod hdd ?_)
  have loop : wpAny (model prog w) A (do
      let l ← dictEntries o
      let ep ← dictEpoch o
      forIn (List.range l.size) PUnit.unit fun i (_ : PUnit) => (do
        let l' ← dictEntries o
        match l'[i]? with
          | some e => do
            holding [e.key, e.val] (dictPut d e.hash e.key e.val)
            let e2 ← dictEpoch o
            if (e2 != ep) = true then do
                (unsupported "dict.changed-during-merge" : Sem PUnit)
                pure (ForInStep.yield PUnit.unit)
              else pure (ForInStep.yield PUnit.unit)
          | _ => do
            (unsupported "dict.changed-during-merge" : Sem PUnit)
            pure (ForInStep.yield PUnit.unit) : Sem (ForInStep PUnit))
      pure ()) Q E s := by
    refine wpAny_bind (wpAny_dictEntries hoo hdo' ?_)
    refine wpAny_bind (wpAny_dictEpoch hoo hdo' ?_)
    refine wpAny_bind ?_
    refine wpAny_forIn_list _
      (fun rest _ s' => ∃ h' i, s' = { s with heap := h' } ∧ rest = List.range' i
                                                                                  (eso.size - i) ∧ i ≤ eso.size ∧ h'.DictOf knd d (merged kvs (more.take i)) ∧ h'.get? o = some oo ∧ Heap.SameBut d s.heap h')
      _ ?_ ?_ _ _ ⟨s.heap, 0, rfl, by rw [List.range_eq_range', Nat.sub_zero], Nat.zero_le _, by simpa [merged] using hd, hoo, Heap.SameBut.refl _ _⟩
    · rintro x rest b s' ⟨h', i, rfl, hr, hi, hd', hoo', hs'⟩
      have hlt : i < eso.size := by
        rcases Nat.lt_or_ge i eso.size with h | h
        · exact h
        · rw [Nat.sub_eq_zero_of_le h] at hr
          simp at hr
      obtain ⟨rfl, hrest⟩ : x = i ∧ rest = List.range'
                                                       (i + 1) (eso.size - (i + 1)) := by
        have e : eso.size - i =
                                (eso.size - (i + 1)) + 1 := by omega
        rw [e, List.range'_succ] at hr
        injection hr with h1 h2
        exact ⟨h1, h2⟩
      refine wpAny_bind (wpAny_dictEntries hoo' hdo' ?_)
      rw [Array.getElem?_eq_getElem hlt]
      obtain ⟨kv, hkv⟩ : ∃ kv, more[x]? = some kv :=
                                                     ⟨more[x]'(by rw [hlen]; exact hlt), List.getElem?_eq_getElem _⟩
      obtain ⟨k, v⟩ := kv
      obtain ⟨hkey, hval⟩ := hpo.get?
                                      (e := eso[x]) (by simp [hlt]) hkv
      obtain ⟨k', hkey', hhash⟩ := hko eso[x]
                                              (Array.getElem_mem hlt)
      obtain rfl : k' = k := knd.inj _ _ _ hkey' hkey
      show wpAny _ _ (holding [eso[x].key, eso[x].val] (dictPut d eso[x].hash eso[x].key eso[x].val) >>= _) _ _ _
      rw [hhash, hval]
      have hmx : (merged kvs
                             (more.take x)).length ≤ sizeLine := by
        have e1 := merged_length_le kvs (more.take x)
        have e2 :
                  (more.take x).length ≤ more.length := by rw [List.length_take]; omega
        omega
      refine wpAny_bind (wpAny_holding (kdu_put hkey hd' (fun h'' hd'' hs'' => ?_) hmx))
      have hoo'' : h''.get? o = some oo :=
                                           (hs''.2 o (Ne.symm hdo)).trans hoo'
      refine wpAny_bind (wpAny_dictEpoch hoo'' hdo' ?_)
      rw [if_neg (by simp)]
      exact wpAny_pure ⟨h'', x + 1, rfl, hrest, hlt, by rw [merged_take_succ kvs more x
                                                                                        (k', v) hkv]; exact hd'', hoo'', hs'.trans hs''⟩
    · rintro b s' ⟨h', i, rfl, hr, hi, hd', hoo', hs'⟩
      have hin : i = eso.size := by
        rcases Nat.lt_or_ge i eso.size with h | h
        · have e : eso.size - i =
                                  (eso.size - (i + 1)) + 1 := by omega
          rw [e, List.range'_succ] at hr
          exact nomatch hr
        · exact Nat.le_antisymm hi h
      refine wpAny_pure (hQ h' ?_
                                  ⟨oo, eso, epo, hoo', hco, hdo', hko, hpo, hno⟩ hs')
      rw [hin, ← hlen, List.take_length] at hd'
      exact hd'
  have loop' := loop
  by_cases z : esd.isEmpty = true
  · rw [if_pos z]
    refine wpAny_bind (wpAny_dictEntries hoo hdo' ?_)
    refine wpAny_bind ?_
    rw [← Array.forIn_toList]
    refine wpAny_forIn_list _ (fun rest _ s' => s' = s ∧ ∀ e ∈ rest, e ∈ eso) _ ?_ ?_ _ _ ⟨rfl, fun e he => by simpa using he⟩
    · rintro e rest u s' ⟨rfl, hm⟩
      obtain ⟨k', hk', _⟩ := hko e (hm e List.mem_cons_self)
      have ne := nr k' e.key hk'
      cases ek : e.key with
      | ref a => exact absurd ek (ne a)
      | _ => exact wpAny_pure ⟨rfl, fun e he => hm e (List.mem_cons_of_mem _ he)⟩
    · rintro u s' ⟨rfl, _⟩
      exact loop
  · rw [if_neg z]
    exact loop
/-- {**x, **y}: the new dict takes the entries of both -/
theorem kdu_disp (nr : ∀ k v, knd.is k v = true → ∀ a, v ≠ .ref a) {v1 v2 : Sem Value} {Q : Value → Shared → Prop}
    (h1 : wpAny (model prog w) A v1 (fun u s1 => ∃ o more, u = .ref o ∧ s.heap.objs.size ≠ o ∧ (o == sysModules) = false ∧ s1.heap.DictOf knd o more ∧ s1.heap.DictOf knd s.heap.objs.size [] ∧ more.length ≤ sizeLine ∧
      ∀ h', h'.DictOf knd s.heap.objs.size (merged [] more) → h'.DictOf knd o more → Heap.SameBut s.heap.objs.size s1.heap h' →
        wpAny (model prog w) A v2 (fun u2 s2 => ∃ o2 more2 kvs, u2 = .ref o2 ∧ s.heap.objs.size ≠ o2 ∧ (o2 == sysModules) = false ∧ s2.heap.DictOf knd o2 more2 ∧ s2.heap.DictOf knd s.heap.objs.size kvs ∧ kvs.length + more2.length ≤ sizeLine ∧
          ∀ h2, h2.DictOf knd s.heap.objs.size (merged kvs more2) → h2.DictOf knd o2 more2 → Heap.SameBut s.heap.objs.size s2.heap h2 → Q (.ref s.heap.objs.size) { s2 with heap := h2 }) E { s1 with heap := h' }) E { s with heap := s.heap.push { cls := .type "dict", data := .dict #[] } }) :
    wpAny (model prog w) A (dictDisplay [(none, v1), (none, v2)]) Q E s := by
  unfold dictDisplay
  simp only [List.forIn_cons, List.forIn_nil]
  refine wpAny_bind (wpAny_bind (wpAny_bind ?_))
  rw [if_pos (show ([] : List (Sem Value × Sem Value)).isEmpty = true from rfl)]
  refine wpAny_pure ?_
  dsimp only
  refine wpAny_bind (wpAny_alloc ?_)
  refine wpAny_bind (wpAny_holding (wpAny_mono h1 (fun u s1 hu => ?_) fun _ _ e => e))
  obtain ⟨o, more, rfl, ne, hs, d1, d0, sz, k⟩ := hu
  refine wpAny_bind (wpAny_onRaise (wpAny_tryCatch (wpAny_onRaise (wpAny_holding (kdu_merge nr ne hs d0 d1 (fun h' dd do_ sb => ?_) (by simpa using sz))))))
  refine wpAny_pure ?_
  dsimp only
  refine wpAny_bind (wpAny_bind ?_)
  rw [if_pos (show ([] : List (Sem Value × Sem Value)).isEmpty = true from rfl)]
  refine wpAny_pure ?_
  dsimp only
  refine wpAny_bind (wpAny_pure ?_)
  refine wpAny_bind (wpAny_holding (wpAny_mono (k h' dd do_ sb) (fun u s2 hu => ?_) fun _ _ e => e))
  obtain ⟨o2, more2, kvs, rfl, ne2, hs2, d2, d02, sz2, k2⟩ := hu
  refine wpAny_bind (wpAny_onRaise (wpAny_tryCatch (wpAny_onRaise (wpAny_holding (kdu_merge nr ne2 hs2 d02 d2 (fun h2 dd2 do2 sb2 => ?_) sz2)))))
  refine wpAny_pure ?_
  dsimp only
  refine wpAny_pure ?_
  dsimp only
  refine wpAny_bind ?_
  rw [if_pos (show ([] : List (Sem Value × Sem Value)).isEmpty = true from rfl)]
  refine wpAny_pure ?_
  exact wpAny_pure (k2 h2 dd2 do2 sb2)
end
end PySem
namespace L2
open PySem PySem.Spec PyProof.Rows
/-- {**x, **y} -/
def tDisp2 (t1 t2 : TE) : TE := fun σ H Q => ∀ p, H p = none → t1 σ (upd H p (.dK [])) fun x H1 => ∃ a kvs, x = .ref a ∧ a ≠ p ∧ H1 a = some (.dK kvs) ∧ H1 p = some (.dK []) ∧ t2 σ (upd H1 p (.dK (mergeK [] kvs))) fun y H2 => ∃ b kvs2 kvs1, y = .ref b ∧ b ≠ p ∧ H2 b = some (.dK kvs2) ∧ H2 p = some (.dK kvs1) ∧ kvs1.length + kvs2.length ≤ sizeLine ∧ Q (.ref p) (upd H2 p (.dK (mergeK kvs1 kvs2)))
theorem mix_nr {P : Program} {w : World} : ∀ (k : Key) (v : Value), (mixKind P w).is k v = true → ∀ a, v ≠ .ref a := fun k v h a e => by
  subst e
  cases k <;> cases h
theorem pe_disp2 {X : Cx} {pos : Pos} {e1 e2 : Expr} {t1 t2 : TE} (h1 : PE X e1 t1) (h2 : PE X e2 t2) : PE X (.Dict [none, none] [e1, e2] pos) (tDisp2 t1 t2) := by
  refine ⟨fun pins s σ H Q I q => ?_⟩
  have hn := I.hok.fresh (Nat.le_refl s.heap.objs.size)
  have I1 := I.laid (a := s.heap.objs.size) (o := .dK []) (h' := s.heap.push { cls := .type "dict", data := .dict #[] })
                                                                                                                         (t' := s.toks) (fun _ _ q => Heap.get?_push_of_some _ q) (Nat.le_refl _) (dk_empty s.heap I.big)
  have ev : wpAny (model X.prog X.w) X.A (dictDisplay [(none, do let x ← eval e1 X.env; standAt pos; pure x), (none, do let x ← eval e2 X.env; standAt pos; pure x)]) (EP X pins σ Q) X.xe s := by
    refine kdu_disp (knd := mixKind X.prog X.w) mix_nr ?_
    refine wpAny_bind (thn (h1.run pins _ σ _ _ I1 (q _ hn)) fun u s1 ⟨x, H1, J1, r1, a, kvs, ex, ne, ea, ep, q1⟩ => wpAny_bind (wpAny_standAt (wpAny_pure ?_)))
    subst ex
    cases r1
    obtain ⟨z, hd, vs, rel, dd⟩ := dk_of J1.hok ea
    obtain ⟨z0, hd0, vs0, r0, dd0⟩ := dk_of J1.hok ep
    cases r0
    refine ⟨a, vs, rfl, Ne.symm ne, hd, dd, dd0, by rw [← rel.length]; exact z, fun h' dm do_ sb => ?_⟩
    have J2 : Inv X pins σ (upd H1 s.heap.objs.size (.dK (mergeK [] kvs))) { s1 with heap := h' } := by
      have hz : (mergeK [] kvs).length ≤ sizeLine := by
        have := length_mergeK kvs []
        rw [List.length_nil] at this
        omega
      have he : ∃ q, h'.get? s.heap.objs.size = some q := let ⟨q, _, _, hq, _⟩ := dm; ⟨q, hq⟩
      exact d_write (t' := s1.toks) J1 (by rw [ep]; exact True.intro) sb he (dk_new hz hd0 (rel.merge .nil) dm)
    refine wpAny_bind (thn (h2.run pins _ σ _ _ J2 q1) fun u2 s2 ⟨y, H2, J3, r3, b, kvs2, kvs1, ey, ne2, eb, ep2, l2, q2⟩ => wpAny_bind (wpAny_standAt (wpAny_pure ?_)))
    subst ey
    cases r3
    obtain ⟨z3, hd3, vs3, rel3, dd3⟩ := dk_of J3.hok eb
    obtain ⟨z4, hd4, vs4, rel4, dd4⟩ := dk_of J3.hok ep2
    refine ⟨b, vs3, vs4, rfl, Ne.symm ne2, hd3, dd3, dd4, by rw [← rel3.length, ← rel4.length]; exact l2, fun h2 dm2 do2 sb2 => ?_⟩
    have hz : (mergeK kvs1 kvs2).length ≤ sizeLine := Nat.le_trans (length_mergeK kvs2 kvs1) l2
    have he : ∃ q, h2.get? s.heap.objs.size = some q := let ⟨q, _, _, hq, _⟩ := dm2; ⟨q, hq⟩
    exact ⟨.ref s.heap.objs.size, _, d_write (t' := s2.toks) J3 (by rw [ep2]; exact True.intro) sb2 he (dk_new hz hd4 (rel3.merge rel4) dm2), rfl, q2⟩
  show wpAny (model X.prog X.w) X.A (eval (.Dict [none, none] [e1, e2] pos) X.env) (EP X pins σ Q) X.xe s
  unfold eval
  exact wpAny_bind (wpAny_standAt ev)
end L2
namespace K40
open PySem L2
open PyProof.Rows PySem.Spec
theorem pickR_snoc2 (S : Rws) (ns : List Str) (n : Str) : pickR S (ns ++ [n]) = pickR S ns ++ [(n, (spn S n).1, (spn S n).2)] := by
  unfold pickR
  rw [List.map_append]
  rfl
theorem pickR_good {t : Int} {S : Rws} {ns : List Str} (g : Good t S) (nd : ns.Nodup) (ne : ns ≠ []) (l8 : ns.length ≤ 8) (h : ∀ n ∈ ns, n ∈ S.map (·.1)) : Good t (pickR S ns) := by
  have hm : ∀ x ∈ pickR S ns, x ∈ S := fun x hx => by
    obtain ⟨n, hn, rfl⟩ := List.mem_map.mp hx
    exact spn_in g.nd (h n hn)
  refine ⟨by rw [pickR_names]; exact nd, ?_, by unfold pickR; rw [List.length_map]; exact l8, fun x hx => g.nm x (hm x hx), fun x hx => g.sp x (hm x hx), fun x hx => g.nr x (hm x hx), g.t1, g.t2⟩
  unfold pickR
  rw [List.length_map]
  cases ns with
  | nil => exact absurd rfl ne
  | cons _ _ => exact Nat.succ_le_succ (Nat.zero_le _)
theorem Tups.append {H : Hp} {M : List (Str × Addr)} {S : Rws} (h2 : Tups H M S) : ∀ {L : List (Str × Addr)} {R : Rws}, Tups H L R → Tups H (L ++ M) (R ++ S)
  | _, _, .nil => h2
  | _, _, .cons h t => .cons h (Tups.append h2 t)
theorem both_good {t : Int} {S S2 : Rws} (g : Good t S) (g2 : Good t S2) (dj : ∀ n ∈ S.map (·.1), n ∉ S2.map (·.1)) (l8 : S.length + S2.length ≤ 8) : Good t (S ++ S2) := by
  refine ⟨?_, by rw [List.length_append]; have := g.l1; omega, by rw [List.length_append]; exact l8, fun x hx => ?_, fun x hx => ?_, fun x hx => ?_, g.t1, g.t2⟩
  · rw [List.map_append, List.nodup_append]
    exact ⟨g.nd, g2.nd, fun a ha b hb e => dj a ha (e ▸ hb)⟩
  all_goals rcases List.mem_append.mp hx with hx | hx
  · exact g.nm x hx
  · exact g2.nm x hx
  · exact g.sp x hx
  · exact g2.sp x hx
  · exact g.nr x hx
  · exact g2.nr x hx
theorem any_rep (n : Nat) : (List.replicate n false).any id = false := by
  rw [List.any_eq_false]
  intro x hx
  rw [(List.mem_replicate.mp hx).2]
  exact fun z => by cases z
theorem ms_not {k : Bool} (h : k = true) : (!k) = false := by rw [h]; rfl
section
variable {P : Program} {w : World} {K : PySem.W.Frag}
                                                      {mg : Str → Option Value} {base : Heap}
def sp_and (K : PySem.W.Frag) (C : Addr) : Sp := fun vs H Q _ => ∃ (p b : Addr) (t : Int) (S : Rws) (r : Addr) (ns : List Str), vs = [.ref p, .ref b] ∧ SpS H C p t S r ∧ H b = some (.tup (ns.map V.str)) ∧ ns ≠ [] ∧ ns.length ≤ 8 ∧ sortedS ns = true ∧ ns.Nodup ∧ (∀ n ∈ ns, n ∈ S.map (·.1)) ∧ ∀ q H', Same H H' → H q = none → (∀ r, H r ≠ none → SpS H' C q t (pickR S ns) r) → Q (.ref q) H'
theorem ok_and (T : T K mg) (U : UX K mg) : FnOk P w K mg base CX0 8 U.mn.f U.mn.d ["self", "other"] (sp_and K U.C) := by
  have G_ascends : FnOk P w K mg base CX0 1 T.f_ascends T.d_ascends ["row"] (sp_ascends K) := ok_ascends T
  have G_init : FnOk P w K mg base CX0 6 U.fI U.dI ["self", "interval", "rows"] (sp_initS K U.C) := ok_initS T U
  refine U.mn.F.ok sc_Spans_and (fun vs H Q E h => ?_) (fun cdv A outer s H vs Q E hr h => ?_)
  · obtain ⟨p, b, t, S, r, ns, rfl, _⟩ := h
    rfl
  · obtain ⟨p, b, t, S, r, ns, rfl, spS, hb, ne, l8, so, nd, hns, k⟩ := h
    obtain ⟨g, so0, dx, rd, nm, lv, cr, L, h1, h2, h3, h4⟩ := spS.weak
    have hu := hu_of hr
    have hr_ascends : Room 1 _ := hr.mono (by decide)
    have gp := pickR_good g nd ne l8 hns
    have sb : SqT K H b (ns.map V.str) := SqT.of hb
    refine ⟨_, (pss_cons (ps_if (PW.pt (pw_or (pt_not (pt_val (pe_callB call_isi (by rfl) T.z_isinstance (by decide +kernel) (pa_cons (pv 1) (pa_cons (pe_bltn (v := V.ty "tuple") (u := Value.type "tuple") (by rfl) T.z_tuple (by decide +kernel) rfl) pa_nil))))) (pw_or1 (pt_not (pt_truth (pv 1) (fun _ => rfl))))))
      (pss_one ps_never)
      pss_nil)
      (pss_cons (ps_if (PW.pt (pw_or (pt_not (pt_val (pe_callB (cr_all rfl) (by rfl) T.z_all (by decide +kernel) (pa_cons (pe_lc (wi := iTup K (tVar 1)) (own := [("name", 2)]) (g := gName 2) rfl sc_Spans_and.nd (pi_tup (pv 1)) (blkOk_by (N := ["self", "other", "name"]) (sc := defScope s_Spans_and) (by decide +kernel)) (fun _ _ _ _ _ => (pg_name (i := 2) sc_Spans_and.nd rfl (Or.inl rfl))) (fun _ _ _ _ _ => pts_nil) (fun _ _ _ _ _ => (pe_cmpR (r := rIn K false) op_in_seq (pv 2) (pe_fldK (K := K) rfl (pv 0) rfl) (by with_unfolding_all rfl)))) pa_nil)))) (pw_or1 (pt_not (pt_val (pe_call G_ascends hr_ascends rfl T.m_ascends T.F_ascends.kp T.b_ascends .nil pass0 (pa_cons (pv 1) pa_nil)))))))
      (pss_one ps_never)
      pss_nil)
      (pss_one (ps_ret (pe_make U.mkI G_init (hr.mono (by decide)) rfl U.mC U.bI .nil pass0 (pa_cons (pe_fld (pv 0) rfl) (pa_cons (pe_dc (wi := iTup K (tVar 1)) (own := [("name", 2)]) (g := gName 2) rfl sc_Spans_and.nd (pi_tup (pv 1)) (blkOk_by (N := ["self", "other", "name"]) (sc := defScope s_Spans_and) (by decide +kernel)) (fun _ _ _ _ _ => (pg_name (i := 2) sc_Spans_and.nd rfl (Or.inl rfl))) (fun _ _ _ _ _ => pts_nil) (fun _ _ _ _ _ => (pv 2)) (fun _ _ _ _ _ => (pe_dget (by exact hu) (pe_fldK (K := K) rfl (pv 0) rfl) (pv 2) (fun _ _ => rfl)))) pa_nil))))))), ?_⟩
    refine ⟨_, rfl, _, _, _, _, true, rfl, .ty _, .base (.tup hb), kit_ty (by decide +kernel), _, rfl, iteF ?_⟩
    refine ⟨_, rfl, _, .inr (.inl ⟨_, sb, rfl⟩), ?_⟩
    have nz : (!(ns.map V.str).isEmpty) = true := by
      rw [List.isEmpty_map]
      cases ns with
      | nil => exact absurd rfl ne
      | cons _ _ => rfl
    rw [nz]
    refine iteF ?_
    refine ⟨_, rfl, b, rfl, ⟨_, sb⟩, fun D hD => ?_⟩
    refine lc_it (walk_tup (K := K) (a := b) (xs := ns.map V.str)) (fun i H' => Same H H' ∧ H' D = some (.lst ((List.replicate i true).map V.bl))) ⟨Same.new hD, upd_same⟩ (fun i H' _ h => Same.seqT h.1 sb) ?_ ?_
    · rintro i x Hc Hd hi ⟨Sc, eD⟩ ⟨rfl, hx⟩
      rw [List.getElem?_map] at hx
      rw [List.length_map] at hi
      cases e2 : ns[i]? with
      | none => rw [e2] at hx; cases hx
      | some n =>
        rw [e2] at hx
        cases hx
        refine ⟨rfl, ?_⟩
        unfold tYes
        dsimp only
        rw [if_pos rfl]
        refine ⟨_, rfl, _, rfl, p, U.C, dx, _, .ref nm, rfl, Sc _ _ h1, U.cl, U.n3, rfl, nm, _, rfl, .inr (SqT.of (Sc _ _ h4)), rfl, flat_strs _, ?_⟩
        rw [inV_strs, decide_eq_true (hns n (List.mem_of_getElem? e2))]
        refine ⟨_, eD, by rw [List.length_map, List.length_replicate, sizeLine_eq]; omega, Same.at hD Sc, ?_⟩
        rw [upd_same, List.replicate_succ', List.map_append]
        rfl
    rintro Ha ⟨Sa, eD⟩
    refine ⟨D, _, rfl, SqL.of eD, _, rfl, ?_⟩
    rw [bl_rep]
    refine iteF ?_
    refine ⟨_, rfl, b, ns, rfl, Same.seqT Sa sb, ascN_of so nd, by omega, fun Hb Sb => ⟨_, rfl, iteF ?_⟩⟩
    have S12 := Same.trans Sa Sb
    have h1b := S12 _ _ h1
    have h2b := S12 _ _ h2
    have h3b := h3.keep (KT.same S12)
    have sbb := Same.seqT S12 sb
    refine ⟨_, rfl, p, U.C, dx, _, .int t, rfl, h1b, U.cl, U.n1, rfl, _, rfl, b, rfl, ⟨_, sbb⟩, fun G hG => ?_⟩
    refine dc_it (walk_tup (K := K) (a := b) (xs := ns.map V.str)) (fun i H' => Same Hb H' ∧ ∃ M, H' G = some (.dK (Kvs M)) ∧ Tups H' M (pickR S (ns.take i))) ⟨Same.new hG, [], upd_same, .nil⟩ (fun i H' _ h => Same.seqT h.1 sbb) ?_ ?_
    · rintro i x Hc Hd hi ⟨Sc, M, eG, tm⟩ ⟨rfl, hx⟩
      rw [List.getElem?_map] at hx
      rw [List.length_map] at hi
      cases e2 : ns[i]? with
      | none => rw [e2] at hx; cases hx
      | some n =>
        rw [e2] at hx
        cases hx
        refine ⟨rfl, ?_⟩
        unfold tYes
        dsimp only
        rw [if_pos rfl]
        obtain ⟨a, ha, hab⟩ := h3b.at g.nd (spn_in g.nd (hns n (List.mem_of_getElem? e2)))
        refine ⟨_, rfl, _, rfl, p, U.C, dx, _, .ref rd, rfl, Sc _ _ h1b, U.cl, U.n2, rfl, _, rfl, rd, V.ref a, rfl, ?_, ?_⟩
        · have := DGet.k (k := Sum.inr n) (Sc _ _ h2b)
          rw [ha] at this
          exact this
        have hn : n ∉ M.map (·.1) := by
          rw [tm.names, pickR_names]
          intro hm
          rw [← List.take_append_drop i ns] at nd
          have hd2 : n ∈ ns.drop i := List.mem_iff_getElem?.mpr ⟨0, by rw [List.getElem?_drop]; exact e2⟩
          exact (List.nodup_append.mp nd).2.2 n hm n hd2 rfl
        have lM : M.length ≤ 8 := by
          rw [tm.len]
          unfold pickR
          rw [List.length_map, List.length_take]
          omega
        refine ⟨Kvs M, Sum.inr n, rfl, eG, by rw [kvs_len, sizeLine_eq]; omega, Same.at hG Sc, M ++ [(n, a)], by rw [upd_same, putK_kvs hn], ?_⟩
        have kt : KT Hd (upd Hd G (.dK (putK (Kvs M) (.inr n) (.ref a)))) := KT.put eG (fun _ z => by cases z)
        rw [List.take_add_one, e2]
        show Tups _ _ (pickR S (ns.take i ++ [n]))
        rw [pickR_snoc2]
        exact (tm.keep kt).snoc (kt _ _ (Sc _ _ hab))
    rintro Hc ⟨Sc, M, eG, tm⟩ x xd hx hxd nxd
    rw [List.length_map, List.take_length] at tm
    have S03 := Same.trans S12 Sc
    have S4 : Same Hc (upd (upd Hc xd (.own x)) x (.ins U.C xd [])) := Same.trans (Same.new hxd) (Same.new (by rw [upd_ne nxd.symm]; exact hx))
    refine ⟨x, G, xd, t, M, pickR S ns, rfl, upd_same, S4 _ _ eG, tm.keep (KT.same S4), gp, fun S' H' B sp' srd => ⟨rfl, ?_⟩⟩
    have e' : S' = pickR S ns := Srd.eq gp.nd srd ⟨List.Perm.refl _, by rw [pickR_names]; exact so⟩
    rw [e'] at sp'
    have hx0 := none_same S03 hx
    refine k x H' (fun b o hb => ?_) hx0 (fun r hr => sp' r (some_same (Same.trans S03 S4) hr))
    exact B b o (fun z => by rw [z, hx0] at hb; cases hb) (S4 _ _ (S03 _ _ hb))
def sp_or (K : PySem.W.Frag) (C : Addr) : Sp := fun vs H Q _ => ∃ (p b : Addr) (t : Int) (S S2 : Rws) (r r2 : Addr), vs = [.ref p, .ref b] ∧ SpS H C p t S r ∧ SpS H C b t S2 r2 ∧ (∀ n ∈ S.map (·.1), n ∉ S2.map (·.1)) ∧ S.length + S2.length ≤ 8 ∧ ∀ q H' B, Same H H' → H q = none → Srd (S ++ S2) B → (∀ r, H r ≠ none → SpS H' C q t B r) → Q (.ref q) H'
theorem ok_or (T : T K mg) (U : UX K mg) : FnOk P w K mg base CX0 8 U.mr.f U.mr.d ["self", "other"] (sp_or K U.C) := by
  have G_init : FnOk P w K mg base CX0 6 U.fI U.dI ["self", "interval", "rows"] (sp_initS K U.C) := ok_initS T U
  refine U.mr.F.ok sc_Spans_or (fun vs H Q E h => ?_) (fun cdv A outer s H vs Q E hr h => ?_)
  · obtain ⟨p, b, t, S, S2, r, r2, rfl, _⟩ := h
    rfl
  · obtain ⟨p, b, t, S, S2, r, r2, rfl, spS, spS2, dj, l8, k⟩ := h
    obtain ⟨g, so0, dx, rd, nm, lv, cr, L, h1, h2, h3, h4⟩ := spS.weak
    obtain ⟨g', so', dx', rd', nm', lv', cr', L', h1', h2', h3', h4'⟩ := spS2.weak
    have hu := hu_of hr
    have gp := both_good g g' dj l8
    obtain ⟨_, c_MAX_VALUES⟩ := T.c_MAX_VALUES
    refine ⟨_, (pss_cons (ps_if (PW.pt (pw_or (pt_not (pt_val (pe_callB call_isi (by rfl) T.z_isinstance (by decide +kernel) (pa_cons (pv 1) (pa_cons (pe_glob (v := V.ref U.C) rfl U.mC rfl) pa_nil))))) (pw_or1 (pt_cmpR op_ne (pe_fld (pv 0) rfl) (pe_fld (pv 1) rfl) (nomark _)))))
      (pss_one ps_never)
      pss_nil)
      (pss_cons (ps_if (pt_val (pe_callB (cr_any rfl) (by rfl) T.z_any (by decide +kernel) (pa_cons (pe_lc (own := [("name", 3)]) (g := gName 3) rfl sc_Spans_or.nd (pi_tup (pe_fld (pv 1) rfl)) (blkOk_by (N := ["self", "other", "rows", "name"]) (sc := defScope s_Spans_or) (by decide +kernel)) (fun _ _ _ _ _ => (pg_name (i := 3) sc_Spans_or.nd rfl (Or.inl rfl))) (fun _ _ _ _ _ => pts_nil) (fun _ _ _ _ _ => (pe_cmpR (r := rIn K false) op_in_seq (pv 3) (pe_fldK (K := K) rfl (pv 0) rfl) (by with_unfolding_all rfl)))) pa_nil)))
      (pss_one ps_never)
      pss_nil)
      (pss_cons (ps_set (i := 2) sc_Spans_or.nd rfl (Or.inl rfl) (pe_disp2 (pe_fld (pv 0) rfl) (pe_fld (pv 1) rfl)))
      (pss_cons (ps_if (pt_cmpR op_gt (pe_callB call_lenD (by rfl) T.z_len (by decide +kernel) (pa_cons (pv 2) pa_nil)) (pe_glob (v := V.int 8) rfl c_MAX_VALUES ⟨_, rfl⟩) (nomark _))
      (pss_one ps_never)
      pss_nil)
      (pss_one (ps_ret (pe_make U.mkI G_init (hr.mono (by decide)) rfl U.mC U.bI .nil pass0 (pa_cons (pe_fld (pv 0) rfl) (pa_cons (pv 2) pa_nil))))))))), ?_⟩
    refine ⟨_, rfl, _, _, _, _, true, rfl, .own _, .base (.ins h1' U.cl U.ca U.cg U.ct U.mo), by unfold PySem.W.kitOne; rw [if_pos (beq_self_eq_true _)], ?_⟩
    refine ⟨_, rfl, ?_⟩
    refine iteF ?_
    refine ⟨_, rfl, p, U.C, dx, _, .int t, rfl, h1, U.cl, U.n1, rfl, _, rfl, b, U.C, dx', _, .int t, rfl, h1', U.cl, U.n1, rfl, rfl, ?_⟩
    rw [show (!decide (V.int t = V.int t)) = false by rw [decide_eq_true rfl]; rfl]
    refine ⟨_, rfl, iteF ?_⟩
    refine ⟨_, rfl, b, U.C, dx', _, .ref nm', rfl, h1', U.cl, U.n3, rfl, nm', rfl, ⟨_, SqT.of h4'⟩, fun D hD => ?_⟩
    refine lc_it (walk_tup (K := K) (a := nm') (xs := (S2.map (·.1)).map V.str)) (fun i H' => Same H H' ∧ H' D = some (.lst ((List.replicate i false).map V.bl))) ⟨Same.new hD, upd_same⟩ (fun i H' _ h => SqT.of (h.1 _ _ h4')) ?_ ?_
    · rintro i x Hc Hd hi ⟨Sc, eD⟩ ⟨rfl, hx⟩
      rw [List.getElem?_map] at hx
      rw [List.length_map, List.length_map] at hi
      cases e2 : (S2.map (·.1))[i]? with
      | none => rw [e2] at hx; cases hx
      | some n =>
        rw [e2] at hx
        cases hx
        refine ⟨rfl, ?_⟩
        unfold tYes
        dsimp only
        rw [if_pos rfl]
        refine ⟨_, rfl, _, rfl, p, U.C, dx, _, .ref nm, rfl, Sc _ _ h1, U.cl, U.n3, rfl, nm, _, rfl, .inr (SqT.of (Sc _ _ h4)), rfl, flat_strs _, ?_⟩
        rw [inV_strs, decide_eq_false (fun z => dj n z (List.mem_of_getElem? e2))]
        refine ⟨_, eD, by rw [List.length_map, List.length_replicate, sizeLine_eq]; omega, Same.at hD Sc, ?_⟩
        rw [upd_same, List.replicate_succ', List.map_append]
        rfl
    rintro Ha ⟨Sa, eD⟩
    refine ⟨D, _, rfl, SqL.of eD, _, rfl, ?_⟩
    rw [any_rep]
    refine iteF ?_
    intro G hG
    have h2a := Sa _ _ h2
    have h2a' := Sa _ _ h2'
    have n1 := ne_of_none h2a hG
    have n2 := ne_of_none h2a' hG
    have S1 := Same.new (o := .dK []) hG
    refine ⟨_, rfl, p, U.C, dx, _, .ref rd, rfl, S1 _ _ (Sa _ _ h1), U.cl, U.n2, rfl, rd, Kvs L, rfl, n1, S1 _ _ h2a, upd_same, ?_⟩
    have Sm := Same.at (o := .dK (mergeK [] (Kvs L))) hG S1
    refine ⟨_, rfl, b, U.C, dx', _, .ref rd', rfl, Sm _ _ (Sa _ _ h1'), U.cl, U.n2, rfl, rd', Kvs L', mergeK [] (Kvs L), rfl, n2, Sm _ _ h2a', upd_same, ?_⟩
    have nd1 : ((L ++ L').map (·.1)).Nodup := by
      rw [List.map_append, h3.names, h3'.names, ← List.map_append]
      exact gp.nd
    have eL : mergeK [] (Kvs L) = Kvs L := mergeK_kvs L [] (by rw [List.nil_append, h3.names]; exact g.nd)
    rw [eL, mergeK_kvs L' L nd1]
    rw [eL] at Sm
    refine ⟨by rw [kvs_len, kvs_len, h3.len, h3'.len, sizeLine_eq]; omega, ?_⟩
    have S3 := Same.at (o := .dK (Kvs (L ++ L'))) hG Sm
    have eG : (upd (upd (upd Ha G (.dK [])) G (.dK (Kvs L))) G (.dK (Kvs (L ++ L')))) G = some (.dK (Kvs (L ++ L'))) := upd_same
    have S03 := Same.trans Sa S3
    generalize upd (upd (upd Ha G (.dK [])) G (.dK (Kvs L))) G (.dK (Kvs (L ++ L'))) = Hb at S03 eG ⊢
    have tb : Tups Hb (L ++ L') (S ++ S2) := Tups.append (h3'.keep (KT.same S03)) (h3.keep (KT.same S03))
    have len8 : (Kvs (L ++ L')).length ≤ 8 := by
      rw [kvs_len, List.length_append, h3.len, h3'.len]
      exact l8
    refine ⟨_, rfl, G, Kvs (L ++ L'), rfl, eG, _, _, rfl, rfl, _, rfl, ?_⟩
    rw [decide_eq_false (by omega)]
    refine iteF ?_
    refine ⟨_, rfl, p, U.C, dx, _, .int t, rfl, S03 _ _ h1, U.cl, U.n1, rfl, _, rfl, fun x xd hx hxd nxd => ?_⟩
    have S4 : Same Hb (upd (upd Hb xd (.own x)) x (.ins U.C xd [])) := Same.trans (Same.new hxd) (Same.new (by rw [upd_ne nxd.symm]; exact hx))
    refine ⟨x, G, xd, t, L ++ L', S ++ S2, rfl, upd_same, S4 _ _ eG, tb.keep (KT.same S4), gp, fun S' H' B sp' srd => ⟨rfl, ?_⟩⟩
    have hx0 := none_same S03 hx
    refine k x H' S' (fun b o hb => ?_) hx0 srd (fun r hr => sp' r (some_same (Same.trans S03 S4) hr))
    exact B b o (fun z => by rw [z, hx0] at hb; cases hb) (S4 _ _ (S03 _ _ hb))
end
end K40
namespace K40
open PySem L2
open PyProof.Rows PySem.Spec
theorem spn_far {S : Rws} (nd : (S.map (·.1)).Nodup) (f : Int) {n : Str} (h : n ∈ S.map (·.1)) : spn (farR f S) n = ((spn S n).1 + f, (spn S n).2 + f) := by
  refine spn_at (by rw [farR_names]; exact nd) ?_
  exact List.mem_map.mpr ⟨_, spn_in nd h, rfl⟩
theorem alv_per {t b e s : Int} (h : 0 < t) (q : Int) : alv t b e (s + q * t) = alv t b e s := by
  unfold alv
  rw [show s + q * t - b = s - b + q * t by omega, show s + q * t - e = s - e + q * t by omega, Int.add_mul_ediv_right _ _ (by omega), Int.add_mul_ediv_right _ _ (by omega)]
  omega
theorem alv_mod {t b e s : Int} (h : 0 < t) : alv t b e (s % t) = alv t b e s := by
  have := alv_per (b := b) (e := e) (s := s % t) h (s / t)
  rw [← this]
  have e1 := Int.mul_ediv_add_emod s t
  rw [show s % t + s / t * t = s by rw [Int.mul_comm (s / t) t]; omega]
theorem alv_sh (t b e s f : Int) : alv t (b + f) (e + f) (s + f) = alv t b e s := by
  unfold alv
  rw [show s + f - (b + f) = s - b by omega, show s + f - (e + f) = s - e by omega]
theorem cnt_mod {t s : Int} (h : 0 < t) (S : Rws) (k : Int) (ns : List Str) : cnt S t k ns (s % t) = cnt S t k ns s := by
  unfold cnt alvs
  congr 1
  exact List.map_congr_left fun n _ => alv_mod h
theorem cnt_far {S : Rws} (nd : (S.map (·.1)).Nodup) (t k f s : Int) {ns : List Str} (h : ∀ n ∈ ns, n ∈ S.map (·.1)) : cnt (farR f S) t k ns (s + f) = cnt S t k ns s := by
  unfold cnt alvs
  congr 1
  refine List.map_congr_left fun n hn => ?_
  rw [spn_far nd f (h n hn), show (spn S n).1 + f + k = (spn S n).1 + k + f by omega]
  exact alv_sh t _ _ s f
theorem mst_iff {S : Rws} {t : Int} {ns : List Str} {m : Int} (h : 1 ≤ t) : Mst S t ns m ↔ (∃ s, cnt S t 0 ns s = m) ∧ ∀ s, cnt S t 0 ns s ≤ m := by
  have key : ∀ s, cnt S t 0 ns s ∈ ((List.range t.toNat).map fun (s : Nat) => cnt S t 0 ns (s : Int)) := fun s => by
    have a := Int.emod_nonneg s (show t ≠ 0 by omega)
    have b := Int.emod_lt_of_pos s (show 0 < t by omega)
    refine List.mem_map.mpr ⟨(s % t).toNat, List.mem_range.mpr (by omega), ?_⟩
    rw [Int.toNat_of_nonneg a, cnt_mod (by omega)]
  constructor
  · rintro ⟨h1, h2⟩
    obtain ⟨s, _, e⟩ := List.mem_map.mp h1
    exact ⟨⟨_, e⟩, fun s => h2 _ (key s)⟩
  · rintro ⟨⟨s, e⟩, h2⟩
    refine ⟨e ▸ key s, fun y hy => ?_⟩
    obtain ⟨s', _, rfl⟩ := List.mem_map.mp hy
    exact h2 _
theorem mst_far {S : Rws} {t f m m' : Int} (h : 1 ≤ t) (nd : (S.map (·.1)).Nodup) (a : Mst S t (S.map (·.1)) m) (b : Mst (farR f S) t ((farR f S).map (·.1)) m') : m' = m := by
  rw [farR_names] at b
  obtain ⟨⟨s, e⟩, a2⟩ := (mst_iff h).mp a
  obtain ⟨⟨s', e'⟩, b2⟩ := (mst_iff h).mp b
  have c := cnt_far nd t 0 f
  have c1 := c s (fun n hn => hn)
  have c2 := c (s' - f) (fun n hn => hn)
  rw [show s' - f + f = s' by omega] at c2
  have d1 := b2 (s + f)
  have d2 := a2 (s' - f)
  omega
/-! ### the pieces do not move -/
theorem al_far {S : Rws} (nd : (S.map (·.1)).Nodup) (t f s : Int) {n : Str} (h : n ∈ S.map (·.1)) : PC.al t (bF (farR f S)) (eF (farR f S)) (s + f) n = PC.al t (bF S) (eF S) s n := by
  unfold PC.al bF eF
  rw [spn_far nd f h]
  exact alv_sh t _ _ s f
theorem ac_far {S : Rws} (nd : (S.map (·.1)).Nodup) (t f s : Int) {n : Str} (h : n ∈ S.map (·.1)) : PC.ac t (bF (farR f S)) (eF (farR f S)) (s + f) n = PC.ac t (bF S) (eF S) s n := by
  unfold PC.ac bF eF
  rw [spn_far nd f h]
  rw [show s + f - ((spn S n).1 + f) - 1 = s - (spn S n).1 - 1 by omega, show s + f - ((spn S n).2 + f) = s - (spn S n).2 by omega]
theorem sA_congr {A : Str → Bool} {f g : Str → Int} {l : List Str} (h : ∀ n ∈ l, f n = g n) : PC.sA A f l = PC.sA A g l := by
  unfold PC.sA
  congr 1
  refine List.map_congr_left fun n hn => ?_
  rw [h n hn]
theorem Al_far {S : Rws} (nd : (S.map (·.1)).Nodup) (t f s : Int) (A : Str → Bool) : PC.Al t (bF (farR f S)) (eF (farR f S)) (S.map (·.1)) A (s + f) = PC.Al t (bF S) (eF S) (S.map (·.1)) A s := sA_congr fun n hn => al_far nd t f s hn
theorem Ac_far {S : Rws} (nd : (S.map (·.1)).Nodup) (t f s : Int) (A : Str → Bool) : PC.Ac t (bF (farR f S)) (eF (farR f S)) (S.map (·.1)) A (s + f) = PC.Ac t (bF S) (eF S) (S.map (·.1)) A s := sA_congr fun n hn => ac_far nd t f s hn
theorem Most_far {S : Rws} (nd : (S.map (·.1)).Nodup) (t f : Int) (A : Str → Bool) (m : Int) : PC.Most t (bF (farR f S)) (eF (farR f S)) (S.map (·.1)) A m ↔ PC.Most t (bF S) (eF S) (S.map (·.1)) A m := by
  constructor
  · rintro ⟨h1, s, h2⟩
    refine ⟨fun s => by rw [← Al_far nd t f s A]; exact h1 _, s - f, ?_⟩
    rw [← Al_far nd t f (s - f) A, show s - f + f = s by omega]
    exact h2
  · rintro ⟨h1, s, h2⟩
    refine ⟨fun s => ?_, s + f, by rw [Al_far nd t f s A]; exact h2⟩
    have := Al_far nd t f (s - f) A
    rw [show s - f + f = s by omega] at this
    rw [this]
    exact h1 _
theorem Apart_far {S : Rws} (nd : (S.map (·.1)).Nodup) (t f : Int) (A : Str → Bool) (a r : Int) : PC.Apart t (bF (farR f S)) (eF (farR f S)) (S.map (·.1)) A a r ↔ PC.Apart t (bF S) (eF S) (S.map (·.1)) A a r := by
  constructor
  · rintro ⟨h1, h2, h3⟩
    refine ⟨(Most_far nd t f _ _).mp h1, (Most_far nd t f _ _).mp h2, fun s => ?_⟩
    rw [← Ac_far nd t f s, ← Ac_far nd t f s]
    exact h3 _
  · rintro ⟨h1, h2, h3⟩
    refine ⟨(Most_far nd t f _ _).mpr h1, (Most_far nd t f _ _).mpr h2, fun s => ?_⟩
    have e1 := Ac_far nd t f (s - f) A
    have e2 := Ac_far nd t f (s - f) (PC.nt A)
    rw [show s - f + f = s by omega] at e1 e2
    rw [e1, e2]
    exact h3 _
theorem pcs_far {S : Rws} (nd : (S.map (·.1)).Nodup) (t f : Int) : PC.pcs t (bF (farR f S)) (eF (farR f S)) ((farR f S).map (·.1)) = PC.pcs t (bF S) (eF S) (S.map (·.1)) := by
  rw [farR_names]
  have e : PC.Rel t (bF (farR f S)) (eF (farR f S)) (S.map (·.1)) = PC.Rel t (bF S) (eF S) (S.map (·.1)) := by
    funext x y
    unfold PC.Rel
    refine propext ⟨fun h A a r ap => h A a r ((Apart_far nd t f A a r).mpr ap), fun h A a r ap => h A a r ((Apart_far nd t f A a r).mp ap)⟩
  have e2 : PC.cls t (bF (farR f S)) (eF (farR f S)) (S.map (·.1)) = PC.cls t (bF S) (eF S) (S.map (·.1)) := by
    funext n
    unfold PC.cls
    rw [e]
  unfold PC.pcs
  rw [e, e2]
/-! ### the rest of a shift -/
theorem far_add (a b : Int) (S : Rws) : farR a (farR b S) = farR (b + a) S := by
  unfold farR
  rw [List.map_map]
  refine List.map_congr_left fun x _ => ?_
  show (x.1, x.2.1 + b + a, x.2.2 + b + a) = (x.1, x.2.1 + (b + a), x.2.2 + (b + a))
  rw [Int.add_assoc, Int.add_assoc]
theorem far_zero (S : Rws) : farR 0 S = S := by
  unfold farR
  refine (List.map_congr_left fun x _ => ?_).trans (List.map_id _)
  show (x.1, x.2.1 + 0, x.2.2 + 0) = x
  rw [Int.add_zero, Int.add_zero]
theorem far_eq {S : Rws} (h : 1 ≤ S.length) (f : Int) : farR f S = S ↔ f = 0 := by
  refine ⟨fun e => ?_, fun e => by rw [e]; exact far_zero S⟩
  cases S with
  | nil => cases h
  | cons x r =>
    have := (List.cons.inj e).1
    have := congrArg (fun z => z.2.1) this
    simp only at this
    omega
theorem nor_far {S : Rws} (h : 1 ≤ S.length) {t : Int} (ht : 1 ≤ t) (f : Int) : norR t (farR f S) = norR t S ↔ f % t = 0 := by
  constructor
  · intro e
    cases S with
    | nil => cases h
    | cons x r =>
      have e1 := (List.cons.inj e).1
      have e2 : (x.2.1 + f) % t = x.2.1 % t := congrArg (fun z => z.2.1) e1
      have := Int.emod_emod_of_dvd
      have h3 : (x.2.1 + f - x.2.1) % t = 0 := by
        rw [Int.sub_emod, e2]
        simp
      rw [show x.2.1 + f - x.2.1 = f by omega] at h3
      exact h3
  · intro e
    unfold norR farR
    rw [List.map_map]
    refine List.map_congr_left fun x _ => ?_
    have e1 : (x.2.1 + f) % t = x.2.1 % t := by
      rw [Int.add_emod, e]
      simp
    show (x.1, (x.2.1 + f) % t, (x.2.1 + f) % t + (x.2.2 + f) - (x.2.1 + f)) = _
    rw [e1]
    congr 2
    omega
theorem lenR_far (f : Int) (S : Rws) : lenR (farR f S) = lenR S := by
  unfold lenR farR
  rw [List.map_map]
  refine List.map_congr_left fun x _ => ?_
  show x.2.2 + f - (x.2.1 + f) = x.2.2 - x.2.1
  omega
theorem pkS_mem {S : Rws} {t m x : Int} : x ∈ pkS S t m t.toNat ↔ (0 ≤ x ∧ x < t) ∧ cnt S t 0 (S.map (·.1)) x = m := by
  unfold pkS
  rw [List.mem_map]
  constructor
  · rintro ⟨s, hs, rfl⟩
    rw [List.mem_filter, List.mem_range, decide_eq_true_eq] at hs
    exact ⟨by omega, hs.2⟩
  · rintro ⟨⟨h1, h2⟩, h3⟩
    refine ⟨x.toNat, ?_, by omega⟩
    rw [List.mem_filter, List.mem_range, decide_eq_true_eq, Int.toNat_of_nonneg h1]
    exact ⟨by omega, h3⟩
theorem pkS_pw (S : Rws) (t m : Int) (j : Nat) : (pkS S t m j).Pairwise (· < ·) := by
  unfold pkS
  rw [List.pairwise_map]
  refine (List.Pairwise.filter _ List.pairwise_lt_range).imp fun h => ?_
  omega
theorem nodup_lt {l : List Int} (h : l.Pairwise (· < ·)) : l.Nodup := h.imp fun h e => by omega
/-- the peaks move with the spans -/
theorem pkS_far {S : Rws} {t : Int} (ht : 1 ≤ t) (nd : (S.map (·.1)).Nodup) (m f : Int) : ((pkS S t m t.toNat).map fun s => (s + f) % t).Perm (pkS (farR f S) t m t.toNat) := by
  refine (List.perm_ext_iff_of_nodup ?_ (nodup_lt (pkS_pw _ _ _ _))).mpr fun x => ?_
  · refine List.pairwise_map.mpr ((nodup_lt (pkS_pw S t m t.toNat)).imp_of_mem fun {a b} ha hb ne e => ne ?_)
    have ha := (pkS_mem.mp ha).1
    have hb := (pkS_mem.mp hb).1
    have e1 : (a + f - (b + f)) % t = 0 := by rw [Int.sub_emod, e]; simp
    rw [show a + f - (b + f) = a - b by omega] at e1
    obtain ⟨q, hq⟩ := Int.dvd_of_emod_eq_zero e1
    have : q = 0 := by
      rcases Int.lt_trichotomy q 0 with z | z | z
      · have : t * q ≤ t * (-1) := Int.mul_le_mul_of_nonneg_left (by omega) (by omega)
        omega
      · exact z
      · have : t * 1 ≤ t * q := Int.mul_le_mul_of_nonneg_left (by omega) (by omega)
        omega
    rw [this, Int.mul_zero] at hq
    omega
  · rw [pkS_mem, List.mem_map, farR_names]
    constructor
    · rintro ⟨s, hs, rfl⟩
      obtain ⟨h1, h2⟩ := pkS_mem.mp hs
      refine ⟨⟨Int.emod_nonneg _ (by omega), Int.emod_lt_of_pos _ (by omega)⟩, ?_⟩
      rw [cnt_mod (by omega), cnt_far nd t 0 f s fun n h => h]
      exact h2
    · rintro ⟨h1, h2⟩
      refine ⟨(x - f) % t, pkS_mem.mpr ⟨⟨Int.emod_nonneg _ (by omega), Int.emod_lt_of_pos _ (by omega)⟩, ?_⟩, ?_⟩
      · rw [cnt_mod (by omega), ← cnt_far nd t 0 f (x - f) fun n h => h, show x - f + f = x by omega]
        exact h2
      · rw [Int.emod_add_emod, show x - f + f = x by omega]
        exact Int.emod_eq_of_lt h1.1 h1.2
end K40
namespace K40
open PySem L2
open PyProof.Rows PySem.Spec

/-- pairs of counts in lists -/
def PrsAt (H : Hp) (xs : List V) (L : List (Int × Int)) : Prop := Paired (fun (x : V) (q : Int × Int) => ∃ a, x = V.ref a ∧ H a = some (.lst [.int q.1, .int q.2])) xs L
theorem PrsAt.same {H H' : Hp} (s : Same H H') {xs : List V} {L : List (Int × Int)} (h : PrsAt H xs L) : PrsAt H' xs L := Paired.mapP h fun _ _ ⟨a, e, q⟩ => ⟨a, e, s _ _ q⟩
theorem PrsAt.snoc {H : Hp} {a : Addr} {m n : Int} (q : H a = some (.lst [.int m, .int n])) : ∀ {xs : List V} {L : List (Int × Int)}, PrsAt H xs L → PrsAt H (xs ++ [V.ref a]) (L ++ [(m, n)])
  | _, _, .nil => .cons ⟨a, rfl, q⟩ .nil
  | _, _, .cons h t => .cons h (PrsAt.snoc q t)
theorem PrsAt.len {H : Hp} : ∀ {xs : List V} {L : List (Int × Int)}, PrsAt H xs L → xs.length = L.length
  | _, _, .nil => rfl
  | _, _, .cons _ t => by rw [List.length_cons, List.length_cons, PrsAt.len t]
theorem PrsAt.get {H : Hp} : ∀ {xs : List V} {L : List (Int × Int)}, PrsAt H xs L → ∀ (i : Nat) (v : V), xs[i]? = some v → ∃ a q, v = V.ref a ∧ L[i]? = some q ∧ H a = some (.lst [.int q.1, .int q.2])
  | _, _, .nil, i, v, h => by simp at h
  | _, _, .cons (b := q) ⟨a, e, z⟩ t, 0, v, h => ⟨a, q, (Option.some.inj h).symm.trans e, rfl, z⟩
  | _, _, .cons _ t, i + 1, v, h => by
    obtain ⟨a, q, e1, e2, e3⟩ := PrsAt.get t i v (by simpa using h)
    exact ⟨a, q, e1, by simpa using e2, e3⟩
theorem PrsAt.put {H : Hp} {D : Addr} {xs : List V} {L : List (Int × Int)} (o : HO) (hD : H D = some (.lst xs)) (h : PrsAt H xs L) : PrsAt (upd H D o) xs L := by
  refine Paired.mapP h fun x q ⟨a, e, z⟩ => ⟨a, e, ?_⟩
  have ne : a ≠ D := fun w => by
    rw [w, hD] at z
    have z := HO.lst.inj (Option.some.inj z)
    rw [z] at h
    obtain ⟨b, q', e1, _⟩ := h.get 0 _ rfl
    cases e1
  rw [upd_ne ne]
  exact z
def pqD (q : Int × Int) : PyData := .list [.int q.1, .int q.2]
def prsD (L : List (Int × Int)) : PyData := .list (L.map pqD)
theorem prs_dss {K : PySem.W.Frag} {H : Hp} : ∀ {xs : List V} {L : List (Int × Int)}, PrsAt H xs L → RL.DSs K H xs (L.map pqD)
  | _, _, .nil => .nil
  | _, _, .cons ⟨a, e, z⟩ t => by
    subst e
    exact .cons (.lst (SqL.of z) (.cons (.int _) (.cons (.int _) .nil))) (prs_dss t)
theorem prs_ds {K : PySem.W.Frag} {H : Hp} {q : Addr} {xs : List V} {L : List (Int × Int)} (e : H q = some (.lst xs)) (h : PrsAt H xs L) : RL.DS K H (.ref q) (prsD L) := .lst (SqL.of e) (prs_dss h)
/-- the counts of a tick -/
def cntP (S : Rws) (t i : Int) : Int × Int := (cnt S t 0 (S.map (·.1)) (i % t), cnt S t 1 (S.map (·.1)) (i % t))
def cntsL (S : Rws) (t f : Int) (j : Nat) : List (Int × Int) := (List.range j).map fun (j : Nat) => cntP S t (f + (j : Int))
theorem cntsL_snoc (S : Rws) (t f : Int) (j : Nat) : cntsL S t f (j + 1) = cntsL S t f j ++ [cntP S t (f + (j : Int))] := by
  unfold cntsL
  rw [List.range_succ, List.map_append]
  rfl
theorem cntsL_len (S : Rws) (t f : Int) (j : Nat) : (cntsL S t f j).length = j := by
  unfold cntsL
  rw [List.length_map, List.length_range]
theorem cntP_far {S : Rws} (nd : (S.map (·.1)).Nodup) {t : Int} (ht : 1 ≤ t) (f i : Int) : cntP (farR f S) t (i + f) = cntP S t i := by
  unfold cntP
  rw [farR_names, cnt_mod (by omega), cnt_mod (by omega), cnt_mod (by omega), cnt_mod (by omega), cnt_far nd t 0 f i fun n h => h, cnt_far nd t 1 f i fun n h => h]
theorem cntsL_far {S : Rws} (nd : (S.map (·.1)).Nodup) {t : Int} (ht : 1 ≤ t) (f : Int) (j : Nat) : cntsL (farR f S) t f j = cntsL S t 0 j := by
  unfold cntsL
  refine List.map_congr_left fun i _ => ?_
  rw [show f + (i : Int) = (0 + (i : Int)) + f by omega]
  exact cntP_far nd ht f _
section
variable {P : Program} {w : World} {K : PySem.W.Frag}
                                                      {mg : Str → Option Value} {base : Heap}
def sp_w_counts (K : PySem.W.Frag) (C : Addr) : Sp := fun vs H Q _ => ∃ (p : Addr) (t f : Int) (S : Rws) (r : Addr), vs = [.ref p, .int f] ∧ SpS H C p t S r ∧ (-3000000000 ≤ f ∧ f ≤ 3000000000) ∧ ∀ q xs H', Same H H' → H q = none → H' q = some (.lst xs) → PrsAt H' xs (cntsL S t f (2 * t).toNat) → Q (.ref q) H'
theorem ok_w_counts (T : T K mg) (U : UX K mg) : FnOk P w K mg base CX0 5 T.f_w_counts T.d_w_counts ["spans", "first"] (sp_w_counts K U.C) := by
  have G1 : FnR P w K mg base CX0 4 U.mv.f (sr_alive K U.C) := ok_alive T U
  have G2 : FnR P w K mg base CX0 4 U.mc.f (sr_across K U.C) := ok_across T U
  have Gi : FnOk P w K mg base CX0 1 U.pi.g U.pi.d ["self"] (getSp U.C "_interval") := ok_get U.cl U.pi sc_Spans_interval U.n1 ⟨_, _, _, rfl⟩
  refine T.F_w_counts.ok sc_w_counts (fun vs H Q E h => ?_) (fun cdv A outer s H vs Q E hr h => ?_)
  · obtain ⟨p, t, f, S, r, rfl, _⟩ := h
    rfl
  · obtain ⟨p, t, f, S, r, rfl, sp, hf, k⟩ := h
    obtain ⟨g, so, dx, rd, nm, lv, cr, L, LL, LC, h1, _⟩ := id sp
    have hu := hu_of hr
    have g1 := g.t1
    have g2 := g.t2
    refine ⟨_, (pss_cons (ps_set (i := 2) sc_w_counts.nd rfl (Or.inl rfl) (pe_listRg rfl (by rfl) T.z_list (prg_2 (by rfl) T.z_range (pv 1) (pe_op op_add (pv 1) (pe_op op_mul pe_int (pe_prop (pv 0) U.cl U.pi.pr Gi (hr.mono (by decide)) U.pi.b .nil pass0 rfl))))))
      (pss_one (ps_ret (pe_lc (own := [("tick", 3)]) (g := gName 3) rfl sc_w_counts.nd (pi_list (pv 2)) (blkOk_by (N := ["spans", "first", "ticks", "tick"]) (sc := defScope s_w_counts) (by decide +kernel)) (fun _ _ _ _ _ => (pg_name (i := 3) sc_w_counts.nd rfl (Or.inl rfl))) (fun _ _ _ _ _ => pts_nil) (fun _ _ _ _ _ => (pe_lst (pa_cons (MR.pe_methR (pv 0) U.cl U.mv.m G1 (hr.mono (by decide)) pass0 (pa_cons (pv 3) pa_nil)) (pa_cons (MR.pe_methR (pv 0) U.cl U.mc.m G2 (hr.mono (by decide)) pass0 (pa_cons (pv 3) pa_nil)) pa_nil)))))))), ?_⟩
    refine ⟨_, rfl, _, rfl, _, rfl, p, dx, _, rfl, h1, p, dx, _, .int t, rfl, h1, rfl, ?_⟩
    refine ⟨_, _, rfl, rfl, .inl ⟨by omega, by omega⟩, _, _, rfl, rfl, _, _, rfl, rfl, ⟨by omega, by omega, by omega, by omega, by omega⟩, fun l hl => ?_⟩
    have B1 := Same.new (o := .lst (rgV f (f + 2 * t))) hl
    have el : (upd H l (.lst (rgV f (f + 2 * t)))) l = some (.lst (rgV f (f + 2 * t))) := upd_same
    generalize upd H l (.lst (rgV f (f + 2 * t))) = Ha at B1 el ⊢
    refine ⟨_, rfl, l, rfl, ⟨_, SqL.of el⟩, fun D hD => ?_⟩
    have lr : (rgV f (f + 2 * t)).length = (2 * t).toNat := by
      rw [rgV_length]
      congr 1
      omega
    refine lc_it (walk_list (K := K) (a := l) (xs := rgV f (f + 2 * t))) (fun i H' => Same Ha H' ∧ ∃ xs, H' D = some (.lst xs) ∧ PrsAt H' xs (cntsL S t f i)) ⟨Same.new hD, [], upd_same, .nil⟩ (fun i H' _ h => SqL.of (h.1 _ _ el)) ?_ ?_
    · rintro i x Hb Hc hi ⟨Sb, xs, eD, pr⟩ ⟨rfl, hx⟩
      rw [lr] at hi
      have hx2 : x = V.int (f + (i : Int)) := by
        unfold rgV at hx
        rw [List.getElem?_map] at hx
        cases e : (List.range (f + 2 * t - f).toNat)[i]? with
        | none => rw [e] at hx; cases hx
        | some z =>
          rw [e] at hx
          obtain ⟨hz, rfl⟩ := List.getElem?_eq_some_iff.mp e
          rw [List.getElem_range] at hx
          exact (Option.some.inj hx).symm
      subst hx2
      have Sab := Same.trans B1 Sb
      refine ⟨rfl, ?_⟩
      unfold tYes
      dsimp only
      rw [if_pos rfl]
      refine ⟨_, rfl, p, dx, _, rfl, Sab _ _ h1, rfl, _, rfl, ?_⟩
      refine ⟨p, t, _, S, r, [], rfl, sp.same Sab, by simp, (fun n h => by cases h), ⟨by omega, by omega⟩, fun z1 Hc Sc e1 => ?_⟩
      refine ⟨_, rfl, p, dx, _, rfl, Sc _ _ (Sab _ _ h1), rfl, _, rfl, ?_⟩
      refine ⟨p, t, _, S, r, [], rfl, sp.same (Same.trans Sab Sc), by simp, (fun n h => by cases h), ⟨by omega, by omega⟩, fun z2 Hd Sd e2 => ?_⟩
      refine ⟨by rw [sizeLine_eq]; simp, fun q hq => ?_⟩
      have Se := Same.trans Sc Sd
      have Bq := Same.new (o := .lst [V.int (cnt S t 0 (chs S [] z1) ((f + (i : Int)) % t)), V.int (cnt S t 1 (chs S [] z2) ((f + (i : Int)) % t))]) hq
      have eq1 : (upd Hd q (.lst [V.int (cnt S t 0 (chs S [] z1) ((f + (i : Int)) % t)), V.int (cnt S t 1 (chs S [] z2) ((f + (i : Int)) % t))])) q = some (.lst [V.int (cntP S t (f + (i : Int))).1, V.int (cntP S t (f + (i : Int))).2]) := upd_same
      have Sf := Same.trans Se Bq
      generalize upd Hd q (.lst [V.int (cnt S t 0 (chs S [] z1) ((f + (i : Int)) % t)), V.int (cnt S t 1 (chs S [] z2) ((f + (i : Int)) % t))]) = Hf at Sf eq1 ⊢
      have eDf := Sf _ _ eD
      have nDq : q ≠ D := fun z => by
        rw [z] at hq
        rw [Se _ _ eD] at hq
        cases hq
      refine ⟨xs, eDf, by rw [pr.len, cntsL_len, sizeLine_eq]; omega, Same.at hD (Same.trans Sb Sf), xs ++ [V.ref q], upd_same, ?_⟩
      rw [cntsL_snoc]
      have pf := (pr.same Sf).put (.lst (xs ++ [V.ref q])) eDf
      exact PrsAt.snoc ((upd_ne nDq).trans eq1) pf
    rintro Hb ⟨Sb, xs, eD, pr⟩
    rw [lr] at pr
    exact k D xs Hb (Same.trans B1 Sb) (none_same B1 hD) eD pr
end
end K40
namespace K40
open PySem L2
open PyProof.Rows PySem.Spec OW
section
variable {X : Cx} {CX : CXT} {n : Nat} {C f : Addr} {fd : FuncData} {ps : List Str} {sp : Sp} {E : XK}
/-- o + i, i an int -/
def rOwnAddI (C : Addr) (sp : Sp) (E : XK) : R2 := fun x y H Q => ∃ a dx fs i, x = .ref a ∧ H a = some (.ins C dx fs) ∧ y = .int i ∧ sp [x, y] H Q E
/-- what the machine asks first -/
structure AddI (K : PySem.W.Frag) (C : Addr) : Prop where
  rc : PySem.W.findIn K (.ref C) "__radd__" = some none
  fo : PySem.W.findIn K (.type "int") "__add__" = some (some (.builtin "int.__add__"))
  ro : PySem.W.findIn K (.type "int") "__radd__" = some (some (.builtin "int.__radd__"))
  sb : PySem.W.subIn K (.type "int") (.ref C) = some false
theorem op_ownAddI (F : FnOk X.prog X.w X.K X.mg X.base CX n f fd ps sp) (o : OwnM X C "__add__" f) (hc : PySem.W.selfFirst X.K C = true) (ai : AddI X.K C) (hr : Room n X.A) (hb : Binds X.K fd ps []) (hx : Passes CX X E) : OpR X (binaryOp .Add) (rOwnAddI C sp E) := by
  intro pins s σ H x y u v Q I rx ry h
  obtain ⟨a, dx, fs, i, rfl, ha, rfl, q⟩ := h
  cases rx
  obtain ⟨t, rfl⟩ := ry
  obtain ⟨ox, od, J⟩ := inst_at I ha
  obtain ⟨m, hF⟩ := I.fr
  refine PySem.W.ksp_binT (T := "int") hF I.ok.mod.kin J rfl hc o.fs o.fn ai.rc (.inl rfl) ai.fo ai.ro ai.sb (wpAny_mono (run_at F ⟨hr, rfl⟩ hb hx I (vs := [.ref a, .int i]) (.cons rfl (.cons ⟨t, rfl⟩ .nil)) q) (fun v s' z => ?_) fun _ _ e => e)
  obtain ⟨zv, H', I', r', q'⟩ := z
  refine not_ni r' fun ne => ?_
  cases v <;> first | exact absurd rfl ne | exact ⟨zv, H', I', r', q'⟩
end

theorem cnt_bd {t k : Int} {S : Rws} (g : Good t S) (k0 : 0 ≤ k) (k1 : k ≤ 1) (s : Int) : ∀ {ns : List Str}, (∀ n ∈ ns, n ∈ S.map (·.1)) → 0 ≤ cnt S t k ns s ∧ cnt S t k ns s ≤ 8 * (ns.length : Int)
  | [], _ => ⟨Int.le_refl _, Int.le_refl _⟩
  | n :: ns, h => by
    obtain ⟨i1, i2⟩ := cnt_bd g k0 k1 s (ns := ns) (fun m hm => h m (List.mem_cons_of_mem _ hm))
    have sp := g.sp _ (spn_in g.nd (h n List.mem_cons_self))
    have t1 := g.t1
    unfold SpOk at sp
    simp only at sp
    have a : cnt S t k (n :: ns) s = alv t ((spn S n).1 + k) (spn S n).2 s + cnt S t k ns s := by
      unfold cnt alvs
      rw [List.map_cons, List.sum_cons]
    have b1 : alv t ((spn S n).1 + k) (spn S n).2 s ≤ 8 := alv_le (by omega) (by omega)
    have b0 : 0 ≤ alv t ((spn S n).1 + k) (spn S n).2 s := by
      have h1 : (s - (spn S n).2) / t ≤ (s - ((spn S n).1 + k)) / t := Int.ediv_le_ediv (by omega) (by omega)
      unfold alv
      omega
    rw [a, List.length_cons]
    omega
theorem cntP_bd {t : Int} {S : Rws} (g : Good t S) (i : Int) : (0 ≤ (cntP S t i).1 ∧ (cntP S t i).1 ≤ 64) ∧ 0 ≤ (cntP S t i).2 ∧ (cntP S t i).2 ≤ 64 := by
  have a := cnt_bd g (k := 0) (by omega) (by omega) (i % t) (ns := S.map (·.1)) fun n h => h
  have b := cnt_bd g (k := 1) (by omega) (by omega) (i % t) (ns := S.map (·.1)) fun n h => h
  rw [List.length_map] at a b
  have := g.l8
  unfold cntP
  dsimp only
  omega
theorem mst_bd {t m : Int} {S : Rws} (g : Good t S) (h : Mst S t (S.map (·.1)) m) : 0 ≤ m ∧ m ≤ 64 := by
  obtain ⟨⟨s, e⟩, _⟩ := (mst_iff g.t1).mp h
  have a := cnt_bd g (k := 0) (by omega) (by omega) s (ns := S.map (·.1)) fun n h => h
  rw [List.length_map] at a
  have := g.l8
  omega
theorem len_bd {t : Int} : ∀ {S : Rws}, (∀ x ∈ S, SpOk t x) → 0 ≤ (lenR S).sum ∧ (lenR S).sum ≤ 8 * t * (S.length : Int)
  | [], _ => ⟨Int.le_refl _, by show (0 : Int) ≤ 8 * t * 0; omega⟩
  | x :: S, h => by
    obtain ⟨i1, i2⟩ := len_bd (S := S) (fun y hy => h y (List.mem_cons_of_mem _ hy))
    have a := h x List.mem_cons_self
    unfold SpOk at a
    have e : (lenR (x :: S)).sum = (x.2.2 - x.2.1) + (lenR S).sum := by
      unfold lenR
      rw [List.map_cons, List.sum_cons]
    rw [e, List.length_cons, Int.natCast_add, Int.mul_add]
    omega
theorem TD.wk {k m n : Nat} {d : PyData} (h : TD k d m) (l : m ≤ n) : TD k d n := ⟨h.sh, h.ls, Nat.le_trans h.bk l, h.dp⟩
theorem TD.prs {L : List (Int × Int)} (h : ∀ q ∈ L, (0 ≤ q.1 ∧ q.1 ≤ 64) ∧ 0 ≤ q.2 ∧ q.2 ≤ 64) : TD 2 (prsD L) (3 * L.length) := by
  refine TD.list (TLs.mapd fun q hq => ?_)
  have := h q hq
  exact TD.list (TLs.cons (TD.int (by omega) (by omega)) (TLs.cons (TD.int (by omega) (by omega)) TLs.nil))
theorem cntsL_td {t : Int} {S : Rws} (g : Good t S) (f : Int) {j : Nat} (h : j ≤ 64) : TD 2 (prsD (cntsL S t f j)) 192 := by
  refine (TD.prs fun q hq => ?_).wk (by rw [cntsL_len]; omega)
  obtain ⟨i, _, rfl⟩ := List.mem_map.mp hq
  exact cntP_bd g _
/-- pieces as data -/
def pcD (p : List Str) : PyData := .tuple (p.map PyData.str)
def pcsD (ps : List (List Str)) : PyData := .tuple (ps.map pcD)
theorem pcs_len (t : Int) (b e : Str → Int) (N : List Str) : (PC.pcs t b e N).length ≤ N.length ∧ ∀ p ∈ PC.pcs t b e N, p.length ≤ N.length ∧ ∀ n ∈ p, n ∈ N := by
  unfold PC.pcs
  rw [List.length_map]
  refine ⟨List.length_filter_le _ _, fun p hp => ?_⟩
  obtain ⟨n, _, rfl⟩ := List.mem_map.mp hp
  exact ⟨List.length_filter_le _ _, fun m hm => (PC.cls_mem.mp hm).1⟩
theorem pcs_td {t : Int} {S : Rws} (g : Good t S) : TD 2 (pcsD (PC.pcs t (bF S) (eF S) (S.map (·.1)))) 584 := by
  obtain ⟨h1, h2⟩ := pcs_len t (bF S) (eF S) (S.map (·.1))
  rw [List.length_map] at h1 h2
  have := g.l8
  refine (TD.tup (TLs.mapd (m := 72) fun p hp => ?_)).wk (by omega)
  obtain ⟨a, b⟩ := h2 p hp
  refine (TD.names (ns := p) fun n hn => ?_).wk (by omega)
  obtain ⟨x, hx, rfl⟩ := List.mem_map.mp (b n hn)
  exact g.nm x hx
theorem pts_dss {K : PySem.W.Frag} {H : Hp} : ∀ {ap : AP}, PTs H ap → RL.DSs K H (refs ap) ((prt ap).map pcD)
  | [], _ => .nil
  | x :: ap, h => by
    refine .cons (.tup (SqT.of (h x List.mem_cons_self)) ?_) (pts_dss (ap := ap) fun y hy => h y (List.mem_cons_of_mem _ hy))
    have key : ∀ l : List Str, RL.DSs K H (l.map V.str) (l.map PyData.str) := fun l => by
      induction l with
      | nil => exact .nil
      | cons a l ih => exact .cons (.str a) ih
    exact key _
end K40
/-! promises kept where nothing is being told of itself, and a law called for one -/
namespace GW
open PySem PySem.Spec PyProof.Rows L2
open LamX in
/-- a def whose promise is kept where nothing is being told of itself -/
structure FnG (P : Program) (w : World) (K : PySem.W.Frag) (mg : Str → Option Value) (base : Heap) (CX : CXT) (k : Nat) (f : Addr) (fd : FuncData) (ps : List Str) (sp : Sp) : Prop where
  len : ∀ vs H Q E, sp vs H Q E → vs.length = ps.length
  run : ∀ (A : Around) (outer : List Env) (s : Shared) (H : Hp) (args : Args) (us : List Value) (vs : List V) (Q : VK) (E : XK), A.guards = some [] → Room k A → Env0 P w K mg base A outer s H → BindsTo s fd args (ps.zip us) → Vals vs us → sp vs H Q E →
    codeAny (model P w) A (.call
                                 (.ref f) args) (CR CX outer P w H s Q E) s
theorem FunG.okG {P : Program} {w : World} {K : PySem.W.Frag} {mg : Str → Option Value} {base : Heap} {x qual : Str} {st : Stmt} {f : Addr} {fd : FuncData} {N ps : List Str} {k : Nat} {sp : Sp} (F : Fun K x qual st f fd) (S : FnScope N ps (defScope st)) (len : ∀ vs H Q E, sp vs H Q E → vs.length = ps.length)
    (hbody : ∀ (cdv : Value) (A : Around) (outer : List Env) (s : Shared) (H : Hp) (vs : List V) (Q : VK) (E : XK), A.guards = some [] → Room k (A.deeper (PyProof.Rows.envOfC qual (defScope st) s.heap.objs.size f cdv)) → sp vs H Q E →
      ∃ t, PSs (cxOf CX0 P w K mg base N qual (defScope st) f cdv A outer s H E).nox (defBody st) t ∧ t { nx := fun _ H' => Q .non H', rt := Q } (L2.start N vs) H) : FnG P w K mg base CX0 (k + 1) f fd ps sp := by
  obtain ⟨oc, od, kV, doc, pm, an, cdv, ct, osl, rfl, lk, hcd⟩ := F.ex
  refine ⟨len, fun A outer s H args us vs Q E hg hr e0 hb r hsp => ?_⟩
  exact LamX.run_ofS lk hcd S hr e0 hb r (len _ _ _ _ hsp) fun hr' => by
    obtain ⟨t, h, q⟩ := hbody cdv A outer s H vs Q E hg hr' hsp
    exact ⟨t, h.nox, q⟩
section
variable {X : Cx} {CX : CXT} {k : Nat} {f : Addr} {fd : FuncData} {ps : List Str} {sp : Sp} {dvs : List V} {ds : List Value} {E : XK} {x : Str} {p pos : Pos} {e : Expr} {es : List Expr} {t : TA}
theorem pe_callG (F : FnG X.prog X.w X.K X.mg X.base CX k f fd ps sp) (hgd : X.A.guards = some []) (hr : Room k X.A) (hg : Gl X x) (hm : X.mg x = some (.ref f)) (hk : PySem.W.keepIn X.K (.ref f) = true) (hb : Binds X.K fd ps ds) (hd : Vals dvs ds) (hx : Passes CX X E)
    (ha : PA X (e :: es) t) (hdb : (x == ("__debug__" : Str)) = false := by decide) (he : starEach (e :: es) X.env =
                                                                                                                     (false, eval e X.env) :: starEach es X.env := by rfl) (hpl : (backTo pos (starEach es X.env)).any (·.1) = false := by rfl) :
    PE X (.Call (.Name x p)
                            (e :: es) [] pos) (tCall sp dvs E t) := by
  refine ⟨fun pins s σ H Q I h => wpAny_Call_Name_kw (ld_glob I hg hm ?_ hdb)⟩
  refine PySem.W.callWith_K (h₀ := X.base) I.ok.mod.kin hk (thn
                                                                (ha.run pos pins s σ H _ I h) fun us s1 ⟨vs, H1, I1, r, q⟩ => ⟨I1.kIn, ?_⟩) he hpl
  have r2 : Vals (vs ++ dvs) (us ++ ds) := r.append hd
  have hl : (us ++ ds).length = ps.length := by
    rw [← r2.length]
    exact F.len _ _ _ _ q
  have run := F.run X.A X.stack s1 H1 ⟨us, []⟩ (us ++ ds) (vs ++ dvs) Q E hgd hr I1.env0 (hb s1 us I1.kIn hl) r2 q
  refine wpAny_call (codeAny_mono run fun w' s' z => ?_)
  cases w' with
  | error er => exact hx pins σ H1 s1 er s' I1 z
  | ok fl =>
    cases fl with
    | ret u => exact I1.after z
    | next => exact False.elim z
    | brk => exact False.elim z
    | cont => exact False.elim z
end
/-! ### the law's call, of a promise that is kept where nothing is being told of itself -/
section
open PySem.Spec PyProof.Rows LamX
variable {P : Program} {w : World} {K : PySem.W.Frag} {mg mb : Str → Option Value} {CX : CXT} {k : Nat} {fa a : Addr} {cs : List (Addr × Addr)} {fd : FuncData} {x : Str} {sp : Sp} {s1 : Shared} {vs : List Value} {ns : List Int}
/-- the heap ahead of the call, with the script and the tables -/
structure Ahead (K : PySem.W.Frag) (mg mb : Str → Option Value) (cs : List (Addr × Addr)) (a : Addr) (vs : List Value) (s1 : Shared) : Prop where
  kin : K.In s1.heap
  glob : s1.heap.Ns mainGlobals mg
  blt : s1.heap.Ns builtinsNs mb
  boot : ∀ y : Str, y ≠ "__name__" → mb y = bootBuiltins y
  lim : s1.heap.NoLimit
  gens : s1.gens = #[]
  tab : ∀ p ∈ cs, s1.heap.get? p.2 = some { cls := .none, data := .fields #[] }
  offK : ∀ p ∈ cs, K.lookup p.2 = none
  code : ∀ p ∈ cs, PySem.W.CodeHd s1.heap p.1 p.2
  main : ∃ (bm : Addr) (ob : Obj), mg "__builtins__" = some (.ref bm) ∧ bm ≠ builtinsNs ∧ s1.heap.get? bm = some ob ∧ ob.cls = .type "module" ∧ ob.dict = some builtinsNs ∧ ob.data = .plain
  scr : s1.heap.get? a = some { cls := .type "list", data := .seq vs.toArray }
/-- what is tracked: the script at most, and the tables -/
structure Seen (K : PySem.W.Frag) (cs : List (Addr × Addr)) (a : Addr) (H : Hp) : Prop where
  tbl : ∀ p ∈ cs, H p.2 = some (.tbl #[])
  kind : ∀ b, H b = none ∨ (∃ p ∈ cs, p.2 = b) ∨ ∃ o xs, H b = some (.frz o (.lst xs))
  none_ : ∀ b, H b ≠ none → b = a ∨ ∃ p ∈ cs, p.2 = b
  scrK : H a ≠ none → K.lookup a = none
theorem Ahead.free {H : Hp} (h : Ahead K mg mb cs a vs s1) (z : Seen K cs a H) {b : Addr} {o : Obj} (e : s1.heap.get? b = some o) (n1 : ∀ us n, o.data ≠ .seq us n) (n2 : o.data ≠ .fields #[]) : H b = none := by
  cases q : H b with
  | none => rfl
  | some u =>
    rcases z.none_ b (by rw [q]; simp) with rfl | ⟨p, hp, rfl⟩
    · rw [h.scr] at e
      cases e
      exact absurd rfl (n1 _ _)
    · rw [h.tab p hp] at e
      cases e
      exact absurd rfl n2
theorem Ahead.dict {H : Hp} (h : Ahead K mg mb cs a vs s1) (z : Seen K cs a H) {b : Addr} {o : Obj} {es : Array DictEntry} {ep : Nat} (e : s1.heap.get? b = some o) (d : o.data = .dict es ep) : H b = none := by
  refine h.free z e (fun us n y => ?_) fun y => ?_
  · rw [d] at y
    cases y
  · rw [d] at y
    cases y
theorem Ahead.nsp {H : Hp} (h : Ahead K mg mb cs a vs s1) (z : Seen K cs a H) {b : Addr} {m : Str → Option Value} (y : s1.heap.Ns b m) : (hidT s1.heap H).Ns b m := by
  obtain ⟨o, es, ep, e, d, r⟩ := y
  exact ⟨o, es, ep, hidT_get e (h.dict z e d), d, r⟩
theorem Ahead.inK {H : Hp} (h : Ahead K mg mb cs a vs s1) (z : Seen K cs a H) : K.In (hidT s1.heap H) := fun b o e => by
  refine hidT_get (h.kin b o e) ?_
  cases q : H b with
  | none => rfl
  | some u =>
    rcases z.none_ b (by rw [q]; simp) with rfl | ⟨p, hp, rfl⟩
    · rw [z.scrK (by rw [q]; simp)] at e
      cases e
    · rw [h.offK p hp] at e
      cases e
theorem Ahead.mod {H : Hp} (h : Ahead K mg mb cs a vs s1) (z : Seen K cs a H) : L2.Mod K mg (hidT s1.heap H) := by
  obtain ⟨mc, h1, h2⟩ := h.lim
  exact ⟨h.inK z, h.nsp z h.glob, ⟨mb, h.nsp z h.blt, h.boot⟩, mc, h.nsp z h1, h2⟩
theorem Ahead.tabB {H : Hp} (h : Ahead K mg mb cs a vs s1) (z : Seen K cs a H) : ∀ p ∈ cs, TabB (hidT s1.heap H) mg p.1 p.2 := fun p hp => by
  have tp := h.tab p hp
  obtain ⟨oG, esG, epG, eG, dG, _⟩ := h.glob
  refine ⟨?_, ?_, fun y => ?_⟩
  · obtain ⟨o, us, f1, f2, g1, g2, inF, t1, t2, e1, r1, r2, r3, r4, r5, r6, r7, r8, r9⟩ := h.code p hp
    refine ⟨o, us, f1, f2, g1, g2, inF, t1, t2, hidT_get e1 (h.free z e1 (fun v n y => ?_) fun y => ?_), r1, r2, r3, r4, r5, r6, r7, r8, r9⟩
    · rw [r2] at y
      cases y
    · rw [r2] at y
      cases y
      simp at r3
  · obtain ⟨bm, ob, b1, b2, b3, b4, b5, b6⟩ := h.main
    refine ⟨bm, ob, b1, b2, fun y => ?_, fun y => ?_, hidT_get b3 (h.free z b3 (fun v n y => ?_) fun y => ?_), b4, b5, b6⟩
    · rw [y, eG] at b3
      cases b3
      rw [dG] at b6
      cases b6
    · rw [y, tp] at b3
      cases b3
      cases b6
    · rw [b6] at y
      cases y
    · rw [b6] at y
      cases y
  · rw [y, tp] at eG
    cases eG
    cases dG
theorem Ahead.run {H : Hp} (h : Ahead K mg mb cs a vs s1) (z : Seen K cs a H) (hok : HOk P w H s1.heap) (hr : Room k callerA) (F : ∀ base : Heap, K.In base → base.Ns mainGlobals mg → (∀ p ∈ cs, TabB base mg p.1 p.2) → FnG P w K mg base CX k fa fd [x] sp)
    (hbind : ∀ (s : Shared) (u : Value), BindsTo s fd ⟨[u], []⟩ [(x, u)]) (hsp : sp [.ref a] H (fun v _ => v = .bl true) fun _ _ _ => False) (hCX : ∀ e s', CX [] H s1 (fun _ _ _ => False) e s' → False) :
    codeAny (model P w) callerA (.call (.ref fa) ⟨[.ref a], []⟩) (fun r s' => r = .ok (.ret (.bool true)) ∧ OldK s1.heap s'.heap ∧ s'.os = s1.os ∧ AllBare s'.gens) s1 := by
  have e0 : Env0 P w K mg (hidT s1.heap H) callerA [] s1 H :=
    ⟨rfl, h.mod z, fun b o e => of_hidT e, Nat.le_of_eq (hidT_size _ _), trivial, fun b hb => absurd (show b ∈ ([] : List Addr) from hb) (by simp), hok, .of_eq h.gens⟩
  have go := (F _ (h.inK z) (h.nsp z h.glob) (h.tabB z)).run callerA [] s1 H ⟨[.ref a], []⟩ [.ref a] [.ref a] _ _ rfl hr e0 (hbind s1 (.ref a)) (.cons rfl .nil) hsp
  refine codeAny_mono go fun r s' y => ?_
  cases r with
  | error e => exact (hCX e s' y).elim
  | ok fl =>
    cases fl with
    | next => exact False.elim y
    | brk => exact False.elim y
    | cont => exact False.elim y
    | ret u =>
      obtain ⟨v, H', os, bare, un, hok', rv, q⟩ := y
      cases (show v = V.bl true from q)
      cases (show u = Value.bool true from rv)
      have there : ∀ p ∈ cs, ∃ more : Array Value, s'.heap.get? p.2 = some { cls := .none, data := .fields more } := fun p hp => by
        obtain ⟨more, q⟩ := un.tbls p.2 #[] (z.tbl p hp)
        exact ⟨_, hok' p.2 _ q⟩
      have same : ∀ b o, (¬ ∃ p ∈ cs, p.2 = b) → s1.heap.get? b = some o → s'.heap.get? b = some o := fun b o nb e => by
        rcases z.kind b with q | q | ⟨ob, xs, q⟩
        · exact un.keep b o e q (by intro y; exact absurd (show b ∈ ([] : List Addr) from y) (by simp)) (by simp)
        · exact absurd q nb
        · obtain ⟨e1, _⟩ := hok b _ q
          obtain ⟨e2, _⟩ := hok' b _ (un.frzs b ob _ q)
          rw [e] at e1
          cases e1
          exact e2
      refine ⟨rfl, ⟨fun b o e => ?_, fun b o e => ?_⟩, os, bare⟩
      · by_cases c : ∃ p ∈ cs, p.2 = b
        · obtain ⟨p, hp, rfl⟩ := c
          obtain ⟨more, hm⟩ := there p hp
          rw [h.tab p hp] at e
          cases e
          exact .inr (.inl ⟨((h.code p hp).tab (h.tab p hp)).isCodeTable, rfl, #[], more, rfl, by rw [Array.empty_append]; exact hm⟩)
        · exact .inl (same b o c e)
      · by_cases c : ∃ p ∈ cs, p.2 = b
        · obtain ⟨p, hp, rfl⟩ := c
          obtain ⟨more, hm⟩ := there p hp
          exact ⟨_, hm⟩
        · exact ⟨o, same b o c e⟩
/-- the two ways of tracking -/
theorem Ahead.call (h : Ahead K mg mb cs a vs s1) (hi : IntsAre vs ns) (hl : ns.length ≤ sizeLine) (hr : Room k callerA) (F : ∀ base : Heap, K.In base → base.Ns mainGlobals mg → (∀ p ∈ cs, TabB base mg p.1 p.2) → FnG P w K mg base CX k fa fd [x] sp)
    (hbind : ∀ (s : Shared) (u : Value), BindsTo s fd ⟨[u], []⟩ [(x, u)]) (hsp : ∀ H : Hp, (∀ p ∈ cs, H p.2 = some (.tbl #[])) → SqL K H a (ns.map V.int) → sp [.ref a] H (fun v _ => v = .bl true) fun _ _ _ => False)
    (hCX : ∀ H e s', CX [] H s1 (fun _ _ _ => False) e s' → False) :
    codeAny (model P w) callerA (.call (.ref fa) ⟨[.ref a], []⟩) (fun r s' => r = .ok (.ret (.bool true)) ∧ OldK s1.heap s'.heap ∧ s'.os = s1.os ∧ AllBare s'.gens) s1 := by
  classical
  have rv := vals_ints hi
  have off : ¬ ∃ p ∈ cs, p.2 = a := fun ⟨p, hp, e⟩ => by
    have q := h.tab p hp
    rw [e, h.scr] at q
    have q2 : Data.seq vs.toArray _ = Data.fields #[] := congrArg Obj.data (Option.some.inj q)
    cases q2
  let o : HO := .frz { cls := .type "list", data := .seq vs.toArray } (.lst (ns.map V.int))
  cases hk : K.lookup a with
  | some oa =>
    have e := h.kin a oa hk
    rw [h.scr] at e
    cases e
    let H : Hp := fun b => if ∃ p ∈ cs, p.2 = b then some (.tbl #[]) else none
    have Ht : ∀ p ∈ cs, H p.2 = some (.tbl #[]) := fun p hp => if_pos ⟨p, hp, rfl⟩
    have Hn : ∀ {b}, (¬ ∃ p ∈ cs, p.2 = b) → H b = none := fun c => if_neg c
    refine h.run (H := H) ⟨Ht, fun b => ?_, fun b y => ?_, fun y => absurd (Hn off) y⟩ (fun b u q => ?_) hr F hbind (hsp H Ht (.inr ⟨_, vs.toArray, _, hk, rfl, rfl, rfl, by rw [List.size_toArray, hi.length]; exact hl, by simpa using rv⟩)) fun e s' => hCX H e s'
    · by_cases c : ∃ p ∈ cs, p.2 = b
      · exact .inr (.inl c)
      · exact .inl (Hn c)
    · by_cases c : ∃ p ∈ cs, p.2 = b
      · exact .inr c
      · exact absurd (Hn c) y
    · by_cases c : ∃ p ∈ cs, p.2 = b
      · obtain ⟨p, hp, rfl⟩ := c
        rw [Ht p hp] at q
        cases q
        exact h.tab p hp
      · rw [Hn c] at q
        cases q
  | none =>
    let H : Hp := fun b => if b = a then some o else if ∃ p ∈ cs, p.2 = b then some (.tbl #[]) else none
    have Ha : H a = some o := if_pos rfl
    have Ht : ∀ p ∈ cs, H p.2 = some (.tbl #[]) := fun p hp => (if_neg (fun y => off ⟨p, hp, y⟩)).trans (if_pos ⟨p, hp, rfl⟩)
    have Hn : ∀ {b}, b ≠ a → (¬ ∃ p ∈ cs, p.2 = b) → H b = none := fun n c => (if_neg n).trans (if_neg c)
    refine h.run (H := H) ⟨Ht, fun b => ?_, fun b y => ?_, fun _ => hk⟩ (fun b u q => ?_) hr F hbind (hsp H Ht (.inl (.inr ⟨_, Ha⟩))) fun e s' => hCX H e s'
    · by_cases n : b = a
      · exact .inr (.inr ⟨_, _, by rw [n]; exact Ha⟩)
      · by_cases c : ∃ p ∈ cs, p.2 = b
        · exact .inr (.inl c)
        · exact .inl (Hn n c)
    · by_cases n : b = a
      · exact .inl n
      · by_cases c : ∃ p ∈ cs, p.2 = b
        · exact .inr c
        · exact absurd (Hn n c) y
    · by_cases n : b = a
      · rw [n, Ha] at q
        cases q
        rw [n]
        exact ⟨h.scr, by rw [List.length_map]; exact hl, vs, _, rv, h.scr⟩
      · by_cases c : ∃ p ∈ cs, p.2 = b
        · obtain ⟨p, hp, rfl⟩ := c
          rw [Ht p hp] at q
          cases q
          exact h.tab p hp
        · rw [Hn n c] at q
          cases q
/-- what is known of the law's promise at the head's heap -/
def LawG (l : PySem.W.OpenLaw) (w : World) (K : PySem.W.Frag) (CX : CXT) (k n : Nat) (x : Str) (mg : Str → Option Value) (fa : Addr) (h : Heap) : Prop :=
  ∃ (fd : FuncData) (cs : List (Addr × Addr)) (sp : Sp), (∀ p ∈ cs, h.get? p.2 = some { cls := .none, data := .fields #[] }) ∧
                                                                                                                               (∀ p ∈ cs, K.lookup p.2 = none) ∧ (∀ p ∈ cs, PySem.W.CodeHd h p.1 p.2) ∧ (∀ (s : Shared) (u : Value), BindsTo s fd ⟨[u], []⟩ [(x, u)]) ∧
    (∀ (H : Hp) (a : Addr) (ns : List Int), ns.length ≤ n → (∀ p ∈ cs, H p.2 = some (.tbl #[])) → SqL K H a (ns.map V.int) → sp [.ref a] H (fun v _ => v = .bl true) fun _ _ _ => False) ∧
    ∀ base : Heap, K.In base → base.Ns mainGlobals mg → (∀ p ∈ cs, TabB base mg p.1 p.2) → FnG l.prog w K mg base CX k fa fd [x] sp
theorem walkG {l : PySem.W.OpenLaw} {n k : Nat} {q : Program} {loose : List Str} {XP : (Str → Option Value) → Heap → Prop} {YP : World → Heap → Prop} {d : DefRec} {K : Params → PySem.W.Frag} {x : Str}
    (hn : l.most = some n) (hn2 : n ≤ sizeLine) (hdf : d.params.defaults = [])
                                                                               (hr : Room k callerA) (hY : ∀ (w : World) (h : Heap), YP w h → (K w.params).In h)
    (F : ∀ (w : World) (mg : Str → Option Value) (fa : Addr) (h : Heap), YP w h → (K w.params).In h → h.Ns mainGlobals mg → mg d.name = some (.ref fa) → LawG l w (K w.params) CX0 k n x mg fa h) :
    PySem.W.WalkO q loose XP YP l.row.toRowW d []
                                                  (fun f vs => PySem.call f vs) := by
  refine Att.attach_callB hn hdf fun w s₀ s₁ mg mb fa o pm cd doc a vs ns G Y ho hd hcd hmg hobj hints hlen hbits hg => ?_
  have KX := hY w _ Y
  obtain ⟨fd, cs, sp, hT, nT, C, hb, hsp, hF⟩ := F w mg fa _ Y KX G.T.g hmg
  exact (Ahead.mk KX G.T.g G.T.b G.T.builtins G.T.nolimit hg hT nT C G.T.bmain hobj).call hints (Nat.le_trans hlen hn2) hr hF hb (fun H hH hS => hsp H a ns hlen hH hS) fun H e s' z => z.elim
end
end GW
namespace K40
open PySem L2
open PyProof.Rows PySem.Spec OW
section
variable {P : Program} {w : World} {K : PySem.W.Frag}
                                                      {mg : Str → Option Value} {base : Heap}
theorem ne_rl {H : Hp} {r d : Addr} {o : HO} (h : Rl H r) (e : H d = some o) (n : ∀ xs, o ≠ .lst xs) : d ≠ r := fun z => by
  obtain ⟨a, b, c, q⟩ := h
  rw [z, q] at e
  exact n _ (Option.some.inj e).symm
theorem eqT (t : Int) {A B : Rws} (h : A = B) : (!(decide (t = t) && decide (A = B))) = false := by
  rw [decide_eq_true rfl, decide_eq_true h]
  rfl
theorem eqF {S : Rws} (l1 : 1 ≤ S.length) (t f : Int) : (!decide (V.bl (decide (t = t) && decide (farR f S = S)) = V.bl (decide (V.int f = V.int 0)))) = false := by
  by_cases z : f = 0
  · rw [decide_eq_true rfl, decide_eq_true ((far_eq l1 f).mpr z), z]
    rfl
  · rw [decide_eq_true rfl, decide_eq_false (fun w => z ((far_eq l1 f).mp w)), decide_eq_false (fun w : V.int f = V.int 0 => z (V.int.inj w))]
    rfl
theorem eqN {S : Rws} (l1 : 1 ≤ S.length) {t : Int} (t1 : 1 ≤ t) (f : Int) : (decide (V.bl (decide (t = t) && decide (norR t (farR f S) = norR t S)) = V.bl (decide (V.int (f % t) = V.int 0)))) = true := by
  by_cases z : f % t = 0
  · rw [decide_eq_true rfl, decide_eq_true ((nor_far l1 t1 f).mpr z), z]
    rfl
  · rw [decide_eq_true rfl, decide_eq_false (fun w => z ((nor_far l1 t1 f).mp w)), decide_eq_false (fun w : V.int (f % t) = V.int 0 => z (V.int.inj w))]
    rfl
theorem ints_dss {K : PySem.W.Frag} {H : Hp} : ∀ l : List Int, RL.DSs K H (l.map V.int) (l.map PyData.int)
  | [] => .nil
  | i :: l => .cons (.int i) (ints_dss l)
def sp_w_shifted (K : PySem.W.Frag) (C : Addr) : Sp := fun vs H Q _ => ∃ (r p d : Addr) (t : Int) (S R : Rws) (L : List (Str × Addr)), vs = [.ref r, .ref p, .ref d] ∧ Rl H r ∧ SpS H C p t S r ∧ H d = some (.dK (Kvs L)) ∧ Tups H L R ∧ Srd R S ∧ (∀ x ∈ S, Near 1000 x) ∧
  ∀ H', Only r H H' → Rl H' r → Q (.bl true) H'
theorem ok_w_shifted (T : T K mg) (U : UX K mg) (ai : AddI K U.C) : GW.FnG P w K mg base CX0 11 T.f_w_shifted_right T.d_w_shifted_right ["tray", "spans", "rows"] (sp_w_shifted K U.C) := by
  have G_w_pick : FnOk P w K mg base CX0 2 T.f_w_pick T.d_w_pick ["tray", "items"] (sp_w_pick K) := ok_w_pick T
  have G_w_roll : FnOk P w K mg base CX0 1 T.f_w_roll T.d_w_roll ["tray", "total"] (sp_w_roll K) := ok_w_roll T
  have G_w_sorted : FnOk P w K mg base CX0 1 T.f_w_sorted T.d_w_sorted ["rows"] (sp_w_sorted K) := ok_w_sorted T
  have G_w_counts : FnOk P w K mg base CX0 5 T.f_w_counts T.d_w_counts ["spans", "first"] (sp_w_counts K U.C) := ok_w_counts T U
  have G_add : FnOk P w K mg base CX0 8 U.ma.f U.ma.d ["self", "other"] (sp_addS K U.C) := ok_addS T U
  have G_eq : FnOk P w K mg base CX0 3 U.me.f U.me.d ["self", "other"] (sp_eq K U.C) := ok_eq T U
  have Gi : FnOk P w K mg base CX0 1 U.pi.g U.pi.d ["self"] (getSp U.C "_interval") := ok_get U.cl U.pi sc_Spans_interval U.n1 ⟨_, _, _, rfl⟩
  have Gr : FnOk P w K mg base CX0 1 U.pr.g U.pr.d ["self"] (sp_rows K U.C) := ok_rows T U
  have Gt : FnOk P w K mg base CX0 1 U.pt.g U.pt.d ["self"] (sp_total K U.C) := ok_total T U
  have Gm : FnOk P w K mg base CX0 3 U.pm.g U.pm.d ["self"] (sp_most K U.C) := ok_most T U
  have Gp : FnOk P w K mg base CX0 3 U.pp.g U.pp.d ["self"] (sp_peaks K U.C) := ok_peaks T U
  have Gq : FnOk P w K mg base CX0 6 U.pq.g U.pq.d ["self"] (sp_pieces K U.C) := ok_pieces T U
  have Gz : FnOk P w K mg base CX0 8 U.pz.g U.pz.d ["self"] (sp_normal K U.C) := ok_normal T U
  refine GW.FunG.okG T.F_w_shifted_right sc_w_shifted_right (fun vs H Q E h => ?_) (fun cdv A outer s H vs Q E hg hr h => ?_)
  · obtain ⟨r, p, d, t, S, R, L, rfl, _⟩ := h
    rfl
  · obtain ⟨r, p, d, t, S, R, L, rfl, R0, sp, hd, ts, srd, near, k⟩ := h
    have hu := hu_of hr
    have hgd : (cxOf CX0 P w K mg base ["tray", "spans", "rows", "interval", "by", "more", "due", "moved", "told", "peaks", "name", "slot"] "_law_shifted_right" (defScope s_w_shifted_right) T.f_w_shifted_right cdv A outer s H E).nox.A.guards = some [] := hg
    have hr_w_counts : Room 5 _ := hr.mono (by decide)
    have hr_w_pick : Room 2 _ := hr.mono (by decide)
    have hr_w_roll : Room 1 _ := hr.mono (by decide)
    have hr_w_sorted : Room 1 _ := hr.mono (by decide)
    refine ⟨_, (pss_cons (ps_set (i := 3) sc_w_shifted_right.nd rfl (Or.inr rfl) (pe_prop (pv 1) U.cl U.pi.pr Gi (hr.mono (by decide)) U.pi.b .nil pass0 rfl))
      (pss_cons (ps_set (i := 4) sc_w_shifted_right.nd rfl (Or.inr rfl) (pe_call G_w_pick hr_w_pick rfl T.m_w_pick T.F_w_pick.kp T.b_w_pick .nil pass0 (pa_cons (pv 0) (pa_cons (pe_lst (pa_cons pe_int (pa_cons pe_int (pa_cons (pe_un un_neg pe_int) (pa_cons (pv 3) (pa_cons (pe_un un_neg (pv 3)) (pa_cons (pe_op op_add (pe_op op_mul pe_int (pv 3)) pe_int) (pa_cons (pe_op op_pow pe_int pe_int) (pa_cons (pe_op op_sub (pe_un un_neg (pe_op op_pow pe_int pe_int)) pe_int) pa_nil))))))))) pa_nil))))
      (pss_cons (ps_set (i := 5) sc_w_shifted_right.nd rfl (Or.inl rfl) (pe_op op_sub (pe_call G_w_roll hr_w_roll rfl T.m_w_roll T.F_w_roll.kp T.b_w_roll .nil pass0 (pa_cons (pv 0) (pa_cons pe_int pa_nil))) pe_int))
      (pss_cons (ps_set (i := 6) sc_w_shifted_right.nd rfl (Or.inl rfl) (pe_callTy (call_dictP rfl) (by rfl) T.z_dict (by decide +kernel) (pa_cons (pe_lc (own := [("name", 10)]) (g := gName 10) rfl sc_w_shifted_right.nd (pi_list (pe_callB (call_sortedD rfl) (by rfl) T.z_sorted (by decide +kernel) (pa_cons (pv 2) pa_nil))) (blkOk_by (N := ["tray", "spans", "rows", "interval", "by", "more", "due", "moved", "told", "peaks", "name", "slot"]) (sc := defScope s_w_shifted_right) (by decide +kernel)) (fun _ _ _ _ _ => (pg_name (i := 10) sc_w_shifted_right.nd rfl (Or.inl rfl))) (fun _ _ _ _ _ => pts_nil) (fun _ _ _ _ _ => (pe_tup (pa_cons (pv 10) (pa_cons (pe_tup (pa_cons (pe_op op_add (pe_ix (r := rIx K) ix_seq (pe_dget (by exact hu) (pv 2) (pv 10) (fun _ _ => rfl)) pe_int (fun _ _ => rfl)) (pv 4)) (pa_cons (pe_op op_add (pe_ix (r := rIx K) ix_seq (pe_dget (by exact hu) (pv 2) (pv 10) (fun _ _ => rfl)) pe_int (fun _ _ => rfl)) (pv 4)) pa_nil))) pa_nil))))) pa_nil)))
      (pss_cons (ps_set (i := 7) sc_w_shifted_right.nd rfl (Or.inl rfl) (pe_op (op_ownAddI G_add ⟨U.ma.m.at_, U.ma.m.fn⟩ U.sf ai (hr.mono (by decide)) U.ma.b pass0) (pv 1) (pv 4)))
      (pss_cons (ps_if (pt_cmpR op_ne (pe_callB (RL.cr_reprD hgd (un64 hr)) (by rfl) T.z_repr (by decide +kernel) (pa_cons (pe_lst (pa_cons (pe_prop (pv 7) U.cl U.pr.pr Gr (hr.mono (by decide)) U.pr.b .nil pass0 rfl) (pa_cons (pe_prop (pv 7) U.cl U.pi.pr Gi (hr.mono (by decide)) U.pi.b .nil pass0 rfl) (pa_cons (pe_prop (pv 1) U.cl U.pr.pr Gr (hr.mono (by decide)) U.pr.b .nil pass0 rfl) pa_nil)))) pa_nil)) (pe_callB (RL.cr_reprD hgd (un64 hr)) (by rfl) T.z_repr (by decide +kernel) (pa_cons (pe_lst (pa_cons (pv 6) (pa_cons (pv 3) (pa_cons (pe_call G_w_sorted hr_w_sorted rfl T.m_w_sorted T.F_w_sorted.kp T.b_w_sorted .nil pass0 (pa_cons (pv 2) pa_nil)) pa_nil)))) pa_nil)) (nomark _))
      (pss_one (ps_ret pe_bl))
      pss_nil)
      (pss_cons (ps_if (PW.pt (pw_or (pt_cmpR (OW.op_ownNe G_eq ⟨U.me.m.at_, U.me.m.fn⟩ U.mo U.ne (hr.mono (by decide)) U.me.b pass0) (pe_op (op_ownAddI G_add ⟨U.ma.m.at_, U.ma.m.fn⟩ U.sf ai (hr.mono (by decide)) U.ma.b pass0) (pv 7) (pv 5)) (pe_op (op_ownAddI G_add ⟨U.ma.m.at_, U.ma.m.fn⟩ U.sf ai (hr.mono (by decide)) U.ma.b pass0) (pv 1) (pe_op op_add (pv 4) (pv 5))) (nomark _)) (pw_or1 (pt_cmpR (OW.op_ownNe G_eq ⟨U.me.m.at_, U.me.m.fn⟩ U.mo U.ne (hr.mono (by decide)) U.me.b pass0) (pe_op (op_ownAddI G_add ⟨U.ma.m.at_, U.ma.m.fn⟩ U.sf ai (hr.mono (by decide)) U.ma.b pass0) (pv 7) (pe_un un_neg (pv 4))) (pv 1) (nomark _)))))
      (pss_one (ps_ret pe_bl))
      pss_nil)
      (pss_cons (ps_if (pt_cmpR op_ne (pe_cmpR (OW.op_ownEq G_eq ⟨U.me.m.at_, U.me.m.fn⟩ (hr.mono (by decide)) U.me.b pass0) (pv 7) (pv 1) (nomark _)) (pe_cmpR op_eq (pv 4) pe_int (nomark _)) (nomark _))
      (pss_one (ps_ret pe_bl))
      pss_nil)
      (pss_cons (ps_if (pt_cmpR op_ne (pe_callB (RL.cr_reprD hgd (un64 hr)) (by rfl) T.z_repr (by decide +kernel) (pa_cons (pe_call G_w_counts hr_w_counts rfl T.m_w_counts T.F_w_counts.kp T.b_w_counts .nil pass0 (pa_cons (pv 7) (pa_cons (pv 4) pa_nil))) pa_nil)) (pe_callB (RL.cr_reprD hgd (un64 hr)) (by rfl) T.z_repr (by decide +kernel) (pa_cons (pe_call G_w_counts hr_w_counts rfl T.m_w_counts T.F_w_counts.kp T.b_w_counts .nil pass0 (pa_cons (pv 1) (pa_cons pe_int pa_nil))) pa_nil)) (nomark _))
      (pss_one (ps_ret pe_bl))
      pss_nil)
      (pss_cons (ps_set (i := 8) sc_w_shifted_right.nd rfl (Or.inl rfl) (pe_lst (pa_cons (pe_prop (pv 7) U.cl U.pm.pr Gm (hr.mono (by decide)) U.pm.b .nil pass0 rfl) (pa_cons (pe_prop (pv 7) U.cl U.pt.pr Gt (hr.mono (by decide)) U.pt.b .nil pass0 rfl) (pa_cons (pe_prop (pv 7) U.cl U.pq.pr Gq (hr.mono (by decide)) U.pq.b .nil pass0 rfl) pa_nil)))))
      (pss_cons (ps_if (pt_cmpR op_ne (pe_callB (RL.cr_reprD hgd (un64 hr)) (by rfl) T.z_repr (by decide +kernel) (pa_cons (pv 8) pa_nil)) (pe_callB (RL.cr_reprD hgd (un64 hr)) (by rfl) T.z_repr (by decide +kernel) (pa_cons (pe_lst (pa_cons (pe_prop (pv 1) U.cl U.pm.pr Gm (hr.mono (by decide)) U.pm.b .nil pass0 rfl) (pa_cons (pe_prop (pv 1) U.cl U.pt.pr Gt (hr.mono (by decide)) U.pt.b .nil pass0 rfl) (pa_cons (pe_prop (pv 1) U.cl U.pq.pr Gq (hr.mono (by decide)) U.pq.b .nil pass0 rfl) pa_nil)))) pa_nil)) (nomark _))
      (pss_one (ps_ret pe_bl))
      pss_nil)
      (pss_cons (ps_set (i := 9) sc_w_shifted_right.nd rfl (Or.inl rfl) (pe_callB cr_sorted (by rfl) T.z_sorted (by decide +kernel) (pa_cons (pe_lc (own := [("slot", 11)]) (g := gName 11) rfl sc_w_shifted_right.nd (pi_tup (pe_prop (pv 1) U.cl U.pp.pr Gp (hr.mono (by decide)) U.pp.b .nil pass0 rfl)) (blkOk_by (N := ["tray", "spans", "rows", "interval", "by", "more", "due", "moved", "told", "peaks", "name", "slot"]) (sc := defScope s_w_shifted_right) (by decide +kernel)) (fun _ _ _ _ _ => (pg_name (i := 11) sc_w_shifted_right.nd rfl (Or.inl rfl))) (fun _ _ _ _ _ => pts_nil) (fun _ _ _ _ _ => (pe_op op_mod (pe_callTy call_int1 (by rfl) T.z_int (by decide +kernel) (pa_cons (pe_op op_add (pv 11) (pv 4)) pa_nil)) (pv 3)))) pa_nil)))
      (pss_cons (ps_if (pt_cmpR op_ne (pe_callB (RL.cr_reprD hgd (un64 hr)) (by rfl) T.z_repr (by decide +kernel) (pa_cons (pe_prop (pv 7) U.cl U.pp.pr Gp (hr.mono (by decide)) U.pp.b .nil pass0 rfl) pa_nil)) (pe_callB (RL.cr_reprD hgd (un64 hr)) (by rfl) T.z_repr (by decide +kernel) (pa_cons (pe_callTy call_tuple_of (by rfl) T.z_tuple (by decide +kernel) (pa_cons (pv 9) pa_nil)) pa_nil)) (nomark _))
      (pss_one (ps_ret pe_bl))
      pss_nil)
      (pss_one (ps_ret (pe_cmpR op_eq (pe_cmpR (OW.op_ownEq G_eq ⟨U.me.m.at_, U.me.m.fn⟩ (hr.mono (by decide)) U.me.b pass0) (pe_prop (pv 7) U.cl U.pz.pr Gz (hr.mono (by decide)) U.pz.b .nil pass0 rfl) (pe_prop (pv 1) U.cl U.pz.pr Gz (hr.mono (by decide)) U.pz.b .nil pass0 rfl) (nomark _)) (pe_cmpR op_eq (pe_op op_mod (pe_callTy call_int1 (by rfl) T.z_int (by decide +kernel) (pa_cons (pv 4) pa_nil)) (pv 3)) pe_int (nomark _)) (nomark _))))))))))))))))), ?_⟩
    have nm' : ∀ {Hx : Hp} {x : Addr}, Rl Hx r → Hx x = none → x ≠ r := fun Rx hx => Rl.ne Rx hx
    obtain ⟨g, so, dx, rd, nm, lv, cr, L0, LL, LC, h1, h2, h3, h4, _⟩ := id sp
    have t1 := g.t1
    have t2 := g.t2
    have gl1 := g.l1
    have gl8 := g.l8
    have nd := g.nd
    have n0 := ne_rl R0 hd (fun _ z => by cases z)
    have ndR : (R.map (·.1)).Nodup := (srd.pm.map (·.1)).nodup_iff.mp nd
    have lR : R.length = S.length := srd.pm.length_eq.symm
    -- interval, by
    refine ⟨_, rfl, p, dx, _, rfl, h1, p, dx, _, .int t, rfl, h1, rfl, ?_⟩
    refine ⟨_, rfl, _, rfl, _, rfl, _, rfl, _, rfl, _, rfl, _, _, rfl, rfl, .inl ⟨by decide, by decide⟩, _, _, rfl, rfl, _, _, rfl, rfl, ⟨by decide, by decide, by decide⟩, _, _, rfl, rfl, ⟨by decide, by decide, by decide⟩, _, rfl, _, _, rfl, rfl, by show 8 ≤ sizeLine; decide, fun l1 hl1 => ?_⟩
    have A1 := Same.new (o := .lst [V.int 0, .int 1, .int (-1), .int t, .int (-t), .int (2 * t + 1), .int (10 ^ Int.toNat 9), .int (-(10 ^ Int.toNat 9) - 3)]) hl1
    have e1 : (upd H l1 (.lst [V.int 0, .int 1, .int (-1), .int t, .int (-t), .int (2 * t + 1), .int (10 ^ Int.toNat 9), .int (-(10 ^ Int.toNat 9) - 3)])) l1 = some (.lst [V.int 0, .int 1, .int (-1), .int t, .int (-t), .int (2 * t + 1), .int (10 ^ Int.toNat 9), .int (-(10 ^ Int.toNat 9) - 3)]) := upd_same
    have R1 := Same.rl A1 R0
    have n1 := nm' R0 hl1
    generalize upd H l1 (.lst [V.int 0, .int 1, .int (-1), .int t, .int (-t), .int (2 * t + 1), .int (10 ^ Int.toNat 9), .int (-(10 ^ Int.toNat 9) - 3)]) = H1 at A1 e1 R1 ⊢
    refine ⟨r, .ref l1, _, rfl, R1, .inl ⟨l1, rfl, n1, .inl (SqL.of e1)⟩, by show 0 < 8; decide, by show 8 ≤ sizeLine; decide, fun v H2 hv R2 O2 => ?_⟩
    obtain ⟨f, rfl, f1, f2⟩ : ∃ f, v = .int f ∧ -1000000003 ≤ f ∧ f ≤ 1000000000 := by
      simp only [List.mem_cons, List.not_mem_nil, or_false] at hv
      rcases hv with rfl | rfl | rfl | rfl | rfl | rfl | rfl | rfl
      · exact ⟨_, rfl, by decide, by decide⟩
      · exact ⟨_, rfl, by decide, by decide⟩
      · exact ⟨_, rfl, by decide, by decide⟩
      · exact ⟨_, rfl, by omega, by omega⟩
      · exact ⟨_, rfl, by omega, by omega⟩
      · exact ⟨_, rfl, by omega, by omega⟩
      · exact ⟨_, rfl, by decide, by decide⟩
      · exact ⟨_, rfl, by decide, by decide⟩
    have P2 : Only r H H2 := Only.trans (Same.only A1) O2
    clear A1 e1 R1 O2 hv hl1 n1
    -- more
    refine ⟨_, rfl, r, 50, rfl, R2, by decide, by decide +kernel, fun u H3 u0 u1 R3 O3 => ⟨_, _, rfl, rfl, ?_⟩⟩
    have P3 : Only r H H3 := Only.trans P2 O3
    have sp3 := sp.only P3 R0
    have hd3 := P3 _ _ n0 hd
    have ts3 := ts.keep (KT.only P3 R0)
    clear O3 P2 R2
    -- due
    refine ⟨_, rfl, d, _, L.map (·.1), rfl, .inl hd3, kvs_keys L, by rw [List.length_map, ts.len]; omega, fun ys lp pm sy hlp => ?_⟩
    have S1 := Same.new (o := .lst (ys.map V.str)) hlp
    have ep : (upd H3 lp (.lst (ys.map V.str))) lp = some (.lst (ys.map V.str)) := upd_same
    generalize upd H3 lp (.lst (ys.map V.str)) = H4 at S1 ep ⊢
    rw [ts.names] at pm
    have ey : pickR R ys = S := Srd.eq ndR ⟨pickR_perm ndR pm, by rw [pickR_names]; exact sy⟩ srd
    refine ⟨lp, rfl, ⟨_, SqL.of ep⟩, fun D hD => ?_⟩
    have ly : ys.length = S.length := by rw [pm.length_eq, List.length_map]; exact lR
    refine lc_list (xs := ys.map V.str) (fun i H' => Same H4 H' ∧ ∃ (ps : List Addr) (M : List (Str × Addr)), H' D = some (.lst (ps.map V.ref)) ∧ PairsAt H' ps M ∧ Tups H' M (farR f (pickR R (ys.take i))) ∧ ps.length = i) ⟨Same.new hD, [], [], upd_same, .nil, .nil, rfl⟩ (fun i H' _ h => SqL.of (h.1 _ _ ep)) ?_ ?_
    · rintro i x Hx hx ⟨Sx, ps, M, eD, pa, tm, lps⟩
      refine ⟨rfl, ?_⟩
      unfold tYes
      dsimp only
      rw [if_pos rfl]
      rw [List.getElem?_map] at hx
      cases e2 : ys[i]? with
      | none => rw [e2] at hx; cases hx
      | some n =>
        rw [e2] at hx
        cases hx
        have hn : n ∈ R.map (·.1) := pm.mem_iff.mp (List.mem_of_getElem? e2)
        have S4x := Same.trans S1 Sx
        have ts2 := ts3.keep (KT.same S4x)
        obtain ⟨a, b, e, hv, ha, hm⟩ := ts2.get hn
        have dg : DGet Hx d (.str n) (some (.ref a)) := by
          have := DGet.k (k := Sum.inr n) (S4x _ _ hd3)
          rw [hv] at this
          exact this
        refine ⟨_, rfl, _, rfl, _, rfl, d, V.ref a, rfl, dg, .inr (.inl ⟨a, _, _, _, rfl, rfl, SqT.of ha, rfl, _, rfl, _, _, rfl, rfl, ?_⟩)⟩
        refine ⟨_, rfl, _, rfl, d, V.ref a, rfl, dg, .inr (.inl ⟨a, _, _, _, rfl, rfl, SqT.of ha, rfl, _, rfl, _, _, rfl, rfl, ?_⟩)⟩
        refine ⟨by show 2 ≤ sizeLine; decide, fun q1 hq1 => ?_⟩
        have B1 := Same.new (o := .tup [V.int (b + f), .int (e + f)]) hq1
        have x1 : (upd Hx q1 (.tup [V.int (b + f), .int (e + f)])) q1 = some (.tup [V.int (b + f), .int (e + f)]) := upd_same
        generalize upd Hx q1 (.tup [V.int (b + f), .int (e + f)]) = Hy at B1 x1 ⊢
        refine ⟨by show 2 ≤ sizeLine; decide, fun q2 hq2 => ?_⟩
        have B2 := Same.new (o := .tup [V.str n, .ref q1]) hq2
        have x2 : (upd Hy q2 (.tup [V.str n, .ref q1])) q2 = some (.tup [V.str n, .ref q1]) := upd_same
        have x1 := B2 _ _ x1
        have B := Same.trans B1 B2
        generalize upd Hy q2 (.tup [V.str n, .ref q1]) = Hz at B x1 x2 ⊢
        have eDz := B _ _ eD
        have li : i < ys.length := (List.getElem?_eq_some_iff.mp e2).1
        have kt : KT Hz (upd Hz D (.lst (ps.map V.ref ++ [V.ref q2]))) := KT.put eDz (fun _ z => by cases z)
        refine ⟨_, eDz, by rw [List.length_map, lps, sizeLine_eq]; omega, Same.at hD (Same.trans Sx B), ps ++ [q2], M ++ [(n, q1)], by rw [upd_same, List.map_append]; rfl, ?_, ?_, by rw [List.length_append, lps]; rfl⟩
        · exact (pa.keep (KT.trans (KT.same B) kt)).snoc (kt _ _ x2)
        · rw [List.take_add_one, e2]
          show Tups _ _ (farR f (pickR R (ys.take i ++ [n])))
          rw [pickR_snoc R _ n (lookup_mem ndR hm)]
          rw [farR_snoc]
          exact (tm.keep (KT.trans (KT.same B) kt)).snoc (kt _ _ x1)
    rintro H5 ⟨S5, ps, M, eD, pa, tm, lps⟩
    rw [List.length_map, List.take_length, ey] at tm
    refine ⟨D, ps, Kvs M, rfl, SqL.of eD, pa.pd, fun du hdu => ?_⟩
    have ndM : (M.map (·.1)).Nodup := by
      rw [tm.names, farR_names]
      exact nd
    have e0 : mergeK [] (Kvs M) = Kvs M := mergeK_kvs M [] (by simpa using ndM)
    rw [e0]
    have S6 := Same.new (o := .dK (Kvs M)) hdu
    have edu : (upd H5 du (.dK (Kvs M))) du = some (.dK (Kvs M)) := upd_same
    have tdu := tm.keep (KT.same S6)
    have SS := Same.trans S1 (Same.trans S5 S6)
    generalize upd H5 du (.dK (Kvs M)) = H6 at SS edu tdu ⊢
    clear S1 S5 S6 eD pa tm ep hD hlp hdu
    have P6 : Only r H H6 := Only.trans P3 (Same.only SS)
    have R6 := Same.rl SS R3
    have sp6 := sp3.same SS
    have hd6 := SS _ _ hd3
    have ts6 := ts3.keep (KT.same SS)
    clear SS P3 R3 sp3 hd3 ts3
    -- from here on nothing that stands is changed
    have fin : ∀ H', Same H6 H' → Q (.bl true) H' := fun H' s => k H' (Only.trans P6 (Same.only s)) (Same.rl s R6)
    -- moved
    obtain ⟨_, _, dx6, rd6, nm6, lv6, cr6, L6, LL6, LC6, h16, _⟩ := id sp6
    have rn6 : H6 r ≠ none := fun z => by
      obtain ⟨_, _, _, e⟩ := R6
      rw [e] at z
      cases z
    have nb : ∀ x ∈ S, -800000000000 ≤ x.2.1 ∧ x.2.2 ≤ 800000000000 := fun x hx => by
      have := near x hx
      unfold Near at this
      omega
    refine ⟨_, rfl, _, rfl, p, dx6, _, f, rfl, h16, rfl, p, t, f, S, r, rfl, sp6, nb, ⟨by omega, by omega⟩, fun mo H7 S7 hmo spm => ?_⟩
    have spM := spm r rn6
    clear spm
    obtain ⟨gM, _, dxm, rdm, nmm, lvm, crm, Lm, LLm, LCm, hm1, _⟩ := id spM
    have sp7 := sp6.same S7
    have h17 := S7 _ _ h16
    have edu7 := S7 _ _ edu
    have tdu7 := tdu.keep (KT.same S7)
    have hd7 := S7 _ _ hd6
    have ts7 := ts6.keep (KT.same S7)
    have rn7 := some_same S7 rn6
    clear sp6 h16 edu tdu hd6 ts6
    -- the rows that are told
    refine ⟨_, rfl, mo, dxm, _, rfl, hm1, mo, t, _, r, rfl, spM, fun q1 L1 hq1 tq1 => ?_⟩
    have C1 := Same.new (o := .dK (Kvs L1)) hq1
    have eq1 : (upd H7 q1 (.dK (Kvs L1))) q1 = some (.dK (Kvs L1)) := upd_same
    have tq1 := tq1.keep (KT.same C1)
    generalize upd H7 q1 (.dK (Kvs L1)) = Ha at C1 eq1 tq1 ⊢
    refine ⟨_, rfl, mo, dxm, _, rfl, C1 _ _ hm1, mo, dxm, _, .int t, rfl, C1 _ _ hm1, rfl, ?_⟩
    refine ⟨_, rfl, p, dx6, _, rfl, C1 _ _ h17, p, t, _, r, rfl, sp7.same C1, fun q2 L2 hq2 tq2 => ?_⟩
    have C2 := Same.new (o := .dK (Kvs L2)) hq2
    have eq2 : (upd Ha q2 (.dK (Kvs L2))) q2 = some (.dK (Kvs L2)) := upd_same
    have tq2 := tq2.keep (KT.same C2)
    have eq1 := C2 _ _ eq1
    have tq1 := tq1.keep (KT.same C2)
    have C := Same.trans C1 C2
    generalize upd Ha q2 (.dK (Kvs L2)) = Hb at C eq1 tq1 eq2 tq2 ⊢
    refine ⟨by show 3 ≤ sizeLine; decide, fun l2 hl2 => ?_⟩
    have C3 := Same.new (o := .lst [V.ref q1, .int t, .ref q2]) hl2
    have el2 : (upd Hb l2 (.lst [V.ref q1, .int t, .ref q2])) l2 = some (.lst [V.ref q1, .int t, .ref q2]) := upd_same
    have eq1 := C3 _ _ eq1
    have tq1 := tq1.keep (KT.same C3)
    have eq2 := C3 _ _ eq2
    have tq2 := tq2.keep (KT.same C3)
    have C := Same.trans C C3
    generalize upd Hb l2 (.lst [V.ref q1, .int t, .ref q2]) = Hc at C eq1 tq1 eq2 tq2 el2 ⊢
    have td1 : TD 3 (.list [rowsD (farR f S), .int t, rowsD S]) (96 + 1 + (0 + 1 + (96 + 1 + 0))) := TD.list (TLs.cons (TD.rows gM) (TLs.cons (TD.int (by omega) (by omega)).up.up (TLs.cons (TD.rows g) TLs.nil)))
    have tt1 := td1.tell (by decide) (by decide)
    refine ⟨l2, _, rfl, .lst (SqL.of el2) (.cons (rows_ds eq1 tq1) (.cons (.int t) (.cons (rows_ds eq2 tq2) .nil))), tt1.1, tt1.2.1, tt1.2.2, ?_⟩
    have edu8 := C _ _ edu7
    have tdu8 := tdu7.keep (KT.same C)
    have hd8 := C _ _ hd7
    have ts8 := ts7.keep (KT.same C)
    have sp8 := sp7.same C
    have spM8 := spM.same C
    have S68 := Same.trans S7 C
    have rn8 := some_same C rn7
    clear C C1 C2 C3 edu7 tdu7 hd7 ts7 sp7 spM S7 eq1 eq2 tq1 tq2 el2 hm1 h17
    refine ⟨_, rfl, _, rfl, _, rfl, d, L, R, rfl, hd8, ts8, ndR, by omega, fun d2 L2 S2 Hd Sd hd2 ed2 td2 srd2 => ?_⟩
    have eS2 : S2 = S := Srd.eq ndR srd2 srd
    rw [eS2] at td2
    clear srd2 eS2
    have edu9 := Sd _ _ edu8
    have tdu9 := tdu8.keep (KT.same Sd)
    refine ⟨by show 3 ≤ sizeLine; decide, fun l3 hl3 => ?_⟩
    have C3 := Same.new (o := .lst [V.ref du, .int t, .ref d2]) hl3
    have el3 : (upd Hd l3 (.lst [V.ref du, .int t, .ref d2])) l3 = some (.lst [V.ref du, .int t, .ref d2]) := upd_same
    have edu9 := C3 _ _ edu9
    have tdu9 := tdu9.keep (KT.same C3)
    have ed2 := C3 _ _ ed2
    have td2 := td2.keep (KT.same C3)
    have C := Same.trans Sd C3
    generalize upd Hd l3 (.lst [V.ref du, .int t, .ref d2]) = He at C edu9 tdu9 ed2 td2 el3 ⊢
    refine ⟨l3, _, rfl, .lst (SqL.of el3) (.cons (rows_ds edu9 tdu9) (.cons (.int t) (.cons (rows_ds ed2 td2) .nil))), tt1.1, tt1.2.1, tt1.2.2, ?_⟩
    refine ⟨rfl, _, rfl, ?_⟩
    rw [decide_eq_true rfl]
    refine iteF ?_
    have sp9 := sp8.same C
    have spM9 := spM8.same C
    have S69 := Same.trans S68 C
    have rn9 := some_same C rn8
    clear C C3 Sd edu8 tdu8 hd8 ts8 sp8 spM8 S68 rn8 rn7 edu9 tdu9 ed2 td2 el3 td1 tt1
    -- sums of shifts
    obtain ⟨_, _, dx9, rd9, nm9, lv9, cr9, L9, LL9, LC9, h19, _⟩ := id sp9
    obtain ⟨_, _, dxM, rdM, nmM, lvM, crM, LM, LLM, LCM, hM9, _⟩ := id spM9
    have nbM : ∀ x ∈ farR f S, -800000000000 ≤ x.2.1 ∧ x.2.2 ≤ 800000000000 := fun x hx => by
      obtain ⟨y, hy, rfl⟩ := List.mem_map.mp hx
      have := near y hy
      unfold Near at this
      simp only
      omega
    refine ⟨_, rfl, _, rfl, mo, dxM, _, _, rfl, hM9, rfl, mo, t, _, _, r, rfl, spM9, nbM, ⟨by omega, by omega⟩, fun m1 Hf Sf _ sf => ?_⟩
    have w1 := sf r rn9
    refine ⟨_, rfl, _, rfl, _, rfl, _, _, rfl, rfl, p, dx9, _, _, rfl, Sf _ _ h19, rfl, p, t, _, S, r, rfl, sp9.same Sf, nb, ⟨by omega, by omega⟩, fun m2 Hg Sg _ sg => ?_⟩
    have w2 := (sg r (some_same Sf rn9)).weak
    have w1 := (w1.same Sg).weak
    rw [far_add] at w1
    obtain ⟨dxw, fsw, ew⟩ := w1.ins
    refine ⟨m1, dxw, fsw, _, rfl, ew, w2.tyd, self_nf, m1, t, _, m2, t, _, rfl, w1, w2, fun _ => rfl, _, rfl, _, rfl, ?_⟩
    rw [eqT t (rfl : farR (f + (u - 25)) S = farR (f + (u - 25)) S)]
    refine iteF ?_
    have Sfg := Same.trans Sf Sg
    have spM10 := spM9.same Sfg
    refine ⟨_, rfl, _, rfl, _, rfl, mo, dxM, _, _, rfl, Sfg _ _ hM9, rfl, mo, t, _, _, r, rfl, spM10, nbM, ⟨by omega, by omega⟩, fun m3 Hh Sh _ sh => ?_⟩
    have w3 := (sh r (some_same Sfg rn9)).weak
    rw [far_add, show f + -f = 0 by omega, far_zero] at w3
    have S9h := Same.trans Sfg Sh
    have sp11 := sp9.same S9h
    have spM11 := spM9.same S9h
    obtain ⟨dxw3, fsw3, ew3⟩ := w3.ins
    refine ⟨_, rfl, m3, dxw3, fsw3, _, rfl, ew3, sp11.weak.tyd, self_nf, m3, t, _, p, t, _, rfl, w3, sp11.weak, fun _ => rfl, _, rfl, _, rfl, ?_⟩
    rw [eqT t (rfl : S = S)]
    refine iteF ?_
    -- moved and not moved
    have h111 := S9h _ _ h19
    have hM11 := S9h _ _ hM9
    refine ⟨_, rfl, _, rfl, mo, dxM, _, _, rfl, hM11, sp11.weak.tyd, self_nf, mo, t, _, p, t, S, rfl, spM11.weak, sp11.weak, fun _ => farR_names f S, ?_⟩
    refine ⟨_, rfl, rfl, rfl, _, rfl, ?_⟩
    rw [eqF g.l1 t f]
    refine iteF ?_
    -- the counts
    have tc := (cntsL_td g 0 (j := (2 * t).toNat) (by omega)).tell (by decide) (by decide)
    refine ⟨_, rfl, _, rfl, mo, t, f, _, r, rfl, spM11, ⟨by omega, by omega⟩, fun qa xa Hi Si _ ea pa => ?_⟩
    rw [cntsL_far nd t1 f] at pa
    refine ⟨qa, _, rfl, prs_ds ea pa, tc.1, tc.2.1, tc.2.2, ?_⟩
    refine ⟨_, rfl, p, t, 0, S, r, rfl, sp11.same Si, ⟨by omega, by omega⟩, fun qb xb Hj Sj _ eb pb => ?_⟩
    refine ⟨qb, _, rfl, prs_ds eb pb, tc.1, tc.2.1, tc.2.2, ?_⟩
    refine ⟨rfl, _, rfl, ?_⟩
    rw [decide_eq_true rfl]
    refine iteF ?_
    clear ea eb pa pb tc w1 w2 w3 sf sg sh ew ew3
    have Sij := Same.trans Si Sj
    have spM12 := spM11.same Sij
    have sp12 := sp11.same Sij
    have hM12 := Sij _ _ hM11
    have h112 := Sij _ _ h111
    -- most, total and pieces
    refine ⟨_, rfl, mo, dxM, _, rfl, hM12, mo, t, _, r, rfl, spM12, fun m1 Hk mst1 Sk => ?_⟩
    refine ⟨_, rfl, mo, dxM, _, rfl, Sk _ _ hM12, mo, t, _, r, rfl, spM12.same Sk, fun Hl Sl => ?_⟩
    have Skl := Same.trans Sk Sl
    refine ⟨_, rfl, mo, dxM, _, rfl, Skl _ _ hM12, mo, t, _, r, rfl, spM12.same Skl, fun qp ap Hm Sm eqp ptp epp => ?_⟩
    rw [pcs_far nd t f] at epp
    rw [lenR_far]
    refine ⟨by show 3 ≤ sizeLine; decide, fun l4 hl4 => ?_⟩
    have D1 := Same.new (o := .lst [V.int m1, .int (lenR S).sum, .ref qp]) hl4
    have el4 : (upd Hm l4 (.lst [V.int m1, .int (lenR S).sum, .ref qp])) l4 = some (.lst [V.int m1, .int (lenR S).sum, .ref qp]) := upd_same
    have eqp := D1 _ _ eqp
    have ptp := ptp.keep (KT.same D1)
    have Skm := Same.trans Skl (Same.trans Sm D1)
    generalize upd Hm l4 (.lst [V.int m1, .int (lenR S).sum, .ref qp]) = Hn at Skm eqp ptp el4 ⊢
    have spM13 := spM12.same Skm
    have sp13 := sp12.same Skm
    have hM13 := Skm _ _ hM12
    have h113 := Skm _ _ h112
    have bdm := mst_bd gM mst1
    have bdl := len_bd (t := t) (S := S) g.sp
    have bdl2 : 8 * t * (S.length : Int) ≤ 100000 := by
      have : 8 * t * (S.length : Int) ≤ 8 * t * 8 := Int.mul_le_mul_of_nonneg_left (by omega) (by omega)
      omega
    have td2 : TD 3 (.list [.int m1, .int (lenR S).sum, pcsD (PC.pcs t (bF S) (eF S) (S.map (·.1)))]) (0 + 1 + (0 + 1 + (584 + 1 + 0))) := TD.list (TLs.cons (TD.int (by omega) (by omega)).up.up (TLs.cons (TD.int (by omega) (by omega)).up.up (TLs.cons (pcs_td g) TLs.nil)))
    have tt2 := td2.tell (by decide) (by decide)
    have dq : RL.DS K Hn (.ref qp) (pcsD (PC.pcs t (bF S) (eF S) (S.map (·.1)))) := by
      rw [← epp]
      exact .tup (SqT.of eqp) (pts_dss ptp)
    refine ⟨_, rfl, l4, _, rfl, .lst (SqL.of el4) (.cons (.int _) (.cons (.int _) (.cons dq .nil))), tt2.1, tt2.2.1, tt2.2.2, ?_⟩
    refine ⟨_, rfl, p, dx9, _, rfl, h113, p, t, _, r, rfl, sp13, fun m2 Ho mst2 So => ?_⟩
    obtain rfl : m1 = m2 := mst_far t1 nd mst2 mst1
    refine ⟨_, rfl, p, dx9, _, rfl, So _ _ h113, p, t, _, r, rfl, sp13.same So, fun Hp Sp => ?_⟩
    have Sop := Same.trans So Sp
    refine ⟨_, rfl, p, dx9, _, rfl, Sop _ _ h113, p, t, _, r, rfl, sp13.same Sop, fun qp2 ap2 Hq Sq eqp2 ptp2 epp2 => ?_⟩
    refine ⟨by show 3 ≤ sizeLine; decide, fun l5 hl5 => ?_⟩
    have D2 := Same.new (o := .lst [V.int m1, .int (lenR S).sum, .ref qp2]) hl5
    have el5 : (upd Hq l5 (.lst [V.int m1, .int (lenR S).sum, .ref qp2])) l5 = some (.lst [V.int m1, .int (lenR S).sum, .ref qp2]) := upd_same
    have eqp2 := D2 _ _ eqp2
    have ptp2 := ptp2.keep (KT.same D2)
    have Soq := Same.trans Sop (Same.trans Sq D2)
    generalize upd Hq l5 (.lst [V.int m1, .int (lenR S).sum, .ref qp2]) = Hr at Soq eqp2 ptp2 el5 ⊢
    have dq2 : RL.DS K Hr (.ref qp2) (pcsD (PC.pcs t (bF S) (eF S) (S.map (·.1)))) := by
      rw [← epp2]
      exact .tup (SqT.of eqp2) (pts_dss ptp2)
    refine ⟨l5, _, rfl, .lst (SqL.of el5) (.cons (.int _) (.cons (.int _) (.cons dq2 .nil))), tt2.1, tt2.2.1, tt2.2.2, ?_⟩
    refine ⟨rfl, _, rfl, ?_⟩
    rw [decide_eq_true rfl]
    refine iteF ?_
    have spM14 := spM13.same Soq
    have sp14 := sp13.same Soq
    have hM14 := Soq _ _ hM13
    have h114 := Soq _ _ h113
    have SZ : Same H6 Hr := Same.trans S69 (Same.trans S9h (Same.trans Sij (Same.trans Skm Soq)))
    clear Soq D1 D2 el4 el5 eqp eqp2 ptp ptp2 dq dq2 td2 tt2 epp epp2 Sop So Sp Sq Skm Skl Sk Sl Sm Sij Si Sj spM9 sp9 spM10 spM11 sp11 spM12 sp12 spM13 sp13 S9h Sfg Sf Sg Sh S69 hM9 h19 hM11 h111 hM12 h112 hM13 h113
    -- the peaks
    refine ⟨_, rfl, p, dx9, _, rfl, h114, p, t, _, r, rfl, sp14, fun m3 qk Hs mst3 Ss ek => ?_⟩
    have lpk : (pkS S t m3 t.toNat).length ≤ t.toNat := by
      unfold pkS
      rw [List.length_map]
      exact Nat.le_trans (List.length_filter_le _ _) (by rw [List.length_range]; exact Nat.le_refl _)
    refine ⟨qk, rfl, ⟨_, SqT.of ek⟩, fun G hG => ?_⟩
    refine lc_it (walk_tup (K := K) (a := qk) (xs := (pkS S t m3 t.toNat).map V.int)) (fun i H' => Same Hs H' ∧ H' G = some (.lst ((((pkS S t m3 t.toNat).take i).map fun s => (s + f) % t).map V.int))) ⟨Same.new hG, upd_same⟩ (fun i H' _ h => SqT.of (h.1 _ _ ek)) ?_ ?_
    · rintro i x Hx Hx' hi ⟨Sx, eG⟩ ⟨rfl, hx⟩
      rw [List.getElem?_map] at hx
      rw [List.length_map] at hi
      cases e2 : (pkS S t m3 t.toNat)[i]? with
      | none => rw [e2] at hx; cases hx
      | some z =>
        rw [e2] at hx
        cases hx
        refine ⟨rfl, ?_⟩
        unfold tYes
        dsimp only
        rw [if_pos rfl]
        refine ⟨_, rfl, _, rfl, _, _, rfl, rfl, .inl ⟨_, rfl, _, rfl, _, _, rfl, rfl, by omega, ?_⟩⟩
        refine ⟨_, eG, by rw [List.length_map, List.length_map, List.length_take, sizeLine_eq]; omega, Same.at hG Sx, ?_⟩
        rw [upd_same, List.take_add_one, e2]
        simp
    rintro Ht ⟨St, eG⟩
    rw [List.length_map, List.take_length] at eG
    refine ⟨G, _, rfl, SqL.of eG, by rw [List.length_map]; omega, fun zs lz pz wz hlz => ?_⟩
    have ez : zs = pkS (farR f S) t m3 t.toNat := List.Perm.eq_of_pairwise (le := fun a b : Int => a ≤ b) (fun a b _ _ h1 h2 => by omega) wz ((pkS_pw _ _ _ _).imp fun h => by omega) (pz.trans (pkS_far t1 nd m3 f))
    have Z1 := Same.new (o := .lst (zs.map V.int)) hlz
    have elz : (upd Ht lz (.lst (zs.map V.int))) lz = some (.lst (zs.map V.int)) := upd_same
    have Sst := Same.trans Ss (Same.trans St Z1)
    generalize upd Ht lz (.lst (zs.map V.int)) = Hu at Sst elz ⊢
    have spM15 := spM14.same Sst
    have sp15 := sp14.same Sst
    have hM15 := Sst _ _ hM14
    have h115 := Sst _ _ h114
    refine ⟨_, rfl, mo, dxM, _, rfl, hM15, mo, t, _, r, rfl, spM15, fun m4 qk2 Hv mst4 Sv ek2 => ?_⟩
    obtain rfl : m4 = m3 := mst_far t1 nd mst3 mst4
    rw [← ez] at ek2
    have lz' : zs.length ≤ 32 := by
      rw [pz.length_eq, List.length_map]
      omega
    have zbd : ∀ z ∈ zs, 0 ≤ z ∧ z < t := fun z hz => by
      rw [ez] at hz
      exact (pkS_mem.mp hz).1
    have td3 : TD 1 (.tuple (zs.map PyData.int)) 32 := (TD.tup (TLs.mapd fun z hz => TD.int (by have := zbd z hz; omega) (by have := zbd z hz; omega))).wk (by omega)
    have tt3 := td3.tell (by decide) (by decide)
    refine ⟨qk2, _, rfl, .tup (SqT.of ek2) (ints_dss zs), tt3.1, tt3.2.1, tt3.2.2, ?_⟩
    refine ⟨_, rfl, lz, _, rfl, .inl ⟨SqL.of (Sv _ _ elz), fun l6 hl6 => ?_⟩⟩
    have Z2 := Same.new (o := .tup (zs.map V.int)) hl6
    have el6 : (upd Hv l6 (.tup (zs.map V.int))) l6 = some (.tup (zs.map V.int)) := upd_same
    have Svw := Same.trans Sv Z2
    generalize upd Hv l6 (.tup (zs.map V.int)) = Hw at Svw el6 ⊢
    refine ⟨l6, _, rfl, .tup (SqT.of el6) (ints_dss zs), tt3.1, tt3.2.1, tt3.2.2, ?_⟩
    refine ⟨rfl, _, rfl, ?_⟩
    rw [decide_eq_true rfl]
    refine iteF ?_
    have SZ2 := Same.trans SZ (Same.trans Sst Svw)
    have spM16 := spM15.same Svw
    have sp16 := sp15.same Svw
    have hM16 := Svw _ _ hM15
    have h116 := Svw _ _ h115
    -- the normals
    have rn16 := some_same SZ2 rn6
    refine ⟨_, rfl, mo, dxM, _, rfl, hM16, mo, t, _, r, rfl, spM16, fun na Hy Sy _ sna => ?_⟩
    refine ⟨_, rfl, p, dx9, _, rfl, Sy _ _ h116, p, t, _, r, rfl, sp16.same Sy, fun nb2 Hz Sz _ snb => ?_⟩
    have wa := ((sna r rn16).same Sz).weak
    have wb := (snb r (some_same Sy rn16)).weak
    obtain ⟨dxa, fsa, ena⟩ := wa.ins
    refine ⟨na, dxa, fsa, _, rfl, ena, wb.tyd, self_nf, na, t, _, nb2, t, _, rfl, wa, wb, fun _ => by rw [norR_names, norR_names, farR_names], ?_⟩
    refine ⟨_, rfl, .inl ⟨_, rfl, _, rfl, _, _, rfl, rfl, by omega, ?_⟩⟩
    refine ⟨rfl, rfl, ?_⟩
    rw [eqN g.l1 t1 f]
    exact fin _ (Same.trans SZ2 (Same.trans Sy Sz))
end
end K40
/-! sorted(xs), xs a list of pairs of a text and an int -/
namespace KST
open PySem PySem.Spec PyProof PyProof.Rows L2
abbrev TI := Addr × Str × Int
def encTI (b : TI) : PyData := .tuple [.str b.2.1, .int b.2.2]
theorem each_ti : ∀ {bs : List TI} {us : List Value}, Vals (bs.map fun b => V.ref b.1) us → PySem.W.EachIs (fun v (b : TI) => v = Value.ref b.1) us bs
  | [], _, r => by cases r; exact .nil
  | b :: bs, _, r => by
    cases r with
    | cons r t => exact .cons r (each_ti t)
theorem ti_each : ∀ {bs : List TI} {us : List Value}, PySem.W.EachIs (fun v (b : TI) => v = Value.ref b.1) us bs → Vals (bs.map fun b => V.ref b.1) us
  | _, _, .nil => .nil
  | _, _, .cons r t => .cons r (ti_each t)
theorem ti_with {R R' : Value → TI → Prop} : ∀ {us : List Value} {bs : List TI}, PySem.W.EachIs R us bs → (∀ v, ∀ b ∈ bs, R v b → R' v b) → PySem.W.EachIs R' us bs
  | _, _, .nil, _ => .nil
  | _, _, .cons r t, h => .cons (h _ _ List.mem_cons_self r) (ti_with t fun v b hb => h v b (List.mem_cons_of_mem _ hb))
section
variable {X : Cx}
def rSortTI (K : PySem.W.Frag) : List V → Hp → VK → Prop := fun vs H Q => ∃ (a : Addr) (bs : List TI), vs = [V.ref a] ∧ SqL K H a (bs.map fun b => V.ref b.1) ∧ (∀ b ∈ bs, H b.1 = some (.tup [.str b.2.1, .int b.2.2])) ∧ bs.length ≤ 1000 ∧
  ∀ p, H p = none → Q (.ref p) (upd H p (.lst ((bs.mergeSort (PySem.W.dataLe false encTI)).map fun b => V.ref b.1)))
theorem cr_sortTI (hu : X.A.units + 64 < cLine) : CallR X (.builtin "sorted") (rSortTI X.K) := by
  intro pins s σ H vs us Q I r h
  obtain ⟨a, bs, rfl, hs, ht, h64, q⟩ := h
  have hz : bs.length ≤ sizeLine := by rw [sizeLine_eq]; omega
  obtain ⟨its, rv, hl, _⟩ := I.list hs
  rw [Vals.ref1 r]
  have e := each_ti rv
  refine PySem.W.sorted_data (R := fun v (b : TI) => v = Value.ref b.1) (enc := encTI) hl.isList e (ti_with e fun v b hb ev => ?_) (PySem.W.AllAlike.of fun b b' => ?_) (.inl fun d hd => ?_) hz (fun b _ => ?_) fun out ho eo => ?_
  · exact Dp.reads I (encTI b) (.ref b.1) v (.tup (SqT.of (ht b hb)) (.cons (.str _) (.cons (.int _) .nil))) ev
  · simp [PySem.W.alike, PySem.W.alikeAll, encTI]
  · obtain ⟨b, hb, rfl⟩ := List.mem_map.mp hd
    exact ⟨_, _, rfl⟩
  · have : (encTI b).depth ≤ 2 := by
      simp [encTI, PyData.depth, PyData.depthAll]
    omega
  · obtain ⟨ep, he'⟩ := PyProof.Rows.sortedAll_at s.heap its out.toArray
    have hlen : ((bs.mergeSort (PySem.W.dataLe false encTI)).map fun b => V.ref b.1).length ≤ sizeLine := by rw [List.length_map, List.length_mergeSort]; exact hz
    exact ⟨.ref _, upd H (s.heap.objs.size + 1) (.lst ((bs.mergeSort (PySem.W.dataLe false encTI)).map fun b => V.ref b.1)), I.laid (t' := s.toks) (fun _ _ => PyProof.Rows.sortedAll_old) (Nat.le_succ _) ⟨hlen, out, ep, ti_each eo, he'⟩, rfl, q _ (I.hok.fresh (Nat.le_succ _))⟩
end
/-- one pair is not after the other -/
def leQ (a b : Str × Int) : Prop := a.1.cps.toList < b.1.cps.toList ∨ (a.1 = b.1 ∧ a.2 ≤ b.2)
theorem leQ_anti {a b : Str × Int} (h : leQ a b) (g : leQ b a) : a = b := by
  rcases h with h | ⟨h1, h2⟩
  · rcases g with g | ⟨g1, g2⟩
    · exact absurd (List.lt_trans h g) (List.lt_irrefl _)
    · rw [g1] at h
      exact absurd h (List.lt_irrefl _)
  · rcases g with g | ⟨g1, g2⟩
    · rw [h1] at g
      exact absurd g (List.lt_irrefl _)
    · exact Prod.ext h1 (by omega)
theorem dataLe_ti {p q : Addr} {x y : Str} {i j : Int} (h : PySem.W.dataLe false encTI (p, x, i) (q, y, j) = true) : leQ (x, i) (y, j) := by
  rw [PySem.W.dataLe_eq] at h
  have h' : (!PySem.W.dataLt (.tuple [.str y, .int j]) (.tuple [.str x, .int i])) = true := h
  by_cases e : y = x
  · subst e
    refine .inr ⟨rfl, ?_⟩
    have ev : PyData.eqv (.str y) (.str y) = true := by simp [PyData.eqv]
    rw [PySem.W.dataLt_tuple, PySem.W.dataLt_cons (by simp [PySem.W.alike]), if_pos ev, PySem.W.dataLt_cons (by simp [PySem.W.alike])] at h'
    rcases Decidable.em (i ≤ j) with z | z
    · exact z
    · have ne : ¬ PyData.eqv (.int j) (.int i) = true := fun w => by
        have e : j = i := by simpa [PyData.eqv] using w
        omega
      rw [if_neg ne, PySem.W.dataLt_int, decide_eq_true (by omega)] at h'
      cases h'
  · have ne : ¬ PyData.eqv (.str y) (.str x) = true := fun z => e (by simpa [PyData.eqv] using z)
    rw [PySem.W.dataLt_tuple, PySem.W.dataLt_cons (by simp [PySem.W.alike]), if_neg ne, PySem.W.dataLt_str] at h'
    left
    have h2 : ¬ y.cps.toList < x.cps.toList := by simpa using h'
    rcases List.le_iff_lt_or_eq.mp (List.not_lt.mp h2) with w | w
    · exact w
    · refine absurd ?_ e
      obtain ⟨⟨a⟩⟩ := x
      obtain ⟨⟨b⟩⟩ := y
      simp only at w
      rw [w]
/-- what stands in the sorted list -/
theorem sort_ti {bs : List TI} {L : List (Str × Int)} (hp : (bs.map (·.2)).Perm L) (hw : L.Pairwise leQ) : (bs.mergeSort (PySem.W.dataLe false encTI)).map (·.2) = L := by
  have pm := List.mergeSort_perm bs (PySem.W.dataLe false encTI)
  have so : (bs.mergeSort (PySem.W.dataLe false encTI)).Pairwise (fun a b => PySem.W.dataLe false encTI a b = true) := PySem.W.sort_pairwise (PySem.W.sortLe_total _ _ _) bs
  refine List.Perm.eq_of_pairwise (le := leQ) (fun a b _ _ h g => leQ_anti h g) ?_ hw ((pm.map _).trans hp)
  rw [List.pairwise_map]
  exact so.imp fun {a b} h => dataLe_ti (p := a.1) (q := b.1) h
end KST
namespace K40
open PySem L2
open PyProof.Rows PySem.Spec
/-! ### the spans of both -/
theorem sum_perm {l m : List Int} (p : l.Perm m) : l.sum = m.sum := by
  induction p with
  | nil => rfl
  | cons x _ ih => rw [List.sum_cons, List.sum_cons, ih]
  | swap x y l => simp only [List.sum_cons]; omega
  | trans _ _ a b => exact a.trans b
theorem sum_app (l m : List Int) : (l ++ m).sum = l.sum + m.sum := by
  induction l with
  | nil => simp
  | cons x l ih => rw [List.cons_append, List.sum_cons, List.sum_cons, ih]; omega
theorem cnt_all {S : Rws} (nd : (S.map (·.1)).Nodup) (t k s : Int) : cnt S t k (S.map (·.1)) s = (S.map fun r => alv t (r.2.1 + k) r.2.2 s).sum := by
  unfold cnt alvs
  rw [List.map_map]
  congr 1
  refine List.map_congr_left fun x hx => ?_
  show alv t ((spn S x.1).1 + k) (spn S x.1).2 s = _
  rw [spn_at (p := x.2) nd hx]
theorem nd_both {S S2 : Rws} (a : (S.map (·.1)).Nodup) (b : (S2.map (·.1)).Nodup) (dj : ∀ n ∈ S.map (·.1), n ∉ S2.map (·.1)) : ((S ++ S2).map (·.1)).Nodup := by
  rw [List.map_append, List.nodup_append]
  exact ⟨a, b, fun x hx y hy e => dj x hx (e ▸ hy)⟩
theorem cnt_both {S S2 B : Rws} (a : (S.map (·.1)).Nodup) (b : (S2.map (·.1)).Nodup) (nb : (B.map (·.1)).Nodup) (pm : B.Perm (S ++ S2)) (t k s : Int) : cnt B t k (B.map (·.1)) s = cnt S t k (S.map (·.1)) s + cnt S2 t k (S2.map (·.1)) s := by
  rw [cnt_all nb, cnt_all a, cnt_all b, ← sum_app, ← List.map_append]
  exact sum_perm (pm.map _)
theorem len_both {S S2 B : Rws} (pm : B.Perm (S ++ S2)) : (lenR B).sum = (lenR S).sum + (lenR S2).sum := by
  rw [← sum_app]
  unfold lenR
  rw [← List.map_append]
  exact sum_perm (pm.map _)
theorem most_both {t m m1 m2 : Int} {S S2 B : Rws} (g : Good t S) (g2 : Good t S2) (nb : (B.map (·.1)).Nodup) (pm : B.Perm (S ++ S2)) (h : Mst B t (B.map (·.1)) m) (h1 : Mst S t (S.map (·.1)) m1) (h2 : Mst S2 t (S2.map (·.1)) m2) : (if m1 < m2 then m2 else m1) ≤ m ∧ m ≤ m1 + m2 := by
  obtain ⟨⟨s, e⟩, a⟩ := (mst_iff g.t1).mp h
  obtain ⟨⟨s1, e1⟩, a1⟩ := (mst_iff g.t1).mp h1
  obtain ⟨⟨s2, e2⟩, a2⟩ := (mst_iff g.t1).mp h2
  have c := cnt_both g.nd g2.nd nb pm t 0
  have p := fun s => (cnt_bd g (k := 0) (by omega) (by omega) s (ns := S.map (·.1)) fun n h => h).1
  have q := fun s => (cnt_bd g2 (k := 0) (by omega) (by omega) s (ns := S2.map (·.1)) fun n h => h).1
  have b1 := a s1
  have b2 := a s2
  have b3 := a1 s
  have b4 := a2 s
  have c1 := c s
  have c2 := c s1
  have c3 := c s2
  have p2 := p s2
  have q1 := q s1
  split <;> omega
theorem pick_sub {A B : Rws} (nb : (B.map (·.1)).Nodup) (h : ∀ x ∈ A, x ∈ B) : pickR B (A.map (·.1)) = A := by
  unfold pickR
  rw [List.map_map]
  refine (List.map_congr_left fun x hx => ?_).trans (List.map_id A)
  show (x.1, (spn B x.1).1, (spn B x.1).2) = x
  rw [spn_at (p := x.2) nb (h x hx)]
theorem pick_far {B : Rws} (nb : (B.map (·.1)).Nodup) (f : Int) {ns : List Str} (h : ∀ n ∈ ns, n ∈ B.map (·.1)) : pickR (farR f B) ns = farR f (pickR B ns) := by
  unfold pickR farR
  rw [List.map_map]
  refine List.map_congr_left fun n hn => ?_
  show (n, (spn (farR f B) n).1, (spn (farR f B) n).2) = (n, (spn B n).1 + f, (spn B n).2 + f)
  rw [spn_far nb f (h n hn)]
theorem pick_mem {B : Rws} (nb : (B.map (·.1)).Nodup) {ns : List Str} (h : ∀ n ∈ ns, n ∈ B.map (·.1)) : ∀ x ∈ pickR B ns, x ∈ B := fun x hx => by
  obtain ⟨n, hn, rfl⟩ := List.mem_map.mp hx
  exact spn_in nb (h n hn)
/-- two halves of spans are the spans -/
theorem pick_two {B X : Rws} (nb : (B.map (·.1)).Nodup) (so : sortedS (B.map (·.1)) = true) {ns ms : List Str} (hn : (ns ++ ms).Perm (B.map (·.1))) (sx : Srd (pickR B ns ++ pickR B ms) X) : X = B := by
  have e : pickR B ns ++ pickR B ms = pickR B (ns ++ ms) := by
    unfold pickR
    rw [List.map_append]
  have pm : (pickR B (ns ++ ms)).Perm B := pickR_perm nb hn
  rw [e] at sx
  exact Srd.eq nb ⟨sx.pm.trans pm, sx.so⟩ ⟨List.Perm.refl _, so⟩
/-! ### the values that are alive -/
theorem each_perm {t i : Int} {S S2 B : Rws} (pm : B.Perm (S ++ S2)) : (eachL t i S ++ eachL t i S2).Perm (eachL t i B) := by
  unfold eachL
  rw [← List.flatMap_append]
  exact (pm.flatMap_right _).symm
theorem each_pw {t i : Int} {B : Rws} (nb : (B.map (·.1)).Nodup) (so : sortedS (B.map (·.1)) = true) : (eachL t i B).Pairwise KST.leQ := by
  unfold eachL
  rw [List.pairwise_flatMap]
  refine ⟨fun x _ => ?_, ?_⟩
  · unfold turnsOf
    rw [List.pairwise_map]
    refine List.pairwise_lt_range.imp fun {a b} h => .inr ⟨rfl, ?_⟩
    simp only
    omega
  · have := pw_lt nb so
    rw [List.pairwise_map] at this
    refine this.imp fun {a b} h x hx y hy => .inl ?_
    obtain ⟨_, _, rfl⟩ := List.mem_map.mp hx
    obtain ⟨_, _, rfl⟩ := List.mem_map.mp hy
    exact h
/-! ### == of spans of different size -/
def rEqDicN (K : PySem.W.Frag) : R2 := fun x y H Q => ∃ a b ks ls, x = .ref a ∧ y = .ref b ∧ H a = some (.dK ks) ∧ H b = some (.dK ls) ∧ ks.length ≠ ls.length ∧ Q (.bl false) H
theorem op_eqDicN {X : Cx} (hu : X.A.units + 64 < cLine) : OpR X (compareOp .Eq) (rEqDicN X.K) := by
  intro pins s σ H x y v u Q I rx ry h
  obtain ⟨a, b, ks, ls, rfl, rfl, ha, hb, ne, q⟩ := h
  cases rx
  cases ry
  obtain ⟨_, ya, va, ra, da⟩ :=
                                (show ObjOk X.prog X.w H s.heap a (.dK ks) from I.hok a _ ha)
  obtain ⟨_, yb, vb, rb, db⟩ :=
                                (show ObjOk X.prog X.w H s.heap b (.dK ls) from I.hok b _ hb)
  have hl : va.length ≠ vb.length := by
    rw [← ra.length, ← rb.length]
    exact ne
  refine PySem.W.rcP_dicts (knd := mixKind X.prog X.w) (r := false) ya yb da db (by omega) (fun e => absurd e hl) _ _ ?_
  rw [show (va.length == vb.length && false) = false from by simp]
  exact ⟨.bl _, H, I, rfl, q⟩
section
variable {P : Program} {w : World} {K : PySem.W.Frag}
                                                      {mg : Str → Option Value} {base : Heap}
def sp_eqN (K : PySem.W.Frag) (C : Addr) : Sp := fun vs H Q _ => ∃ (p : Addr) (t : Int) (S : Rws) (q : Addr) (S2 : Rws), vs = [.ref p, .ref q] ∧ SpAt H C p t S ∧ SpAt H C q t S2 ∧ S.length ≠ S2.length ∧ Q (.bl false) H
theorem ok_eqN (T : T K mg) (U : UX K mg) : FnOk P w K mg base CX0 3 U.me.f U.me.d ["self", "other"] (sp_eqN K U.C) := by
  refine U.me.F.ok sc_Spans_eq (fun vs H Q E h => ?_) (fun cdv A outer s H vs Q E hr h => ?_)
  · obtain ⟨p, t, S, q, S2, rfl, _⟩ := h
    rfl
  · obtain ⟨p, t, S, q, S2, rfl, ⟨g, so, dx, rd, nm, lv, cr, L, h1, h2, h3, h4⟩, ⟨g', so', dx', rd', nm', lv', cr', L', h1', h2', h3', h4'⟩, en, k⟩ := h
    have hu := hu_of hr
    refine ⟨_, (pss_one (ps_ret (pe_and (pe_callB call_isi (by rfl) T.z_isinstance (by decide +kernel) (pa_cons (pv 1) (pa_cons (pe_glob (v := V.ref U.C) rfl U.mC rfl) pa_nil))) (pe_and (pe_cmpR op_eq (pe_fld (pv 0) rfl) (pe_fld (pv 1) rfl) (nomark _)) (pe_one (pe_cmpR (op_eqDicN (un64 hr)) (pe_fld (pv 0) rfl) (pe_fld (pv 1) rfl) (nomark _))))))), ?_⟩
    refine ⟨_, rfl, _, _, _, _, true, rfl, .own _, .base (.ins h1' U.cl U.ca U.cg U.ct U.mo), by unfold PySem.W.kitOne; rw [if_pos (beq_self_eq_true _)], ?_⟩
    refine ⟨_, rfl, ?_⟩
    refine iteT ?_
    refine ⟨_, rfl, p, U.C, dx, _, .int t, rfl, h1, U.cl, U.n1, rfl, _, rfl, q, U.C, dx', _, .int t, rfl, h1', U.cl, U.n1, rfl, rfl, _, rfl, ?_⟩
    rw [decide_eq_true rfl]
    refine iteT ?_
    refine ⟨_, rfl, p, U.C, dx, _, .ref rd, rfl, h1, U.cl, U.n2, rfl, _, rfl, q, U.C, dx', _, .ref rd', rfl, h1', U.cl, U.n2, rfl, rd, rd', Kvs L, Kvs L', rfl, rfl, h2, h2', ?_, k⟩
    rw [kvs_len, kvs_len, h3.len, h3'.len]
    exact en
end
end K40
/-! an own class's | and &, by the promises of its defs -/
namespace OW
open PySem PySem.Spec PyProof.Rows L2
section
open PySem.W
variable {prog : Program} {w : World} {A : Around} {E : Value → Shared → Prop} {s : Shared} {K : Frag} {x C L f : Addr} {h₀ : Heap} {m : Str → Option Value} {ox : Obj} {od : Option Obj} {T : String}
/-- o op b, b of a type that knows nothing of op -/
theorem bin_ownT {op : Operator} {b : Value} {Q : Value → Shared → Prop} (F : Fr h₀ L s.heap m) (X₀ : K.In h₀) (I : InstAt s.heap x ox C od) (hb : Looks (model prog w) s.heap (typeOf b) (.type T)) (hc : selfFirst K C = true)
    (hs : findIn K (.ref C) (PySem.dunder op.info.2) = some (some (.ref f))) (hf : isFn K (.ref f) = true) (hr : findIn K (.ref C) (dunderR op.info.2) = some none)
    (h1 : findIn K (.type T) (PySem.dunder op.info.2) = some none) (h2 : findIn K (.type T) (dunderR op.info.2) = some none) (hsub : subIn K (.type T) (.ref C) = some false)
    (h : wpAny (model prog w) A (call (.ref f) [.ref x, b]) (PySem.W.CmpBack Q) E s) : wpAny (model prog w) A (binaryOp op (.ref x) b) Q E s := by
  have X := X₀.keeps F.keep
  obtain ⟨cd, rest, hcd, hm⟩ := ksp_first hc
  rcases hi : op.info with ⟨sym, nm'⟩
  rw [hi] at hs hr h1 h2
  dsimp only at hs hr h1 h2
  have one := ksp_try X I hs hf h
  obtain ⟨hh, g, d, tt, os⟩ := s
  have L1 : Looks (model prog w) hh
                                    (typeOf (.ref x)) (.ref C) := I.type
  have L2 : Looks (model prog w) hh (typeOf b) (.type T) := hb
  have L3 : Looks (model prog w) hh (fillsNumberSlot
                                                     (.ref C) nm') true := fills_K X hcd hm hs
  have L4 : Looks (model prog w) hh (fillsNumberSlot (.type T) nm') false := ksp_fillsT X h1 h2
  have L5 : Looks (model prog w) hh (isSubtype
                                               (.type T) (.ref C)) false := looks_subIn X hsub
  have L6 : Looks (model prog w) hh (numberSlotInPython (.ref C) nm') true := ksp_inPy X hs hr (.inl rfl)
  have L7 : Looks (model prog w) hh (numberSlotInPython
                                                        (.type T) nm') false := Looks.of_pure rfl
  have L8 : Looks (model prog w) hh (typeLookup (.type T) (dunderR nm')) none := looks_findIn X h2
  have hne :
             (Value.ref C == Value.type T) = false := Bool.eq_false_iff.mpr fun q => by cases beq_iff_eq.mp q
  simp only [binaryOp, hi]
  refine wpAny_holding (wpAny_bind ?_)
  unfold binaryOp1
  refine wpAny_bind (L1.at (wpAny_bind
                                       (L2.at (wpAny_bind (L3.at ?_)))))
  simp only [hne, Bool.false_eq_true, if_false]
  ksp_lk
  refine wpAny_mono one (fun r s' hr' => ?_) fun _ _ e => e
  obtain ⟨v, rfl, hq⟩ := hr'
  ksp_lk
  exact hq
end
section
variable {X : Cx} {CX : CXT} {n : Nat} {C f : Addr} {fd : FuncData} {ps : List Str} {sp : Sp} {E : XK}
theorem op_ownOr (F : FnOk X.prog X.w X.K X.mg X.base CX n f fd ps sp) (o : OwnM X C "__or__" f) (hc : PySem.W.selfFirst X.K C = true) (hr : Room n X.A) (hb : Binds X.K fd ps []) (hx : Passes CX X E) : OpR X (binaryOp .BitOr) (rOwnAdd C sp E) := by
  intro pins s σ H x y u v Q I rx ry h
  obtain ⟨a, dx, fs, b, dy, gs, rfl, ha, rfl, hb', q⟩ := h
  cases rx
  cases ry
  obtain ⟨ox, od, J⟩ := inst_at I ha
  obtain ⟨oy, od', J'⟩ := inst_at I hb'
  obtain ⟨m, hF⟩ := I.fr
  refine PySem.W.binop_K hF I.ok.mod.kin J J'.type hc o.fs o.fn (wpAny_mono (run_at F ⟨hr, rfl⟩ hb hx I (vs := [.ref a, .ref b]) (.cons rfl (.cons rfl .nil)) q) (fun v s' z => ?_) fun _ _ e => e)
  obtain ⟨zv, H', I', r', q'⟩ := z
  refine not_ni r' fun ne => ?_
  cases v <;> first | exact absurd rfl ne | exact ⟨zv, H', I', r', q'⟩
/-- o & t, t a tuple -/
def rOwnAndT (K : PySem.W.Frag) (C : Addr) (sp : Sp) (E : XK) : R2 := fun x y H Q => ∃ a dx fs b xs, x = .ref a ∧ H a = some (.ins C dx fs) ∧ y = .ref b ∧ SqT K H b xs ∧ sp [x, y] H Q E
structure AndT (K : PySem.W.Frag) (C : Addr) : Prop where
  rc : PySem.W.findIn K (.ref C) "__rand__" = some none
  fo : PySem.W.findIn K (.type "tuple") "__and__" = some none
  ro : PySem.W.findIn K (.type "tuple") "__rand__" = some none
  sb : PySem.W.subIn K (.type "tuple") (.ref C) = some false
theorem op_ownAndT (F : FnOk X.prog X.w X.K X.mg X.base CX n f fd ps sp) (o : OwnM X C "__and__" f) (hc : PySem.W.selfFirst X.K C = true) (ai : AndT X.K C) (hr : Room n X.A) (hb : Binds X.K fd ps []) (hx : Passes CX X E) : OpR X (binaryOp .BitAnd) (rOwnAndT X.K C sp E) := by
  intro pins s σ H x y u v Q I rx ry h
  obtain ⟨a, dx, fs, b, xs, rfl, ha, rfl, hb', q⟩ := h
  cases rx
  cases ry
  obtain ⟨ox, od, J⟩ := inst_at I ha
  obtain ⟨its, rv, ⟨ob, ho, hcl, nn, hd⟩, hz⟩ := I.tuple hb'
  obtain ⟨m, hF⟩ := I.fr
  refine bin_ownT (T := "tuple") hF I.ok.mod.kin J (hcl ▸ (PySem.W.Looks.ld ho).andThen .now) hc o.fs o.fn ai.rc ai.fo ai.ro ai.sb (wpAny_mono (run_at F ⟨hr, rfl⟩ hb hx I (vs := [.ref a, .ref b]) (.cons rfl (.cons rfl .nil)) q) (fun v s' z => ?_) fun _ _ e => e)
  obtain ⟨zv, H', I', r', q'⟩ := z
  refine not_ni r' fun ne => ?_
  cases v <;> first | exact absurd rfl ne | exact ⟨zv, H', I', r', q'⟩
end
end OW
namespace K40
open PySem L2
open PyProof.Rows PySem.Spec OW
section
variable {P : Program} {w : World} {K : PySem.W.Frag}
                                                      {mg : Str → Option Value} {base : Heap}
def sp_w_parted (K : PySem.W.Frag) (C : Addr) : Sp := fun vs H Q _ => ∃ (r p nl : Addr) (t : Int) (B : Rws) (ns : List Str), vs = [.ref r, .ref p, .ref nl] ∧ Rl H r ∧ SpS H C p t B r ∧ SqL K H nl (ns.map V.str) ∧ nl ≠ r ∧ ns.Perm (B.map (·.1)) ∧ (∀ x ∈ B, Near 1000 x) ∧
  ∀ H', Only r H H' → Rl H' r → Q (.bl true) H'
theorem ok_w_parted (T : T K mg) (U : UX K mg) (ai : AddI K U.C) (an : AndT K U.C) : GW.FnG P w K mg base CX0 11 T.f_w_parted_right T.d_w_parted_right ["tray", "both", "names"] (sp_w_parted K U.C) := by
  have G_w_roll : FnOk P w K mg base CX0 1 T.f_w_roll T.d_w_roll ["tray", "total"] (sp_w_roll K) := ok_w_roll T
  have G_add : FnOk P w K mg base CX0 8 U.ma.f U.ma.d ["self", "other"] (sp_addS K U.C) := ok_addS T U
  have G_eq : FnOk P w K mg base CX0 3 U.me.f U.me.d ["self", "other"] (sp_eq K U.C) := ok_eq T U
  have Gi : FnOk P w K mg base CX0 1 U.pi.g U.pi.d ["self"] (getSp U.C "_interval") := ok_get U.cl U.pi sc_Spans_interval U.n1 ⟨_, _, _, rfl⟩
  have Gr : FnOk P w K mg base CX0 1 U.pr.g U.pr.d ["self"] (sp_rows K U.C) := ok_rows T U
  have G_w_few : FnOk P w K mg base CX0 2 T.f_w_few T.d_w_few ["tray", "items", "many"] (sp_w_few K) := ok_w_few T
  have G_or : FnOk P w K mg base CX0 8 U.mr.f U.mr.d ["self", "other"] (sp_or K U.C) := ok_or T U
  have G_and : FnOk P w K mg base CX0 8 U.mn.f U.mn.d ["self", "other"] (sp_and K U.C) := ok_and T U
  have G_eqN : FnOk P w K mg base CX0 3 U.me.f U.me.d ["self", "other"] (sp_eqN K U.C) := ok_eqN T U
  have Gn : FnOk P w K mg base CX0 1 U.pn.g U.pn.d ["self"] (getSp U.C "_names") := ok_get U.cl U.pn sc_Spans_names U.n3 ⟨_, _, _, rfl⟩
  have Gg : FnOk P w K mg base CX0 1 U.mi.f U.mi.d ["self", "name"] (sp_item K U.C) := ok_item T U
  refine GW.FunG.okG T.F_w_parted_right sc_w_parted_right (fun vs H Q E h => ?_) (fun cdv A outer s H vs Q E hg hr h => ?_)
  · obtain ⟨r, p, nl, t, B, ns, rfl, _⟩ := h
    rfl
  · obtain ⟨r, p, nl, t, B, ns, rfl, R0, sp, hnl, nlr, pmn, near, k⟩ := h
    have hu := hu_of hr
    have hgd : (cxOf CX0 P w K mg base ["tray", "both", "names", "some", "part", "due", "rest", "name"] "_law_parted_right" (defScope s_w_parted_right) T.f_w_parted_right cdv A outer s H E).nox.A.guards = some [] := hg
    have hr_w_few : Room 2 _ := hr.mono (by decide)
    have hr_w_roll : Room 1 _ := hr.mono (by decide)
    refine ⟨_, (pss_cons (ps_set (i := 3) sc_w_parted_right.nd rfl (Or.inr rfl) (pe_callTy call_tuple_of (by rfl) T.z_tuple (by decide +kernel) (pa_cons (pe_callB cr_sortedS (by rfl) T.z_sorted (by decide +kernel) (pa_cons (pe_call G_w_few hr_w_few rfl T.m_w_few T.F_w_few.kp T.b_w_few .nil pass0 (pa_cons (pv 0) (pa_cons (pv 2) (pa_cons (pe_op op_add pe_int (pe_call G_w_roll hr_w_roll rfl T.m_w_roll T.F_w_roll.kp T.b_w_roll .nil pass0 (pa_cons (pv 0) (pa_cons (pe_callB call_len (by rfl) T.z_len (by decide +kernel) (pa_cons (pv 2) pa_nil)) pa_nil)))) pa_nil)))) pa_nil)) pa_nil)))
      (pss_cons (ps_par (i := 4) (j := 5) (by rfl) sc_w_parted_right.nd rfl rfl (by decide) rfl rfl (pa_cons (pe_op (OW.op_ownAndT G_and ⟨U.mn.m.at_, U.mn.m.fn⟩ U.sf an (hr.mono (by decide)) U.mn.b pass0) (pv 1) (pv 3)) (pa_cons (pe_callTy (call_dictP rfl) (by rfl) T.z_dict (by decide +kernel) (pa_cons (pe_lc (own := [("name", 7)]) (g := gName 7) rfl sc_w_parted_right.nd (pi_tup (pv 3)) (blkOk_by (N := ["tray", "both", "names", "some", "part", "due", "rest", "name"]) (sc := defScope s_w_parted_right) (by decide +kernel)) (fun _ _ _ _ _ => (pg_name (i := 7) sc_w_parted_right.nd rfl (Or.inl rfl))) (fun _ _ _ _ _ => pts_nil) (fun _ _ _ _ _ => (pe_tup (pa_cons (pv 7) (pa_cons (OW.pe_ownItem (pv 1) (pv 7) Gg ⟨U.mi.m.at_, U.mi.m.fn⟩ U.fn (hr.mono (by decide)) U.mi.b pass0 (fun _ _ => rfl)) pa_nil))))) pa_nil)) pa_nil)) (by rfl))
      (pss_cons (ps_if (PW.pt (pw_or (pt_cmpR op_ne (pe_callB (RL.cr_reprD hgd (un64 hr)) (by rfl) T.z_repr (by decide +kernel) (pa_cons (pe_prop (pv 4) U.cl U.pr.pr Gr (hr.mono (by decide)) U.pr.b .nil pass0 rfl) pa_nil)) (pe_callB (RL.cr_reprD hgd (un64 hr)) (by rfl) T.z_repr (by decide +kernel) (pa_cons (pv 5) pa_nil)) (nomark _)) (pw_or1 (pt_cmpR (OW.op_ownNe G_eq ⟨U.me.m.at_, U.me.m.fn⟩ U.mo U.ne (hr.mono (by decide)) U.me.b pass0) (pe_op (OW.op_ownAndT G_and ⟨U.mn.m.at_, U.mn.m.fn⟩ U.sf an (hr.mono (by decide)) U.mn.b pass0) (pv 1) (pe_prop (pv 1) U.cl U.pn.pr Gn (hr.mono (by decide)) U.pn.b .nil pass0 rfl)) (pv 1) (nomark _)))))
      (pss_one (ps_ret pe_bl))
      pss_nil)
      (pss_cons (ps_if (pt_cmpR op_eq (pe_callB call_len (by rfl) T.z_len (by decide +kernel) (pa_cons (pv 3) pa_nil)) (pe_callB call_len (by rfl) T.z_len (by decide +kernel) (pa_cons (pv 2) pa_nil)) (nomark _))
      (pss_one (ps_ret (pe_cmpR (OW.op_ownEq G_eq ⟨U.me.m.at_, U.me.m.fn⟩ (hr.mono (by decide)) U.me.b pass0) (pv 4) (pv 1) (nomark _))))
      pss_nil)
      (pss_cons (ps_set (i := 6) sc_w_parted_right.nd rfl (Or.inl rfl) (pe_callTy call_tuple_of (by rfl) T.z_tuple (by decide +kernel) (pa_cons (pe_lc (own := [("name", 7)]) (g := gName 7) rfl sc_w_parted_right.nd (pi_list (pe_callB cr_sortedS (by rfl) T.z_sorted (by decide +kernel) (pa_cons (pv 2) pa_nil))) (blkOk_by (N := ["tray", "both", "names", "some", "part", "due", "rest", "name"]) (sc := defScope s_w_parted_right) (by decide +kernel)) (fun _ _ _ _ _ => (pg_name (i := 7) sc_w_parted_right.nd rfl (Or.inl rfl))) (fun _ _ _ _ _ => pts_one (pt_cmpR (r := rIn K true) op_notIn_seq (pv 7) (pv 3) (by with_unfolding_all rfl))) (fun _ _ _ _ _ => (pv 7))) pa_nil)))
      (pss_cons (ps_if (PW.pt (pw_or (pt_cmpR (OW.op_ownEq G_eqN ⟨U.me.m.at_, U.me.m.fn⟩ (hr.mono (by decide)) U.me.b pass0) (pv 4) (pv 1) (nomark _)) (pw_or1 (pt_cmpR (OW.op_ownNe G_eq ⟨U.me.m.at_, U.me.m.fn⟩ U.mo U.ne (hr.mono (by decide)) U.me.b pass0) (pe_op (OW.op_ownOr G_or ⟨U.mr.m.at_, U.mr.m.fn⟩ U.sf (hr.mono (by decide)) U.mr.b pass0) (pv 4) (pe_op (OW.op_ownAndT G_and ⟨U.mn.m.at_, U.mn.m.fn⟩ U.sf an (hr.mono (by decide)) U.mn.b pass0) (pv 1) (pv 6))) (pv 1) (nomark _)))))
      (pss_one (ps_ret pe_bl))
      pss_nil)
      (pss_one (ps_ret (pe_cmpR (OW.op_ownEq G_eq ⟨U.me.m.at_, U.me.m.fn⟩ (hr.mono (by decide)) U.me.b pass0) (pe_op (OW.op_ownOr G_or ⟨U.mr.m.at_, U.mr.m.fn⟩ U.sf (hr.mono (by decide)) U.mr.b pass0) (pe_op (op_ownAddI G_add ⟨U.ma.m.at_, U.ma.m.fn⟩ U.sf ai (hr.mono (by decide)) U.ma.b pass0) (pv 4) pe_int) (pe_op (OW.op_ownAndT G_and ⟨U.mn.m.at_, U.mn.m.fn⟩ U.sf an (hr.mono (by decide)) U.mn.b pass0) (pe_op (op_ownAddI G_add ⟨U.ma.m.at_, U.ma.m.fn⟩ U.sf ai (hr.mono (by decide)) U.ma.b pass0) (pv 1) pe_int) (pv 6))) (pe_op (op_ownAddI G_add ⟨U.ma.m.at_, U.ma.m.fn⟩ U.sf ai (hr.mono (by decide)) U.ma.b pass0) (pv 1) pe_int) (nomark _)))))))))), ?_⟩
    obtain ⟨g, so, dx, rd, nm, lv, cr, L0, LL, LC, h1, h2, h3, h4, _⟩ := id sp
    have t1 := g.t1
    have t2 := g.t2
    have gl1 := g.l1
    have gl8 := g.l8
    have nd := g.nd
    have ln : ns.length = B.length := by rw [pmn.length_eq, List.length_map]
    have ndn : ns.Nodup := pmn.nodup_iff.mpr nd
    -- some
    have hlog : ((((ns.map V.str).length : Nat) : Int)).natAbs.log2 < 9000 := by
      rw [List.length_map, Int.natAbs_natCast]
      have : ns.length.log2 < 8 := PySem.Flt.log2_lt_of (by decide) (by omega)
      omega
    refine ⟨_, rfl, _, rfl, _, rfl, _, rfl, _, _, rfl, .inl ⟨_, hnl, rfl⟩, r, _, rfl, R0, by rw [List.length_map]; omega, hlog, fun u H1 u0 u1 R1 O1 => ⟨_, _, rfl, rfl, ?_⟩⟩
    rw [List.length_map] at u1
    have hnl1 := Only.seqL O1 nlr hnl
    refine ⟨r, nl, _, _, rfl, R1, .inl hnl1, by rw [List.length_map]; omega, by omega, by omega, fun l2 ys rest H2 R2 O2 hl2 el2 pm ly => ?_⟩
    obtain ⟨zs, rfl, mzs, ndz⟩ := few_of (f := V.str) (xs := ns) (fun a _ b _ h => V.str.inj h) ndn pm
    rw [List.length_map, List.length_map] at ly
    have lz0 : 1 ≤ zs.length := by split at ly <;> omega
    have lz8 : zs.length ≤ ns.length := by split at ly <;> omega
    refine ⟨l2, zs, rfl, SqL.of el2, by omega, fun ss p3 pm3 so3 hp3 => ?_⟩
    have A3 := Same.new (o := .lst (ss.map V.str)) hp3
    have ep3 : (upd H2 p3 (.lst (ss.map V.str))) p3 = some (.lst (ss.map V.str)) := upd_same
    generalize upd H2 p3 (.lst (ss.map V.str)) = H3 at A3 ep3 ⊢
    refine ⟨p3, _, rfl, .inl ⟨SqL.of ep3, fun q3 hq3 => ?_⟩⟩
    have A4 := Same.new (o := .tup (ss.map V.str)) hq3
    have eq3 : (upd H3 q3 (.tup (ss.map V.str))) q3 = some (.tup (ss.map V.str)) := upd_same
    have A34 := Same.trans A3 A4
    generalize upd H3 q3 (.tup (ss.map V.str)) = H4 at A34 eq3 ⊢
    have P4 : Only r H H4 := Only.trans O1 (Only.trans O2 (Same.only A34))
    have R4 := Same.rl A34 R2
    have sp4 := sp.only P4 R0
    have hnl4 := Only.seqL P4 nlr hnl
    have nds : ss.Nodup := pm3.nodup_iff.mpr ndz
    have lss : ss.length = zs.length := pm3.length_eq
    have ins : ∀ n ∈ ss, n ∈ B.map (·.1) := fun n hn => pmn.mem_iff.mp (mzs n (pm3.mem_iff.mp hn))
    have nes : ss ≠ [] := fun z => by rw [z] at lss; simp at lss; omega
    clear A3 A4 ep3 hp3 hq3 hl2 el2 pm A34 O2 O1 hnl1
    have rn4 : H4 r ≠ none := fun z => by
      obtain ⟨_, _, _, e⟩ := R4
      rw [e] at z
      cases z
    have fin : ∀ H', Same H4 H' → Q (.bl true) H' := fun H' s => k H' (Only.trans P4 (Same.only s)) (Same.rl s R4)
    -- part
    obtain ⟨_, _, dx4, rd4, nm4, lv4, cr4, L4, LL4, LC4, h14, _, _, h44, _⟩ := id sp4
    refine ⟨_, rfl, _, rfl, p, dx4, _, q3, _, rfl, h14, rfl, SqT.of eq3, p, q3, t, B, r, ss, rfl, sp4, eq3, nes, by omega, so3, nds, ins, fun pa H5 S5 _ spa => ?_⟩
    have spP := spa r rn4
    clear spa
    obtain ⟨gP, soP, dxp, rdp, nmp, lvp, crp, Lp, LLp, LCp, hp5, _⟩ := id spP
    have sp5 := sp4.same S5
    have h15 := S5 _ _ h14
    have eq35 := S5 _ _ eq3
    -- due
    refine ⟨_, rfl, q3, rfl, ⟨_, SqT.of eq35⟩, fun D hD => ?_⟩
    refine lc_it (walk_tup (K := K) (a := q3) (xs := ss.map V.str)) (fun i H' => Same H5 H' ∧ ∃ (ps : List Addr) (M : List (Str × Addr)), H' D = some (.lst (ps.map V.ref)) ∧ PairsAt H' ps M ∧ Tups H' M (pickR B (ss.take i)) ∧ ps.length = i) ⟨Same.new hD, [], [], upd_same, .nil, .nil, rfl⟩ (fun i H' _ h => SqT.of (h.1 _ _ eq35)) ?_ ?_
    · rintro i x Hx Hx' hi ⟨Sx, ps, M, eD, pr, tm, lps⟩ ⟨rfl, hx⟩
      rw [List.getElem?_map] at hx
      rw [List.length_map] at hi
      cases e2 : ss[i]? with
      | none => rw [e2] at hx; cases hx
      | some n =>
        rw [e2] at hx
        cases hx
        have hn := ins n (List.mem_of_getElem? e2)
        refine ⟨rfl, ?_⟩
        unfold tYes
        dsimp only
        rw [if_pos rfl]
        refine ⟨_, rfl, _, rfl, _, rfl, p, dx4, _, rfl, Sx _ _ h15, p, t, B, n, _, _, rfl, (sp5.same Sx).weak, spn_in nd hn, fun a1 e1 => ?_⟩
        refine ⟨by show 2 ≤ sizeLine; decide, fun q hq => ?_⟩
        have B1 := Same.new (o := .tup [V.str n, .ref a1]) hq
        have x1 : (upd Hx' q (.tup [V.str n, .ref a1])) q = some (.tup [V.str n, .ref a1]) := upd_same
        generalize upd Hx' q (.tup [V.str n, .ref a1]) = Hy at B1 x1 ⊢
        have eDy := B1 _ _ eD
        have kt : KT Hy (upd Hy D (.lst (ps.map V.ref ++ [V.ref q]))) := KT.put eDy (fun _ z => by cases z)
        refine ⟨_, eDy, by rw [List.length_map, lps, sizeLine_eq]; omega, Same.at hD (Same.trans Sx B1), ps ++ [q], M ++ [(n, a1)], by rw [upd_same, List.map_append]; rfl, (pr.keep (KT.trans (KT.same B1) kt)).snoc (kt _ _ x1), ?_, by rw [List.length_append, lps]; rfl⟩
        rw [List.take_add_one, e2]
        show Tups _ _ (pickR B (ss.take i ++ [n]))
        rw [pickR_snoc2]
        exact (tm.keep (KT.trans (KT.same B1) kt)).snoc (kt _ _ (B1 _ _ e1))
    rintro H6 ⟨S6, ps, M, eD, pr, tm, lps⟩
    rw [List.length_map, List.take_length] at tm
    refine ⟨D, ps, Kvs M, rfl, SqL.of eD, pr.pd, fun du hdu => ?_⟩
    have ndM : (M.map (·.1)).Nodup := by
      rw [tm.names, pickR_names]
      exact nds
    have e0 : mergeK [] (Kvs M) = Kvs M := mergeK_kvs M [] (by simpa using ndM)
    rw [e0]
    have S67 := Same.new (o := .dK (Kvs M)) hdu
    have edu : (upd H6 du (.dK (Kvs M))) du = some (.dK (Kvs M)) := upd_same
    have tdu := tm.keep (KT.same S67)
    have S57 := Same.trans S6 S67
    generalize upd H6 du (.dK (Kvs M)) = H7 at S57 edu tdu ⊢
    clear S6 S67 eD pr tm hD hdu
    have S47 := Same.trans S5 S57
    have spP7 := spP.same S57
    have hp7 := S57 _ _ hp5
    -- the rows of the part
    have tt := (TD.rows gP).tell (by decide) (by decide)
    refine ⟨_, _, rfl, ?_⟩
    refine ⟨_, rfl, pa, dxp, _, rfl, hp7, pa, t, _, r, rfl, spP7, fun q1 L1 hq1 tq1 => ?_⟩
    have C1 := Same.new (o := .dK (Kvs L1)) hq1
    have eq1 : (upd H7 q1 (.dK (Kvs L1))) q1 = some (.dK (Kvs L1)) := upd_same
    have tq1 := tq1.keep (KT.same C1)
    generalize upd H7 q1 (.dK (Kvs L1)) = H8 at C1 eq1 tq1 ⊢
    refine ⟨q1, _, rfl, rows_ds eq1 tq1, tt.1, tt.2.1, tt.2.2, ?_⟩
    refine ⟨_, rfl, du, _, rfl, rows_ds (C1 _ _ edu) (tdu.keep (KT.same C1)), tt.1, tt.2.1, tt.2.2, ?_⟩
    refine ⟨rfl, _, rfl, ?_⟩
    rw [decide_eq_true rfl]
    refine iteF ?_
    have S48 := Same.trans S47 C1
    have sp8 := sp4.same S48
    have spP8 := spP7.same C1
    have h18 := S48 _ _ h14
    have h48 := S48 _ _ h44
    have hp8 := C1 _ _ hp7
    clear C1 eq1 tq1 edu tdu S57 S47 spP7 hp7 sp5 h15 eq35 spP hp5 S5
    -- all names
    have pB : pickR B (B.map (·.1)) = B := pick_sub nd fun x h => h
    have neB : B.map (·.1) ≠ [] := fun z => by
      have := congrArg List.length z
      rw [List.length_map] at this
      simp at this
      rw [this] at gl1
      simp at gl1
    refine ⟨_, rfl, _, rfl, p, dx4, _, rfl, h18, p, dx4, _, .ref nm4, rfl, h18, rfl, p, dx4, _, nm4, _, rfl, h18, rfl, SqT.of h48, p, nm4, t, B, r, B.map (·.1), rfl, sp8, h48, neB, by rw [List.length_map]; omega, so, nd, fun n h => h, fun pb H9 S9 _ spb => ?_⟩
    have wb := (spb r (some_same S48 rn4)).weak
    rw [pB] at wb
    have sp9 := sp8.same S9
    obtain ⟨dxb, fsb, eb⟩ := wb.ins
    refine ⟨_, rfl, pb, dxb, fsb, _, rfl, eb, sp9.weak.tyd, self_nf, pb, t, _, p, t, _, rfl, wb, sp9.weak, fun _ => rfl, _, rfl, _, rfl, ?_⟩
    rw [eqT t (rfl : B = B)]
    refine iteF ?_
    have S49 := Same.trans S48 S9
    have spP9 := spP8.same S9
    have h19 := S9 _ _ h18
    have hp9 := S9 _ _ hp8
    have eq39 := S49 _ _ eq3
    have hnl9 := Only.seqL (Same.only (r := r) S49) nlr hnl4
    clear sp8 spP8 h18 h48 hp8 S48 S9 wb eb spb
    -- all chosen
    refine ⟨_, rfl, _, _, rfl, .inr ⟨_, SqT.of eq39, rfl⟩, _, rfl, _, _, rfl, .inl ⟨_, hnl9, rfl⟩, rfl, _, rfl, ?_⟩
    rw [List.length_map, List.length_map]
    by_cases hl : ss.length = ns.length
    · rw [hl, decide_eq_true rfl]
      refine iteT ?_
      have pms : ss.Perm (B.map (·.1)) := by
        refine (List.perm_ext_iff_of_nodup nds nd).mpr fun a => ⟨ins a, fun ha => ?_⟩
        rcases Decidable.em (a ∈ ss) with z | z
        · exact z
        · have := (List.nodup_cons.mpr ⟨z, nds⟩).length_le_of_subset (l₂ := B.map (·.1)) fun b hb => by
            rcases List.mem_cons.mp hb with rfl | hb
            · exact ha
            · exact ins b hb
          rw [List.length_cons, List.length_map] at this
          omega
      have es : ss = B.map (·.1) := sorted_eq (xs := B.map (·.1)) pms (List.Perm.refl _) so3 so
      have wP := spP9.weak
      rw [es, pB] at wP
      refine ⟨_, rfl, _, rfl, pa, dxp, _, _, rfl, hp9, sp9.weak.tyd, self_nf, pa, t, _, p, t, _, rfl, wP, sp9.weak, fun _ => rfl, ?_⟩
      have e1 : (decide (t = t) && decide (B = B)) = true := by rw [decide_eq_true rfl, decide_eq_true rfl]; rfl
      rw [e1]
      exact fin _ S49
    rw [decide_eq_false (fun z => hl (by have := V.int.inj z; omega))]
    refine iteF ?_
    have lt : ss.length < ns.length := by omega
    -- rest
    refine ⟨_, rfl, nl, ns, rfl, hnl9, by omega, fun ms p7 pm7 so7 hp7 => ?_⟩
    have em : ms = B.map (·.1) := sorted_eq (xs := ns) pm7 pmn.symm so7 so
    rw [em]
    have C7 := Same.new (o := .lst ((B.map (·.1)).map V.str)) hp7
    have ep7 : (upd H9 p7 (.lst ((B.map (·.1)).map V.str))) p7 = some (.lst ((B.map (·.1)).map V.str)) := upd_same
    have eq3a := C7 _ _ eq39
    generalize upd H9 p7 (.lst ((B.map (·.1)).map V.str)) = Ha at C7 ep7 eq3a ⊢
    refine ⟨p7, rfl, ⟨_, SqL.of ep7⟩, fun D hD => ?_⟩
    refine lc_it (walk_list (K := K) (a := p7) (xs := (B.map (·.1)).map V.str)) (fun i H' => Same Ha H' ∧ H' D = some (.lst ((((B.map (·.1)).take i).filter fun n => decide (n ∉ ss)).map V.str))) ⟨Same.new hD, upd_same⟩ (fun i H' _ h => SqL.of (h.1 _ _ ep7)) ?_ ?_
    · rintro i x Hx Hx' hi ⟨Sx, eD⟩ ⟨rfl, hx⟩
      rw [List.getElem?_map] at hx
      rw [List.length_map, List.length_map] at hi
      cases e2 : (B.map (·.1))[i]? with
      | none => rw [e2] at hx; cases hx
      | some n =>
        rw [e2] at hx
        cases hx
        refine ⟨rfl, ?_⟩
        refine ⟨_, rfl, _, rfl, q3, _, rfl, .inr (SqT.of (Sx _ _ eq3a)), rfl, flat_strs _, _, rfl, ?_⟩
        rw [inV_strs]
        have tk : ((B.map (·.1)).take (i + 1)).filter (fun n => decide (n ∉ ss)) = ((B.map (·.1)).take i).filter (fun n => decide (n ∉ ss)) ++ (if n ∈ ss then [] else [n]) := by
          rw [List.take_add_one, e2, List.filter_append]
          congr 1
          by_cases z : n ∈ ss
          · simp [z]
          · simp [z]
        by_cases z : n ∈ ss
        · rw [decide_eq_true z]
          refine iteF ?_
          refine ⟨Sx, ?_⟩
          rw [tk, if_pos z, List.append_nil]
          exact eD
        · rw [decide_eq_false z]
          refine iteT ?_
          refine ⟨_, rfl, _, eD, ?_, Same.at hD Sx, ?_⟩
          · rw [List.length_map, sizeLine_eq]
            have := List.length_filter_le (fun n => decide (n ∉ ss)) ((B.map (·.1)).take i)
            rw [List.length_take] at this
            omega
          · rw [upd_same, tk, if_neg z, List.map_append]
            rfl
    rintro Hb ⟨Sb, eD⟩
    rw [List.length_map, List.take_length] at eD
    refine ⟨D, _, rfl, .inl ⟨SqL.of eD, fun q8 hq8 => ?_⟩⟩
    generalize hmm : (B.map (·.1)).filter (fun n => decide (n ∉ ss)) = mm at eD ⊢
    have C8 := Same.new (o := .tup (mm.map V.str)) hq8
    have eq8 : (upd Hb q8 (.tup (mm.map V.str))) q8 = some (.tup (mm.map V.str)) := upd_same
    have S9c := Same.trans C7 (Same.trans Sb C8)
    generalize upd Hb q8 (.tup (mm.map V.str)) = Hc at S9c eq8 ⊢
    clear C7 C8 Sb eD hq8 hD ep7 hp7 eq3a
    have insm : ∀ n ∈ mm, n ∈ B.map (·.1) := fun n hn => by
      rw [← hmm] at hn
      exact (List.mem_filter.mp hn).1
    have nim : ∀ n ∈ mm, n ∉ ss := fun n hn => by
      rw [← hmm] at hn
      simpa using (List.mem_filter.mp hn).2
    have ndm : mm.Nodup := by rw [← hmm]; exact nd.filter _
    have som : sortedS mm = true := by
      rw [← hmm]
      exact sorted_of ((sortedS_pw so).filter _)
    have pmm : (ss ++ mm).Perm (B.map (·.1)) := by
      refine (List.perm_ext_iff_of_nodup ?_ nd).mpr fun a => ?_
      · rw [List.nodup_append]
        exact ⟨nds, ndm, fun x hx y hy e => nim y hy (e ▸ hx)⟩
      · rw [List.mem_append]
        refine ⟨fun h => h.elim (ins a) (insm a), fun h => ?_⟩
        rcases Decidable.em (a ∈ ss) with z | z
        · exact .inl z
        · refine .inr ?_
          rw [← hmm, List.mem_filter]
          exact ⟨h, by simpa using z⟩
    have lmm : ss.length + mm.length = B.length := by
      have := pmm.length_eq
      rw [List.length_append, List.length_map] at this
      exact this
    have nem : mm ≠ [] := fun z => by
      rw [z] at lmm
      simp at lmm
      omega
    have sp10 := sp9.same S9c
    have spP10 := spP9.same S9c
    have h1c := S9c _ _ h19
    have hpc := S9c _ _ hp9
    have S4c := Same.trans S49 S9c
    have rnc := some_same S4c rn4
    have lpick : (pickR B ss).length = ss.length := by unfold pickR; rw [List.length_map]
    have lpickm : (pickR B mm).length = mm.length := by unfold pickR; rw [List.length_map]
    refine ⟨_, rfl, _, rfl, pa, dxp, _, _, rfl, hpc, sp10.weak.tyd, self_nf, pa, t, _, p, _, rfl, spP10.weak, sp10.weak, by rw [lpick]; omega, _, rfl, iteF ?_⟩
    -- part | (both & rest)
    refine ⟨_, rfl, _, rfl, _, rfl, p, dx4, _, q8, _, rfl, h1c, rfl, SqT.of eq8, p, q8, t, B, r, mm, rfl, sp10, eq8, nem, by omega, som, ndm, insm, fun pr Hd Sd _ spr => ?_⟩
    have wr := spr r rnc
    obtain ⟨_, _, dxr, rdr, nmr, lvr, crr, Lr, LLr, LCr, hr1, _⟩ := id wr
    refine ⟨pa, dxp, _, pr, dxr, _, rfl, Sd _ _ hpc, rfl, hr1, pa, pr, t, pickR B ss, pickR B mm, r, r, rfl, spP10.same Sd, wr, fun n h1 h2 => by rw [pickR_names] at h1 h2; exact nim n h2 h1, by rw [lpick, lpickm]; omega, fun pw He X Se _ srd spw => ?_⟩
    have eX : X = B := pick_two nd so pmm srd
    have ww := (spw r (some_same Sd rnc)).weak
    rw [eX] at ww
    obtain ⟨dxw, fsw, ew⟩ := ww.ins
    have Sde := Same.trans Sd Se
    have sp11 := sp10.same Sde
    have spP11 := spP10.same Sde
    refine ⟨_, rfl, pw, dxw, fsw, _, rfl, ew, sp11.weak.tyd, self_nf, pw, t, _, p, t, _, rfl, ww, sp11.weak, fun _ => rfl, _, rfl, _, rfl, ?_⟩
    rw [eqT t (rfl : B = B)]
    refine iteF ?_
    -- moved by five
    have nb : ∀ x ∈ B, -800000000000 ≤ x.2.1 ∧ x.2.2 ≤ 800000000000 := fun x hx => by
      have := near x hx
      unfold Near at this
      omega
    have nbP : ∀ x ∈ pickR B ss, -800000000000 ≤ x.2.1 ∧ x.2.2 ≤ 800000000000 := fun x hx => nb x (pick_mem nd ins x hx)
    have S4e := Same.trans S4c Sde
    have rne := some_same S4e rn4
    have h1e := Sde _ _ h1c
    have hpe := Sde _ _ hpc
    have eq8e := Sde _ _ eq8
    refine ⟨_, rfl, pa, dxp, _, 5, rfl, hpe, rfl, pa, t, 5, pickR B ss, r, rfl, spP11, nbP, ⟨by omega, by omega⟩, fun m1 Hf Sf _ s1 => ?_⟩
    have w1 := s1 r rne
    refine ⟨_, rfl, p, dx4, _, 5, rfl, Sf _ _ h1e, rfl, p, t, 5, B, r, rfl, sp11.same Sf, nb, ⟨by omega, by omega⟩, fun m2 Hg Sg _ s2 => ?_⟩
    have w2 := s2 r (some_same Sf rne)
    obtain ⟨_, _, dx2, rd2, nm2, lv2, cr2, L2', LL2, LC2, hm2, _⟩ := id w2
    have Sfg := Same.trans Sf Sg
    have eq8g := Sfg _ _ eq8e
    have ins5 : ∀ n ∈ mm, n ∈ (farR 5 B).map (·.1) := fun n hn => by rw [farR_names]; exact insm n hn
    refine ⟨_, rfl, m2, dx2, _, q8, _, rfl, hm2, rfl, SqT.of eq8g, m2, q8, t, farR 5 B, r, mm, rfl, w2, eq8g, nem, by omega, som, ndm, ins5, fun m3 Hh Sh _ s3 => ?_⟩
    have w3 := s3 r (some_same Sfg rne)
    have Sgh := Same.trans Sg Sh
    have w1 := w1.same Sgh
    obtain ⟨_, _, dx1, rd1, nm1, lv1, cr1, L1', LL1, LC1, hm1, _⟩ := id w1
    obtain ⟨_, _, dx3, rd3, nm3, lv3, cr3, L3', LL3, LC3, hm3, _⟩ := id w3
    have lf1 : (farR 5 (pickR B ss)).length = ss.length := by unfold farR; rw [List.length_map, lpick]
    have lf3 : (pickR (farR 5 B) mm).length = mm.length := by unfold pickR; rw [List.length_map]
    refine ⟨m1, dx1, _, m3, dx3, _, rfl, hm1, rfl, hm3, m1, m3, t, farR 5 (pickR B ss), pickR (farR 5 B) mm, r, r, rfl, w1, w3, fun n h1 h2 => by rw [farR_names, pickR_names] at h1; rw [pickR_names] at h2; exact nim n h2 h1, by rw [lf1, lf3]; omega, fun m4 Hi X2 Si _ srd2 s4 => ?_⟩
    have Sfh := Same.trans Sf Sgh
    have w4 := s4 r (some_same Sfh rne)
    have nd5 : ((farR 5 B).map (·.1)).Nodup := by rw [farR_names]; exact nd
    have eX2 : X2 = farR 5 B := by
      rw [← pick_far nd 5 ins] at srd2
      exact pick_two nd5 (by rw [farR_names]; exact so) (by rw [farR_names]; exact pmm) srd2
    have Sfi := Same.trans Sfh Si
    refine ⟨_, rfl, p, dx4, _, 5, rfl, Sfi _ _ h1e, rfl, p, t, 5, B, r, rfl, sp11.same Sfi, nb, ⟨by omega, by omega⟩, fun m5 Hj Sj _ s5 => ?_⟩
    have w5 := (s5 r (some_same Sfi rne)).weak
    have w4 := (w4.same Sj).weak
    rw [eX2] at w4
    obtain ⟨dxv, fsv, ev⟩ := w4.ins
    refine ⟨m4, dxv, fsv, _, rfl, ev, w5.tyd, self_nf, m4, t, _, m5, t, _, rfl, w4, w5, fun _ => rfl, ?_⟩
    have e1 : (decide (t = t) && decide (farR 5 B = farR 5 B)) = true := by rw [decide_eq_true rfl, decide_eq_true rfl]; rfl
    rw [e1]
    exact fin _ (Same.trans S4e (Same.trans Sfi Sj))
end
end K40
/-! a generator whose values, pairs of a text and an int, are walked by a list comprehension: the list stands at D, the block's names at C; each value is made into a new tuple, its int raised by k -/
namespace GC2
open PySem PySem.Spec PyProof.Rows GenW L2
/-- the object of a tuple of a text and an int -/
def Tob (n : Str) (v : Int) (o : Obj) : Prop := o.cls = .type "tuple" ∧ ∃ t1 t2 m, o.data = .seq #[Value.str n t1, Value.int v t2] m
/-- while the generator sleeps, a new tuple is put behind the list, and the block's names change -/
structure Slp (D C : Addr) (n : Str) (v : Int) (s s' : Shared) : Prop where
  os : s'.os = s.os
  bare : AllBare s'.gens
  keep : ∀ b o, b ≠ D → b ≠ C → s.heap.get? b = some o → s'.heap.get? b = some o
  own : ∀ acc c, s.heap.get? D = some (lstObj acc c) → ∃ c' q oq, s'.heap.get? D = some (lstObj (acc.push (.ref q)) c') ∧ s.heap.get? q = none ∧ C < q ∧ s'.heap.get? q = some oq ∧ Tob n v oq
  env : ∃ oC, s'.heap.get? C = some oC ∧ ∀ x, oC.data ≠ .cell x
/-- the objects of the consumer: its list, its names, its tuples so far -/
def Pp (D C : Addr) (L : List (Str × Int)) (k : Int) (j : Nat) (pp : List (Addr × Obj)) : Prop :=
  ∃ acc c oC pt, pp = (D, lstObj acc c) :: (C, oC) :: pt ∧ acc.toList = pt.map (fun p => Value.ref p.1) ∧ (∀ x, oC.data ≠ .cell x) ∧ Paired (fun (q : Str × Int) (p : Addr × Obj) => Tob q.1 (q.2 + k) p.2) (L.take j) pt ∧ (∀ p ∈ pt, p.1 ≠ D ∧ p.1 ≠ C) ∧ pt.length = j ∧ (pt.map (·.1)).Nodup
/-- away from what the generator uses -/
def Far (X : Cx) (ip : List (Addr × Obj)) (b : Addr) : Prop := (∀ r ∈ X.pn ++ ip, r.1 ≠ b) ∧ X.s_0.heap.objs.size ≤ b ∧ b ≠ X.env.locals ∧ ∀ x c, X.env.cells.lookup x = some c → c ≠ b
/-- what all of it is about -/
structure Ct where
  D : Addr
  C : Addr
  L : List (Str × Int)
  k : Int
def GI2 (X : Cx) (T : Ct) (s₀ : Shared) (ip : List (Addr × Obj)) (ys : List V) (σ : L2.St) (H : Hp) (s : Shared) : Prop :=
  ∃ pp, Pp T.D T.C T.L T.k ys.length pp ∧ (∀ p ∈ pp, Far X ip p.1) ∧ (∀ p ∈ pp, s₀.heap.get? p.1 = some p.2) ∧ Inv X (pp ++ ip) σ H s
theorem Tob.nocell {n : Str} {v : Int} {o : Obj} (h : Tob n v o) : ∀ x, o.data ≠ .cell x := fun x e => by
  obtain ⟨_, t1, t2, m, z⟩ := h
  rw [z] at e
  cases e
theorem paired_snoc {α β : Type} {F : α → β → Prop} {a : α} {b : β} (h : F a b) : ∀ {xs : List α} {ys : List β}, Paired F xs ys → Paired F (xs ++ [a]) (ys ++ [b])
  | _, _, .nil => .cons h .nil
  | _, _, .cons q t => .cons q (paired_snoc h t)
/-- woken again -/
theorem GI2.woken {X : Cx} {T : Ct} {s₀ s s' : Shared} {ip : List (Addr × Obj)} {ys : List V} {x : V} {σ : L2.St} {H : Hp} {n : Str} {v : Int} (h : GI2 X T s₀ ip ys σ H s) (hx : T.L[ys.length]? = some (n, v)) (z : Slp T.D T.C n (v + T.k) s s') :
    GI2 X T s' ip (ys ++ [x]) σ H s' := by
  obtain ⟨pp, ⟨acc, c, oC, pt, rfl, ea, hC, hp, hne, hl, hnd⟩, far, _, I⟩ := h
  obtain ⟨z1, z2, z3, z4, oC', eC', hC'⟩ := z
  have pinD := I.pin (T.D, lstObj acc c) (List.mem_append_right _ List.mem_cons_self)
  have pinC := I.pin (T.C, oC) (List.mem_append_right _ (List.mem_cons_of_mem _ List.mem_cons_self))
  obtain ⟨c', q, oq, eD', hq, hCq, eq', hT⟩ := z4 acc c pinD.1
  have nq : ∀ {b : Addr} {o : Obj}, s.heap.get? b = some o → q ≠ b := fun e w => by rw [w, e] at hq; cases hq
  have nDq : q ≠ T.D := nq pinD.1
  have nCq : q ≠ T.C := nq pinC.1
  have farD := far _ (List.mem_cons_self (a := (T.D, lstObj acc c)))
  have farC := far (T.C, oC) (List.mem_cons_of_mem _ List.mem_cons_self)
  have pinT : ∀ p ∈ pt ++ ip, s.heap.get? p.1 = some p.2 ∧ H p.1 = none ∧ p.1 ≠ X.env.locals ∧ p.1 ∉ X.fs ∧ ∀ v, p.2.data ≠ .cell v := fun p hp => I.pin p (List.mem_append_right _ (List.mem_cons_of_mem _ (List.mem_cons_of_mem _ hp)))
  have I0 : Inv X (pt ++ ip) σ H s := I.pins_of pinT
  have fq : FpOk X (pt ++ ip) H q := by
    refine ⟨I.hok.gone hq, ?_, fun hb => ?_, .inr (Nat.le_trans farC.2.1 (Nat.le_of_lt hCq)), fun x c e z => ?_, fun p hp z => nq (I0.pin p hp).1 z.symm⟩
    · obtain ⟨m, ⟨o, _, _, e, _⟩, _⟩ := I.loc
      exact nq e
    · obtain ⟨_, o, e, _⟩ := I.funs.mem hb
      exact nq e rfl
    · obtain ⟨v, o, e2, _⟩ := I.cell x c e
      exact nq e2 z.symm
  have nD : ∀ b u, H b = some u → b ≠ T.D := fun b u e w => by rw [w, pinD.2.1] at e; cases e
  have nC : ∀ b u, H b = some u → b ≠ T.C := fun b u e w => by rw [w, pinC.2.1] at e; cases e
  obtain ⟨hh, g, d, t, o⟩ := s'
  have ho : o = s.os := z1
  subst ho
  have nch : ∀ b, b ∉ [T.D, T.C] → b ≠ T.D ∧ b ≠ T.C := fun b hb => ⟨fun e => hb (by rw [e]; exact List.mem_cons_self), fun e => hb (by rw [e]; exact List.mem_cons_of_mem _ List.mem_cons_self)⟩
  have kp : ∀ b ob, b ∉ [T.D, T.C] → s.heap.get? b = some ob → hh.get? b = some ob := fun b ob hb e => z3 b ob (nch b hb).1 (nch b hb).2 e
  have J : Inv X (pt ++ ip) σ H { s with heap := hh, gens := g, drawn := d, toks := t } := by
    refine I0.step (g' := g) (t' := t) (d' := d) (ch := [T.D, T.C]) (fun b hb => ?_)
      (fun b ob _ _ hc q _ => kp b ob hc q) (fun b ob _ _ hc q _ => ⟨ob.slots, kp b ob hc q⟩) (fun _ _ _ _ n => n) (fun b ob hc q => ⟨ob, kp b ob hc q⟩)
      (fun _ _ q => q) (fun _ _ _ q => q) (fun b ps q =>
                                                         ⟨#[], by rw [q]; simp⟩) (fun m hm => ?_) (fun b u q => ?_) z2
    · have pts : ∀ p ∈ pt ++ ip, p.1 ≠ b := fun p hp w => by
        rcases List.mem_append.mp hp with hp | hp
        · rcases List.mem_cons.mp hb with e | e
          · exact (hne p hp).1 (w.trans e)
          · exact (hne p hp).2 (w.trans (List.mem_singleton.mp e))
        · rcases List.mem_cons.mp hb with e | e
          · exact farD.1 p (List.mem_append_right _ hp) (w.trans e)
          · exact farC.1 p (List.mem_append_right _ hp) (w.trans (List.mem_singleton.mp e))
      have pns : ∀ p ∈ X.pn, p.1 ≠ b := fun p hp w => by
        rcases List.mem_cons.mp hb with e | e
        · exact farD.1 p (List.mem_append_left _ hp) (w.trans e)
        · exact farC.1 p (List.mem_append_left _ hp) (w.trans (List.mem_singleton.mp e))
      have fb : X.s_0.heap.objs.size ≤ b ∧ b ≠ X.env.locals ∧ ∀ x c, X.env.cells.lookup x = some c → c ≠ b := by
        rcases List.mem_cons.mp hb with e | e
        · rw [e]; exact farD.2
        · rw [List.mem_singleton.mp e]; exact farC.2
      exact ⟨.inr fb.1, fb.2.1, fb.2.2, fun p hp => (List.mem_append.mp hp).elim (pns p) (pts p)⟩
    · obtain ⟨ob, es, ep, ho, r⟩ := hm
      exact ⟨ob, es, ep, kp _ ob (fun hb => by
        rcases List.mem_cons.mp hb with e | e
        · exact farD.2.2.1 e.symm
        · exact farC.2.2.1 (List.mem_singleton.mp e).symm) ho, r⟩
    · refine (I0.hok b u q).stay (fun c v hc y => z3 c v ?_ ?_ y) (fun _ y => y) fun _ _ y => y
      · rcases hc with y | y
        · rw [y]; exact nD b u q
        · exact nD c _ y
      · rcases hc with y | y
        · rw [y]; exact nC b u q
        · exact nC c _ y
  refine ⟨(T.D, lstObj (acc.push (.ref q)) c') :: (T.C, oC') :: (pt ++ [(q, oq)]), ⟨acc.push (.ref q), c', oC', pt ++ [(q, oq)], rfl, ?_, hC', ?_, ?_, ?_, ?_⟩, ?_, ?_, J.pins_of ?_⟩
  · rw [Array.toList_push, ea, List.map_append]
    rfl
  · rw [List.length_append, List.length_singleton, List.take_add_one, hx]
    exact paired_snoc (a := (n, v)) (b := (q, oq)) hT hp
  · intro p hp
    rcases List.mem_append.mp hp with hp | hp
    · exact hne p hp
    · rw [List.mem_singleton.mp hp]; exact ⟨nDq, nCq⟩
  · rw [List.length_append, List.length_append, hl]; rfl
  · rw [List.map_append, List.nodup_append]
    refine ⟨hnd, by simp, fun a ha b hb => ?_⟩
    rw [List.map_cons, List.map_nil, List.mem_singleton] at hb
    obtain ⟨p, hp2, rfl⟩ := List.mem_map.mp ha
    rw [hb]
    exact fun z => nq (I0.pin p (List.mem_append_right _ (List.mem_append_left _ hp2))).1 z.symm
  · intro p hp
    rcases List.mem_cons.mp hp with e | hp
    · rw [e]; exact farD
    rcases List.mem_cons.mp hp with e | hp
    · rw [e]; exact farC
    rcases List.mem_append.mp hp with hp | hp
    · exact far p (List.mem_cons_of_mem _ (List.mem_cons_of_mem _ hp))
    · rw [List.mem_singleton.mp hp]
      obtain ⟨f0, f1, f2, f3, f4, f5⟩ := fq
      refine ⟨fun r hr => ?_, Nat.le_trans farC.2.1 (Nat.le_of_lt hCq), f1, f4⟩
      rcases List.mem_append.mp hr with hr | hr
      · exact f5 r (List.mem_append_left _ hr)
      · exact f5 r (List.mem_append_right _ (List.mem_append_right _ hr))
  · intro p hp
    rcases List.mem_cons.mp hp with e | hp
    · rw [e]; exact eD'
    rcases List.mem_cons.mp hp with e | hp
    · rw [e]; exact eC'
    rcases List.mem_append.mp hp with hp | hp
    · exact (J.pin p (List.mem_append_right _ (List.mem_append_left _ hp))).1
    · rw [List.mem_singleton.mp hp]; exact eq'
  · intro p hp
    rcases List.mem_cons.mp hp with e | hp
    · rw [e]; exact ⟨eD', pinD.2.1, pinD.2.2.1, pinD.2.2.2.1, fun v q => by cases q⟩
    rcases List.mem_cons.mp hp with e | hp
    · rw [e]; exact ⟨eC', pinC.2.1, pinC.2.2.1, pinC.2.2.2.1, hC'⟩
    rcases List.mem_append.mp hp with hp | hp
    · rcases List.mem_append.mp hp with hp | hp
      · exact J.pin p (List.mem_append_right _ (List.mem_append_left _ hp))
      · rw [List.mem_singleton.mp hp]
        exact ⟨eq', fq.1, fq.2.1, fq.2.2.1, hT.nocell⟩
    · exact J.pin p (List.mem_append_right _ (List.mem_append_right _ hp))
end GC2
namespace GC2
open PySem PySem.Spec PyProof.Rows GenW L2
/-- what is handed out and when it goes on -/
def GY2 (X : Cx) (T : Ct) : Protocol := fun m s₀ v s kap =>
  ∃ ys x ip σ H a n i, m + 1 + ys.length = sizeLine ∧ RelV x v ∧ x = .ref a ∧ T.L[ys.length]? = some (n, i) ∧ H a = some (.tup [.str n, .int i]) ∧ GI2 X T s₀ ip ys σ H s ∧ ∀ s', Slp T.D T.C n (i + T.k) s s' → kap (.send .none) s'
def GR2 (X : Cx) (T : Ct) (Q : List V → VK) (F : Value → Shared → Prop) : GenEnd := fun n s₀ r s => match r with
  | .ok (.ret u) => ∃ ys v ip σ H, n + ys.length = sizeLine ∧ GI2 X T s₀ ip ys σ H s ∧ RelV v u ∧ Q ys v H
  | .ok _ => False
  | .error e => F e s
def GSP2 (X : Cx) (T : Ct) (s₀ : Shared) (ip : List (Addr × Obj)) (D : GEnds) (ys : List V) (f : Flow) (s : Shared) : Prop :=
  match f with
  | .next => ∃ σ H, GI2 X T s₀ ip ys σ H s ∧ D.nx ys σ H
  | .brk => ∃ σ H, GI2 X T s₀ ip ys σ H s ∧ D.bk ys σ H
  | .cont => ∃ σ H, GI2 X T s₀ ip ys σ H s ∧ D.ct ys σ H
  | .ret u => ∃ v σ H, GI2 X T s₀ ip ys σ H s ∧ RelV v u ∧ D.rt ys v H
/-- the place in the generator's code -/
structure At2 (X : Cx) (A : Around) (c : Code) (fs : List Frame) (gd : Bool → Bool) : Prop where
  over : A.over c fs = X.A
  split : splitAtGen fs = none
  guard : fs.any Frame.guarded = false
  gd : gd false = false
/-- the rest of the generator's run -/
structure Go2 (X : Cx) (T : Ct) (ip : List (Addr × Obj)) (A : Around) (R : GenEnd) (c : Code) (fs : List Frame) (K : Flow → Sem PySem.Fin) (J : Value → Sem PySem.Fin) (D : GEnds) : Prop where
  ok : ∀ (n : Nat) (ys : List V) (s₀ s : Shared) (f : Flow), n + ys.length = sizeLine → GSP2 X T s₀ ip D ys f s → Seg (model X.prog X.w) A R (GY2 X T) n s₀ c (K f) fs s
  exc : ∀ (n : Nat) (s₀ : Shared) (e : Value) (s : Shared), X.xe e s → Seg (model X.prog X.w) A R (GY2 X T) n s₀ c (J e) fs s
structure Gs2 (X : Cx) (T : Ct) (st : Stmt) (t : TGn) : Prop where
  run : ∀ (A : Around) (ip : List (Addr × Obj)) (R : GenEnd) (n : Nat) (ys : List V) (s₀ : Shared) (c : Code) (fs : List Frame) (K : Flow → Sem PySem.Fin) (J : Value → Sem PySem.Fin) (gd : Bool → Bool) (lv : List Value → List Value) (s : Shared) (σ : L2.St) (H : Hp) (D : GEnds),
    At2 X A c fs gd → n + ys.length = sizeLine → Go2 X T ip A R c fs K J D → GI2 X T s₀ ip ys σ H s → t D ys σ H →
    Seg (model X.prog X.w) A R (GY2 X T) n s₀ c ((exec st X.env).wrap K J gd lv) fs s
structure Gss2 (X : Cx) (T : Ct) (st : List Stmt) (t : TGn) : Prop where
  run : ∀ (A : Around) (ip : List (Addr × Obj)) (R : GenEnd) (n : Nat) (ys : List V) (s₀ : Shared) (c : Code) (fs : List Frame) (K : Flow → Sem PySem.Fin) (J : Value → Sem PySem.Fin) (gd : Bool → Bool) (lv : List Value → List Value) (s : Shared) (σ : L2.St) (H : Hp) (D : GEnds),
    At2 X A c fs gd → n + ys.length = sizeLine → Go2 X T ip A R c fs K J D → GI2 X T s₀ ip ys σ H s → t D ys σ H →
    Seg (model X.prog X.w) A R (GY2 X T) n s₀ c ((execs st X.env).wrap K J gd lv) fs s
section
variable {X : Cx} {T : Ct} {st : Stmt} {rest : List Stmt}
theorem s2_plain {t : TS} (h : PS X st t) : Gs2 X T st (tPlain t) := by
  constructor
  intro A ip R n ys s₀ c fs K J gd lv s σ H D g hn k hI ht
  obtain ⟨pp, hp, far, ag, I⟩ := hI
  refine seg_wrap ?_
  rw [g.over]
  refine wpAny_mono (h.run _ s σ H (D.at ys) I ht) (fun f s' hs => k.ok n ys s₀ s' f hn ?_) fun x s' hx => k.exc n s₀ x s' hx
  cases f with
  | next =>
    obtain ⟨σ', H', I', q⟩ := hs
    exact ⟨σ', H', ⟨pp, hp, far, ag, I'⟩, q⟩
  | brk =>
    obtain ⟨σ', H', I', q⟩ := hs
    exact ⟨σ', H', ⟨pp, hp, far, ag, I'⟩, q⟩
  | cont =>
    obtain ⟨σ', H', I', q⟩ := hs
    exact ⟨σ', H', ⟨pp, hp, far, ag, I'⟩, q⟩
  | ret u =>
    obtain ⟨v, σ', H', I', r1, q⟩ := hs
    exact ⟨v, σ', H', ⟨pp, hp, far, ag, I'⟩, r1, q⟩
theorem s2_nil : Gss2 X T [] tG0 := ⟨fun A ip R n ys s₀ c fs K J gd lv s σ H D g hn k hI ht => seg_execs_nil (k.ok n ys s₀ s .next hn ⟨σ, H, hI, ht⟩)⟩
theorem s2_cons {t u : TGn} (a : Gs2 X T st t) (b : Gss2 X T rest u) : Gss2 X T (st :: rest) (tGThen t u) := by
  constructor
  intro A ip R n ys s₀ c fs K J gd lv s σ H D g hn k hI ht
  refine seg_execs_cons (a.run A ip R n ys s₀ c fs _ J gd lv s σ H { D with nx := fun ys' σ' H' => u D ys' σ' H' } g hn ⟨?_, k.exc⟩ hI ht)
  intro m zs s₁ s' f hm hs
  cases f with
  | next =>
    obtain ⟨σ', H', I', q⟩ := hs
    exact b.run A ip R m zs s₁ c fs K J gd lv s' σ' H' D g hm k I' q
  | brk => exact k.ok m zs s₁ s' .brk hm hs
  | cont => exact k.ok m zs s₁ s' .cont hm hs
  | ret u => exact k.ok m zs s₁ s' (.ret u) hm hs
/-- a value is handed out: the tuple that is due -/
def tGOut (T : Ct) (te : TE) : TGn := fun D ys σ H => ys.length < sizeLine ∧ te σ H fun x H1 => (∃ a n i, x = .ref a ∧ T.L[ys.length]? = some (n, i) ∧ H1 a = some (.tup [.str n, .int i])) ∧ D.nx (ys ++ [x]) σ H1
theorem s2_yield {e : Expr} {yp pos : Pos} {te : TE} (he : PE X e te) (hco : X.env.scope.isCoroutine = false := by rfl) (hi : interactive X.env = false := by rfl) : Gs2 X T (.Expr (.Yield (some e) yp) pos) (tGOut T te) := by
  constructor
  intro A ip R n ys s₀ c fs K J gd lv s σ H D g hn k hI ht
  obtain ⟨hlt, ht⟩ := ht
  obtain ⟨m, rfl⟩ : ∃ m, n = m + 1 := ⟨n - 1, by omega⟩
  obtain ⟨pp, hp, far, ag, I⟩ := hI
  refine seg_Expr_Yield g.split g.gd g.guard ?_ hco hi
  rw [g.over]
  refine wpAny_mono (he.run _ s σ H _ I ht)
                                            (fun v s' hv => ?_) fun x s' hx => k.exc _ s₀ x s' hx
  obtain ⟨x, H1, I1, rv, ⟨a, nm, i, ex, hL, ha⟩, q⟩ := hv
  have G1 : GI2 X T s₀ ip ys σ H1 s' := ⟨pp, hp, far, ag, I1⟩
  intro kap hk
  refine ⟨ys, x, ip, σ, H1, a, nm, i, hn, rv, ex, hL, ha, G1, fun s'' z => hk .none s'' ?_⟩
  refine k.ok m (ys ++ [x]) s'' s'' .next ?_ ⟨σ, H1, G1.woken hL z, q⟩
  rw [List.length_append, List.length_singleton]
  omega
theorem s2_lock {t : TGn} (h : Gs2 X T st t) : Gs2 X T st (tGLock t) := by
  constructor
  intro A ip R n ys s₀ c fs K J gd lv s σ H D g hn k hI ht
  obtain ⟨d, u, hd, mu, hw⟩ := ht
  obtain ⟨pp, hp, far, ag, I⟩ := hI
  obtain ⟨od, I1⟩ := I.lock hd mu
  refine h.run A ip R n ys s₀ c fs K J gd lv s σ _ _ g hn ⟨fun m zs s₁ s' f hm hs => k.ok m zs s₁ s' f hm ?_, k.exc⟩ ⟨pp, hp, far, ag, I1⟩ (hw od)
  have un : ∀ {σ' : L2.St} {H' : Hp}, GI2 X T s₁ ip zs σ' H' s' → H' d = some (.frz od u) → GI2 X T s₁ ip zs σ' (upd H' d u) s' := fun {σ' H'} g2 e => by
    obtain ⟨pp', hp', far', ag', I'⟩ := g2
    exact ⟨pp', hp', far', ag', I'.unlock e (I.nofrz hd mu)⟩
  cases f with
  | next =>
    obtain ⟨σ', H', g2, e, q⟩ := hs
    exact ⟨σ', _, un g2 e, q⟩
  | brk =>
    obtain ⟨σ', H', g2, e, q⟩ := hs
    exact ⟨σ', _, un g2 e, q⟩
  | cont =>
    obtain ⟨σ', H', g2, e, q⟩ := hs
    exact ⟨σ', _, un g2 e, q⟩
  | ret v =>
    obtain ⟨x, σ', H', g2, r3, e, q⟩ := hs
    exact ⟨x, σ', _, un g2 e, r3, q⟩
theorem at2_loop {A : Around} {c c' : Code} {fs : List Frame} {gd : Bool → Bool} {k : Result → Sem PySem.Fin} {l kp : List Value} {p : Pos} (g : At2 X A c fs gd) (hw : c'.weight = 0) (hu : c'.cUnits = 0) :
    At2 X A c' (.ret k none (gd false) l c p kp :: fs) id := by
  refine ⟨(over_loop hw hu).trans g.over, ?_, ?_, rfl⟩
  · show (splitAtGen fs).map _ = none
    rw [g.split]
    rfl
  · show (gd false || fs.any Frame.guarded) = false
    rw [g.gd, g.guard]
    rfl
theorem seg_back2 {ip : List (Addr × Obj)} {A : Around} {R : GenEnd} {c : Code} {fs : List Frame} {K : Flow → Sem PySem.Fin} {J : Value → Sem PySem.Fin} {gd : Bool → Bool} {lv : List Value → List Value} {D : GEnds} {n : Nat} {s₀ s : Shared} {e : Value}
    (g : At2 X A c fs gd) (k : Go2 X T ip A R c fs K J D) (h : cameBackBy (model X.prog X.w) X.A X.env X.xe e s) :
    Seg (model X.prog X.w) A R (GY2 X T) n s₀ c (((Sem.raise e : Sem Flow).onRaise (cameBack X.env)).wrap K J gd lv) fs s := by
  show Seg _ _ _ _ _ _ _ (((cameBack X.env e).bind fun _ =>
                                                            (Sem.raise e : Sem Flow)).wrap K J gd lv) _ _
  rw [Sem.bind_eq_wrap, Sem.wrap_wrap]
  refine seg_wrap ?_
  rw [g.over]
  exact wpAny_mono h
                     (fun _ s' hx => k.exc n s₀ e s' hx) fun x s' hx => k.exc n s₀ x s' hx
theorem s2_for {tg iter : Expr} {body : List Stmt} {wi : TI} {g : TG} {tb : TGn} {pos : Pos} (hp : PassesOwn (model X.prog X.w) X.A X.env X.xe) (hc : X.calm = true) (hi : PI X tg iter wi) (hg : PG X tg g) (hb : Gss2 X T body tb)
    (hs : ∀ x, foldedSetIterable iter X.env x = pure x := by intro _; rfl) : Gs2 X T (.For tg iter body [] pos) (tGFor wi g tb) := by
  constructor
  intro A ip R n ys s₀ c fs K J gd lv s σ H D g' hn k hI ht
  obtain ⟨pp0, hp0, far0, ag0, I⟩ := hI
  refine seg_ForG ?_ hs
  rw [g'.over]
  refine wpAny_mono (hi.run _ s σ H _ I ht) (fun v s1 h1 => wpAny_mono h1 (fun itv s2 h2 => ?_) fun x s' hx => k.exc n s₀ x s' hx) fun x s' hx => k.exc n s₀ x s' hx
  obtain ⟨it, fp, tn, JJ, H2, e, I2, Tu, st2, f2, W, ⟨m0, w0⟩, turn⟩ := h2
  subst e
  intro p
  have f2ip : ∀ b ∈ fp, ∀ q ∈ X.pn ++ ip, q.1 ≠ b := fun b hb q hq => by
    obtain ⟨_, _, _, _, _, a5⟩ := f2 b hb
    rcases List.mem_append.mp hq with hq | hq
    · exact a5 q (List.mem_append_left _ hq)
    · exact a5 q (List.mem_append_right _ (List.mem_append_right _ hq))
  have f2pp : ∀ b ∈ fp, ∀ q ∈ pp0, q.1 ≠ b := fun b hb q hq => by
    obtain ⟨_, _, _, _, _, a5⟩ := f2 b hb
    exact a5 q (List.mem_append_right _ (List.mem_append_left _ hq))
  have stat : ∀ {pp : List (Addr × Obj)} {H' : Hp}, (∀ q ∈ pp, ∀ b ∈ fp, q.1 ≠ b) → (∀ b ∈ fp, H' b = none) → ∀ b ∈ fp, FpOk X (pp ++ ip) H' b := fun {pp H'} hq' hn b hb => by
    obtain ⟨a0, a1, a2, a3, a4, _⟩ := f2 b hb
    refine ⟨hn b hb, a1, a2, a3, a4, fun q hq => ?_⟩
    rcases List.mem_append.mp hq with hq | hq
    · exact f2ip b hb q (List.mem_append_left _ hq)
    rcases List.mem_append.mp hq with hq | hq
    · exact hq' q hq b hb
    · exact f2ip b hb q (List.mem_append_right _ hq)
  have gl := fun (kk : Result → Sem PySem.Fin) => at2_loop (k := kk) (c' := .forLoop tg (.ref it) body [] X.env) (l := lv []) (kp := []) (p := p) g' rfl rfl
  have loop : ∀ (m i n : Nat) (ys : List V) (s₀ s : Shared) (σ : L2.St) (H : Hp) (pp : List (Addr × Obj)), n + ys.length = sizeLine → W i m ys σ H → Pp T.D T.C T.L T.k ys.length pp → (∀ p ∈ pp, Far X ip p.1) → (∀ p ∈ pp, s₀.heap.get? p.1 = some p.2) → (∀ q ∈ pp, ∀ b ∈ fp, q.1 ≠ b) → Inv X (pp ++ ip) σ H s → tn i s.heap → (∀ b ∈ fp, H b = none) →
      Seg (model X.prog X.w) A R (GY2 X T) n s₀ (.forLoop tg (.ref it) body [] X.env) ((model X.prog X.w).den (.forLoop tg (.ref it) body [] X.env))
        (.ret (fun r => ((match r with | .ok f => (.pure f : Sem Flow) | .error e => .raise e).onRaise
                                                                                                       (cameBack X.env)).wrap K J gd lv) none (gd false) (lv []) c p [] :: fs) s := by
    intro m
    induction m using Nat.strongRecOn with
    | ind m ih =>
      intro i n ys s₀ s σ H pp hn w hpp far ag dis I st fr
      have ee : ∀ (n : Nat) (s₀ : Shared) (x : Value) (s' : Shared), X.xe x s' → Seg (model X.prog X.w) A R (GY2 X T) n s₀ (.forLoop tg (.ref it) body [] X.env)
          ((do noteFrame x X.env; theTreesLotGoes x : Sem Unit).wrap
                                                                     (fun _ => .raise x) .raise id id)
          (.ret (fun r => ((match r with | .ok f => (.pure f : Sem Flow) | .error e => .raise e).onRaise
                                                                                                         (cameBack X.env)).wrap K J gd lv) none (gd false) (lv []) c p [] :: fs) s' := fun n s₀ x s' hx => by
        refine seg_wrap ?_
        rw [(gl _).over]
        refine wpAny_bind (wpAny_mono (hp x s' hx)
                                                   (fun _ s'' hcb => wpAny_theTreesLotGoes ?_) fun y s'' hcb => ?_)
        · exact seg_leaf (.error x) (seg_back2 g' k hcb)
        · exact seg_leaf (.error y) (seg_back2 g' k hcb)
      refine seg_forLoopG ?_
      rw [(gl _).over]
      rcases turn i m ys σ H w with ⟨stop, qn⟩ | ⟨go, N, hN, step⟩
      · refine wpAny_mono (Tu.done X rfl rfl rfl hc i _ s σ H X.xe I (stat dis fr) st stop) (fun r' s4 z => ?_) fun x s' hx => ee n s₀ x s' hx
        obtain ⟨hr, I4⟩ := z
        subst hr
        exact seg_leaf (.ok .next) (k.ok n ys s₀ s4 .next hn ⟨σ, H, ⟨pp, hpp, far, ag, I4⟩, qn⟩)
      · refine wpAny_mono (Tu.item X rfl rfl rfl hc i _ s σ H X.xe I (stat dis fr) st go) (fun r' s4 z => ?_) fun x s' hx => ee n s₀ x s' hx
        obtain ⟨u, hr, h4⟩ := z
        subst hr
        refine wpAny_mono h4 (fun _ s5 z => ?_) fun x s' hx => ee n s₀ x s' hx
        obtain ⟨x, H5, I5, r5, y5, st5, fr5⟩ := z
        have I5' := I5.pinned (stat dis fr5) (Tu.obj _ _ st5)
        refine wpAny_mono (hg.run _ s5 σ H5 x u _ I5' r5 (step x H5 y5)) (fun _ s6 z => ?_) fun x s' hx => ee n s₀ x s' hx
        obtain ⟨σ6, H6, I6, q6⟩ := z
        have far6 : ∀ q ∈ pp, Far X (ip ++ pinsAt fp s5.heap) q.1 := fun q hq => by
          obtain ⟨z1, z2⟩ := far q hq
          refine ⟨fun r hr => ?_, z2⟩
          rcases List.mem_append.mp hr with hr | hr
          · exact z1 r (List.mem_append_left _ hr)
          rcases List.mem_append.mp hr with hr | hr
          · exact z1 r (List.mem_append_right _ hr)
          · exact fun w => dis q hq r.1 (of_pinsAt hr).1 w.symm
        have back : ∀ {ys' : List V} {σ3 : L2.St} {H3 : Hp} {s3 s₁ : Shared}, GI2 X T s₁ (ip ++ pinsAt fp s5.heap) ys' σ3 H3 s3 → GI2 X T s₁ ip ys' σ3 H3 s3 ∧
            ∃ pp', Pp T.D T.C T.L T.k ys'.length pp' ∧ (∀ p ∈ pp', Far X ip p.1) ∧ (∀ p ∈ pp', s₁.heap.get? p.1 = some p.2) ∧ (∀ q ∈ pp', ∀ b ∈ fp, q.1 ≠ b) ∧ Inv X (pp' ++ ip) σ3 H3 s3 ∧ tn (i + 1) s3.heap ∧ ∀ b ∈ fp, H3 b = none := fun {ys' σ3 H3 s3 s₁} hI => by
          obtain ⟨pp', hpp', far', ag', I'⟩ := hI
          rw [← List.append_assoc] at I'
          have far3 : ∀ p ∈ pp', Far X ip p.1 := fun p hp => ⟨fun r hr => (far' p hp).1 r ((List.mem_append.mp hr).elim (List.mem_append_left _) fun z => List.mem_append_right _ (List.mem_append_left _ z)), (far' p hp).2⟩
          have dis3 : ∀ q ∈ pp', ∀ b ∈ fp, q.1 ≠ b := fun q hq b hb w => by
            obtain ⟨o, e, _⟩ := Tu.obj _ _ st5 b hb
            exact (far' q hq).1 (b, o) (List.mem_append_right _ (List.mem_append_right _ (mem_pinsAt hb e))) w.symm
          refine ⟨⟨pp', hpp', far3, ag', I'.unpinned⟩, pp', hpp', far3, ag', dis3, I'.unpinned, Tu.keep _ _ _ st5 fun b hb o e => (I'.pin (b, o) (List.mem_append_right _ (List.mem_append_right _ (mem_pinsAt hb e)))).1, fun b hb => ?_⟩
          obtain ⟨o, e, d⟩ := Tu.obj _ _ st5 b hb
          exact (I'.pin (b, o) (List.mem_append_right _ (List.mem_append_right _ (mem_pinsAt hb e)))).2.1
        refine hb.run A (ip ++ pinsAt fp s5.heap) R n ys s₀ _ _ _ _ id id s6 σ6 H6 { D with nx := N, ct := N, bk := D.nx } (gl _) hn ⟨fun n' ys' s₀' s3 f hn' hs => ?_, fun n' s₀' x s3 hx => ee n' s₀' x s3 hx⟩ ⟨pp, hpp, far6, ag, by rw [← List.append_assoc]; exact I6⟩ q6
        cases f with
        | next =>
          obtain ⟨σ3, H3, I3, n3⟩ := hs
          obtain ⟨m', hm, w3⟩ := hN ys' σ3 H3 n3
          obtain ⟨_, pp', b1, b2, b3, b4, b5, b6, b7⟩ := back I3
          exact seg_again rfl (ih m' hm (i + 1) n' ys' s₀' s3 σ3 H3 pp' hn' w3 b1 b2 b3 b4 b5 b6 b7)
        | cont =>
          obtain ⟨σ3, H3, I3, n3⟩ := hs
          obtain ⟨m', hm, w3⟩ := hN ys' σ3 H3 n3
          obtain ⟨_, pp', b1, b2, b3, b4, b5, b6, b7⟩ := back I3
          exact seg_again rfl (ih m' hm (i + 1) n' ys' s₀' s3 σ3 H3 pp' hn' w3 b1 b2 b3 b4 b5 b6 b7)
        | brk =>
          obtain ⟨σ3, H3, I3, n3⟩ := hs
          exact seg_leaf (.ok .next) (k.ok n' ys' s₀' s3 .next hn' ⟨σ3, H3, (back I3).1, n3⟩)
        | ret v =>
          obtain ⟨v3, σ3, H3, I3, r3, n3⟩ := hs
          exact seg_leaf (.ok (.ret v)) (k.ok n' ys' s₀' s3 (.ret v) hn' ⟨v3, σ3, H3, (back I3).1, r3, n3⟩)
  exact loop m0 0 n ys s₀ s2 σ H2 pp0 hn w0 hp0 far0 ag0 (fun q hq b hb => f2pp b hb q hq) I2 st2 fun b hb => (f2 b hb).1
end
end GC2
namespace GC2
open PySem PySem.Spec PyProof.Rows GenW L2
abbrev noE : XK := fun _ _ _ => False
/-- the run is over -/
def Fin2 (P : Program) (w : World) (outer : List Env) (H : Hp) (s : Shared) (T : Ct) (Q : List V → Hp → Prop) (s₀ s1 : Shared) : Prop := ∃ H' ys acc c pt, s1.os = s.os ∧ AllBare s1.gens ∧ Un (frs outer) [] H H' s.heap s1.heap ∧ HOk P w H' s1.heap ∧ H' T.D = none ∧ H' T.C = none ∧ s1.heap.get? T.D = some (lstObj acc c) ∧
    acc.toList = pt.map (fun p => Value.ref p.1) ∧ Paired (fun (q : Str × Int) (p : Addr × Obj) => Tob q.1 (q.2 + T.k) p.2) (T.L.take ys.length) pt ∧ (∀ p ∈ pt, s1.heap.get? p.1 = some p.2 ∧ H' p.1 = none ∧ p.1 ≠ T.D ∧ p.1 ≠ T.C ∧ s.heap.objs.size ≤ p.1) ∧ (pt.map (·.1)).Nodup ∧ ys.length ≤ sizeLine ∧ s1.heap.get? T.C = s₀.heap.get? T.C ∧ Q ys H'
def End2 (P : Program) (w : World) (outer : List Env) (H : Hp) (s : Shared) (T : Ct) (Q : List V → Hp → Prop) : GenEnd := fun n s₀ r s1 => ((r = .ok (.ret .none) ∨ r = .ok .next) ∧ Fin2 P w outer H s T Q s₀ s1) ∨ ∃ e, r = .error e ∧ False
/-- a value is there -/
def Item2 (s : Shared) (T : Ct) (a : Addr) (g : Nat) : Protocol := fun m s₀ v s1 kap =>
  s1.os = s.os ∧ AllBare s1.gens ∧ s1.heap.NoLimit ∧ s1.heap.IsGen a g ∧ s1.heap.get? T.C = s₀.heap.get? T.C ∧ ∃ (j : Nat) (ta : Addr) (n : Str) (i : Int) (t1 t2 : Tok) (acc : Array Value) (c : Nat), m + 1 + j = sizeLine ∧ v = .ref ta ∧ T.L[j]? = some (n, i) ∧ IsTup s1.heap ta #[.str n t1, .int i t2] ∧
    s1.heap.get? T.D = some (lstObj acc c) ∧ acc.size = j ∧ ∀ s', Slp T.D T.C n (i + T.k) s1 s' → kap (.send .none) s'
/-- a generator that has not begun -/
def Made2 (P : Program) (w : World) (k : Nat) (outer : List Env) (H : Hp) (s : Shared) (L : List (Str × Int)) (kk : Int) (Q : List V → Hp → Prop) (u : Value) (s' : Shared) : Prop :=
  ∃ (a : Addr) (g : Nat) (c : Code), u = .ref a ∧ s.heap.objs.size ≤ a ∧ a < s'.heap.objs.size ∧ s'.heap.IsGen a g ∧ s'.gens[g]? = some
                                                                                                                                        (.fresh c) ∧ s'.os = s.os ∧ AllBare s'.gens ∧ s'.heap.NoLimit ∧ (∀ b o, s.heap.get? b = some o → s'.heap.get? b = some o) ∧
    ∀ (A : Around) (D C : Addr) (s2 : Shared), Room k A → A.frames = some outer → s'.heap.objs.size ≤ D → s'.heap.objs.size ≤ C → (∀ b o, s'.heap.get? b = some o → s2.heap.get? b = some o) → (∃ c, s2.heap.get? D = some (lstObj #[] c)) →
      (∃ oC, s2.heap.get? C = some oC ∧ ∀ x, oC.data ≠ .cell x) → s2.os = s.os → AllBare s2.gens → Seg (model P w) A (End2 P w outer H s ⟨D, C, L, kk⟩ Q) (Item2 s ⟨D, C, L, kk⟩ a g) sizeLine s2 c ((model P w).den c) [] s2
/-- the arguments, the heap, what is handed out, what is wanted at the end -/
abbrev Sp2 := List V → Hp → List (Str × Int) → (List V → Hp → Prop) → Prop
structure Fn2 (P : Program) (w : World) (K : PySem.W.Frag) (mg : Str → Option Value) (base : Heap) (k : Nat) (f : Addr) (fd : FuncData) (ps : List Str) (sp : Sp2) : Prop where
  len : ∀ vs H L Q, sp vs H L Q → vs.length = ps.length
  run : ∀ (A : Around) (outer : List Env) (s : Shared) (H : Hp) (args : Args) (us : List Value) (vs : List V) (L : List (Str × Int)) (kk : Int) (Q : List V → Hp → Prop), Room k A → Env0 P w K mg base A outer s H → BindsTo s fd args (ps.zip us) → Vals vs us → sp vs H L Q →
    codeAny (model P w) A (.call (.ref f) args) (fun r s' => match r with | .ok (.ret u) => Made2 P w k outer H s L kk Q u s' | _ => False) s
/-- a protocol and an end that ask for less -/
theorem seg_weak {M : Model} {A : Around} {R R' : GenEnd} {Y Y' : Protocol} (hR : ∀ n s₀ r s, R n s₀ r s → R' n s₀ r s) (hY : ∀ n s₀ v s kap kap', (∀ r s', kap r s' → kap' r s') → Y n s₀ v s kap → Y' n s₀ v s kap') :
    ∀ (n : Nat) {s₀ : Shared} {c : Code} {t : Sem PySem.Fin} {fs : List Frame} {s : Shared}, Seg M A R Y n s₀ c t fs s → Seg M A R' Y' n s₀ c t fs s := L2.seg_imp hR hY
theorem fn2_of {P : Program} {w : World} {K : PySem.W.Frag} {mg : Str → Option Value} {base : Heap} {k : Nat} {f : Addr} {name qual : Str} {params : Arguments} {body : List Stmt} {scope : Scope} {dV kV doc pm cdv ct oc : Value} {an od : Option Addr} {osl : Array (Option Value)} {N ps : List Str} {sp : Sp2}
    (lk : K.lookup f = some ⟨oc, od, .func (PySem.W.fnOf name qual params body scope dV kV doc pm an cdv ct), osl⟩) (hcd : PySem.W.codeIn K cdv qual = true) (S : GScope N ps scope) (len : ∀ vs H L Q, sp vs H L Q → vs.length = ps.length)
    (hbody : ∀ (A : Around) (outer : List Env) (s : Shared) (H : Hp) (vs : List V) (L : List (Str × Int)) (Q : List V → Hp → Prop) (pn : List (Addr × Obj)) (D C : Addr) (kk : Int), Room k (A.deeper (envOfC qual scope s.heap.objs.size f cdv)) → sp vs H L Q →
      ∃ t, Gss2 (gcxOf P w K mg base N qual scope f cdv A outer s H noE pn) ⟨D, C, L, kk⟩ body t ∧ t { nx := fun ys _ H' => Q ys H', rt := fun ys v H' => v = .non ∧ Q ys H' } [] (start N vs) H) :
    Fn2 P w K mg base (k + 1) f (PySem.W.fnOf name qual params body scope dV kV doc pm an cdv ct) ps sp := by
  refine ⟨len, fun A outer s H args us vs L kk Q hr e0 hb r hsp => ?_⟩
  have hl := len _ _ _ _ hsp
  have KX : K.In s.heap := e0.mod.kin.keeps fun b o e =>
                                                         (e0.bs b o e).1
  have lim : s.heap.NoLimit := e0.mod.nolimit.keeps fun b o e =>
                                                                 (e0.bs b o e).1
  have hkind : ∀ y ∈ ps.zip us, scope.names.lookup y.1 = some .local ∨ (scope.names.lookup y.1 = some .cell ∧ ((cellsFrom (s.heap.objs.size + 1) scope.names []).lookup y.1).isSome = true) := fun ⟨n, v⟩ hy =>
    (S.par n (List.of_mem_zip hy).1).imp id fun q => ⟨q, PySem.W.cellsFrom_some _ _ _ (.inl q)⟩
  refine codeAny_call_generator hr.depth (KX _ _ lk) rfl S.co S.gen rfl
                                                                        (PySem.W.codeRec_of KX hcd) (hb _ _ _ _ ?_)
  refine wpAny_newFunctionEnv_cells S.kind hkind fun env he s1 x => ?_
  subst he
  have lim1 : s1.heap.NoLimit := lim.keeps x.toInCall.keep
  refine ⟨lim1, ?_⟩
  obtain ⟨h1, tk, es1, hk1⟩ := x.done
  have os1 : s1.os = s.os := by rw [es1]
  have gen1 : s1.gens = s.gens := by rw [es1]
  have lt1 : s.heap.objs.size < s1.heap.objs.size := x.toInCall.ns.lt
  have kp1 : ∀ b o, s.heap.get? b = some o → s1.heap.get? b = some o := x.toInCall.keep
  have main : ∀ (go : Obj) (nm qn : Value) (tk2 : Nat), go.cls = .type "generator" → go.data = .fields #[.int s1.gens.size 0, nm, qn] → go.slots = #[] →
                                                                                                                                                         (∀ h : Heap, (h.push go).get? h.objs.size = some go) →
      Made2 P w (k + 1) outer H s L kk Q (.ref s1.heap.objs.size) { s1 with gens := s1.gens.push (.fresh (.func body (envOfC qual scope s.heap.objs.size f cdv))), toks := tk2, heap := s1.heap.push go } := by
    intro go nm qn tk2 hgc hgd0 hgs hgp
    have hgen : ∀ h : Heap, h.get? s1.heap.objs.size = some go → h.IsGen s1.heap.objs.size s1.gens.size := fun h e =>
                                                                                                                      ⟨go, nm, qn, e, hgc, hgd0, hgs⟩
    have hpushed :
                   (s1.heap.push go).get? s1.heap.objs.size = some go := hgp _
    refine ⟨s1.heap.objs.size, s1.gens.size, _, rfl, Nat.le_of_lt lt1, ?_, hgen _ hpushed, Array.getElem?_push_size .., os1, ?_, lim1.keeps fun b o e => Heap.get?_push_of_some _ e, fun b o e => Heap.get?_push_of_some _ (kp1 b o e), ?_⟩
    · show _ < (s1.heap.push _).objs.size
      rw [Heap.size_push]
      exact Nat.lt_succ_self _
    · exact AllBare.push (by rw [gen1]; exact e0.bare) rfl
    intro Aw D C s2 hrw hfr hD hC hk2 hDo hCo hos hba
    have e0w : Env0 P w K mg base Aw outer s H :=
                                                  ⟨hfr, e0.mod, e0.bs, e0.bsz, e0.funs, e0.frf, e0.hok, e0.bare⟩
    obtain ⟨t, ht, hq⟩ := hbody Aw outer s H vs L Q [(s1.heap.objs.size, go)] D C kk (hrw.deeper _) hsp
    have I1 : Inv (gcxOf P w K mg base N qual scope f cdv Aw outer s H noE []) [] (start N vs) H s1 := inv_startG S hrw.hd e0w hl r x
    have kp2 : ∀ b o, s1.heap.get? b = some o → s2.heap.get? b = some o := fun b o e => hk2 b o
                                                                                                (Heap.get?_push_of_some _ e)
    have I2 : Inv (gcxOf P w K mg base N qual scope f cdv Aw outer s H noE []) [] (start N vs) H s2 :=
      I1.call' (ch := []) (hos.trans os1.symm)
                                               (Un.kept kp2) (I1.hok.kept kp2) hba fun b z => by simp at z
    have big : ∀ b, (s1.heap.push go).objs.size ≤ b → s1.heap.objs.size < b := fun b h => by rw [Heap.size_push] at h; exact h
    have hD' := big D hD
    have hC' := big C hC
    obtain ⟨cD, heD⟩ := hDo
    obtain ⟨oC, heC, hoC⟩ := hCo
    have hea : s2.heap.get? s1.heap.objs.size = some go := hk2 s1.heap.objs.size go hpushed
    have hgd : ∀ v, go.data ≠ .cell v := fun v q => by rw [hgd0] at q; cases q
    have young : ∀ b, s1.heap.objs.size ≤ b → H b = none ∧ b ≠ s.heap.objs.size ∧ b ∉ frs outer ∧ s.heap.objs.size ≤ b ∧ ∀ y c,
                                                                                                                                (cellsFrom (s.heap.objs.size + 1) scope.names []).lookup y = some c → c ≠ b := fun b hb => by
      refine ⟨I1.hok.fresh hb, Nat.ne_of_gt (Nat.lt_of_lt_of_le lt1 hb), I1.nofs hb, Nat.le_trans (Nat.le_of_lt lt1) hb, fun y c e z => ?_⟩
      obtain ⟨v, ob, ho, _⟩ := I1.cell y c e
      have := Heap.lt_size ho
      rw [z] at this
      exact absurd (Nat.lt_of_lt_of_le this hb) (Nat.lt_irrefl _)
    have hG : GI2 (gcxOf P w K mg base N qual scope f cdv Aw outer s H noE [(s1.heap.objs.size, go)]) ⟨D, C, L, kk⟩ s2 [] [] (start N vs) H s2 := by
      have pins : ∀ p ∈ [(D, lstObj #[] cD), (C, oC)], s1.heap.objs.size < p.1 ∧ s2.heap.get? p.1 = some p.2 ∧ ∀ v, p.2.data ≠ .cell v := fun p hp => by
        rcases List.mem_cons.mp hp with e | e
        · rw [e]; exact ⟨hD', heD, fun v q => by cases q⟩
        · rw [List.mem_singleton.mp e]; exact ⟨hC', heC, hoC⟩
      refine ⟨[(D, lstObj #[] cD), (C, oC)], ⟨#[], cD, oC, [], rfl, rfl, hoC, .nil, (fun p hp => by cases hp), rfl, List.nodup_nil⟩, fun p hp => ?_, fun p hp => (pins p hp).2.1, Inv.pinnedG I2 fun p hp => ?_⟩
      · have lt := (pins p hp).1
        obtain ⟨_, y2, _, y4, y5⟩ := young p.1 (Nat.le_of_lt lt)
        refine ⟨fun r hr => ?_, y4, y2, y5⟩
        rw [List.append_nil] at hr
        have hr : r ∈ [(s1.heap.objs.size, go)] := hr
        rw [List.mem_singleton.mp hr]
        exact Nat.ne_of_lt lt
      · rcases List.mem_append.mp hp with z | z
        · rw [List.mem_singleton.mp z]
          obtain ⟨y1, y2, y3, _, _⟩ := young s1.heap.objs.size
                                                               (Nat.le_refl _)
          exact ⟨hea, y1, y2, y3, hgd⟩
        · rw [List.append_nil] at z
          obtain ⟨lt, e, d⟩ := pins p z
          obtain ⟨y1, y2, y3, _, _⟩ := young p.1 (Nat.le_of_lt lt)
          exact ⟨e, y1, y2, y3, d⟩
    have pinned : ∀ {ip : List (Addr × Obj)} {ys : List V} {s' s₁ : Shared} {σ' : L2.St} {H' : Hp}, GI2 (gcxOf P w K mg base N qual scope f cdv Aw outer s H noE [(s1.heap.objs.size, go)]) ⟨D, C, L, kk⟩ s₁ ip ys σ' H' s' → s'.heap.IsGen s1.heap.objs.size s1.gens.size := fun {ip ys s' s₁ σ' H'} hI => by
      obtain ⟨_, _, _, _, J⟩ := hI
      exact hgen _ (J.pin (s1.heap.objs.size, go)
                                                  (List.mem_append_left _ (List.mem_singleton.mpr rfl))).1
    refine seg_func ?_
    refine seg_weak (R := GR2 (gcxOf P w K mg base N qual scope f cdv Aw outer s H noE [(s1.heap.objs.size, go)]) ⟨D, C, L, kk⟩ (fun ys v H' => v = .non ∧ Q ys H') fun e s' => CX P w outer H s noE e s')
      (Y := GY2 (gcxOf P w K mg base N qual scope f cdv Aw outer s H noE [(s1.heap.objs.size, go)]) ⟨D, C, L, kk⟩) (fun n s₀ r s1' hR => ?_) (fun n s₀ v s1' kap kap' hkk hY => ?_) sizeLine ?_
    · cases r with
      | error e =>
        have hR : CX P w outer H s noE e s1' := hR
        obtain ⟨a, B, H', cls, d, _, _, _, _, _, _, _, hW⟩ := hR
        exact False.elim hW
      | ok fl =>
        cases fl with
        | next => exact False.elim hR
        | brk => exact False.elim hR
        | cont => exact False.elim hR
        | ret u =>
          obtain ⟨ys, v, ip, σ', H', hn, hI, rv, ev, hQ⟩ := hR
          subst ev
          have eu : u = Value.none := rv
          subst eu
          obtain ⟨pp, ⟨acc, c, oC', pt, rfl, ea, hC2, hp, hne, hl2, hnd⟩, far, ag, J⟩ := hI
          have pinD := J.pin (D, lstObj acc c) (List.mem_append_right _ List.mem_cons_self)
          have pinC := J.pin (C, oC') (List.mem_append_right _ (List.mem_cons_of_mem _ List.mem_cons_self))
          refine .inl ⟨.inl rfl, H', ys, acc, c, pt, J.os, J.bare, J.base, J.hok, pinD.2.1, pinC.2.1, pinD.1, ea, hp, fun p hp2 => ?_, hnd, by omega, ?_, hQ⟩
          · have q := J.pin p (List.mem_append_right _ (List.mem_cons_of_mem _ (List.mem_cons_of_mem _ (List.mem_append_left _ hp2))))
            exact ⟨q.1, q.2.1, (hne p hp2).1, (hne p hp2).2, (far p (List.mem_cons_of_mem _ (List.mem_cons_of_mem _ hp2))).2.1⟩
          · exact pinC.1.trans (ag (C, oC') (List.mem_cons_of_mem _ List.mem_cons_self)).symm
    · obtain ⟨ys, xx, ip, σ', H', ta, nn, ii, hn, h2, ex, hL, hta, hI, h3⟩ := hY
      have hg := pinned hI
      obtain ⟨pp, ⟨acc, c, oC', pt, rfl, ea, hC2, hp, hne, hl2, hnd⟩, far, ag, J⟩ := hI
      have pinD := J.pin (D, lstObj acc c) (List.mem_append_right _ List.mem_cons_self)
      have pinC := J.pin (C, oC') (List.mem_append_right _ (List.mem_cons_of_mem _ List.mem_cons_self))
      subst ex
      have ev : v = Value.ref ta := h2
      obtain ⟨_, its, rv, ht⟩ := J.hok ta _ hta
      cases rv with
      | cons r1 rr =>
        cases rr with
        | cons r2 rr =>
          cases rr
          obtain ⟨t1, rfl⟩ := r1
          obtain ⟨t2, rfl⟩ := r2
          have sz : acc.size = ys.length := by
            have e1 := congrArg List.length ea
            rw [List.length_map, Array.length_toList] at e1
            omega
          exact ⟨J.os, J.bare, J.nolimit, hg, pinC.1.trans (ag (C, oC') (List.mem_cons_of_mem _ List.mem_cons_self)).symm, ys.length, ta, nn, ii, t1, t2, acc, c, hn, ev, hL, ht, pinD.1, sz, fun s' z => hkk _ _ (h3 s' z)⟩
    · refine ht.run Aw [] _ sizeLine [] s2 _ [] _ _ id id s2 (start N vs) H _ ⟨over_func, rfl, rfl, rfl⟩ (Nat.add_zero _) ⟨fun n ys s₀ s' fl hn hs => ?_, fun n s₀ e s' hx => ?_⟩ hG hq
      · cases fl with
        | next =>
          obtain ⟨σ', H', hI, hQ⟩ := hs
          exact seg_end (.ok (.ret .none))
                                           ⟨ys, .non, [], σ', H', hn, hI, rfl, rfl, hQ⟩
        | brk => obtain ⟨_, _, _, q⟩ := hs; exact False.elim q
        | cont => obtain ⟨_, _, _, q⟩ := hs; exact False.elim q
        | ret u =>
          obtain ⟨v, σ', H', hI, rv, ev, hQ⟩ := hs
          exact seg_end (.ok (.ret u))
                                       ⟨ys, v, [], σ', H', hn, hI, rv, ev, hQ⟩
      · refine seg_wrap ?_
        rw [over_func]
        refine wpAny_mono (show wpAny (model P w) (Aw.deeper (envOfC qual scope s.heap.objs.size f cdv)) (leaving (envOfC qual scope s.heap.objs.size f cdv) e) (fun _ s'' => CX P w outer H s noE e s'' ∧ ∀ p ∈ [(s1.heap.objs.size, go)], s''.heap.get? p.1 = some p.2) (fun _ _ => False) s' from hx) (fun _ s'' q => ?_) fun _ s'' q => q.elim
        exact seg_end (.error e) q.1
  exact main _ _ _ _ rfl rfl rfl fun h => Heap.get?_push_size _ rfl
end GC2
namespace GC2
open PySem PySem.Spec PyProof.Rows GenW L2
section
variable {prog : Program} {w : World} {A : Around}
                                                   {E : Value → Shared → Prop} {env : Env}
/-- a turn of the comprehension: two names, a new tuple, the list -/
theorem turn2 {s : Shared} {x y : Str} {p1 p2 p3 p4 p5 q1 q2 q3 : Pos} {n1 n2 : Nat} {j : Nat} {kk i : Int} {D ta : Addr} {m : Str → Option Value} {n : Str} {t1 t2 : Tok} {acc : Array Value} {c : Nat} {Q N : Shared → Prop}
    (hh : A.handled = none) (hk : env.scope.kind = .function) (hx : env.kindOf x = some .local) (hy : env.kindOf y = some .local) (hxy : x ≠ y) (hdx : (x == ("__debug__" : Str)) = false) (hdy : (y == ("__debug__" : Str)) = false)
    (hn : s.heap.Ns env.locals m) (ht : IsTup s.heap ta #[.str n t1, .int i t2]) (hD : s.heap.get? D = some (lstObj acc c)) (hDC : D ≠ env.locals) (hsz : acc.size ≤ sizeLine)
    (h : ∀ hp tk m' q oq c', (∀ b o, b ≠ D → b ≠ env.locals → s.heap.get? b = some o → hp.get? b = some o) → hp.get? D = some (lstObj (acc.push (.ref q)) c') → s.heap.get? q = none → env.locals < q → hp.get? q = some oq → Tob n (i + kk) oq → hp.Ns env.locals m' → Q { s with heap := hp, toks := tk }) :
    wpAny (model prog w) A (assign (.Tuple [.Name x q1, .Name y q2] n2 q3) env (.ref ta)) (fun _ s2 => wpAny (model prog w) A (forIn ([] : List Expr) true fun c r => if r = true then do let ok ← isTrue c env (eval c env); pure (ForInStep.yield ok) else pure (ForInStep.yield r)) (fun ok s3 =>
      if ok = true then wpAny (model prog w) A (eval (.Tuple [.Name x p1, .BinOp (.Name y p2) .Add (.Constant (.int kk) j p3) p4] n1 p5) env) (fun z s4 => wpAny (model prog w) A (call (.builtin "list.append") [.ref D, z]) (fun _ s5 => Q s5) E s4) E s3 else N s3) E s2) E s := by
  have hcls : (env.scope.kind == .class || (env.scope.kind == .module && env.locals != env.globals)) = false := by rw [hk]; rfl
  refine assign_Tuple_tuple hh ht rfl rfl fun h1 e1 => ?_
  obtain ⟨oL, _, _, hoL, _⟩ := id hn
  have lt : ∀ b o, s.heap.get? b = some o → b ≠ s.heap.objs.size := fun b o e => Nat.ne_of_lt (Heap.lt_size e)
  have k1 : ∀ b o, s.heap.get? b = some o → h1.get? b = some o := fun b o e => e1 b o (lt b o e) e
  have n1' : h1.Ns env.locals m := hn.at' fun o e => k1 _ o e
  show wpAny _ A (assignInOrder [assign (.Name x q1) env, assign (.Name y q2) env] [.str n t1, .int i t2]) _ E _
  refine assignInOrder_cons (wpAny_assign_Name (wpAny_storeName_local hx n1' (fun h2 n2' e2 => ?_) hcls))
  refine assignInOrder_cons (wpAny_assign_Name (wpAny_storeName_local (m := fun z => if z = x then some (.str n t1) else m z) hy n2' (fun h3 n3' e3 => ?_) hcls))
  refine assignInOrder_nil (wpAny_tests_nil ?_)
  rw [if_pos rfl]
  have k3 : ∀ b o, b ≠ env.locals → s.heap.get? b = some o → h3.get? b = some o := fun b o hb e => (e3.2 b hb).trans ((e2.2 b hb).trans (k1 b o e))
  have hmx : (fun z => if z = y then some (Value.int i t2) else if z = x then some (.str n t1) else m z) x = some (.str n t1) := by
    dsimp only
    rw [if_neg hxy, if_pos rfl]
  have hmy : (fun z => if z = y then some (Value.int i t2) else if z = x then some (.str n t1) else m z) y = some (.int i t2) := by
    dsimp only
    rw [if_pos rfl]
  refine wpAny_Tuple_spliced ?_
  show wpAny _ A (spliced [(false, eval (.Name x p1) env), (false, eval (.BinOp (.Name y p2) .Add (.Constant (.int kk) j p3) p4) env)]) _ E _
  refine Calls.spliced_cons (wpAny_Name (wpAny_loadName_local hk hx n3' hmx ?_) hdx)
  refine Calls.spliced_cons (wpAny_BinOp (wpAny_Name (wpAny_loadName_local hk hy n3' hmy ?_) hdy))
  refine wpAny_Constant_int (PyProof.Rows.add_int ?_)
  refine Calls.spliced_nil ⟨by show 2 ≤ sizeLine; decide, ?_⟩
  have hD4 : (h3.push { cls := .type "tuple", data := .seq #[Value.str n t1, Value.int (i + kk) (s.toks + 1 + 1 + 1)] }).get? D = some (lstObj acc c) := Heap.get?_push_of_some _ (k3 D _ hDC hD)
  refine append_at (hsz := hsz) hD4 fun h5 e5 eD5 => ?_
  have ltq : ∀ {b : Addr} {o : Obj}, h3.get? b = some o → h3.objs.size ≠ b := fun e w => absurd (Heap.lt_size e) (by rw [w]; exact Nat.lt_irrefl _)
  have ltL : env.locals < h3.objs.size := n3'.lt
  have gone : s.heap.get? h3.objs.size = none := by
    cases e : s.heap.get? h3.objs.size with
    | none => rfl
    | some o => exact absurd rfl (ltq (k3 _ o (Nat.ne_of_gt ltL) e))
  have nqD : h3.objs.size ≠ D := fun z => absurd (Heap.lt_size (k3 D _ hDC hD)) (by rw [z]; exact Nat.lt_irrefl _)
  have push5 : ∀ b o, b ≠ D → h3.get? b = some o → h5.get? b = some o := fun b o hb e => (e5.2 b hb).trans (Heap.get?_push_of_some _ e)
  refine h h5 _ (fun z => if z = y then some (Value.int i t2) else if z = x then some (.str n t1) else m z) h3.objs.size _ _ (fun b o hb hc e => push5 b o hb (k3 b o hc e)) eD5 gone ltL ((e5.2 _ nqD).trans (Heap.get?_push_size _ rfl)) ⟨rfl, _, _, _, rfl⟩ (n3'.at' fun o e => push5 _ o hDC.symm e)
end
end GC2
namespace GC2
open PySem PySem.Spec PyProof.Rows GenW L2
/-- an expression whose value is a generator that has not begun, and what it will hand out -/
abbrev TGen2 := L2.St → Hp → List (Str × Int) → (List V → Hp → Prop) → Prop
structure Pg2 (X : Cx) (k : Nat) (e : Expr) (tg : TGen2) : Prop where
  run : ∀ (pins : List (Addr × Obj)) (s : Shared) (σ : L2.St) (H : Hp) (L : List (Str × Int)) (kk : Int) (cont : List V → Hp → Prop), Inv X pins σ H s → tg σ H L cont → wpAny (model X.prog X.w) X.A (eval e X.env)
    (fun u s' => ∃ H1 sc, Inv X pins σ H1 sc ∧ Made2 X.prog X.w k X.stack H1 sc L kk cont u s') X.xe s
section
variable {X : Cx} {k : Nat} {f C : Addr} {fd : FuncData} {ps : List Str} {sp : Sp2} {x m : Str} {p pos pos' apos : Pos} {o : Expr} {ta : TE}
theorem run_fn2 {pins : List (Addr × Obj)} {σ : L2.St} {H : Hp} {s : Shared} {us : List Value} {vs : List V} {L : List (Str × Int)} {kk : Int} {cont : List V → Hp → Prop} {E1 : Value → Shared → Prop} (F : Fn2 X.prog X.w X.K X.mg X.base k f fd ps sp) (hr : Room k X.A) (hb : Binds X.K fd ps [])
    (I : Inv X pins σ H s) (r : Vals vs us) (h : sp vs H L cont) :
    wpAny (model X.prog X.w) X.A (call (.ref f) us) (fun u s' => ∃ H1 sc, Inv X pins σ H1 sc ∧ Made2 X.prog X.w k X.stack H1 sc L kk cont u s') E1 s := by
  have hl : (us ++ []).length = ps.length := by rw [List.append_nil, ← r.length]; exact F.len _ _ _ _ h
  have bt := hb s us I.kIn hl
  rw [List.append_nil] at bt
  refine wpAny_call (codeAny_mono (F.run X.A X.stack s H ⟨us, []⟩ us vs L kk cont hr I.env0 bt r h) fun r s' hq => ?_)
  cases r with
  | error e => exact False.elim hq
  | ok fl =>
    cases fl with
    | ret u => exact ⟨H, s, I, hq⟩
    | next => exact False.elim hq
    | brk => exact False.elim hq
    | cont => exact False.elim hq
def tMeth2 (C : Addr) (m : Str) (sp : Sp2) (ta : TE) (t : TA) : TGen2 := fun σ H L cont => ta σ H fun x H1 => ∃ a dx fs, x = .ref a ∧ H1 a = some (.ins C dx fs) ∧ fs.lookup m = none ∧ t σ H1 fun vs H2 => sp (x :: vs) H2 L cont
theorem pg2_meth {pl : Sem Bool} {e : Expr} {es : List Expr} {t : TA} (he : PE X o ta) (c : Cls X.K C) (hm : Meth X.K C m f) (F : Fn2 X.prog X.w X.K X.mg X.base k f fd ps sp) (hr : Room k X.A) (hb : Binds X.K fd ps []) (ha : PA X (e :: es) t)
    (hst : starEach (e :: es) X.env = (false, eval e X.env) :: starEach es X.env := by rfl)
                                                                                            (hpl : (backTo pos' (starEach es X.env)).any (·.1) = false := by rfl)
    (ht : eval (.Call (.Attribute o m apos)
                                            (e :: es) [] pos') X.env = (do
      let ov ← eval o X.env
      standAt apos.atName
      let (f, first) ← holding [ov] (getMethod ov m pl)
      callWith pos' f first (backTo pos' (starEach (e :: es) X.env))
                                                                     (backToKw pos' (keywordEach [] X.env))) := by rfl) :
    Pg2 X k (.Call (.Attribute o m apos) (e :: es) [] pos') (tMeth2 C m sp ta t) := by
  constructor
  intro pins s σ H L kk cont I h
  refine PySem.W.methodCall_KW (pl := pl) (thn (he.run pins s σ H _ I h) fun u s1
                                                                                  ⟨x, H1, I1, rx, a, dx, fs, ex, ea, l, q⟩ => ?_) ht
  subst ex
  obtain rfl : u = Value.ref a := rx
  refine getmeth_ok I1 ea c hm l (PySem.W.callWith_K (first := [.ref a]) (h₀ := X.base) I.ok.mod.kin hm.kp (thn (ha.run pos' pins s1 σ H1 _ I1 q) fun us s2 ⟨vs, H2, I2, r, q2⟩ => ⟨I2.kIn, ?_⟩) hst hpl)
  exact run_fn2 (us := .ref a :: us) (vs := .ref a :: vs) F hr hb I2 (.cons rfl r) q2
end
/-- a list's values are tuples -/
def Tls (H : Hp) (kk : Int) (xs : List V) (L : List (Str × Int)) : Prop := Paired (fun (v : V) (q : Str × Int) => ∃ a, v = .ref a ∧ H a = some (.tup [.str q.1, .int (q.2 + kk)])) xs L
def laidT (kk : Int) (H : Hp) : List (Str × Int) → List (Addr × Obj) → Hp
  | q :: L, p :: pt => upd (laidT kk H L pt) p.1 (.tup [.str q.1, .int (q.2 + kk)])
  | [], _ => H
  | _ :: _, [] => H
theorem laidT_ne {kk : Int} {H : Hp} {b : Addr} : ∀ {L : List (Str × Int)} {pt : List (Addr × Obj)}, (∀ p ∈ pt, p.1 ≠ b) → laidT kk H L pt b = H b
  | [], _, _ => by unfold laidT; rfl
  | _ :: _, [], _ => rfl
  | q :: L, p :: pt, h => by
    show upd (laidT kk H L pt) p.1 _ b = _
    rw [upd_ne (h p List.mem_cons_self).symm, laidT_ne fun p hp => h p (List.mem_cons_of_mem _ hp)]
theorem Tls.mono {H H' : Hp} {kk : Int} {L : List (Str × Int)} {xs : List V} (h : Tls H kk xs L) (k : ∀ a, V.ref a ∈ xs → H' a = H a) : Tls H' kk xs L := by
  unfold Tls at *
  induction h with
  | nil => exact .nil
  | cons r t ih =>
    obtain ⟨a, e, q⟩ := r
    exact .cons ⟨a, e, (k a (by rw [e]; exact List.mem_cons_self)).trans q⟩ (ih fun b hb => k b (List.mem_cons_of_mem _ hb))
theorem laidT_tls {kk : Int} {H : Hp} : ∀ {L : List (Str × Int)} {pt : List (Addr × Obj)}, Paired (fun (q : Str × Int) (p : Addr × Obj) => Tob q.1 (q.2 + kk) p.2) L pt → (pt.map (·.1)).Nodup → Tls (laidT kk H L pt) kk (pt.map fun p => V.ref p.1) L
  | _, _, .nil, _ => .nil
  | q :: L, p :: pt, .cons r t, nd => by
    rw [List.map_cons, List.nodup_cons] at nd
    refine .cons ⟨p.1, rfl, upd_same⟩ (Tls.mono (laidT_tls (H := H) t nd.2) fun a ha => upd_ne fun e => nd.1 ?_)
    obtain ⟨p2, h2, e2⟩ := List.mem_map.mp ha
    exact List.mem_map.mpr ⟨p2, h2, (V.ref.inj e2).trans e⟩
theorem laidT_ok {P : Program} {w : World} {kk : Int} {H : Hp} {h : Heap} (ok : HOk P w H h) : ∀ {L : List (Str × Int)} {pt : List (Addr × Obj)}, Paired (fun (q : Str × Int) (p : Addr × Obj) => Tob q.1 (q.2 + kk) p.2) L pt → (pt.map (·.1)).Nodup → (∀ p ∈ pt, h.get? p.1 = some p.2 ∧ H p.1 = none) → HOk P w (laidT kk H L pt) h
  | _, _, .nil, _, _ => ok
  | q :: L, p :: pt, .cons r t, nd, hp => by
    rw [List.map_cons, List.nodup_cons] at nd
    have hp0 := hp p List.mem_cons_self
    obtain ⟨rc, t1, t2, m, rd⟩ := r
    refine HOk.laidN (laidT_ok ok t nd.2 fun p hq => hp p (List.mem_cons_of_mem _ hq)) (fun _ _ e => e) ?_ ⟨by show 2 ≤ sizeLine; decide, [Value.str q.1 t1, Value.int (q.2 + kk) t2], .cons ⟨_, rfl⟩ (.cons ⟨_, rfl⟩ .nil), p.2, hp0.1, rc, m, rd⟩
    rw [laidT_ne fun p2 h2 e => nd.1 (List.mem_map.mpr ⟨p2, h2, e⟩)]
    exact hp0.2
theorem vals_refs : ∀ pt : List (Addr × Obj), Vals (pt.map fun p => V.ref p.1) (pt.map fun p => Value.ref p.1)
  | [] => .nil
  | p :: pt => .cons rfl (vals_refs pt)
/-- [(x, y + k) for x, y in g]: the generator may hand out what it has told -/
def tLcGen (tg : TGen2) (kk : Int) : TE := fun σ H Q => ∃ L, tg σ H L fun out H2 => ∀ D xs H3, Same H2 H3 → H2 D = none → H3 D = some (.lst xs) → Tls H3 kk xs (L.take out.length) → Q (.ref D) H3
theorem lcg_core {X : Cx} {k : Nat} {iter : Expr} {tg : TGen2} {x y : Str} {p1 p2 p3 p4 p5 q1 q2 q3 : Pos} {n1 n2 j : Nat} {kk : Int} {scope : Scope} {own : List (Str × Nat)} {pos pos' : Pos} {use : Option (Value → Sem Unit)} {Qf : Value → Shared → Prop} {pins : List (Addr × Obj)} {s : Shared} {σ : L2.St} {H : Hp} {Q : VK}
    (hc : X.calm = true) (hN : X.N.Nodup) (I : Inv X pins σ H s) (h : Pg2 X k iter tg) (hr : Room (k + 3) X.A) (ok : BlkOk X.N X.env.scope scope own) (hx : scope.names.lookup x = some .local) (hy : scope.names.lookup y = some .local) (hxy : x ≠ y) (hdx : (x == ("__debug__" : Str)) = false)
    (hdy : (y == ("__debug__" : Str)) = false) (hs : ∀ z, foldedSetIterable iter X.env z = pure z) (h0 : tLcGen tg kk σ H Q) (hRR : ∀ D C s' m H', Inv X pins σ H' s' → Q (.ref D) H' → s'.heap.Ns C m → FpOk X pins H' C → compPost (model X.prog X.w) X.A X.xe use Qf (.ref D) C (.ok .next) s') :
    wpAny (model X.prog X.w) X.A (comprehension (.ListComp (.Tuple [.Name x p1, .BinOp (.Name y p2) .Add (.Constant (.int kk) j p3) p4] n1 p5) [⟨.Tuple [.Name x q1, .Name y q2] n2 q3, iter, [], 0⟩] scope pos) scope X.env pos' (newList []) false (eval iter X.env) use) Qf X.xe s := by
  obtain ⟨L, hL⟩ := h0
  obtain ⟨cont, hco⟩ : ∃ cont : List V → Hp → Prop, cont = fun out H2 => ∀ D xs H3, Same H2 H3 → H2 D = none → H3 D = some (.lst xs) → Tls H3 kk xs (L.take out.length) → Q (.ref D) H3 := ⟨_, rfl⟩
  rw [← hco] at hL
  have hfree : ∀ y ∈ scope.names, y.2 = .free → ∃ c, X.env.cells.lookup y.1 = some c := fun y hy e => by
    rcases ok.free y hy e with k | k
    · exact I.ok.has _ (.inl k)
    · exact I.ok.has _ (.inr k)
  refine wpAny_comprehension_free (use := use) rfl hs (closure_ok hfree) ok.kind (fun y hy e => by rw [ok.uniq y hy, e]) (thn (h.run pins s σ H L kk cont I hL) fun u s1 hM => ?_)
  obtain ⟨H1, sc, I1, a, g, c, rfl, ha1, ha2, hg, hgs, hos, hb, hl, hkp, wake⟩ := hM
  refine wpAny_pyIter_gen hg ?_
  have hlim : cStatics < s1.heap.objs.size := let ⟨_, hn, _⟩ := hl; hn.lt
  have hsc : sc.heap.objs.size ≤ s1.heap.objs.size := Nat.le_trans ha1 (Nat.le_of_lt ha2)
  have I2 : Inv X pins σ H1 s1 := I1.call' (ch := []) hos (Un.kept hkp) (I1.hok.kept hkp) hb fun b z => by simp at z
  refine wpAny_newObj_type (newEnv_comp ?_)
                                            (by show 0 ≤ sizeLine; decide)
  generalize hD : s1.heap.objs.size = D
  have hDn : H1 D = none := I2.hok.fresh (Nat.le_of_eq hD)
  generalize hs3 : ({ s1 with heap := s1.heap.push { cls := .type "list", data := .seq ([] : List Value).toArray } } : Shared) = s3
  have I3 : Inv X pins σ (upd H1 D (.lst [])) s3 := by
    rw [← hs3]
    refine I2.laid (t' := s1.toks) (fun b o e => Heap.get?_push_of_some _ e) (Nat.le_of_eq hD) ⟨Nat.zero_le _, [], 0, .nil, ?_⟩
    rw [← hD]
    exact Heap.get?_push_size _ rfl
  have h3 : s3.heap = s1.heap.push { cls := .type "list", data := .seq ([] : List Value).toArray } := by rw [← hs3]
  have eD3 : s3.heap.get? D = some (lstObj #[] 0) := by
    rw [h3, ← hD]
    exact Heap.get?_push_size _ rfl
  have k13 : ∀ b o, s1.heap.get? b = some o → s3.heap.get? b = some o := fun b o e => by rw [h3]; exact Heap.get?_push_of_some _ e
  have ltD : D < s3.heap.objs.size := by
    rw [h3, Heap.size_push, ← hD]
    exact Nat.lt_succ_self _
  have I4 := block_start (fp := []) I3 ok hN (fun b hb => by cases hb)
  generalize hce : compEnvC scope (cellsFrom (s3.heap.objs.size + 1) scope.names (cloFrom X.env.cells scope.names [])) s3.heap.objs.size X.env = ce at I4
  have cL : ce.locals = s3.heap.objs.size := by rw [← hce]; rfl
  have cS : ce.scope = relS scope X.env.scope := by rw [← hce]; rfl
  have cK : ce.scope.kind = .function := I4.ok.kind
  have cx : ce.kindOf x = some .local := by
    unfold Env.kindOf
    rw [cS]
    exact lookup_relS_keep (by decide) hx
  have cy : ce.kindOf y = some .local := by
    unfold Env.kindOf
    rw [cS]
    exact lookup_relS_keep (by decide) hy
  have k34 : ∀ b o, s3.heap.get? b = some o → (pushCells (s3.heap.push { cls := .type "dict", data := .dict #[] }) scope.names).get? b = some o := fun b o e => pushCells_keeps _ _ _ _ (Heap.get?_push_of_some _ e)
  show codeAny _ _ (.compStart (.ListComp _ _ scope pos) 0 (.ref a) (.ref D) (compEnvC scope (cellsFrom (s3.heap.objs.size + 1) scope.names (cloFrom X.env.cells scope.names [])) s3.heap.objs.size X.env)) (compPost (model X.prog X.w) X.A X.xe use _ (.ref D) s3.heap.objs.size) { s3 with heap := pushCells (s3.heap.push { cls := .type "dict", data := .dict #[] }) scope.names }
  rw [hce]
  have os3 : s3.os = s1.os := by rw [← hs3]
  have gens3 : s3.gens = s1.gens := by rw [← hs3]
  generalize hs4 : ({ s3 with heap := pushCells (s3.heap.push
                                                              { cls := .type "dict", data := .dict #[] }) scope.names } : Shared) = s4 at I4 ⊢
  have k34' : ∀ b o, s3.heap.get? b = some o → s4.heap.get? b = some o := fun b o e => by rw [← hs4]; exact k34 b o e
  have os4 : s4.os = sc.os := by rw [← hs4]; exact os3.trans hos
  have gens4 : s4.gens = s1.gens := by rw [← hs4]; exact gens3
  have k14 : ∀ b o, s1.heap.get? b = some o → s4.heap.get? b = some o := fun b o e => k34' b o (k13 b o e)
  obtain ⟨m0, hn0, _⟩ := I4.loc
  have hn0 : s4.heap.Ns ce.locals m0 := hn0
  generalize hC : ce.locals = C at *
  have hDC : D ≠ C := by rw [cL]; exact Nat.ne_of_lt ltD
  have leC : s1.heap.objs.size ≤ C := by rw [cL, hD]; exact Nat.le_of_lt ltD
  have naD : a ≠ D := by rw [← hD]; exact Nat.ne_of_lt ha2
  have naC : a ≠ C := Nat.ne_of_lt (Nat.lt_of_lt_of_le ha2 leC)
  have nsD : cStatics ≠ D := by rw [← hD]; exact Nat.ne_of_lt hlim
  have nsC : cStatics ≠ C := Nat.ne_of_lt (Nat.lt_of_lt_of_le hlim leC)
  rw [← cL]
  clear hce cS I4 I3 k34 hs4 hs3 h3
  have room : Room k X.A.in1 := ⟨hr.hd, by have := hr.dp; show X.A.depth + 3 * k + 5 < _; omega, by have := hr.un; show X.A.units + 1 + 16 * k + 200 < _; omega⟩
  have loop : codeAny (model X.prog X.w) X.A (.compLoop (.ListComp (.Tuple [.Name x p1, .BinOp (.Name y p2) .Add (.Constant (.int kk) j p3) p4] n1 p5) [⟨.Tuple [.Name x q1, .Name y q2] n2 q3, iter, [], 0⟩] scope pos) 0 (.ref a) (.ref D) ce) (compPost (model X.prog X.w) X.A X.xe use Qf (.ref D) C) s4 := by
    refine compLoop_any (fun n s' => s'.heap.IsGen a g ∧ s'.heap.NoLimit ∧ (∃ gs, s'.gens[g]? = some gs ∧ gs.Goes (model X.prog X.w) X.A.in1 (End2 X.prog X.w X.stack H1 sc ⟨D, C, L, kk⟩ cont) (Item2 sc ⟨D, C, L, kk⟩ a g) n (.send .none) (s'.setGen g .running)) ∧ s'.os = sc.os ∧ AllBare s'.gens ∧ ∃ m, s'.heap.Ns C m) ?_ sizeLine
      ⟨hg.keeps k14, hl.keeps k14, ⟨.fresh c, by rw [gens4]; exact hgs, rfl, wake X.A.in1 D C (s4.setGen g .running) room I1.ok.frames (Nat.le_of_eq hD) leC k14 ⟨0, k34' D _ eD3⟩ ?_ os4 (allBare_setGen (by rw [gens4]; exact hb) rfl)⟩, os4, by rw [gens4]; exact hb, m0, hn0⟩
    · rintro n s5 ⟨ig, lim, ⟨gs, egs, goes⟩, os5, hb5, m, hn5⟩
      have hgl : g < s5.gens.size := (Array.getElem?_eq_some_iff.mp egs).1
      refine wpAny_gsz (n := g + 1) hgl (next_genG (A := X.A) (F := fun _ s₀ s1 => Fin2 X.prog X.w X.stack H1 sc ⟨D, C, L, kk⟩ cont s₀ s1) (Er := fun _ _ => False) (I.ok.hd hc) lim hr.depth ig egs goes (fun v s₁ gs' hbare hv => ?_) (fun s₁ hp h' hk => ?_) fun e s₁ he => he.elim)
      · intro hsz
        obtain ⟨os1, hb1, hl1, hg1, eC, jj, ta, nn, i, t1, t2, acc, cc, hj, rfl, hLj, htup, eD, hacc, hk⟩ := hv
        obtain ⟨og, _, _, eg, cg, dg, _⟩ := id hg1
        have hsz1 : g < s₁.gens.size := by
          have q : (s₁.setGen g gs').gens.size = s₁.gens.size := setGen_size _ _ _
          have hsz' : g + 1 ≤ (s₁.setGen g gs').gens.size := hsz
          omega
        have hn1 : s₁.heap.Ns ce.locals m := by
          rw [hC]
          exact hn5.at' fun o e => eC.trans e
        refine go_of (s := s₁.setGen g gs') eg cg dg (by decide) ?_
        refine turn2 (kk := kk) (D := D) (s := s₁.setGen g gs') (I.ok.hd hc) cK cx cy hxy hdx hdy hn1 htup eD (by rw [hC]; exact hDC) (by omega) fun hp tk m' q oq c' kp eD' gone ltq eq' tob hn' => ?_
        rw [hC] at kp ltq hn'
        have slp : Slp D C nn (i + kk) s₁ (Shared.setGen { s₁.setGen g gs' with heap := hp, toks := tk } g .running) := by
          refine ⟨rfl, allBare_setGen (s := s₁.setGen g gs') (allBare_setGen hb1 hbare) rfl, kp, fun acc2 c2 e2 => ?_, ?_⟩
          · rw [eD] at e2
            cases e2
            exact ⟨c', q, oq, eD', gone, ltq, eq', tob⟩
          · obtain ⟨o, _, _, e, d, _⟩ := id hn'
            exact ⟨o, e, fun v z => by rw [d] at z; cases z⟩
        cases n with
        | zero => exact (hk _ slp).elim
        | succ n =>
          refine ⟨n, Nat.lt_succ_self _, ?_, ?_, ⟨gs', setGen_at hsz1, hk _ slp⟩, os1, allBare_setGen hb1 hbare, m', hn'⟩
          · obtain ⟨o, nm, qn, ho, rr⟩ := hg1
            exact ⟨o, nm, qn, kp a o naD naC ho, rr⟩
          · obtain ⟨mc, hns, hnn⟩ := hl1
            exact ⟨mc, hns.at' fun o e => kp _ o nsD nsC e, hnn⟩
      · intro hsz
        obtain ⟨H', ys, acc, cc, pt, os1, hb1, un, hok, hDn', hCn', eD, eacc, hp, hpt, nd, hle, eC, hcont⟩ := hp
        have hn1 : s₁.heap.Ns C m := hn5.at' fun o e => eC.trans e
        rw [hco] at hcont
        have hpt' : ∀ p ∈ pt, h'.get? p.1 = some p.2 ∧ H' p.1 = none := fun p hp2 => ⟨hk _ _ (hpt p hp2).1, (hpt p hp2).2.1⟩
        have okT : HOk X.prog X.w (laidT kk H' (L.take ys.length) pt) h' := laidT_ok (hok.kept hk) hp nd hpt'
        have nD : laidT kk H' (L.take ys.length) pt D = none := by rw [laidT_ne fun p hp2 => (hpt p hp2).2.2.1]; exact hDn'
        have lpt : pt.length ≤ sizeLine := by
          have e1 := Paired.length hp
          rw [List.length_take] at e1
          omega
        have okD : HOk X.prog X.w (upd (laidT kk H' (L.take ys.length) pt) D (.lst (pt.map fun p => V.ref p.1))) h' := by
          refine HOk.laidN okT (fun _ _ e => e) nD ⟨by rw [List.length_map]; exact lpt, acc.toList, cc, by rw [eacc]; exact vals_refs pt, ?_⟩
          exact hk _ _ eD
        have same : Same H' (upd (laidT kk H' (L.take ys.length) pt) D (.lst (pt.map fun p => V.ref p.1))) := fun b o e => by
          rw [upd_ne (ne_of_none e hDn'), laidT_ne fun p hp2 z => by rw [← z, (hpt p hp2).2.1] at e; cases e]
          exact e
        have un3 : Un (frs X.stack) [] H1 (upd (laidT kk H' (L.take ys.length) pt) D (.lst (pt.map fun p => V.ref p.1))) sc.heap h' := by
          have u := un.trans (Un.kept hk)
          refine ⟨u.keep, u.slot, fun b o e n hx => ?_, u.there, fun b xs e => same _ _ (u.tups b xs e), fun b o xs e => same _ _ (u.frzs b o xs e), fun b ps e => ?_⟩
          · have lt := Heap.lt_size e
            rw [upd_ne (by rw [← hD]; exact Nat.ne_of_lt (Nat.lt_of_lt_of_le lt hsc)), laidT_ne fun p hp2 z => absurd (hpt p hp2).2.2.2.2 (by rw [z]; exact Nat.not_le_of_lt lt)]
            exact u.free b o e n hx
          · obtain ⟨more, q⟩ := u.tbls b ps e
            exact ⟨more, same _ _ q⟩
        have nC : (upd (laidT kk H' (L.take ys.length) pt) D (.lst (pt.map fun p => V.ref p.1))) C = none := by
          rw [upd_ne hDC.symm, laidT_ne fun p hp2 => (hpt p hp2).2.2.2.1]
          exact hCn'
        have I9 : Inv X pins σ (upd (laidT kk H' (L.take ys.length) pt) D (.lst (pt.map fun p => V.ref p.1))) { s₁.setGen g .finished with heap := h' } := I1.call' (ch := []) os1 un3 okD (allBare_setGen hb1 rfl) fun b z => by simp at z
        refine hRR D C _ m _ I9 (hcont D _ _ same hDn' upd_same ?_) (hn1.at' fun o e => hk _ _ e) (I1.fpOk (Nat.le_trans hsc leC) nC)
        refine Tls.mono (laidT_tls (H := H') hp nd) fun b hb => upd_ne fun e => ?_
        obtain ⟨p2, h2, e2⟩ := List.mem_map.mp hb
        exact (hpt p2 h2).2.2.1 ((V.ref.inj e2).trans e)
    · obtain ⟨o, _, _, e, d, _⟩ := id hn0
      exact ⟨o, e, fun v z => by rw [d] at z; cases z⟩
  exact codeAny_compStart_list loop (wpAny_pyIter_gen (hg.keeps k14) loop)
section
variable {X : Cx} {k : Nat} {iter : Expr} {tg : TGen2} {x y : Str} {p1 p2 p3 p4 p5 q1 q2 q3 : Pos} {n1 n2 j : Nat} {kk : Int} {scope : Scope} {own : List (Str × Nat)} {pos : Pos}
theorem pe_lcGen (hc : X.calm = true) (hN : X.N.Nodup) (h : Pg2 X k iter tg) (hr : Room (k + 3) X.A) (ok : BlkOk X.N X.env.scope scope own) (hx : scope.names.lookup x = some .local) (hy : scope.names.lookup y = some .local) (hxy : x ≠ y) (hdx : (x == ("__debug__" : Str)) = false)
    (hdy : (y == ("__debug__" : Str)) = false) (hs : ∀ z, foldedSetIterable iter X.env z = pure z := by intro _; rfl) :
    PE X (.ListComp (.Tuple [.Name x p1, .BinOp (.Name y p2) .Add (.Constant (.int kk) j p3) p4] n1 p5) [⟨.Tuple [.Name x q1, .Name y q2] n2 q3, iter, [], 0⟩] scope pos) (tLcGen tg kk) := by
  refine ⟨fun pins s σ H Q I h0 => ?_⟩
  rw [eval_ListComp]
  refine lcg_core hc hN I h hr ok hx hy hxy hdx hdy hs h0 fun D C s' m H' I' q hn f => ⟨m, hn, fun h'' sb => ?_⟩
  obtain ⟨f0, f1, f2, f3, f4, f5⟩ := f
  exact ⟨.ref D, H', I'.turned (t' := s'.toks)
                                               (fun b o hb e => (sb.2 b hb).trans e) f0 f1 f3 f4 f5, rfl, q⟩
/-- z = [(x, y + k) for x, y in g] on one line -/
theorem ps_setLcGen {i : Nat} {z : Str} {pz spos : Pos} (hc : X.calm = true) (hN : X.N.Nodup) (hz : X.N[i]? = some z) (hzl : X.env.scope.names.lookup z = some .local) (hsw : swapsWith (.ListComp (.Tuple [.Name x p1, .BinOp (.Name y p2) .Add (.Constant (.int kk) j p3) p4] n1 p5) [⟨.Tuple [.Name x q1, .Name y q2] n2 q3, iter, [], 0⟩] scope pos) (some (.Name z pz)) spos.line X.env = pure true)
    (h : Pg2 X k iter tg) (hr : Room (k + 3) X.A) (ok : BlkOk X.N X.env.scope scope own) (hx : scope.names.lookup x = some .local) (hy : scope.names.lookup y = some .local) (hxy : x ≠ y) (hdx : (x == ("__debug__" : Str)) = false)
    (hdy : (y == ("__debug__" : Str)) = false) (hs : ∀ z, foldedSetIterable iter X.env z = pure z := by intro _; rfl) :
    PS X (.Assign [.Name z pz] (.ListComp (.Tuple [.Name x p1, .BinOp (.Name y p2) .Add (.Constant (.int kk) j p3) p4] n1 p5) [⟨.Tuple [.Name x q1, .Name y q2] n2 q3, iter, [], 0⟩] scope pos) spos) (tAsg (tLcGen tg kk) (gName i)) := by
  refine ⟨fun pins s σ H D I h0 => ?_⟩
  rw [exec_Assign_Name_used _ _ _ _ hsw]
  refine wpAny_bind (wpAny_standAt (wpAny_bind ?_))
  have h0 : tLcGen tg kk σ H (fun x H1 => gName i x σ H1 D.nx) := h0
  refine wpAny_bind (thn (lcg_core (Qf := fun _ s' => SP X pins D .next s') (use := some (assign (.Name z pz) X.env)) hc hN I h hr ok hx hy hxy hdx hdy hs h0 fun L C s' m H' I' q hn f => ?_) fun _ s' hq => wpAny_pure (wpAny_pure hq))
  refine wpAny_assign_Name (store_ok2 (v := V.ref L) I' hN hz (.inl hzl) rfl (fun s2 I2 ⟨a, sb, ha⟩ => ?_) (.inr hzl))
  obtain ⟨f0, f1, f2, f3, f4, f5⟩ := f
  have haC : C ≠ a := by
    rcases ha with w | w
    · rw [w]; exact f1
    · exact fun e => f4 z a w e.symm
  refine ⟨m, hn.sameBut sb haC, fun h3 sb3 => ⟨_, H', I2.turned (t' := s2.toks) (fun b o hb e => (sb3.2 b hb).trans e) f0 f1 f3 f4 f5, q⟩⟩
end
end GC2
namespace K40
open PySem L2
open PyProof.Rows PySem.Spec OW
section
variable {P : Program} {w : World} {K : PySem.W.Frag}
                                                      {mg : Str → Option Value} {base : Heap}
theorem passF {X : Cx} : Passes (CX X.prog X.w) X GC2.noE := fun pins σ H s e s' I h => by
  obtain ⟨a, B, H', cls, d, _, _, _, _, _, _, _, hW⟩ := h
  exact False.elim hW
theorem noStopF : NoStop K GC2.noE := fun cls d H h => False.elim h
theorem cut_take (ns : List Str) {z : Int} (h0 : 0 ≤ z) : cutV (ns.map V.str) none (some z) = (ns.take z.toNat).map V.str := by
  obtain ⟨k, rfl⟩ := Int.eq_ofNat_of_zero_le h0
  unfold cutV
  rw [HT.sIx_none, HT.sIx_nat, List.drop_zero, Nat.sub_zero, ← List.take_take, List.take_length, List.map_take]
  rfl
theorem cut_drop (ns : List Str) {z : Int} (h0 : 0 ≤ z) : cutV (ns.map V.str) (some z) none = (ns.drop z.toNat).map V.str := by
  obtain ⟨k, rfl⟩ := Int.eq_ofNat_of_zero_le h0
  unfold cutV
  rw [HT.sIx_none, HT.sIx_nat, List.take_of_length_le (by rw [List.length_drop]; exact Nat.le_refl _), ← List.map_drop]
  congr 1
  rw [List.length_map]
  rcases Nat.le_total k ns.length with h | h
  · rw [Nat.min_eq_left h]
    rfl
  · rw [Nat.min_eq_right h, List.drop_length]
    exact (List.drop_eq_nil_of_le h).symm
theorem paired_app {α β : Type} {F : α → β → Prop} : ∀ {xs : List α} {ys : List β} {us : List α} {vs : List β}, Paired F xs ys → Paired F us vs → Paired F (xs ++ us) (ys ++ vs)
  | _, _, _, _, .nil, h => h
  | _, _, _, _, .cons a t, h => .cons a (paired_app t h)
theorem paired_len {α β : Type} {F : α → β → Prop} : ∀ {xs : List α} {ys : List β}, Paired F xs ys → xs.length = ys.length
  | _, _, .nil => rfl
  | _, _, .cons _ t => by rw [List.length_cons, List.length_cons, paired_len t]
theorem mst_eq {S : Rws} {t : Int} {ns : List Str} {m m' : Int} (a : Mst S t ns m) (b : Mst S t ns m') : m = m' := Int.le_antisymm (b.2 m a.1) (a.2 m' b.1)
theorem out_ti {H : Hp} : ∀ {xs : List V} {L : List (Str × Int)}, OutAt H xs L → ∃ bs : List KST.TI, xs = bs.map (fun b => V.ref b.1) ∧ bs.map (·.2) = L ∧ ∀ b ∈ bs, H b.1 = some (.tup [.str b.2.1, .int b.2.2])
  | _, _, .nil => ⟨[], rfl, rfl, fun b hb => by cases hb⟩
  | _, _, .cons (b := q) ⟨a, e, z⟩ t => by
    obtain ⟨bs, h1, h2, h3⟩ := out_ti t
    refine ⟨(a, q) :: bs, by rw [h1, e]; rfl, by rw [List.map_cons, h2], fun b hb => ?_⟩
    rcases List.mem_cons.mp hb with rfl | hb
    · exact z
    · exact h3 b hb
theorem ti_out {H : Hp} : ∀ {bs : List KST.TI}, (∀ b ∈ bs, H b.1 = some (.tup [.str b.2.1, .int b.2.2])) → OutAt H (bs.map fun b => V.ref b.1) (bs.map (·.2))
  | [], _ => .nil
  | b :: bs, h => .cons ⟨b.1, rfl, h b List.mem_cons_self⟩ (ti_out fun c hc => h c (List.mem_cons_of_mem _ hc))
def sp_w_right (K : PySem.W.Frag) : Sp := fun vs H Q _ => ∃ r : Addr, vs = [.ref r] ∧ Rl H r ∧ ∀ H', Only r H H' → Rl H' r → Q (.bl true) H'
set_option maxHeartbeats 16000000 in
theorem ok_w_right (T : T K mg) (U : UX K mg) (ai : AddI K U.C) (an : AndT K U.C) : GW.FnG P w K mg base CX0 13 T.f_w_right T.d_w_right ["tray"] (sp_w_right K) := by
  have G_w_pick : FnOk P w K mg base CX0 2 T.f_w_pick T.d_w_pick ["tray", "items"] (sp_w_pick K) := ok_w_pick T
  have G_w_roll : FnOk P w K mg base CX0 1 T.f_w_roll T.d_w_roll ["tray", "total"] (sp_w_roll K) := ok_w_roll T
  have G_w_sorted : FnOk P w K mg base CX0 1 T.f_w_sorted T.d_w_sorted ["rows"] (sp_w_sorted K) := ok_w_sorted T
  have G_w_counts : FnOk P w K mg base CX0 5 T.f_w_counts T.d_w_counts ["spans", "first"] (sp_w_counts K U.C) := ok_w_counts T U
  have G_eq : FnOk P w K mg base CX0 3 U.me.f U.me.d ["self", "other"] (sp_eq K U.C) := ok_eq T U
  have Gi : FnOk P w K mg base CX0 1 U.pi.g U.pi.d ["self"] (getSp U.C "_interval") := ok_get U.cl U.pi sc_Spans_interval U.n1 ⟨_, _, _, rfl⟩
  have Gr : FnOk P w K mg base CX0 1 U.pr.g U.pr.d ["self"] (sp_rows K U.C) := ok_rows T U
  have Gt : FnOk P w K mg base CX0 1 U.pt.g U.pt.d ["self"] (sp_total K U.C) := ok_total T U
  have Gm : FnOk P w K mg base CX0 3 U.pm.g U.pm.d ["self"] (sp_most K U.C) := ok_most T U
  have G_w_names : FnOk P w K mg base CX0 3 T.f_w_names T.d_w_names ["tray", "many"] (sp_w_names K) := ok_w_names T
  have G_w_rows : FnOk P w K mg base CX0 4 T.f_w_rows T.d_w_rows ["tray", "interval", "names"] (sp_w_rows K) := ok_w_rows T (ok_w_rings T)
  have G_w_shifted_right : GW.FnG P w K mg base CX0 11 T.f_w_shifted_right T.d_w_shifted_right ["tray", "spans", "rows"] (sp_w_shifted K U.C) := ok_w_shifted T U ai
  have G_w_parted_right : GW.FnG P w K mg base CX0 11 T.f_w_parted_right T.d_w_parted_right ["tray", "both", "names"] (sp_w_parted K U.C) := ok_w_parted T U ai an
  have G_init : FnOk P w K mg base CX0 6 U.fI U.dI ["self", "interval", "rows"] (sp_initS K U.C) := ok_initS T U
  have G_or : FnOk P w K mg base CX0 8 U.mr.f U.mr.d ["self", "other"] (sp_or K U.C) := ok_or T U
  have G_and : FnOk P w K mg base CX0 8 U.mn.f U.mn.d ["self", "other"] (sp_and K U.C) := ok_and T U
  have G_len : FnOk P w K mg base CX0 1 U.mw.f U.mw.d ["self"] (sp_len K U.C) := ok_len T U
  have G8 := ok_each (P := P) (w := w) (base := base) T U
  refine GW.FunG.okG T.F_w_right sc_w_right (fun vs H Q E h => ?_) (fun cdv A outer s H vs Q E hg hr h => ?_)
  · obtain ⟨r, rfl, _⟩ := h
    rfl
  · obtain ⟨r, rfl, R0, k⟩ := h
    have hu := hu_of hr
    have hgd : (cxOf CX0 P w K mg base ["tray", "interval", "names", "size", "rows", "others", "spans", "other", "both", "due", "one", "two", "values", "first", "last"] "_law_right" (defScope s_w_right) T.f_w_right cdv A outer s H E).nox.A.guards = some [] := hg
    have hr_w_counts : Room 5 _ := hr.mono (by decide)
    have hr_w_pick : Room 2 _ := hr.mono (by decide)
    have hr_w_roll : Room 1 _ := hr.mono (by decide)
    have hr_w_sorted : Room 1 _ := hr.mono (by decide)
    have hr_w_names : Room 3 _ := hr.mono (by decide)
    have hr_w_rows : Room 4 _ := hr.mono (by decide)
    have hr_w_shifted_right : Room 11 _ := hr.mono (by decide)
    have hr_w_parted_right : Room 11 _ := hr.mono (by decide)
    refine ⟨_, (pss_cons (ps_set (i := 1) sc_w_right.nd rfl (Or.inl rfl) (pe_call G_w_pick hr_w_pick rfl T.m_w_pick T.F_w_pick.kp T.b_w_pick .nil pass0 (pa_cons (pv 0) (pa_cons (pe_lst (pa_cons pe_int (pa_cons pe_int (pa_cons pe_int (pa_cons pe_int (pa_cons pe_int (pa_cons pe_int pa_nil))))))) pa_nil))))
      (pss_cons (ps_set (i := 2) sc_w_right.nd rfl (Or.inl rfl) (pe_call G_w_names hr_w_names rfl T.m_w_names T.F_w_names.kp T.b_w_names .nil pass0 (pa_cons (pv 0) (pa_cons (pe_op op_add pe_int (pe_call G_w_roll hr_w_roll rfl T.m_w_roll T.F_w_roll.kp T.b_w_roll .nil pass0 (pa_cons (pv 0) (pa_cons pe_int pa_nil)))) pa_nil))))
      (pss_cons (ps_set (i := 3) sc_w_right.nd rfl (Or.inl rfl) (pe_op op_add pe_int (pe_call G_w_roll hr_w_roll rfl T.m_w_roll T.F_w_roll.kp T.b_w_roll .nil pass0 (pa_cons (pv 0) (pa_cons (pe_op op_sub (pe_callB call_len (by rfl) T.z_len (by decide +kernel) (pa_cons (pv 2) pa_nil)) pe_int) pa_nil)))))
      (pss_cons (ps_par (i := 4) (j := 5) (by rfl) sc_w_right.nd rfl rfl (by decide) rfl rfl (pa_cons (pe_call G_w_rows hr_w_rows rfl T.m_w_rows T.F_w_rows.kp T.b_w_rows .nil pass0 (pa_cons (pv 0) (pa_cons (pv 1) (pa_cons (pe_slice sl_list (pv 2) po_none (po_some (pv 3))) pa_nil)))) (pa_cons (pe_call G_w_rows hr_w_rows rfl T.m_w_rows T.F_w_rows.kp T.b_w_rows .nil pass0 (pa_cons (pv 0) (pa_cons (pv 1) (pa_cons (pe_slice sl_list (pv 2) (po_some (pv 3)) po_none) pa_nil)))) pa_nil)) (by rfl))
      (pss_cons (ps_par (i := 6) (j := 7) (by rfl) sc_w_right.nd rfl rfl (by decide) rfl rfl (pa_cons (pe_make U.mkI G_init (hr.mono (by decide)) rfl U.mC U.bI .nil pass0 (pa_cons (pv 1) (pa_cons (pv 4) pa_nil))) (pa_cons (pe_make U.mkI G_init (hr.mono (by decide)) rfl U.mC U.bI .nil pass0 (pa_cons (pv 1) (pa_cons (pv 5) pa_nil))) pa_nil)) (by rfl))
      (pss_cons (ps_if (pt_not (pt_val (GW.pe_callG G_w_shifted_right hgd hr_w_shifted_right rfl T.m_w_shifted_right T.F_w_shifted_right.kp T.b_w_shifted_right .nil pass0 (pa_cons (pv 0) (pa_cons (pv 6) (pa_cons (pv 4) pa_nil))))))
      (pss_one (ps_ret pe_bl))
      pss_nil)
      (pss_cons (ps_set (i := 8) sc_w_right.nd rfl (Or.inl rfl) (pe_op (OW.op_ownOr G_or ⟨U.mr.m.at_, U.mr.m.fn⟩ U.sf (hr.mono (by decide)) U.mr.b pass0) (pv 6) (pv 7)))
      (pss_cons (ps_set (i := 9) sc_w_right.nd rfl (Or.inl rfl) (pe_call G_w_sorted hr_w_sorted rfl T.m_w_sorted T.F_w_sorted.kp T.b_w_sorted .nil pass0 (pa_cons (pe_callTy (call_dictP rfl) (by rfl) T.z_dict (by decide +kernel) (pa_cons (pe_op op_cat (LiI.pe_listItems rfl (pv 4) (by rfl) T.z_list (by decide +kernel)) (LiI.pe_listItems rfl (pv 5) (by rfl) T.z_list (by decide +kernel))) pa_nil)) pa_nil)))
      (pss_cons (ps_if (pt_cmpR op_ne (pe_callB (RL.cr_reprD hgd (un64 hr)) (by rfl) T.z_repr (by decide +kernel) (pa_cons (pe_lst (pa_cons (pe_prop (pv 8) U.cl U.pr.pr Gr (hr.mono (by decide)) U.pr.b .nil pass0 rfl) (pa_cons (pe_prop (pv 8) U.cl U.pi.pr Gi (hr.mono (by decide)) U.pi.b .nil pass0 rfl) (pa_cons (pe_callB (OW.cr_ownLen G_len ⟨U.mw.m.at_, U.mw.m.fn⟩ (hr.mono (by decide)) U.mw.b pass0) (by rfl) T.z_len (by decide +kernel) (pa_cons (pv 8) pa_nil)) pa_nil)))) pa_nil)) (pe_callB (RL.cr_reprD hgd (un64 hr)) (by rfl) T.z_repr (by decide +kernel) (pa_cons (pe_lst (pa_cons (pv 9) (pa_cons (pv 1) (pa_cons (pe_callB call_len (by rfl) T.z_len (by decide +kernel) (pa_cons (pv 2) pa_nil)) pa_nil)))) pa_nil)) (nomark _))
      (pss_one (ps_ret pe_bl))
      pss_nil)
      (pss_cons (ps_if (PW.pt (pw_or (pt_cmpR (OW.op_ownNe G_eq ⟨U.me.m.at_, U.me.m.fn⟩ U.mo U.ne (hr.mono (by decide)) U.me.b pass0) (pv 8) (pe_op (OW.op_ownOr G_or ⟨U.mr.m.at_, U.mr.m.fn⟩ U.sf (hr.mono (by decide)) U.mr.b pass0) (pv 7) (pv 6)) (nomark _)) (pw_or1 (pt_cmpR (OW.op_ownNe G_eq ⟨U.me.m.at_, U.me.m.fn⟩ U.mo U.ne (hr.mono (by decide)) U.me.b pass0) (pe_op (OW.op_ownAndT G_and ⟨U.mn.m.at_, U.mn.m.fn⟩ U.sf an (hr.mono (by decide)) U.mn.b pass0) (pv 8) (pe_callTy call_tuple_of (by rfl) T.z_tuple (by decide +kernel) (pa_cons (pe_callB (call_sortedD rfl) (by rfl) T.z_sorted (by decide +kernel) (pa_cons (pv 4) pa_nil)) pa_nil))) (pv 6) (nomark _)))))
      (pss_one (ps_ret pe_bl))
      pss_nil)
      (pss_cons (ps_if (pt_cmpR (OW.op_ownNe G_eq ⟨U.me.m.at_, U.me.m.fn⟩ U.mo U.ne (hr.mono (by decide)) U.me.b pass0) (pe_op (OW.op_ownAndT G_and ⟨U.mn.m.at_, U.mn.m.fn⟩ U.sf an (hr.mono (by decide)) U.mn.b pass0) (pv 8) (pe_callTy call_tuple_of (by rfl) T.z_tuple (by decide +kernel) (pa_cons (pe_callB (call_sortedD rfl) (by rfl) T.z_sorted (by decide +kernel) (pa_cons (pv 5) pa_nil)) pa_nil))) (pv 7) (nomark _))
      (pss_one (ps_ret pe_bl))
      pss_nil)
      (pss_cons (ps_if (pt_cmpR op_ne (pe_callB (RL.cr_reprD hgd (un64 hr)) (by rfl) T.z_repr (by decide +kernel) (pa_cons (pe_lst (pa_cons (pe_prop (pv 6) U.cl U.pr.pr Gr (hr.mono (by decide)) U.pr.b .nil pass0 rfl) (pa_cons (pe_prop (pv 7) U.cl U.pr.pr Gr (hr.mono (by decide)) U.pr.b .nil pass0 rfl) pa_nil))) pa_nil)) (pe_callB (RL.cr_reprD hgd (un64 hr)) (by rfl) T.z_repr (by decide +kernel) (pa_cons (pe_lst (pa_cons (pe_call G_w_sorted hr_w_sorted rfl T.m_w_sorted T.F_w_sorted.kp T.b_w_sorted .nil pass0 (pa_cons (pv 4) pa_nil)) (pa_cons (pe_call G_w_sorted hr_w_sorted rfl T.m_w_sorted T.F_w_sorted.kp T.b_w_sorted .nil pass0 (pa_cons (pv 5) pa_nil)) pa_nil))) pa_nil)) (nomark _))
      (pss_one (ps_ret pe_bl))
      pss_nil)
      (pss_cons (ps_if (pt_cmpR op_ne (pe_prop (pv 8) U.cl U.pt.pr Gt (hr.mono (by decide)) U.pt.b .nil pass0 rfl) (pe_op op_add (pe_prop (pv 6) U.cl U.pt.pr Gt (hr.mono (by decide)) U.pt.b .nil pass0 rfl) (pe_prop (pv 7) U.cl U.pt.pr Gt (hr.mono (by decide)) U.pt.b .nil pass0 rfl)) (nomark _))
      (pss_one (ps_ret pe_bl))
      pss_nil)
      (pss_cons (ps_par (i := 10) (j := 11) (by rfl) sc_w_right.nd rfl rfl (by decide) rfl rfl (pa_cons (pe_call G_w_counts hr_w_counts rfl T.m_w_counts T.F_w_counts.kp T.b_w_counts .nil pass0 (pa_cons (pv 6) (pa_cons (pe_un un_neg (pv 1)) pa_nil))) (pa_cons (pe_call G_w_counts hr_w_counts rfl T.m_w_counts T.F_w_counts.kp T.b_w_counts .nil pass0 (pa_cons (pv 7) (pa_cons (pe_un un_neg (pv 1)) pa_nil))) pa_nil)) (by rfl))
      (pss_cons (ps_setLc (i := 9) (own := [("first", 13), ("last", 14)]) (g := gTup K 2 (gCons (gName 13) (gCons (gName 14) gNil))) rfl sc_w_right.nd rfl rfl (sw_true rfl rfl rfl (by decide +kernel)) (pi_zip (by rfl) T.z_zip (pa_cons (pv 10) (pa_cons (pv 11) pa_nil))) (blkOk_by (N := ["tray", "interval", "names", "size", "rows", "others", "spans", "other", "both", "due", "one", "two", "values", "first", "last"]) (sc := defScope s_w_right) (by decide +kernel)) (fun _ _ _ _ _ => (pg_tup rfl (pgs_cons (pg_name (i := 13) sc_w_right.nd rfl (Or.inl rfl)) (pgs_cons (pg_name (i := 14) sc_w_right.nd rfl (Or.inl rfl)) pgs_nil)))) (fun _ _ _ _ _ => pts_nil) (fun _ _ _ _ _ => (pe_lst (pa_cons (pe_op op_add (pe_ix (r := rIx K) ix_seq (pv 13) pe_int (fun _ _ => rfl)) (pe_ix (r := rIx K) ix_seq (pv 14) pe_int (fun _ _ => rfl))) (pa_cons (pe_op op_add (pe_ix (r := rIx K) ix_seq (pv 13) pe_int (fun _ _ => rfl)) (pe_ix (r := rIx K) ix_seq (pv 14) pe_int (fun _ _ => rfl))) pa_nil)))))
      (pss_cons (ps_if (pt_cmpR op_ne (pe_callB (RL.cr_reprD hgd (un64 hr)) (by rfl) T.z_repr (by decide +kernel) (pa_cons (pe_call G_w_counts hr_w_counts rfl T.m_w_counts T.F_w_counts.kp T.b_w_counts .nil pass0 (pa_cons (pv 8) (pa_cons (pe_un un_neg (pv 1)) pa_nil))) pa_nil)) (pe_callB (RL.cr_reprD hgd (un64 hr)) (by rfl) T.z_repr (by decide +kernel) (pa_cons (pv 9) pa_nil)) (nomark _))
      (pss_one (ps_ret pe_bl))
      pss_nil)
      (pss_cons (ps_if (pt_not (pt_chain op_le op_le (pe_callB (call_max2 rfl) (by rfl) T.z_max (by decide +kernel) (pa_cons (pe_prop (pv 6) U.cl U.pm.pr Gm (hr.mono (by decide)) U.pm.b .nil pass0 rfl) (pa_cons (pe_prop (pv 7) U.cl U.pm.pr Gm (hr.mono (by decide)) U.pm.b .nil pass0 rfl) pa_nil))) (pe_prop (pv 8) U.cl U.pm.pr Gm (hr.mono (by decide)) U.pm.b .nil pass0 rfl) (pe_op op_add (pe_prop (pv 6) U.cl U.pm.pr Gm (hr.mono (by decide)) U.pm.b .nil pass0 rfl) (pe_prop (pv 7) U.cl U.pm.pr Gm (hr.mono (by decide)) U.pm.b .nil pass0 rfl))))
      (pss_one (ps_ret pe_bl))
      pss_nil)
      (pss_cons (ps_set (i := 12) sc_w_right.nd rfl (Or.inl rfl) (pe_op op_cat (pe_listG (pgen_meth (E := GC2.noE) (pv 6) U.cl U.m8.m G8 (hr.mono (by decide)) U.m8.b .nil (pa_cons (pv 1) pa_nil)) passF noStopF (hr.mono (by decide)) (by rfl) T.z_list (by decide +kernel)) (pe_listG (pgen_meth (E := GC2.noE) (pv 7) U.cl U.m8.m G8 (hr.mono (by decide)) U.m8.b .nil (pa_cons (pv 1) pa_nil)) passF noStopF (hr.mono (by decide)) (by rfl) T.z_list (by decide +kernel))))
      (pss_one (ps_ret (pe_and (pe_cmpR (op_eqD (un64 hr)) (pe_listG (pgen_meth (E := GC2.noE) (pv 8) U.cl U.m8.m G8 (hr.mono (by decide)) U.m8.b .nil (pa_cons (pv 1) pa_nil)) passF noStopF (hr.mono (by decide)) (by rfl) T.z_list (by decide +kernel)) (pe_callB (KST.cr_sortTI (un64 hr)) (by rfl) T.z_sorted (by decide +kernel) (pa_cons (pv 12) pa_nil)) (nomark _)) (pe_one (GW.pe_callG G_w_parted_right hgd hr_w_parted_right rfl T.m_w_parted_right T.F_w_parted_right.kp T.b_w_parted_right .nil pass0 (pa_cons (pv 0) (pa_cons (pv 8) (pa_cons (pv 2) pa_nil)))))))))))))))))))))))))), ?_⟩
    have nm' : ∀ {Hx : Hp} {x : Addr}, Rl Hx r → Hx x = none → x ≠ r := fun Rx hx => Rl.ne Rx hx
    -- the interval
    refine ⟨_, rfl, by show 6 ≤ sizeLine; decide, fun l1 hl1 => ?_⟩
    have A1 := Same.new (o := .lst [V.int 1, .int 2, .int 3, .int 4, .int 5, .int 9]) hl1
    have e1 : (upd H l1 (.lst [V.int 1, .int 2, .int 3, .int 4, .int 5, .int 9])) l1 = some (.lst [V.int 1, .int 2, .int 3, .int 4, .int 5, .int 9]) := upd_same
    have R1 := Same.rl A1 R0
    have n1 := nm' R0 hl1
    generalize upd H l1 (.lst [V.int 1, .int 2, .int 3, .int 4, .int 5, .int 9]) = H1 at A1 e1 R1 ⊢
    refine ⟨r, .ref l1, _, rfl, R1, .inl ⟨l1, rfl, n1, .inl (SqL.of e1)⟩, by decide, by show 6 ≤ sizeLine; decide, fun v H2 hv R2 O2 => ?_⟩
    obtain ⟨t, rfl, t1, t2⟩ : ∃ t, v = .int t ∧ 1 ≤ t ∧ t ≤ 9 := by
      simp only [List.mem_cons, List.not_mem_nil, or_false] at hv
      rcases hv with rfl | rfl | rfl | rfl | rfl | rfl <;> exact ⟨_, rfl, by decide, by decide⟩
    have P2 : Only r H H2 := Only.trans (Same.only A1) O2
    clear A1 e1 R1 O2 hv hl1 n1
    -- the names
    refine ⟨_, rfl, _, rfl, r, 7, rfl, R2, by decide, by decide +kernel, fun u H3 u0 u1 R3 O3 => ⟨_, _, rfl, rfl, ?_⟩⟩
    refine ⟨r, (2 + u).toNat, by rw [Int.toNat_of_nonneg (by omega)]; rfl, R3, by omega, by omega, fun ln ns H4 R4 O4 hln eln nd nlen nok => ?_⟩
    have nlr := nm' R3 hln
    have P4 : Only r H H4 := Only.trans P2 (Only.trans O3 O4)
    clear O3 O4 P2 R2 hln
    have hlog : ((((ns.map V.str).length : Nat) : Int) - 1).natAbs.log2 < 9000 := by
      rw [List.length_map]
      have : (((ns.length : Nat) : Int) - 1).natAbs.log2 < 8 := PySem.Flt.log2_lt_of (by decide) (by omega)
      omega
    refine ⟨_, rfl, _, rfl, _, _, rfl, .inl ⟨_, SqL.of eln, rfl⟩, _, _, rfl, rfl, r, _, rfl, R4, by rw [List.length_map]; omega, hlog, fun v H5 v0 v1 R5 O5 => ⟨_, _, rfl, rfl, ?_⟩⟩
    rw [List.length_map] at v1
    have eln5 := O5 _ _ nlr eln
    have P5 : Only r H H5 := Only.trans P4 O5
    clear O5 P4 R4 eln R3
    obtain ⟨z, hz⟩ : ∃ z, z = 1 + v := ⟨_, rfl⟩
    have z1 : 1 ≤ z := by omega
    have z2 : z < ns.length := by omega
    have lt1 : (ns.take z.toNat).length = z.toNat := by rw [List.length_take]; omega
    have lt2 : (ns.drop z.toNat).length = ns.length - z.toNat := List.length_drop ..
    have ndt : (ns.take z.toNat).Nodup := nd.sublist (List.take_sublist _ _)
    have ndd : (ns.drop z.toNat).Nodup := nd.sublist (List.drop_sublist _ _)
    have dsj : ∀ n ∈ ns.take z.toNat, n ∉ ns.drop z.toNat := fun n h1 h2 => by
      have := nd
      rw [← List.take_append_drop z.toNat ns, List.nodup_append] at this
      exact this.2.2 n h1 n h2 rfl
    -- the rows
    refine ⟨_, rfl, _, rfl, _, rfl, _, rfl, z, congrArg V.int hz.symm, ln, _, rfl, SqL.of eln5, fun la hla => ?_⟩
    rw [cut_take ns (by omega)]
    have A6 := Same.new (o := .lst ((ns.take z.toNat).map V.str)) hla
    have ela : (upd H5 la (.lst ((ns.take z.toNat).map V.str))) la = some (.lst ((ns.take z.toNat).map V.str)) := upd_same
    have R6 := Same.rl A6 R5
    have nla := nm' R5 hla
    generalize upd H5 la (.lst ((ns.take z.toNat).map V.str)) = H6 at A6 ela R6 ⊢
    refine ⟨r, la, t, ns.take z.toNat, rfl, R6, nla, SqL.of ela, t1, by omega, ndt, by omega, fun n hn => nok n (List.mem_of_mem_take hn), fun d1 L1 Ra H7 R7 O7 hd1 ed1 ts1 pm1 hR1 => ?_⟩
    have P57 : Only r H5 H7 := Only.trans (Same.only A6) O7
    have eln7 := P57 _ _ nlr eln5
    have nd1 := ne_rl R7 ed1 (fun _ z => by cases z)
    clear A6 ela R6 nla hla O7 hd1
    refine ⟨_, rfl, _, rfl, _, rfl, _, rfl, z, congrArg V.int hz.symm, ln, _, rfl, SqL.of eln7, fun lb hlb => ?_⟩
    rw [cut_drop ns (by omega)]
    have A8 := Same.new (o := .lst ((ns.drop z.toNat).map V.str)) hlb
    have elb : (upd H7 lb (.lst ((ns.drop z.toNat).map V.str))) lb = some (.lst ((ns.drop z.toNat).map V.str)) := upd_same
    have R8 := Same.rl A8 R7
    have nlb := nm' R7 hlb
    generalize upd H7 lb (.lst ((ns.drop z.toNat).map V.str)) = H8 at A8 elb R8 ⊢
    refine ⟨r, lb, t, ns.drop z.toNat, rfl, R8, nlb, SqL.of elb, t1, by omega, ndd, by omega, fun n hn => nok n (List.mem_of_mem_drop hn), fun d2 L2' Rb H9 R9 O9 hd2 ed2 ts2 pm2 hR2 => ?_⟩
    have P79 : Only r H7 H9 := Only.trans (Same.only A8) O9
    have eln9 := P79 _ _ nlr eln7
    have ed19 := P79 _ _ nd1 ed1
    have ts19 := ts1.keep (KT.only P79 R7)
    have nd2 := ne_rl R9 ed2 (fun _ z => by cases z)
    have P9 : Only r H H9 := Only.trans P5 (Only.trans P57 P79)
    clear A8 elb R8 nlb hlb O9 hd2 P57 P79 ed1 ts1 eln7 eln5 R7 R5 P5
    have la1 : Ra.length = z.toNat := by have := pm1.length_eq; rw [List.length_map] at this; omega
    have lb1 : Rb.length = ns.length - z.toNat := by have := pm2.length_eq; rw [List.length_map] at this; omega
    have gA : Good t Ra := ⟨pm1.nodup_iff.mpr ndt, by omega, by omega, fun x hx => nok _ (List.mem_of_mem_take (pm1.mem_iff.mp (List.mem_map.mpr ⟨x, hx, rfl⟩))), fun x hx => (hR1 x hx).1, fun x hx => by have := (hR1 x hx).2.1; unfold Near at *; omega, t1, by omega⟩
    have gB : Good t Rb := ⟨pm2.nodup_iff.mpr ndd, by omega, by omega, fun x hx => nok _ (List.mem_of_mem_drop (pm2.mem_iff.mp (List.mem_map.mpr ⟨x, hx, rfl⟩))), fun x hx => (hR2 x hx).1, fun x hx => by have := (hR2 x hx).2.1; unfold Near at *; omega, t1, by omega⟩
    have djR : ∀ n ∈ Ra.map (·.1), n ∉ Rb.map (·.1) := fun n h1 h2 => dsj n (pm1.mem_iff.mp h1) (pm2.mem_iff.mp h2)
    refine ⟨_, _, rfl, ?_⟩
    -- the spans
    have rn9 : H9 r ≠ none := fun z => by
      obtain ⟨_, _, _, e⟩ := R9
      rw [e] at z
      cases z
    refine ⟨_, rfl, _, rfl, fun x xd hx hxd nxd => ?_⟩
    have S4 : Same H9 (upd (upd H9 xd (.own x)) x (.ins U.C xd [])) := Same.trans (Same.new hxd) (Same.new (by rw [upd_ne nxd.symm]; exact hx))
    refine ⟨x, d1, xd, t, L1, Ra, rfl, upd_same, S4 _ _ ed19, ts19.keep (KT.same S4), gA, fun S Ha B1 spx srd1 => ⟨rfl, ?_⟩⟩
    have Sa : Same H9 Ha := fun b o hb => B1 b o (fun z => by rw [z, hx] at hb; cases hb) (S4 _ _ hb)
    have sp1 := spx r (some_same S4 rn9)
    clear S4 B1 spx
    refine ⟨_, rfl, _, rfl, fun y yd hy hyd nyd => ?_⟩
    have S5 : Same Ha (upd (upd Ha yd (.own y)) y (.ins U.C yd [])) := Same.trans (Same.new hyd) (Same.new (by rw [upd_ne nyd.symm]; exact hy))
    refine ⟨y, d2, yd, t, L2', Rb, rfl, upd_same, S5 _ _ (Sa _ _ ed2), (ts2.keep (KT.same Sa)).keep (KT.same S5), gB, fun S2 Hb B2 spy srd2 => ⟨rfl, ?_⟩⟩
    have Sb : Same Ha Hb := fun b o hb => B2 b o (fun z => by rw [z, hy] at hb; cases hb) (S5 _ _ hb)
    have sp2 := spy r (some_same S5 (some_same Sa rn9))
    have sp1 := sp1.same Sb
    have Sab := Same.trans Sa Sb
    clear S5 B2 spy Sa Sb hx hxd nxd hy hyd nyd
    have edA := Sab _ _ ed19
    have tsA := ts19.keep (KT.same Sab)
    have edB := Sab _ _ ed2
    have tsB := ts2.keep (KT.same Sab)
    have elnb := Sab _ _ eln9
    have Rb' := Same.rl Sab R9
    have Pb : Only r H Hb := Only.trans P9 (Same.only Sab)
    clear Sab ed19 ts19 ed2 ts2 eln9 R9 P9 rn9
    have g1 := sp1.1
    have g2 := sp2.1
    have near1 : ∀ x ∈ S, Near 1000 x := fun x hx => (hR1 x (srd1.pm.mem_iff.mp hx)).2.1
    have near2 : ∀ x ∈ S2, Near 1000 x := fun x hx => (hR2 x (srd2.pm.mem_iff.mp hx)).2.1
    refine ⟨_, _, rfl, ?_⟩
    -- shifted
    refine ⟨_, rfl, _, rfl, _, rfl, r, x, d1, t, S, Ra, L1, rfl, Rb', sp1, edA, tsA, srd1, near1, fun Hc Oc Rc => ⟨_, rfl, iteF ?_⟩⟩
    have sp1 := sp1.only Oc Rb'
    have sp2 := sp2.only Oc Rb'
    have edA := Oc _ _ nd1 edA
    have tsA := tsA.keep (KT.only Oc Rb')
    have edB := Oc _ _ nd2 edB
    have tsB := tsB.keep (KT.only Oc Rb')
    have eln := Oc _ _ nlr elnb
    have Pc : Only r H Hc := Only.trans Pb Oc
    clear Pb Oc Rb' elnb
    have rnc : Hc r ≠ none := fun z => by
      obtain ⟨_, _, _, e⟩ := Rc
      rw [e] at z
      cases z
    have lS : S.length = Ra.length := srd1.pm.length_eq
    have lS2 : S2.length = Rb.length := srd2.pm.length_eq
    have dj : ∀ n ∈ S.map (·.1), n ∉ S2.map (·.1) := fun n h1 h2 => djR n ((srd1.pm.map (·.1)).mem_iff.mp h1) ((srd2.pm.map (·.1)).mem_iff.mp h2)
    have dj' : ∀ n ∈ S2.map (·.1), n ∉ S.map (·.1) := fun n h1 h2 => dj n h2 h1
    obtain ⟨_, so1, dx1, rdx1, nmx1, lvx1, crx1, Lx1, LLx1, LCx1, hx1, _⟩ := id sp1
    obtain ⟨_, so2, dx2, rdx2, nmx2, lvx2, crx2, Lx2, LLx2, LCx2, hx2, _⟩ := id sp2
    -- both
    refine ⟨_, rfl, _, rfl, x, dx1, _, y, dx2, _, rfl, hx1, rfl, hx2, x, y, t, S, S2, r, r, rfl, sp1, sp2, dj, by omega, fun bo Hd B Sd _ srdB spb => ?_⟩
    have spB := spb r rnc
    clear spb
    obtain ⟨gBo, soB, dxb, rdb, nmb, lvb, crb, Lb, LLb, LCb, hb, _⟩ := id spB
    have ndB := gBo.nd
    have lB : B.length = ns.length := by
      rw [srdB.pm.length_eq, List.length_append]
      omega
    have sp1 := sp1.same Sd
    have sp2 := sp2.same Sd
    have hx1 := Sd _ _ hx1
    have hx2 := Sd _ _ hx2
    have edA := Sd _ _ edA
    have tsA := tsA.keep (KT.same Sd)
    have edB := Sd _ _ edB
    have tsB := tsB.keep (KT.same Sd)
    have eln := Sd _ _ eln
    have Pd : Only r H Hd := Only.trans Pc (Same.only Sd)
    have Rd := Same.rl Sd Rc
    have rnd := some_same Sd rnc
    clear Pc Rc rnc Sd
    -- due
    refine ⟨_, rfl, d1, Kvs L1, rfl, edA, fun He la ta Se _ _ _ ela pra => ?_⟩
    refine ⟨_, rfl, d2, Kvs L2', rfl, Se _ _ edB, fun Hf lb tb Sf _ _ _ elb prb => ?_⟩
    have lta : ta.length ≤ 8 := by rw [paired_len pra, kvs_len, tsA.len]; omega
    have ltb : tb.length ≤ 8 := by rw [paired_len prb, kvs_len, tsB.len]; omega
    refine ⟨la, lb, _, _, rfl, rfl, Sf _ _ ela, elb, by rw [List.length_map, List.length_map, sizeLine_eq]; omega, fun lc hlc => ?_⟩
    have A3 := Same.new (o := .lst (ta.map V.ref ++ tb.map V.ref)) hlc
    have elc : (upd Hf lc (.lst (ta.map V.ref ++ tb.map V.ref))) lc = some (.lst ((ta ++ tb).map V.ref)) := by rw [upd_same, List.map_append]
    have Sfa := Same.trans Sf A3
    generalize upd Hf lc (.lst (ta.map V.ref ++ tb.map V.ref)) = Hg at A3 Sfa elc ⊢
    refine ⟨lc, ta ++ tb, Kvs (L1 ++ L2'), rfl, SqL.of elc, by
      unfold Kvs
      rw [List.map_append]
      exact paired_app (Paired.mapP pra fun p q e => SqT.of (Sfa _ _ e)) (Paired.mapP prb fun p q e => SqT.of (A3 _ _ e)), fun dd hdd => ?_⟩
    have ndL : ((L1 ++ L2').map (·.1)).Nodup := by
      rw [List.map_append, tsA.names, tsB.names, ← List.map_append]
      exact nd_both gA.nd gB.nd djR
    have em : mergeK [] (Kvs (L1 ++ L2')) = Kvs (L1 ++ L2') := mergeK_kvs (L1 ++ L2') [] (by simpa using ndL)
    rw [em]
    have A4 := Same.new (o := .dK (Kvs (L1 ++ L2'))) hdd
    have edd : (upd Hg dd (.dK (Kvs (L1 ++ L2')))) dd = some (.dK (Kvs (L1 ++ L2'))) := upd_same
    have Sdh : Same Hd (upd Hg dd (.dK (Kvs (L1 ++ L2')))) := Same.trans Se (Same.trans Sfa A4)
    generalize upd Hg dd (.dK (Kvs (L1 ++ L2'))) = Hh at Sdh edd ⊢
    clear A3 A4 Sfa Sf Se elc ela elb pra prb hlc hdd
    refine ⟨dd, L1 ++ L2', Ra ++ Rb, rfl, edd, Tups.append (tsB.keep (KT.same Sdh)) (tsA.keep (KT.same Sdh)), nd_both gA.nd gB.nd djR, by rw [List.length_append]; omega, fun d3 L3 S3 Hi Si hd3 ed3 td3 srd3 => ?_⟩
    have e3 : S3 = B := Srd.eq (nd_both gA.nd gB.nd djR) srd3 ⟨srdB.pm.trans (srd1.pm.append srd2.pm), srdB.so⟩
    rw [e3] at td3
    clear srd3 e3 edd
    have Sdi := Same.trans Sdh Si
    have spB := spB.same Sdi
    have sp1 := sp1.same Sdi
    have sp2 := sp2.same Sdi
    have hb := Sdi _ _ hb
    have hx1 := Sdi _ _ hx1
    have hx2 := Sdi _ _ hx2
    have edA := Sdi _ _ edA
    have tsA := tsA.keep (KT.same Sdi)
    have edB := Sdi _ _ edB
    have tsB := tsB.keep (KT.same Sdi)
    have eln := Sdi _ _ eln
    have Pi : Only r H Hi := Only.trans Pd (Same.only Sdi)
    have Ri := Same.rl Sdi Rd
    have rni := some_same Sdi rnd
    clear Pd Rd rnd Sdi Sdh Si
    -- the rows of both
    have td1 : TD 3 (.list [rowsD B, .int t, .int ((B.length : Nat) : Int)]) (96 + 1 + (0 + 1 + (0 + 1 + 0))) := TD.list (TLs.cons (TD.rows gBo) (TLs.cons (TD.int (by omega) (by omega)).up.up (TLs.cons (TD.int (by omega) (by omega)).up.up TLs.nil)))
    have tt1 := td1.tell (by decide) (by decide)
    refine ⟨_, rfl, bo, dxb, _, rfl, hb, bo, t, _, r, rfl, spB, fun q1 L1q hq1 tq1 => ?_⟩
    have C1 := Same.new (o := .dK (Kvs L1q)) hq1
    have eq1 : (upd Hi q1 (.dK (Kvs L1q))) q1 = some (.dK (Kvs L1q)) := upd_same
    have tq1 := tq1.keep (KT.same C1)
    generalize upd Hi q1 (.dK (Kvs L1q)) = Hj at C1 eq1 tq1 ⊢
    refine ⟨_, rfl, bo, dxb, _, rfl, C1 _ _ hb, bo, dxb, _, .int t, rfl, C1 _ _ hb, rfl, ?_⟩
    refine ⟨_, rfl, bo, dxb, _, rfl, C1 _ _ hb, bo, t, B, rfl, (spB.same C1).weak, _, rfl, by omega, by omega, ?_⟩
    refine ⟨by show 3 ≤ sizeLine; decide, fun l2 hl2 => ?_⟩
    have C2 := Same.new (o := .lst [V.ref q1, .int t, .int ((B.length : Nat) : Int)]) hl2
    have el2 : (upd Hj l2 (.lst [V.ref q1, .int t, .int ((B.length : Nat) : Int)])) l2 = some (.lst [V.ref q1, .int t, .int ((B.length : Nat) : Int)]) := upd_same
    have eq1 := C2 _ _ eq1
    have tq1 := tq1.keep (KT.same C2)
    have C := Same.trans C1 C2
    generalize upd Hj l2 (.lst [V.ref q1, .int t, .int ((B.length : Nat) : Int)]) = Hk at C eq1 tq1 el2 ⊢
    refine ⟨l2, _, rfl, .lst (SqL.of el2) (.cons (rows_ds eq1 tq1) (.cons (.int t) (.cons (.int _) .nil))), tt1.1, tt1.2.1, tt1.2.2, ?_⟩
    refine ⟨_, rfl, _, rfl, _, rfl, _, _, rfl, .inl ⟨_, SqL.of (C _ _ eln), rfl⟩, ?_⟩
    rw [List.length_map, ← lB]
    refine ⟨by show 3 ≤ sizeLine; decide, fun l3 hl3 => ?_⟩
    have C3 := Same.new (o := .lst [V.ref d3, .int t, .int ((B.length : Nat) : Int)]) hl3
    have el3 : (upd Hk l3 (.lst [V.ref d3, .int t, .int ((B.length : Nat) : Int)])) l3 = some (.lst [V.ref d3, .int t, .int ((B.length : Nat) : Int)]) := upd_same
    have C := Same.trans C C3
    have ed3 := C _ _ ed3
    have td3 := td3.keep (KT.same C)
    generalize upd Hk l3 (.lst [V.ref d3, .int t, .int ((B.length : Nat) : Int)]) = Hl at C ed3 td3 el3 ⊢
    refine ⟨l3, _, rfl, .lst (SqL.of el3) (.cons (rows_ds ed3 td3) (.cons (.int t) (.cons (.int _) .nil))), tt1.1, tt1.2.1, tt1.2.2, ?_⟩
    refine ⟨rfl, _, rfl, ?_⟩
    rw [decide_eq_true rfl]
    refine iteF ?_
    have spB := spB.same C
    have sp1 := sp1.same C
    have sp2 := sp2.same C
    have hb := C _ _ hb
    have hx1 := C _ _ hx1
    have hx2 := C _ _ hx2
    have edA := C _ _ edA
    have tsA := tsA.keep (KT.same C)
    have edB := C _ _ edB
    have tsB := tsB.keep (KT.same C)
    have eln := C _ _ eln
    have Pl : Only r H Hl := Only.trans Pi (Same.only C)
    have Rl' := Same.rl C Ri
    have rnl := some_same C rni
    clear Pi Ri rni C C1 C2 C3 eq1 tq1 el2 el3 ed3 td3 tt1 td1 hl2 hl3 hq1
    -- the other way round
    refine ⟨_, rfl, _, rfl, _, rfl, y, dx2, _, x, dx1, _, rfl, hx2, rfl, hx1, y, x, t, S2, S, r, r, rfl, sp2, sp1, dj', by omega, fun b2 Hm B2 Sm _ srdB2 spb2 => ?_⟩
    have w2 := (spb2 r rnl).weak
    have eB2 : B2 = B := Srd.eq (nd_both gA.nd gB.nd djR) ⟨srdB2.pm.trans ((srd2.pm.append srd1.pm).trans List.perm_append_comm), srdB2.so⟩ ⟨srdB.pm.trans (srd1.pm.append srd2.pm), srdB.so⟩
    rw [eB2] at w2
    clear spb2 srdB2
    have hb1 := Sm _ _ hb
    refine ⟨bo, dxb, _, _, rfl, hb1, w2.tyd, self_nf, bo, t, _, b2, t, _, rfl, (spB.same Sm).weak, w2, fun _ => rfl, _, rfl, _, rfl, ?_⟩
    rw [eqT t (rfl : B = B)]
    refine iteF ?_
    have nb0 : ∀ {A : Rws}, 1 ≤ A.length → A.map (·.1) ≠ [] := fun {A} h z => by
      have := congrArg List.length z
      rw [List.length_map] at this
      simp at this
      rw [this] at h
      simp at h
    have inB1 : ∀ x ∈ S, x ∈ B := fun x hx => srdB.pm.mem_iff.mpr (List.mem_append.mpr (.inl hx))
    have inB2 : ∀ x ∈ S2, x ∈ B := fun x hx => srdB.pm.mem_iff.mpr (List.mem_append.mpr (.inr hx))
    -- the names of the first
    refine ⟨_, rfl, _, rfl, d1, _, L1.map (·.1), rfl, .inl (Sm _ _ edA), kvs_keys L1, by rw [List.length_map, tsA.len]; omega, fun ys lp pm sy hlp => ?_⟩
    rw [tsA.names] at pm
    have ey : ys = S.map (·.1) := sorted_eq (xs := Ra.map (·.1)) pm (srd1.pm.map _) sy so1
    rw [ey]
    clear pm sy ey
    have D1 := Same.new (o := .lst ((S.map (·.1)).map V.str)) hlp
    have elp : (upd Hm lp (.lst ((S.map (·.1)).map V.str))) lp = some (.lst ((S.map (·.1)).map V.str)) := upd_same
    have Sn := Same.trans Sm D1
    generalize upd Hm lp (.lst ((S.map (·.1)).map V.str)) = Hn at D1 Sn elp ⊢
    refine ⟨lp, _, rfl, .inl ⟨SqL.of elp, fun q hq => ?_⟩⟩
    have D2 := Same.new (o := .tup ((S.map (·.1)).map V.str)) hq
    have eqq : (upd Hn q (.tup ((S.map (·.1)).map V.str))) q = some (.tup ((S.map (·.1)).map V.str)) := upd_same
    have So := Same.trans Sn D2
    generalize upd Hn q (.tup ((S.map (·.1)).map V.str)) = Ho at D2 So eqq ⊢
    refine ⟨bo, dxb, _, q, _, rfl, So _ _ hb, rfl, SqT.of eqq, bo, q, t, B, r, S.map (·.1), rfl, spB.same So, eqq, nb0 (by omega), by rw [List.length_map]; omega, so1, g1.nd, fun n hn => by
      obtain ⟨x, hx, rfl⟩ := List.mem_map.mp hn
      exact List.mem_map.mpr ⟨x, inB1 x hx, rfl⟩, fun b3 Hp Sp _ spb3 => ?_⟩
    have w3 := (spb3 r (some_same So rnl)).weak
    rw [pick_sub ndB inB1] at w3
    have Sop := Same.trans So Sp
    obtain ⟨dxv, fsv, ev⟩ := w3.ins
    have u1 := (sp1.same Sop).weak
    refine ⟨_, rfl, b3, dxv, fsv, _, rfl, ev, u1.tyd, self_nf, b3, t, _, x, t, _, rfl, w3, u1, fun _ => rfl, _, rfl, _, rfl, ?_⟩
    rw [eqT t (rfl : S = S)]
    refine iteF ?_
    clear w3 spb3 ev u1 D1 D2 elp eqq Sn hlp hq
    -- the names of the second
    refine ⟨_, rfl, _, rfl, d2, _, L2'.map (·.1), rfl, .inl (Sop _ _ edB), kvs_keys L2', by rw [List.length_map, tsB.len]; omega, fun ys lp pm sy hlp => ?_⟩
    rw [tsB.names] at pm
    have ey : ys = S2.map (·.1) := sorted_eq (xs := Rb.map (·.1)) pm (srd2.pm.map _) sy so2
    rw [ey]
    clear pm sy ey
    have D1 := Same.new (o := .lst ((S2.map (·.1)).map V.str)) hlp
    have elp : (upd Hp lp (.lst ((S2.map (·.1)).map V.str))) lp = some (.lst ((S2.map (·.1)).map V.str)) := upd_same
    have Sn := Same.trans Sop D1
    generalize upd Hp lp (.lst ((S2.map (·.1)).map V.str)) = Hn at D1 Sn elp ⊢
    refine ⟨lp, _, rfl, .inl ⟨SqL.of elp, fun q hq => ?_⟩⟩
    have D2 := Same.new (o := .tup ((S2.map (·.1)).map V.str)) hq
    have eqq : (upd Hn q (.tup ((S2.map (·.1)).map V.str))) q = some (.tup ((S2.map (·.1)).map V.str)) := upd_same
    have Sq := Same.trans Sn D2
    generalize upd Hn q (.tup ((S2.map (·.1)).map V.str)) = Hq at D2 Sq eqq ⊢
    refine ⟨bo, dxb, _, q, _, rfl, Sq _ _ hb, rfl, SqT.of eqq, bo, q, t, B, r, S2.map (·.1), rfl, spB.same Sq, eqq, nb0 (by omega), by rw [List.length_map]; omega, so2, g2.nd, fun n hn => by
      obtain ⟨x, hx, rfl⟩ := List.mem_map.mp hn
      exact List.mem_map.mpr ⟨x, inB2 x hx, rfl⟩, fun b3 Hr Sr _ spb3 => ?_⟩
    have w3 := (spb3 r (some_same Sq rnl)).weak
    rw [pick_sub ndB inB2] at w3
    have C := Same.trans Sq Sr
    obtain ⟨dxv, fsv, ev⟩ := w3.ins
    have u1 := (sp2.same C).weak
    refine ⟨_, rfl, b3, dxv, fsv, _, rfl, ev, u1.tyd, self_nf, b3, t, _, y, t, _, rfl, w3, u1, fun _ => rfl, _, rfl, _, rfl, ?_⟩
    rw [eqT t (rfl : S2 = S2)]
    refine iteF ?_
    clear w3 spb3 ev u1 D1 D2 elp eqq Sn hlp hq Sr Sq Sop So Sp Sm w2
    have spB := spB.same C
    have sp1 := sp1.same C
    have sp2 := sp2.same C
    have hb := C _ _ hb
    have hx1 := C _ _ hx1
    have hx2 := C _ _ hx2
    have edA := C _ _ edA
    have tsA := tsA.keep (KT.same C)
    have edB := C _ _ edB
    have tsB := tsB.keep (KT.same C)
    have eln := C _ _ eln
    have Pr : Only r H Hr := Only.trans Pl (Same.only C)
    have Rr := Same.rl C Rl'
    have rnr := some_same C rnl
    clear Pl Rl' rnl C
    -- the operands stay as they were
    have td2 : TD 3 (.list [rowsD S, rowsD S2]) (96 + 1 + (96 + 1 + 0)) := TD.list (TLs.cons (TD.rows g1) (TLs.cons (TD.rows g2) TLs.nil))
    have tt2 := td2.tell (by decide) (by decide)
    refine ⟨_, rfl, x, dx1, _, rfl, hx1, x, t, _, r, rfl, sp1, fun q1 L1q hq1 tq1 => ?_⟩
    have C1 := Same.new (o := .dK (Kvs L1q)) hq1
    have eq1 : (upd Hr q1 (.dK (Kvs L1q))) q1 = some (.dK (Kvs L1q)) := upd_same
    have tq1 := tq1.keep (KT.same C1)
    generalize upd Hr q1 (.dK (Kvs L1q)) = Hs at C1 eq1 tq1 ⊢
    refine ⟨_, rfl, y, dx2, _, rfl, C1 _ _ hx2, y, t, _, r, rfl, sp2.same C1, fun q2 L2q hq2 tq2 => ?_⟩
    have C2 := Same.new (o := .dK (Kvs L2q)) hq2
    have eq2 : (upd Hs q2 (.dK (Kvs L2q))) q2 = some (.dK (Kvs L2q)) := upd_same
    have tq2 := tq2.keep (KT.same C2)
    have eq1 := C2 _ _ eq1
    have tq1 := tq1.keep (KT.same C2)
    have C := Same.trans C1 C2
    generalize upd Hs q2 (.dK (Kvs L2q)) = Ht at C eq1 tq1 eq2 tq2 ⊢
    refine ⟨by show 2 ≤ sizeLine; decide, fun l2 hl2 => ?_⟩
    have C3 := Same.new (o := .lst [V.ref q1, .ref q2]) hl2
    have el2 : (upd Ht l2 (.lst [V.ref q1, .ref q2])) l2 = some (.lst [V.ref q1, .ref q2]) := upd_same
    have eq1 := C3 _ _ eq1
    have tq1 := tq1.keep (KT.same C3)
    have eq2 := C3 _ _ eq2
    have tq2 := tq2.keep (KT.same C3)
    have C := Same.trans C C3
    generalize upd Ht l2 (.lst [V.ref q1, .ref q2]) = Hu at C eq1 tq1 eq2 tq2 el2 ⊢
    refine ⟨l2, _, rfl, .lst (SqL.of el2) (.cons (rows_ds eq1 tq1) (.cons (rows_ds eq2 tq2) .nil)), tt2.1, tt2.2.1, tt2.2.2, ?_⟩
    clear C1 C2 C3 eq1 eq2 tq1 tq2 el2 hl2 hq1 hq2
    refine ⟨_, rfl, d1, L1, Ra, rfl, C _ _ edA, tsA.keep (KT.same C), gA.nd, by omega, fun d5 L5 S5 Hv Sv hd5 ed5 td5 srd5 => ?_⟩
    have e5 : S5 = S := Srd.eq gA.nd srd5 srd1
    rw [e5] at td5
    have Cv := Same.trans C Sv
    refine ⟨_, rfl, d2, L2', Rb, rfl, Cv _ _ edB, tsB.keep (KT.same Cv), gB.nd, by omega, fun d6 L6 S6 Hw Sw hd6 ed6 td6 srd6 => ?_⟩
    have e6 : S6 = S2 := Srd.eq gB.nd srd6 srd2
    rw [e6] at td6
    refine ⟨by show 2 ≤ sizeLine; decide, fun l3 hl3 => ?_⟩
    have C3 := Same.new (o := .lst [V.ref d5, .ref d6]) hl3
    have el3 : (upd Hw l3 (.lst [V.ref d5, .ref d6])) l3 = some (.lst [V.ref d5, .ref d6]) := upd_same
    have Cw := Same.trans Sw C3
    have ed5 := Cw _ _ ed5
    have td5 := td5.keep (KT.same Cw)
    have ed6 := C3 _ _ ed6
    have td6 := td6.keep (KT.same C3)
    have C := Same.trans Cv Cw
    generalize upd Hw l3 (.lst [V.ref d5, .ref d6]) = Hx at C ed5 td5 ed6 td6 el3 ⊢
    refine ⟨l3, _, rfl, .lst (SqL.of el3) (.cons (rows_ds ed5 td5) (.cons (rows_ds ed6 td6) .nil)), tt2.1, tt2.2.1, tt2.2.2, ?_⟩
    refine ⟨rfl, _, rfl, ?_⟩
    rw [decide_eq_true rfl]
    refine iteF ?_
    clear C3 Cw Cv Sv Sw ed5 td5 ed6 td6 el3 tt2 td2 srd5 srd6 e5 e6 hl3
    have spB := spB.same C
    have sp1 := sp1.same C
    have sp2 := sp2.same C
    have hb := C _ _ hb
    have hx1 := C _ _ hx1
    have hx2 := C _ _ hx2
    have eln := C _ _ eln
    have Px : Only r H Hx := Only.trans Pr (Same.only C)
    have Rx := Same.rl C Rr
    clear Pr Rr rnr C edA edB tsA tsB
    have rnx : Hx r ≠ none := fun z => by
      obtain ⟨_, _, _, e⟩ := Rx
      rw [e] at z
      cases z
    -- total
    refine ⟨_, rfl, bo, dxb, _, rfl, hb, bo, t, _, r, rfl, spB, fun Ha1 Sa1 => ?_⟩
    refine ⟨_, rfl, x, dx1, _, rfl, Sa1 _ _ hx1, x, t, _, r, rfl, sp1.same Sa1, fun Hb1 Sb1 => ?_⟩
    have S2b := Same.trans Sa1 Sb1
    refine ⟨_, rfl, y, dx2, _, rfl, S2b _ _ hx2, y, t, _, r, rfl, sp2.same S2b, fun Hc1 Sc1 => ?_⟩
    have C := Same.trans S2b Sc1
    refine ⟨_, _, rfl, rfl, rfl, _, rfl, ?_⟩
    rw [len_both srdB.pm, decide_eq_true rfl]
    refine iteF ?_
    -- the counts of the two
    refine ⟨_, rfl, _, rfl, _, rfl, x, t, -t, S, r, rfl, sp1.same C, ⟨by omega, by omega⟩, fun qa xa Hd1 Sd1 _ ea pa => ?_⟩
    have C2 := Same.trans C Sd1
    refine ⟨_, rfl, _, rfl, _, rfl, y, t, -t, S2, r, rfl, sp2.same C2, ⟨by omega, by omega⟩, fun qb xb He1 Se1 _ eb pb => ?_⟩
    have C3 := Same.trans C2 Se1
    have ea := Se1 _ _ ea
    have pa := pa.same Se1
    refine ⟨_, _, rfl, ?_⟩
    refine ⟨_, rfl, _, rfl, qa, qb, xa, xb, rfl, SqL.of ea, SqL.of eb, fun D hD => ?_⟩
    have lxa : xa.length = (2 * t).toNat := by rw [pa.len, cntsL_len]
    have lxb : xb.length = (2 * t).toNat := by rw [pb.len, cntsL_len]
    refine lc_it (σ := [some (V.ref r), some (.int t), some (.ref ln), some (.int (1 + v)), some (.ref d1), some (.ref d2), some (.ref x), some (.ref y), some (.ref bo), some (.ref d3), some (.ref qa), some (.ref qb), none, none, none]) (walk_zip (K := K) (a := qa) (b := qb) (xs := xa) (ys := xb) (n := (2 * t).toNat) (by omega)) (fun i H' => Same He1 H' ∧ ∃ xs, H' D = some (.lst xs) ∧ PrsAt H' xs (cntsL B t (-t) i)) ⟨Same.new hD, [], upd_same, .nil⟩ (fun i H' _ h => ⟨SqL.of (h.1 _ _ ea), SqL.of (h.1 _ _ eb)⟩) ?_ ?_
    · rintro i v Hy Hy' hi ⟨Sy, xs, eD, pr⟩ ⟨TT, v1, v2, rfl, hTT, rfl, ev1, ev2⟩
      obtain ⟨a, qa', rfl, la', ha⟩ := (pa.same Sy).get i v1 ev1
      obtain ⟨b, qb', rfl, lb', hb'⟩ := (pb.same Sy).get i v2 ev2
      have Sn : Same Hy (upd Hy TT (.tup [V.ref a, .ref b])) := Same.new hTT
      have eTT : (upd Hy TT (.tup [V.ref a, .ref b])) TT = some (.tup [V.ref a, .ref b]) := upd_same
      have ha := Sn _ _ ha
      have hb' := Sn _ _ hb'
      have eD1 := Sn _ _ eD
      have pr1 := pr.same Sn
      generalize upd Hy TT (.tup [V.ref a, .ref b]) = Hz at Sn eTT ha hb' eD1 pr1 ⊢
      refine ⟨TT, _, rfl, SqT.of eTT, rfl, _, _, rfl, _, _, rfl, rfl, ?_⟩
      refine ⟨rfl, ?_⟩
      unfold tYes
      dsimp only
      rw [if_pos rfl]
      refine ⟨_, rfl, .inl ⟨a, _, _, _, rfl, rfl, SqL.of ha, atI_nat (j := 0) rfl, _, rfl, .inl ⟨b, _, _, _, rfl, rfl, SqL.of hb', atI_nat (j := 0) rfl, _, _, rfl, rfl, ?_⟩⟩⟩
      refine ⟨_, rfl, .inl ⟨a, _, _, _, rfl, rfl, SqL.of ha, atI_nat (j := 1) rfl, _, rfl, .inl ⟨b, _, _, _, rfl, rfl, SqL.of hb', atI_nat (j := 1) rfl, _, _, rfl, rfl, ?_⟩⟩⟩
      refine ⟨by rw [sizeLine_eq]; simp, fun q hq => ?_⟩
      have B1 := Same.new (o := .lst [V.int (qa'.1 + qb'.1), .int (qa'.2 + qb'.2)]) hq
      have x1 : (upd Hz q (.lst [V.int (qa'.1 + qb'.1), .int (qa'.2 + qb'.2)])) q = some (.lst [V.int (qa'.1 + qb'.1), .int (qa'.2 + qb'.2)]) := upd_same
      have nqD : q ≠ D := fun z => by rw [z, eD1] at hq; cases hq
      have eD2 := B1 _ _ eD1
      have pr2 := pr1.same B1
      have Sf := Same.trans Sn B1
      generalize upd Hz q (.lst [V.int (qa'.1 + qb'.1), .int (qa'.2 + qb'.2)]) = Hzz at B1 x1 eD2 pr2 Sf ⊢
      refine ⟨xs, eD2, by rw [pr.len, cntsL_len, sizeLine_eq]; omega, Same.at hD (Same.trans Sy Sf), xs ++ [V.ref q], upd_same, ?_⟩
      have eP : cntP B t (-t + (i : Int)) = (qa'.1 + qb'.1, qa'.2 + qb'.2) := by
        have e1 : qa' = cntP S t (-t + (i : Int)) := by
          unfold cntsL at la'
          rw [List.getElem?_map, List.getElem?_range hi] at la'
          exact (Option.some.inj la').symm
        have e2 : qb' = cntP S2 t (-t + (i : Int)) := by
          unfold cntsL at lb'
          rw [List.getElem?_map, List.getElem?_range hi] at lb'
          exact (Option.some.inj lb').symm
        rw [e1, e2]
        unfold cntP
        rw [cnt_both g1.nd g2.nd ndB srdB.pm, cnt_both g1.nd g2.nd ndB srdB.pm]
      rw [cntsL_snoc, eP]
      exact PrsAt.snoc ((upd_ne nqD).trans x1) (pr2.put _ eD2)
    rintro Hf1 ⟨Sf1, xs, eD, pr⟩
    clear ea eb pa pb hD lxa lxb
    have C4 := Same.trans C3 Sf1
    -- the counts of both
    have tc := (cntsL_td gBo (-t) (j := (2 * t).toNat) (by omega)).tell (by decide) (by decide)
    refine ⟨_, rfl, _, rfl, _, rfl, bo, t, -t, B, r, rfl, spB.same C4, ⟨by omega, by omega⟩, fun qc xc Hg1 Sg1 _ ec pc => ?_⟩
    refine ⟨qc, _, rfl, prs_ds ec pc, tc.1, tc.2.1, tc.2.2, ?_⟩
    refine ⟨_, rfl, D, _, rfl, prs_ds (Sg1 _ _ eD) (pr.same Sg1), tc.1, tc.2.1, tc.2.2, ?_⟩
    refine ⟨rfl, _, rfl, ?_⟩
    rw [decide_eq_true rfl]
    refine iteF ?_
    have C5 := Same.trans C4 Sg1
    clear C C2 C3 C4 Sg1 Sf1 Se1 Sd1 Sc1 Sb1 Sa1 S2b ec pc tc eD pr
    -- most
    refine ⟨_, rfl, x, dx1, _, rfl, C5 _ _ hx1, x, t, _, r, rfl, sp1.same C5, fun m1 Hh1 mst1 Sh1 => ?_⟩
    have C6 := Same.trans C5 Sh1
    refine ⟨_, rfl, y, dx2, _, rfl, C6 _ _ hx2, y, t, _, r, rfl, sp2.same C6, fun m2 Hi1 mst2 Si1 => ?_⟩
    have C7 := Same.trans C6 Si1
    refine ⟨_, _, rfl, ?_⟩
    refine ⟨_, rfl, bo, dxb, _, rfl, C7 _ _ hb, bo, t, _, r, rfl, spB.same C7, fun m3 Hj1 mst3 Sj1 => ?_⟩
    have C8 := Same.trans C7 Sj1
    have mb := most_both g1 g2 ndB srdB.pm mst3 mst1 mst2
    refine ⟨_, _, rfl, rfl, _, rfl, ?_⟩
    rw [decide_eq_true (show (if m2 > m1 then m2 else m1) ≤ m3 from mb.1)]
    refine iteT ?_
    refine ⟨_, rfl, x, dx1, _, rfl, C8 _ _ hx1, x, t, _, r, rfl, sp1.same C8, fun m4 Hk1 mst4 Sk1 => ?_⟩
    have C9 := Same.trans C8 Sk1
    refine ⟨_, rfl, y, dx2, _, rfl, C9 _ _ hx2, y, t, _, r, rfl, sp2.same C9, fun m5 Hl1 mst5 Sl1 => ?_⟩
    have D0 := Same.trans C9 Sl1
    have q4 : m4 = m1 := mst_eq mst4 mst1
    have q5 : m5 = m2 := mst_eq mst5 mst2
    refine ⟨_, _, rfl, rfl, _, _, rfl, rfl, _, rfl, ?_⟩
    rw [decide_eq_true (show m3 ≤ m4 + m5 by have := mb.2; omega)]
    refine iteF ?_
    clear mst1 mst2 mst3 mst4 mst5 mb C5 C6 C7 C8 C9 Sh1 Si1 Sj1 Sk1 Sl1
    -- the values that are alive
    refine ⟨_, rfl, x, dx1, _, rfl, D0 _ _ hx1, rfl, _, rfl, ?_⟩
    refine ⟨x, t, t, S, r, rfl, sp1.same D0, ⟨by omega, by omega⟩, fun y1 Hm1 Sm1 o1 => fun q1 hq1 => ?_⟩
    have E1 := Same.new (o := .lst y1) hq1
    have eq1 : (upd Hm1 q1 (.lst y1)) q1 = some (.lst y1) := upd_same
    have o1 := o1.keep (KT.same E1)
    have D1 := Same.trans D0 (Same.trans Sm1 E1)
    generalize upd Hm1 q1 (.lst y1) = Hn1 at D1 eq1 o1 ⊢
    refine ⟨_, rfl, y, dx2, _, rfl, D1 _ _ hx2, rfl, _, rfl, ?_⟩
    refine ⟨y, t, t, S2, r, rfl, sp2.same D1, ⟨by omega, by omega⟩, fun y2 Ho1 So1 o2 => fun q2 hq2 => ?_⟩
    have E2 := Same.new (o := .lst y2) hq2
    have eq2 : (upd Ho1 q2 (.lst y2)) q2 = some (.lst y2) := upd_same
    have o2 := o2.keep (KT.same E2)
    have S12 := Same.trans So1 E2
    have o1 := o1.keep (KT.same S12)
    have eq1 := S12 _ _ eq1
    have D2 := Same.trans D1 S12
    generalize upd Ho1 q2 (.lst y2) = Hp1 at D2 eq1 eq2 o1 o2 ⊢
    have l1' : y1.length ≤ 64 := by
      rw [o1.len]
      have := each_len (t := t) (i := t) (by omega) g1.sp
      omega
    have l2' : y2.length ≤ 64 := by
      rw [o2.len]
      have := each_len (t := t) (i := t) (by omega) g2.sp
      omega
    refine ⟨q1, q2, y1, y2, rfl, rfl, eq1, eq2, by rw [sizeLine_eq]; omega, fun lv hlv => ?_⟩
    have E3 := Same.new (o := .lst (y1 ++ y2)) hlv
    have elv : (upd Hp1 lv (.lst (y1 ++ y2))) lv = some (.lst (y1 ++ y2)) := upd_same
    have o12 : OutAt (upd Hp1 lv (.lst (y1 ++ y2))) (y1 ++ y2) (eachL t t S ++ eachL t t S2) := paired_app (o1.keep (KT.same E3)) (o2.keep (KT.same E3))
    have D3 := Same.trans D2 E3
    generalize upd Hp1 lv (.lst (y1 ++ y2)) = Hq1 at D3 elv o12 ⊢
    clear E1 E2 E3 eq1 eq2 o1 o2 S12 D1 D2 D0 hq1 hq2 hlv Sm1 So1
    -- the values of both
    refine ⟨_, rfl, bo, dxb, _, rfl, D3 _ _ hb, rfl, _, rfl, ?_⟩
    refine ⟨bo, t, t, B, r, rfl, spB.same D3, ⟨by omega, by omega⟩, fun y3 Hr1 Sr1 o3 => fun q3 hq3 => ?_⟩
    have E4 := Same.new (o := .lst y3) hq3
    have eq3 : (upd Hr1 q3 (.lst y3)) q3 = some (.lst y3) := upd_same
    have o3 := o3.keep (KT.same E4)
    have S34 := Same.trans Sr1 E4
    have elv := S34 _ _ elv
    have o12 := o12.keep (KT.same S34)
    have D4 := Same.trans D3 S34
    generalize upd Hr1 q3 (.lst y3) = Hs1 at D4 eq3 o3 elv o12 ⊢
    obtain ⟨bs, hbs, hb2, hb3⟩ := out_ti o12
    have lbs : bs.length ≤ 128 := by
      have := congrArg List.length hbs
      rw [List.length_append, List.length_map] at this
      omega
    refine ⟨_, rfl, lv, bs, rfl, by rw [← hbs]; exact SqL.of elv, hb3, by omega, fun pz hpz => ?_⟩
    have ez : (bs.mergeSort (PySem.W.dataLe false KST.encTI)).map (·.2) = eachL t t B := KST.sort_ti (by rw [hb2]; exact each_perm srdB.pm) (each_pw ndB soB)
    have mz : ∀ b ∈ bs.mergeSort (PySem.W.dataLe false KST.encTI), Hs1 b.1 = some (.tup [.str b.2.1, .int b.2.2]) := fun b h => hb3 b ((List.mergeSort_perm bs _).mem_iff.mp h)
    generalize bs.mergeSort (PySem.W.dataLe false KST.encTI) = zs at ez mz ⊢
    have oz := ti_out mz
    rw [ez] at oz
    have E5 := Same.new (o := .lst (zs.map fun b => V.ref b.1)) hpz
    have epz : (upd Hs1 pz (.lst (zs.map fun b => V.ref b.1))) pz = some (.lst (zs.map fun b => V.ref b.1)) := upd_same
    have eq3 := E5 _ _ eq3
    have o3 := o3.keep (KT.same E5)
    have oz := oz.keep (KT.same E5)
    have D5 := Same.trans D4 E5
    generalize upd Hs1 pz (.lst (zs.map fun b => V.ref b.1)) = Ht1 at D5 epz eq3 o3 oz ⊢
    have nmE : ∀ q ∈ eachL t t B, nmC q.1 = true := each_nm gBo
    refine ⟨outD (eachL t t B), outD (eachL t t B), .lst (SqL.of eq3) (out_dpa o3), .lst (SqL.of epz) (out_dpa oz), shaped_out nmE, shaped_out nmE, ?_⟩
    rw [eqv_out nmE]
    refine ⟨_, rfl, ?_⟩
    refine iteT ?_
    -- some of the names
    have pmn : ns.Perm (B.map (·.1)) := by
      have a := (srdB.pm.map (·.1)).symm
      rw [List.map_append] at a
      refine List.Perm.trans ?_ a
      have b := ((srd1.pm.map (·.1)).trans pm1).append ((srd2.pm.map (·.1)).trans pm2)
      rw [List.take_append_drop] at b
      exact b.symm
    have nearB : ∀ x ∈ B, Near 1000 x := fun x hx => (List.mem_append.mp (srdB.pm.mem_iff.mp hx)).elim (near1 x) (near2 x)
    refine ⟨_, rfl, _, rfl, _, rfl, r, bo, ln, t, B, ns, rfl, Same.rl D5 Rx, spB.same D5, SqL.of (D5 _ _ eln), nlr, pmn, nearB, fun H' O R' => ?_⟩
    exact k H' (Only.trans Px (Only.trans (Same.only D5) O)) R'
end
end K40
namespace K40
open PySem L2
open PyProof.Rows PySem.Spec OW
/-- the written rows of the law -/
def wAB : Rws := [("a", 1, 4), ("b", 0, 2)]
def wA : Rws := [("a", 1, 4)]
theorem wA_good : Good 3 wA := by
  refine ⟨by decide +kernel, by decide, by decide, fun x hx => ?_, fun x hx => ?_, fun x hx => ?_, by decide, by decide⟩
  all_goals
    simp only [wA, List.mem_cons, List.not_mem_nil, or_false] at hx
  · subst hx
    decide +kernel
  · subst hx
    unfold SpOk
    decide +kernel
  · subst hx
    unfold Near
    decide +kernel
def wB : Rws := [("b", 0, 2)]
theorem wB_good : Good 3 wB := by
  refine ⟨by decide +kernel, by decide, by decide, fun x hx => ?_, fun x hx => ?_, fun x hx => ?_, by decide, by decide⟩
  all_goals
    simp only [wB, List.mem_cons, List.not_mem_nil, or_false] at hx
  · subst hx
    decide +kernel
  · subst hx
    unfold SpOk
    decide +kernel
  · subst hx
    unfold Near
    decide +kernel
theorem wAB_good : Good 3 wAB := by
  refine ⟨by decide +kernel, by decide, by decide, fun x hx => ?_, fun x hx => ?_, fun x hx => ?_, by decide, by decide⟩
  all_goals
    simp only [wAB, List.mem_cons, List.not_mem_nil, or_false] at hx
  · rcases hx with h | h
    all_goals subst h; decide +kernel
  · rcases hx with h | h
    all_goals subst h; unfold SpOk; decide +kernel
  · rcases hx with h | h
    all_goals subst h; unfold Near; decide +kernel
section
variable {P : Program} {w : World} {K : PySem.W.Frag}
                                                      {mg : Str → Option Value} {base : Heap}
def sp_law (K : PySem.W.Frag) : Sp := fun vs H Q _ => ∃ (a : Addr) (ns : List Int), vs = [.ref a] ∧ SqL K H a (ns.map V.int) ∧ ns.length ≤ 63 ∧ ∀ H', Q (.bl true) H'
theorem ok_law (T : T K mg) (U : UX K mg) (ai : AddI K U.C) (an : AndT K U.C) : GW.FnG P w K mg base CX0 14 T.f_law T.d_law ["script"] (sp_law K) := by
  have G_w_right : GW.FnG P w K mg base CX0 13 T.f_w_right T.d_w_right ["tray"] (sp_w_right K) := ok_w_right T U ai an
  have G_w_tray : FnOk P w K mg base CX0 1 T.f_w_tray T.d_w_tray ["script", "spot"] (sp_w_tray K) := ok_w_tray T
  have G_init : FnOk P w K mg base CX0 6 U.fI U.dI ["self", "interval", "rows"] (sp_initS K U.C) := ok_initS T U
  have G_add : FnOk P w K mg base CX0 8 U.ma.f U.ma.d ["self", "other"] (sp_addS K U.C) := ok_addS T U
  have G_or : FnOk P w K mg base CX0 8 U.mr.f U.mr.d ["self", "other"] (sp_or K U.C) := ok_or T U
  have G_and : FnOk P w K mg base CX0 8 U.mn.f U.mn.d ["self", "other"] (sp_and K U.C) := ok_and T U
  have Gr : FnOk P w K mg base CX0 1 U.pr.g U.pr.d ["self"] (sp_rows K U.C) := ok_rows T U
  have Gz : FnOk P w K mg base CX0 8 U.pz.g U.pz.d ["self"] (sp_normal K U.C) := ok_normal T U
  refine GW.FunG.okG T.F_law sc_law (fun vs H Q E h => ?_) (fun cdv A outer s H vs Q E hg hr h => ?_)
  · obtain ⟨a, ns, rfl, _⟩ := h
    rfl
  · obtain ⟨a, ns, rfl, hS, hl, k⟩ := h
    have hu := hu_of hr
    have hgd : (cxOf CX0 P w K mg base ["script", "spot", "two", "told", "due"] "law" (defScope s_law) T.f_law cdv A outer s H E).nox.A.guards = some [] := hg
    have hr_w_right : Room 13 _ := hr.mono (by decide)
    have hr_w_tray : Room 1 _ := hr.mono (by decide)
    refine ⟨_, PSs.nox (pss_cons (ps_for PassesOwn.never rfl (pi_range1 (by rfl) T.z_range (pa_cons (pe_callB (call_max2 rfl) (by rfl) T.z_max (by decide +kernel) (pa_cons pe_int (pa_cons (pe_callB (call_min2 rfl) (by rfl) T.z_min (by decide +kernel) (pa_cons pe_int (pa_cons (pe_callB call_len (by rfl) T.z_len (by decide +kernel) (pa_cons (pv 0) pa_nil)) pa_nil))) pa_nil))) pa_nil)) (pg_name (i := 1) sc_law.nd rfl (Or.inl rfl))
      (pss_one (ps_if (pt_not (pt_val (GW.pe_callG G_w_right hgd hr_w_right rfl T.m_w_right T.F_w_right.kp T.b_w_right .nil pass0 (pa_cons (pe_call G_w_tray hr_w_tray rfl T.m_w_tray T.F_w_tray.kp T.b_w_tray .nil pass0 (pa_cons (pv 0) (pa_cons (pv 1) pa_nil))) pa_nil))))
      (pss_one (ps_ret pe_bl))
      pss_nil)))
      (pss_cons (ps_set (i := 2) sc_law.nd rfl (Or.inl rfl) (pe_op (OW.op_ownOr G_or ⟨U.mr.m.at_, U.mr.m.fn⟩ U.sf (hr.mono (by decide)) U.mr.b pass0) (pe_make U.mkI G_init (hr.mono (by decide)) rfl U.mC U.bI .nil pass0 (pa_cons pe_int (pa_cons (pe_disp (pps_cons pe_str (pe_tup (pa_cons pe_int (pa_cons pe_int pa_nil))) pps_nil) rfl rfl (by decide) (by decide)) pa_nil))) (pe_make U.mkI G_init (hr.mono (by decide)) rfl U.mC U.bI .nil pass0 (pa_cons pe_int (pa_cons (pe_disp (pps_cons pe_str (pe_tup (pa_cons pe_int (pa_cons pe_int pa_nil))) pps_nil) rfl rfl (by decide) (by decide)) pa_nil)))))
      (pss_cons (ps_set (i := 3) sc_law.nd rfl (Or.inl rfl) (pe_lst (pa_cons (pe_prop (pv 2) U.cl U.pr.pr Gr (hr.mono (by decide)) U.pr.b .nil pass0 rfl) (pa_cons (pe_prop (pe_op (op_ownAddI G_add ⟨U.ma.m.at_, U.ma.m.fn⟩ U.sf ai (hr.mono (by decide)) U.ma.b pass0) (pv 2) pe_int) U.cl U.pr.pr Gr (hr.mono (by decide)) U.pr.b .nil pass0 rfl) (pa_cons (pe_prop (pe_op (OW.op_ownAndT G_and ⟨U.mn.m.at_, U.mn.m.fn⟩ U.sf an (hr.mono (by decide)) U.mn.b pass0) (pv 2) (pe_tup (pa_cons pe_str pa_nil))) U.cl U.pr.pr Gr (hr.mono (by decide)) U.pr.b .nil pass0 rfl) (pa_cons (pe_prop (pe_prop (pe_op (op_ownAddI G_add ⟨U.ma.m.at_, U.ma.m.fn⟩ U.sf ai (hr.mono (by decide)) U.ma.b pass0) (pv 2) pe_int) U.cl U.pz.pr Gz (hr.mono (by decide)) U.pz.b .nil pass0 rfl) U.cl U.pr.pr Gr (hr.mono (by decide)) U.pr.b .nil pass0 rfl) pa_nil))))))
      (pss_cons (ps_set (i := 4) sc_law.nd rfl (Or.inl rfl) (pe_lst (pa_cons (pe_disp (pps_cons pe_str (pe_tup (pa_cons pe_int (pa_cons pe_int pa_nil))) (pps_cons pe_str (pe_tup (pa_cons pe_int (pa_cons pe_int pa_nil))) pps_nil)) rfl rfl (by decide) (by decide)) (pa_cons (pe_disp (pps_cons pe_str (pe_tup (pa_cons pe_int (pa_cons pe_int pa_nil))) (pps_cons pe_str (pe_tup (pa_cons pe_int (pa_cons pe_int pa_nil))) pps_nil)) rfl rfl (by decide) (by decide)) (pa_cons (pe_disp (pps_cons pe_str (pe_tup (pa_cons pe_int (pa_cons pe_int pa_nil))) pps_nil) rfl rfl (by decide) (by decide)) (pa_cons (pe_disp (pps_cons pe_str (pe_tup (pa_cons pe_int (pa_cons pe_int pa_nil))) (pps_cons pe_str (pe_tup (pa_cons pe_int (pa_cons pe_int pa_nil))) pps_nil)) rfl rfl (by decide) (by decide)) pa_nil))))))
      (pss_one (ps_ret (pe_cmpR op_eq (pe_callB (RL.cr_reprD hgd (un64 hr)) (by rfl) T.z_repr (by decide +kernel) (pa_cons (pv 3) pa_nil)) (pe_callB (RL.cr_reprD hgd (un64 hr)) (by rfl) T.z_repr (by decide +kernel) (pa_cons (pv 4) pa_nil)) (nomark _)))))))), ?_⟩
    refine ⟨_, rfl, _, _, rfl, .inl ⟨_, hS, rfl⟩, _, _, rfl, _, _, rfl, ?_⟩
    have hb := cells_n (ns.map V.int).length 8
    refine ⟨_, rfl, Int.le_trans (by decide) hb.2, Int.lt_of_le_of_lt hb.1 (by decide), ?_⟩
    refine for_range (fun i σ H' => ∃ v, σ = [some (.ref a), v, none, none, none] ∧ SqL K H' a (ns.map V.int)) ⟨none, rfl, hS⟩ ?_ ?_
    · rintro i σ H' hi ⟨v, rfl, hS'⟩
      refine ⟨_, rfl, _, rfl, a, ns, i, congrArg (fun z => [V.ref a, V.int z]) (Int.zero_add _), hS', fun p x y z hp => ?_⟩
      refine ⟨p, rfl, ⟨x, y, z, upd_same⟩, fun H2 O2 _ => ⟨_, rfl, iteF ?_⟩⟩
      refine ⟨_, rfl, ?_⟩
      rcases hS' with (h | ⟨u, h⟩) | h
      · exact .inl (.inl (O2 _ _ (ne_of_none h hp) ((upd_ne (ne_of_none h hp)).trans h)))
      · exact .inl (.inr ⟨u, O2 _ _ (ne_of_none h hp) ((upd_ne (ne_of_none h hp)).trans h)⟩)
      · exact .inr h
    · rintro σ H0 ⟨v, rfl, hS'⟩
      refine fun pd1 hpd1 => ?_
      have C1_0 := Same.new (o := .dK []) hpd1
      have e1_0 : (upd H0 pd1 (.dK [])) pd1 = some (.dK []) := upd_same
      generalize upd H0 pd1 (.dK []) = H1_0 at C1_0 e1_0 ⊢
      refine ⟨by show 2 ≤ sizeLine; decide, fun a1_1 ha1_1 => ?_⟩
      have C1_1 := Same.new (o := .tup [V.int 0, .int 2]) ha1_1
      have x1_1 : (upd H1_0 a1_1 (.tup [V.int 0, .int 2])) a1_1 = some (.tup [V.int 0, .int 2]) := upd_same
      have e1_1 := C1_1 _ _ e1_0
      generalize upd H1_0 a1_1 (.tup [V.int 0, .int 2]) = H1_1 at C1_1 x1_1 e1_1 ⊢
      refine ⟨e1_1, Kvs [(Str.ofString "b", a1_1)], rfl, by show 1 ≤ 15; decide, ?_⟩
      rw [show mergeK [] (Kvs [(Str.ofString "b", a1_1)]) = Kvs [(Str.ofString "b", a1_1)] from mergeK_kvs [(Str.ofString "b", a1_1)] [] (by show ([Str.ofString "b"] : List Str).Nodup; decide +kernel)]
      have kt1 : KT H1_1 (upd H1_1 pd1 (.dK (Kvs [(Str.ofString "b", a1_1)]))) := KT.put e1_1 (fun _ z => by cases z)
      have ep1 : (upd H1_1 pd1 (.dK (Kvs [(Str.ofString "b", a1_1)]))) pd1 = some (.dK (Kvs [(Str.ofString "b", a1_1)])) := upd_same
      have tp1 : Tups (upd H1_1 pd1 (.dK (Kvs [(Str.ofString "b", a1_1)]))) [(Str.ofString "b", a1_1)] ([(Str.ofString "b", 0, 2)] : Rws) := (.cons (kt1 _ _ x1_1) .nil)
      have S1 : Same H0 (upd H1_1 pd1 (.dK (Kvs [(Str.ofString "b", a1_1)]))) := Same.at hpd1 (Same.trans C1_0 C1_1)
      generalize upd H1_1 pd1 (.dK (Kvs [(Str.ofString "b", a1_1)])) = Hd1 at ep1 tp1 S1 ⊢
      refine fun p1 dp1 hp1 hdp1 ndp1 => ?_
      have A1 : Same Hd1 (upd (upd Hd1 dp1 (.own p1)) p1 (.ins U.C dp1 [])) := Same.trans (Same.new hdp1) (Same.new (by rw [upd_ne ndp1.symm]; exact hp1))
      refine ⟨p1, pd1, dp1, 3, _, wB, rfl, upd_same, A1 _ _ ep1, tp1.keep (KT.same A1), wB_good, fun R1 Hm1 B1 sp1 srd1 => ⟨rfl, ?_⟩⟩
      have eR1 : R1 = wB := Srd.eq wB_good.nd srd1 ⟨List.Perm.refl _, by decide +kernel⟩
      rw [eR1] at sp1
      have T1 : Same Hd1 Hm1 := fun b o hb => B1 b o (fun z => by rw [z, hp1] at hb; cases hb) (A1 _ _ hb)
      refine fun pd2 hpd2 => ?_
      have C2_0 := Same.new (o := .dK []) hpd2
      have e2_0 : (upd Hm1 pd2 (.dK [])) pd2 = some (.dK []) := upd_same
      generalize upd Hm1 pd2 (.dK []) = H2_0 at C2_0 e2_0 ⊢
      refine ⟨by show 2 ≤ sizeLine; decide, fun a2_1 ha2_1 => ?_⟩
      have C2_1 := Same.new (o := .tup [V.int 1, .int 4]) ha2_1
      have x2_1 : (upd H2_0 a2_1 (.tup [V.int 1, .int 4])) a2_1 = some (.tup [V.int 1, .int 4]) := upd_same
      have e2_1 := C2_1 _ _ e2_0
      generalize upd H2_0 a2_1 (.tup [V.int 1, .int 4]) = H2_1 at C2_1 x2_1 e2_1 ⊢
      refine ⟨e2_1, Kvs [(Str.ofString "a", a2_1)], rfl, by show 1 ≤ 15; decide, ?_⟩
      rw [show mergeK [] (Kvs [(Str.ofString "a", a2_1)]) = Kvs [(Str.ofString "a", a2_1)] from mergeK_kvs [(Str.ofString "a", a2_1)] [] (by show ([Str.ofString "a"] : List Str).Nodup; decide +kernel)]
      have kt2 : KT H2_1 (upd H2_1 pd2 (.dK (Kvs [(Str.ofString "a", a2_1)]))) := KT.put e2_1 (fun _ z => by cases z)
      have ep2 : (upd H2_1 pd2 (.dK (Kvs [(Str.ofString "a", a2_1)]))) pd2 = some (.dK (Kvs [(Str.ofString "a", a2_1)])) := upd_same
      have tp2 : Tups (upd H2_1 pd2 (.dK (Kvs [(Str.ofString "a", a2_1)]))) [(Str.ofString "a", a2_1)] ([(Str.ofString "a", 1, 4)] : Rws) := (.cons (kt2 _ _ x2_1) .nil)
      have S2 : Same Hm1 (upd H2_1 pd2 (.dK (Kvs [(Str.ofString "a", a2_1)]))) := Same.at hpd2 (Same.trans C2_0 C2_1)
      generalize upd H2_1 pd2 (.dK (Kvs [(Str.ofString "a", a2_1)])) = Hd2 at ep2 tp2 S2 ⊢
      refine fun p2 dp2 hp2 hdp2 ndp2 => ?_
      have A2 : Same Hd2 (upd (upd Hd2 dp2 (.own p2)) p2 (.ins U.C dp2 [])) := Same.trans (Same.new hdp2) (Same.new (by rw [upd_ne ndp2.symm]; exact hp2))
      refine ⟨p2, pd2, dp2, 3, _, wA, rfl, upd_same, A2 _ _ ep2, tp2.keep (KT.same A2), wA_good, fun R2 Hm2 B2 sp2 srd2 => ⟨rfl, ?_⟩⟩
      have eR2 : R2 = wA := Srd.eq wA_good.nd srd2 ⟨List.Perm.refl _, by decide +kernel⟩
      rw [eR2] at sp2
      have T2 : Same Hd2 Hm2 := fun b o hb => B2 b o (fun z => by rw [z, hp2] at hb; cases hb) (A2 _ _ hb)
      -- both are made
      obtain ⟨r, rn1⟩ : ∃ r, Hd1 r ≠ none := ⟨pd1, fun z => by rw [ep1] at z; cases z⟩
      have w1 := sp1 r (some_same A1 rn1)
      have rn2 : Hd2 r ≠ none := some_same S2 (some_same (fun b o hb => B1 b o (fun z => by rw [z, hp1] at hb; cases hb) (A1 _ _ hb) : Same Hd1 Hm1) rn1)
      have w2 := sp2 r (some_same A2 rn2)
      have T12 : Same Hm1 Hm2 := Same.trans S2 (fun b o hb => B2 b o (fun z => by rw [z, hp2] at hb; cases hb) (A2 _ _ hb))
      have w1 := w1.same T12
      have rnm : Hm2 r ≠ none := some_same (fun b o hb => B2 b o (fun z => by rw [z, hp2] at hb; cases hb) (A2 _ _ hb) : Same Hd2 Hm2) rn2
      obtain ⟨_, _, dy1, _, _, _, _, _, _, _, h1, _⟩ := id w1
      obtain ⟨_, _, dy2, _, _, _, _, _, _, _, h2, _⟩ := id w2
      refine ⟨p1, dy1, _, p2, dy2, _, rfl, h1, rfl, h2, p1, p2, 3, wB, wA, r, r, rfl, w1, w2, by decide +kernel, by decide, fun bo Hb B Sb _ srdB spb => ?_⟩
      have eB : B = wAB := Srd.eq (R := wB ++ wA) (by decide +kernel) srdB ⟨List.Perm.swap _ _ _, by decide +kernel⟩
      rw [eB] at spb
      have spB := spb r rnm
      have rnb := some_same Sb rnm
      clear spb srdB eB w1 w2 h1 h2
      obtain ⟨_, _, dxb, _, _, _, _, _, _, _, hb, _⟩ := id spB
      have nb : ∀ x ∈ wAB, -800000000000 ≤ x.2.1 ∧ x.2.2 ≤ 800000000000 := by decide +kernel
      -- told
      refine ⟨_, rfl, ?_⟩
      refine ⟨bo, dxb, _, rfl, hb, bo, 3, _, r, rfl, spB, fun q1 L1 hq1 tq1 => ?_⟩
      have Q1 := Same.new (o := .dK (Kvs L1)) hq1
      have eq1 : (upd Hb q1 (.dK (Kvs L1))) q1 = some (.dK (Kvs L1)) := upd_same
      have tq1 := tq1.keep (KT.same Q1)
      generalize upd Hb q1 (.dK (Kvs L1)) = Hq1 at Q1 eq1 tq1 ⊢
      refine ⟨_, rfl, bo, dxb, _, 2, rfl, Q1 _ _ hb, rfl, bo, 3, 2, wAB, r, rfl, spB.same Q1, nb, ⟨by decide, by decide⟩, fun m1 Hc Sc _ s1 => ?_⟩
      have v1 := s1 r (some_same Q1 rnb)
      have U1 := Same.trans Q1 Sc
      obtain ⟨gF, _, dm1, _, _, _, _, _, _, _, hm1, _⟩ := id v1
      refine ⟨m1, dm1, _, rfl, hm1, m1, 3, _, r, rfl, v1, fun q2 L2 hq2 tq2 => ?_⟩
      have Q2 := Same.new (o := .dK (Kvs L2)) hq2
      have eq2 : (upd Hc q2 (.dK (Kvs L2))) q2 = some (.dK (Kvs L2)) := upd_same
      have tq2 := tq2.keep (KT.same Q2)
      generalize upd Hc q2 (.dK (Kvs L2)) = Hq2 at Q2 eq2 tq2 ⊢
      have U2 := Same.trans U1 Q2
      refine ⟨_, rfl, by show 1 ≤ sizeLine; decide, fun tq htq => ?_⟩
      have Q5 := Same.new (o := .tup [V.str "a"]) htq
      have etq : (upd Hq2 tq (.tup [V.str "a"])) tq = some (.tup ([Str.ofString "a"].map V.str)) := upd_same
      have U3 := Same.trans U2 Q5
      generalize upd Hq2 tq (.tup [V.str "a"]) = Hd at Q5 etq U3 ⊢
      refine ⟨bo, dxb, _, tq, _, rfl, U3 _ _ hb, rfl, SqT.of etq, bo, tq, 3, wAB, r, [Str.ofString "a"], rfl, spB.same U3, etq, by decide, by decide, by decide +kernel, by decide +kernel, by decide +kernel, fun m2 He Se _ s2 => ?_⟩
      have v2 := s2 r (some_same U3 rnb)
      have U4 := Same.trans U3 Se
      obtain ⟨gP, _, dm2, _, _, _, _, _, _, _, hm2, _⟩ := id v2
      refine ⟨m2, dm2, _, rfl, hm2, m2, 3, _, r, rfl, v2, fun q3 L3 hq3 tq3 => ?_⟩
      have Q3 := Same.new (o := .dK (Kvs L3)) hq3
      have eq3 : (upd He q3 (.dK (Kvs L3))) q3 = some (.dK (Kvs L3)) := upd_same
      have tq3 := tq3.keep (KT.same Q3)
      generalize upd He q3 (.dK (Kvs L3)) = Hq3 at Q3 eq3 tq3 ⊢
      have U5 := Same.trans U4 Q3
      refine ⟨_, rfl, bo, dxb, _, 2, rfl, U5 _ _ hb, rfl, bo, 3, 2, wAB, r, rfl, spB.same U5, nb, ⟨by decide, by decide⟩, fun m3 Hf Sf _ s3 => ?_⟩
      have v3 := s3 r (some_same U5 rnb)
      have U6 := Same.trans U5 Sf
      obtain ⟨_, _, dm3, _, _, _, _, _, _, _, hm3, _⟩ := id v3
      refine ⟨m3, dm3, _, rfl, hm3, m3, 3, _, r, rfl, v3, fun m4 Hg Sg _ s4 => ?_⟩
      have v4 := s4 r (some_same U6 rnb)
      obtain ⟨gN, _, dm4, _, _, _, _, _, _, _, hm4, _⟩ := id v4
      refine ⟨m4, dm4, _, rfl, hm4, m4, 3, _, r, rfl, v4, fun q4 L4 hq4 tq4 => ?_⟩
      have Q4 := Same.new (o := .dK (Kvs L4)) hq4
      have eq4 : (upd Hg q4 (.dK (Kvs L4))) q4 = some (.dK (Kvs L4)) := upd_same
      have tq4 := tq4.keep (KT.same Q4)
      generalize upd Hg q4 (.dK (Kvs L4)) = Hq4 at Q4 eq4 tq4 ⊢
      have U7 := Same.trans Sf (Same.trans Sg Q4)
      refine ⟨by show 4 ≤ sizeLine; decide, fun lt hlt => ?_⟩
      have Q6 := Same.new (o := .lst [V.ref q1, .ref q2, .ref q3, .ref q4]) hlt
      have elt : (upd Hq4 lt (.lst [V.ref q1, .ref q2, .ref q3, .ref q4])) lt = some (.lst [V.ref q1, .ref q2, .ref q3, .ref q4]) := upd_same
      have W4 := Q6
      have W3 := Same.trans U7 Q6
      have W2 := Same.trans Q5 (Same.trans Se (Same.trans Q3 W3))
      have W1 := Same.trans Sc (Same.trans Q2 W2)
      have eq1 := W1 _ _ eq1
      have tq1 := tq1.keep (KT.same W1)
      have eq2 := W2 _ _ eq2
      have tq2 := tq2.keep (KT.same W2)
      have eq3 := W3 _ _ eq3
      have tq3 := tq3.keep (KT.same W3)
      have eq4 := W4 _ _ eq4
      have tq4 := tq4.keep (KT.same W4)
      generalize upd Hq4 lt (.lst [V.ref q1, .ref q2, .ref q3, .ref q4]) = Hk at elt eq1 eq2 eq3 eq4 tq1 tq2 tq3 tq4 ⊢
      clear W1 W2 W3 W4 Q1 Q2 Q3 Q4 Q5 Q6 U1 U2 U3 U4 U5 U6 U7 v1 v2 v3 v4 s1 s2 s3 s4 hm1 hm2 hm3 hm4 etq hq1 hq2 hq3 hq4 htq hlt
      -- due
      refine fun pd5 hpd5 => ?_
      have C5_0 := Same.new (o := .dK []) hpd5
      have e5_0 : (upd Hk pd5 (.dK [])) pd5 = some (.dK []) := upd_same
      generalize upd Hk pd5 (.dK []) = H5_0 at C5_0 e5_0 ⊢
      refine ⟨by show 2 ≤ sizeLine; decide, fun a5_1 ha5_1 => ?_⟩
      have C5_1 := Same.new (o := .tup [V.int 1, .int 4]) ha5_1
      have x5_1 : (upd H5_0 a5_1 (.tup [V.int 1, .int 4])) a5_1 = some (.tup [V.int 1, .int 4]) := upd_same
      have e5_1 := C5_1 _ _ e5_0
      generalize upd H5_0 a5_1 (.tup [V.int 1, .int 4]) = H5_1 at C5_1 x5_1 e5_1 ⊢
      refine ⟨by show 2 ≤ sizeLine; decide, fun a5_2 ha5_2 => ?_⟩
      have C5_2 := Same.new (o := .tup [V.int 0, .int 2]) ha5_2
      have x5_2 : (upd H5_1 a5_2 (.tup [V.int 0, .int 2])) a5_2 = some (.tup [V.int 0, .int 2]) := upd_same
      have e5_2 := C5_2 _ _ e5_1
      generalize upd H5_1 a5_2 (.tup [V.int 0, .int 2]) = H5_2 at C5_2 x5_2 e5_2 ⊢
      refine ⟨e5_2, Kvs [(Str.ofString "a", a5_1), (Str.ofString "b", a5_2)], rfl, by show 2 ≤ 15; decide, ?_⟩
      rw [show mergeK [] (Kvs [(Str.ofString "a", a5_1), (Str.ofString "b", a5_2)]) = Kvs [(Str.ofString "a", a5_1), (Str.ofString "b", a5_2)] from mergeK_kvs [(Str.ofString "a", a5_1), (Str.ofString "b", a5_2)] [] (by show ([Str.ofString "a", Str.ofString "b"] : List Str).Nodup; decide +kernel)]
      have kt5 : KT H5_2 (upd H5_2 pd5 (.dK (Kvs [(Str.ofString "a", a5_1), (Str.ofString "b", a5_2)]))) := KT.put e5_2 (fun _ z => by cases z)
      have ep5 : (upd H5_2 pd5 (.dK (Kvs [(Str.ofString "a", a5_1), (Str.ofString "b", a5_2)]))) pd5 = some (.dK (Kvs [(Str.ofString "a", a5_1), (Str.ofString "b", a5_2)])) := upd_same
      have tp5 : Tups (upd H5_2 pd5 (.dK (Kvs [(Str.ofString "a", a5_1), (Str.ofString "b", a5_2)]))) [(Str.ofString "a", a5_1), (Str.ofString "b", a5_2)] ([(Str.ofString "a", 1, 4), (Str.ofString "b", 0, 2)] : Rws) := (.cons (kt5 _ _ (C5_2 _ _ x5_1)) (.cons (kt5 _ _ x5_2) .nil))
      have S5 : Same Hk (upd H5_2 pd5 (.dK (Kvs [(Str.ofString "a", a5_1), (Str.ofString "b", a5_2)]))) := Same.at hpd5 (Same.trans C5_0 (Same.trans C5_1 C5_2))
      generalize upd H5_2 pd5 (.dK (Kvs [(Str.ofString "a", a5_1), (Str.ofString "b", a5_2)])) = Hd5 at ep5 tp5 S5 ⊢
      refine fun pd6 hpd6 => ?_
      have C6_0 := Same.new (o := .dK []) hpd6
      have e6_0 : (upd Hd5 pd6 (.dK [])) pd6 = some (.dK []) := upd_same
      generalize upd Hd5 pd6 (.dK []) = H6_0 at C6_0 e6_0 ⊢
      refine ⟨by show 2 ≤ sizeLine; decide, fun a6_1 ha6_1 => ?_⟩
      have C6_1 := Same.new (o := .tup [V.int 3, .int 6]) ha6_1
      have x6_1 : (upd H6_0 a6_1 (.tup [V.int 3, .int 6])) a6_1 = some (.tup [V.int 3, .int 6]) := upd_same
      have e6_1 := C6_1 _ _ e6_0
      generalize upd H6_0 a6_1 (.tup [V.int 3, .int 6]) = H6_1 at C6_1 x6_1 e6_1 ⊢
      refine ⟨by show 2 ≤ sizeLine; decide, fun a6_2 ha6_2 => ?_⟩
      have C6_2 := Same.new (o := .tup [V.int 2, .int 4]) ha6_2
      have x6_2 : (upd H6_1 a6_2 (.tup [V.int 2, .int 4])) a6_2 = some (.tup [V.int 2, .int 4]) := upd_same
      have e6_2 := C6_2 _ _ e6_1
      generalize upd H6_1 a6_2 (.tup [V.int 2, .int 4]) = H6_2 at C6_2 x6_2 e6_2 ⊢
      refine ⟨e6_2, Kvs [(Str.ofString "a", a6_1), (Str.ofString "b", a6_2)], rfl, by show 2 ≤ 15; decide, ?_⟩
      rw [show mergeK [] (Kvs [(Str.ofString "a", a6_1), (Str.ofString "b", a6_2)]) = Kvs [(Str.ofString "a", a6_1), (Str.ofString "b", a6_2)] from mergeK_kvs [(Str.ofString "a", a6_1), (Str.ofString "b", a6_2)] [] (by show ([Str.ofString "a", Str.ofString "b"] : List Str).Nodup; decide +kernel)]
      have kt6 : KT H6_2 (upd H6_2 pd6 (.dK (Kvs [(Str.ofString "a", a6_1), (Str.ofString "b", a6_2)]))) := KT.put e6_2 (fun _ z => by cases z)
      have ep6 : (upd H6_2 pd6 (.dK (Kvs [(Str.ofString "a", a6_1), (Str.ofString "b", a6_2)]))) pd6 = some (.dK (Kvs [(Str.ofString "a", a6_1), (Str.ofString "b", a6_2)])) := upd_same
      have tp6 : Tups (upd H6_2 pd6 (.dK (Kvs [(Str.ofString "a", a6_1), (Str.ofString "b", a6_2)]))) [(Str.ofString "a", a6_1), (Str.ofString "b", a6_2)] ([(Str.ofString "a", 3, 6), (Str.ofString "b", 2, 4)] : Rws) := (.cons (kt6 _ _ (C6_2 _ _ x6_1)) (.cons (kt6 _ _ x6_2) .nil))
      have S6 : Same Hd5 (upd H6_2 pd6 (.dK (Kvs [(Str.ofString "a", a6_1), (Str.ofString "b", a6_2)]))) := Same.at hpd6 (Same.trans C6_0 (Same.trans C6_1 C6_2))
      generalize upd H6_2 pd6 (.dK (Kvs [(Str.ofString "a", a6_1), (Str.ofString "b", a6_2)])) = Hd6 at ep6 tp6 S6 ⊢
      refine fun pd7 hpd7 => ?_
      have C7_0 := Same.new (o := .dK []) hpd7
      have e7_0 : (upd Hd6 pd7 (.dK [])) pd7 = some (.dK []) := upd_same
      generalize upd Hd6 pd7 (.dK []) = H7_0 at C7_0 e7_0 ⊢
      refine ⟨by show 2 ≤ sizeLine; decide, fun a7_1 ha7_1 => ?_⟩
      have C7_1 := Same.new (o := .tup [V.int 1, .int 4]) ha7_1
      have x7_1 : (upd H7_0 a7_1 (.tup [V.int 1, .int 4])) a7_1 = some (.tup [V.int 1, .int 4]) := upd_same
      have e7_1 := C7_1 _ _ e7_0
      generalize upd H7_0 a7_1 (.tup [V.int 1, .int 4]) = H7_1 at C7_1 x7_1 e7_1 ⊢
      refine ⟨e7_1, Kvs [(Str.ofString "a", a7_1)], rfl, by show 1 ≤ 15; decide, ?_⟩
      rw [show mergeK [] (Kvs [(Str.ofString "a", a7_1)]) = Kvs [(Str.ofString "a", a7_1)] from mergeK_kvs [(Str.ofString "a", a7_1)] [] (by show ([Str.ofString "a"] : List Str).Nodup; decide +kernel)]
      have kt7 : KT H7_1 (upd H7_1 pd7 (.dK (Kvs [(Str.ofString "a", a7_1)]))) := KT.put e7_1 (fun _ z => by cases z)
      have ep7 : (upd H7_1 pd7 (.dK (Kvs [(Str.ofString "a", a7_1)]))) pd7 = some (.dK (Kvs [(Str.ofString "a", a7_1)])) := upd_same
      have tp7 : Tups (upd H7_1 pd7 (.dK (Kvs [(Str.ofString "a", a7_1)]))) [(Str.ofString "a", a7_1)] ([(Str.ofString "a", 1, 4)] : Rws) := (.cons (kt7 _ _ x7_1) .nil)
      have S7 : Same Hd6 (upd H7_1 pd7 (.dK (Kvs [(Str.ofString "a", a7_1)]))) := Same.at hpd7 (Same.trans C7_0 C7_1)
      generalize upd H7_1 pd7 (.dK (Kvs [(Str.ofString "a", a7_1)])) = Hd7 at ep7 tp7 S7 ⊢
      refine fun pd8 hpd8 => ?_
      have C8_0 := Same.new (o := .dK []) hpd8
      have e8_0 : (upd Hd7 pd8 (.dK [])) pd8 = some (.dK []) := upd_same
      generalize upd Hd7 pd8 (.dK []) = H8_0 at C8_0 e8_0 ⊢
      refine ⟨by show 2 ≤ sizeLine; decide, fun a8_1 ha8_1 => ?_⟩
      have C8_1 := Same.new (o := .tup [V.int 0, .int 3]) ha8_1
      have x8_1 : (upd H8_0 a8_1 (.tup [V.int 0, .int 3])) a8_1 = some (.tup [V.int 0, .int 3]) := upd_same
      have e8_1 := C8_1 _ _ e8_0
      generalize upd H8_0 a8_1 (.tup [V.int 0, .int 3]) = H8_1 at C8_1 x8_1 e8_1 ⊢
      refine ⟨by show 2 ≤ sizeLine; decide, fun a8_2 ha8_2 => ?_⟩
      have C8_2 := Same.new (o := .tup [V.int 2, .int 4]) ha8_2
      have x8_2 : (upd H8_1 a8_2 (.tup [V.int 2, .int 4])) a8_2 = some (.tup [V.int 2, .int 4]) := upd_same
      have e8_2 := C8_2 _ _ e8_1
      generalize upd H8_1 a8_2 (.tup [V.int 2, .int 4]) = H8_2 at C8_2 x8_2 e8_2 ⊢
      refine ⟨e8_2, Kvs [(Str.ofString "a", a8_1), (Str.ofString "b", a8_2)], rfl, by show 2 ≤ 15; decide, ?_⟩
      rw [show mergeK [] (Kvs [(Str.ofString "a", a8_1), (Str.ofString "b", a8_2)]) = Kvs [(Str.ofString "a", a8_1), (Str.ofString "b", a8_2)] from mergeK_kvs [(Str.ofString "a", a8_1), (Str.ofString "b", a8_2)] [] (by show ([Str.ofString "a", Str.ofString "b"] : List Str).Nodup; decide +kernel)]
      have kt8 : KT H8_2 (upd H8_2 pd8 (.dK (Kvs [(Str.ofString "a", a8_1), (Str.ofString "b", a8_2)]))) := KT.put e8_2 (fun _ z => by cases z)
      have ep8 : (upd H8_2 pd8 (.dK (Kvs [(Str.ofString "a", a8_1), (Str.ofString "b", a8_2)]))) pd8 = some (.dK (Kvs [(Str.ofString "a", a8_1), (Str.ofString "b", a8_2)])) := upd_same
      have tp8 : Tups (upd H8_2 pd8 (.dK (Kvs [(Str.ofString "a", a8_1), (Str.ofString "b", a8_2)]))) [(Str.ofString "a", a8_1), (Str.ofString "b", a8_2)] ([(Str.ofString "a", 0, 3), (Str.ofString "b", 2, 4)] : Rws) := (.cons (kt8 _ _ (C8_2 _ _ x8_1)) (.cons (kt8 _ _ x8_2) .nil))
      have S8 : Same Hd7 (upd H8_2 pd8 (.dK (Kvs [(Str.ofString "a", a8_1), (Str.ofString "b", a8_2)]))) := Same.at hpd8 (Same.trans C8_0 (Same.trans C8_1 C8_2))
      generalize upd H8_2 pd8 (.dK (Kvs [(Str.ofString "a", a8_1), (Str.ofString "b", a8_2)])) = Hd8 at ep8 tp8 S8 ⊢
      refine ⟨by show 4 ≤ sizeLine; decide, fun ld hld => ?_⟩
      have Q7 := Same.new (o := .lst [V.ref pd5, .ref pd6, .ref pd7, .ref pd8]) hld
      have eld : (upd Hd8 ld (.lst [V.ref pd5, .ref pd6, .ref pd7, .ref pd8])) ld = some (.lst [V.ref pd5, .ref pd6, .ref pd7, .ref pd8]) := upd_same
      have W8 := Q7
      have W7 := Same.trans S8 W8
      have W6 := Same.trans S7 W7
      have W5 := Same.trans S6 W6
      have W4 := Same.trans S5 W5
      have ep5 := W5 _ _ ep5
      have tp5 := tp5.keep (KT.same W5)
      have ep6 := W6 _ _ ep6
      have tp6 := tp6.keep (KT.same W6)
      have ep7 := W7 _ _ ep7
      have tp7 := tp7.keep (KT.same W7)
      have ep8 := W8 _ _ ep8
      have tp8 := tp8.keep (KT.same W8)
      have eq1 := W4 _ _ eq1
      have tq1 := tq1.keep (KT.same W4)
      have eq2 := W4 _ _ eq2
      have tq2 := tq2.keep (KT.same W4)
      have eq3 := W4 _ _ eq3
      have tq3 := tq3.keep (KT.same W4)
      have eq4 := W4 _ _ eq4
      have tq4 := tq4.keep (KT.same W4)
      have elt := W4 _ _ elt
      generalize upd Hd8 ld (.lst [V.ref pd5, .ref pd6, .ref pd7, .ref pd8]) = He' at eld elt eq1 eq2 eq3 eq4 tq1 tq2 tq3 tq4 ep5 ep6 ep7 ep8 tp5 tp6 tp7 tp8 ⊢
      have td : TD 3 (.list [rowsD wAB, rowsD (farR 2 wAB), rowsD (pickR wAB [Str.ofString "a"]), rowsD (norR 3 (farR 2 wAB))]) (96 + 1 + (96 + 1 + (96 + 1 + (96 + 1 + 0)))) := TD.list (TLs.cons (TD.rows wAB_good) (TLs.cons (TD.rows gF) (TLs.cons (TD.rows gP) (TLs.cons (TD.rows gN) TLs.nil))))
      have tt := td.tell (by decide) (by decide)
      refine ⟨_, rfl, lt, _, rfl, .lst (SqL.of elt) (.cons (rows_ds eq1 tq1) (.cons (rows_ds eq2 tq2) (.cons (rows_ds eq3 tq3) (.cons (rows_ds eq4 tq4) .nil)))), tt.1, tt.2.1, tt.2.2, ?_⟩
      refine ⟨_, rfl, ld, (.list [rowsD wAB, rowsD (farR 2 wAB), rowsD (pickR wAB [Str.ofString "a"]), rowsD (norR 3 (farR 2 wAB))]), rfl, .lst (SqL.of eld) (.cons (rows_ds ep5 tp5) (.cons (rows_ds ep6 tp6) (.cons (rows_ds ep7 tp7) (.cons (rows_ds ep8 tp8) .nil)))), tt.1, tt.2.1, tt.2.2, ?_⟩
      refine ⟨rfl, ?_⟩
      rw [decide_eq_true rfl]
      exact k _
end
end K40
namespace K40
open PySem L2
theorem sub_int {K : PySem.W.Frag} {C : Addr} : PySem.W.subIn K (.type "int") (.ref C) = some false := by
  have e : PySem.fastBuiltinMro "int" = some [.type "int", .type "object"] := by decide +kernel
  show (PySem.fastBuiltinMro "int").map (·.contains (.ref C)) = some false
  rw [e]
  first
    | rfl
    | simp
theorem sub_tuple {K : PySem.W.Frag} {C : Addr} : PySem.W.subIn K (.type "tuple") (.ref C) = some false := by
  have e : PySem.fastBuiltinMro "tuple" = some [.type "tuple", .type "object"] := by decide +kernel
  show (PySem.fastBuiltinMro "tuple").map (·.contains (.ref C)) = some false
  rw [e]
  first
    | rfl
    | simp
theorem int_add {K : PySem.W.Frag} : PySem.W.findIn K (.type "int") "__add__" = some (some (.builtin "int.__add__")) := by
  show PySem.fastLookup "int" "__add__" = _
  decide +kernel
theorem int_radd {K : PySem.W.Frag} : PySem.W.findIn K (.type "int") "__radd__" = some (some (.builtin "int.__radd__")) := by
  show PySem.fastLookup "int" "__radd__" = _
  decide +kernel
theorem tup_and {K : PySem.W.Frag} : PySem.W.findIn K (.type "tuple") "__and__" = some none := by
  show PySem.fastLookup "tuple" "__and__" = _
  decide +kernel
theorem tup_rand {K : PySem.W.Frag} : PySem.W.findIn K (.type "tuple") "__rand__" = some none := by
  show PySem.fastLookup "tuple" "__rand__" = _
  decide +kernel
theorem mk_U {K : PySem.W.Frag} {h : Heap} {mg : Str → Option Value} (X : K.In h) (G : h.Ns mainGlobals mg)
    {C fI : Addr} {ocIC kVIC dcIC pmIC cdIC ctIC : Value} {odIC anIC : Option Addr} {slIC : Array (Option Value)} {pP1a fP1 : Addr} {restP1 : List Value} {ocP1 kVP1 dcP1 pmP1 cdP1 ctP1 : Value} {odP1 anP1 : Option Addr} {slP1 : Array (Option Value)} {pP2a fP2 : Addr} {restP2 : List Value} {ocP2 kVP2 dcP2 pmP2 cdP2 ctP2 : Value} {odP2 anP2 : Option Addr} {slP2 : Array (Option Value)} {pP3a fP3 : Addr} {restP3 : List Value} {ocP3 kVP3 dcP3 pmP3 cdP3 ctP3 : Value} {odP3 anP3 : Option Addr} {slP3 : Array (Option Value)} {pP4a fP4 : Addr} {restP4 : List Value} {ocP4 kVP4 dcP4 pmP4 cdP4 ctP4 : Value} {odP4 anP4 : Option Addr} {slP4 : Array (Option Value)} {pP5a fP5 : Addr} {restP5 : List Value} {ocP5 kVP5 dcP5 pmP5 cdP5 ctP5 : Value} {odP5 anP5 : Option Addr} {slP5 : Array (Option Value)} {pP6a fP6 : Addr} {restP6 : List Value} {ocP6 kVP6 dcP6 pmP6 cdP6 ctP6 : Value} {odP6 anP6 : Option Addr} {slP6 : Array (Option Value)} {pP7a fP7 : Addr} {restP7 : List Value} {ocP7 kVP7 dcP7 pmP7 cdP7 ctP7 : Value} {odP7 anP7 : Option Addr} {slP7 : Array (Option Value)} {pP8a fP8 : Addr} {restP8 : List Value} {ocP8 kVP8 dcP8 pmP8 cdP8 ctP8 : Value} {odP8 anP8 : Option Addr} {slP8 : Array (Option Value)} {fG : Addr} {ocG kVG dcG pmG cdG ctG : Value} {odG anG : Option Addr} {slG : Array (Option Value)} {fL : Addr} {ocL kVL dcL pmL cdL ctL : Value} {odL anL : Option Addr} {slL : Array (Option Value)} {fA : Addr} {ocA kVA dcA pmA cdA ctA : Value} {odA anA : Option Addr} {slA : Array (Option Value)} {fQ : Addr} {ocQ kVQ dcQ pmQ cdQ ctQ : Value} {odQ anQ : Option Addr} {slQ : Array (Option Value)} {fM1 : Addr} {ocM1 kVM1 dcM1 pmM1 cdM1 ctM1 : Value} {odM1 anM1 : Option Addr} {slM1 : Array (Option Value)} {fM2 : Addr} {ocM2 kVM2 dcM2 pmM2 cdM2 ctM2 : Value} {odM2 anM2 : Option Addr} {slM2 : Array (Option Value)} {fM3 : Addr} {ocM3 kVM3 dcM3 pmM3 cdM3 ctM3 : Value} {odM3 anM3 : Option Addr} {slM3 : Array (Option Value)} {fM4 : Addr} {ocM4 kVM4 dcM4 pmM4 cdM4 ctM4 : Value} {odM4 anM4 : Option Addr} {slM4 : Array (Option Value)} {fM5 : Addr} {ocM5 kVM5 dcM5 pmM5 cdM5 ctM5 : Value} {odM5 anM5 : Option Addr} {slM5 : Array (Option Value)} {fM6 : Addr} {ocM6 kVM6 dcM6 pmM6 cdM6 ctM6 : Value} {odM6 anM6 : Option Addr} {slM6 : Array (Option Value)} {fM7 : Addr} {ocM7 kVM7 dcM7 pmM7 cdM7 ctM7 : Value} {odM7 anM7 : Option Addr} {slM7 : Array (Option Value)} {fM8 : Addr} {ocM8 kVM8 dcM8 pmM8 cdM8 ctM8 : Value} {odM8 anM8 : Option Addr} {slM8 : Array (Option Value)} {fV1 : Addr} {ocV1 kVV1 dcV1 pmV1 cdV1 ctV1 : Value} {odV1 anV1 : Option Addr} {slV1 : Array (Option Value)} {fV2 : Addr} {ocV2 kVV2 dcV2 pmV2 cdV2 ctV2 : Value} {odV2 anV2 : Option Addr} {slV2 : Array (Option Value)}
    (aC : PySem.W.nsIn K mainGlobals "Spans" = some (some (.ref C)))
    (c1C : PySem.W.plainGet K C Str.empty = true)
    (c2C : PySem.W.hasDictIn K C = true)
    (c3C : PySem.W.plainOver K C = true)
    (c4C : PySem.W.findIn K (.ref C) "__setattr__" = some (some (.builtin "object.__setattr__")))
    (c5C : PySem.W.makesIn K C = true)
    (c6C : PySem.W.findIn K (.ref C) "__init__" = some (some (.ref fI)))
    (c7C : PySem.W.isFn K (.ref fI) = true)
    (c8C : PySem.W.keepIn K (.ref C) = true)
    (lIC : K.lookup fI = some ⟨ocIC, odIC, .func (PySem.W.fnOf "__init__" "Spans.__init__" (defArgs s_Spans_init) (defBody s_Spans_init) (defScope s_Spans_init) .none kVIC dcIC pmIC anIC cdIC ctIC), slIC⟩)
    (kIC : PySem.W.codeIn K cdIC "Spans.__init__" = true)
    (pIC : PySem.W.keepIn K (.ref fI) = true)
    (n1C : PySem.W.findIn K (.ref C) "_interval" = some none)
    (n2C : PySem.W.findIn K (.ref C) "_rows" = some none)
    (n3C : PySem.W.findIn K (.ref C) "_names" = some none)
    (n4C : PySem.W.findIn K (.ref C) "_living" = some none)
    (n5C : PySem.W.findIn K (.ref C) "_crossing" = some none)
    (moC : PySem.W.mroIn K C (.type "object") = some true)
    (neC : PySem.W.findIn K (.ref C) "__ne__" = some (some (.builtin "object.__ne__")))
    (caC : PySem.W.findIn K (.ref C) "__class__" = some (some (.builtin "object.__class__")))
    (gCC : PySem.W.isClsIn K C = true)
    (tCC : PySem.W.typeIn K (.ref C) = some (.type "type"))
    (aP1 : PySem.W.findIn K (.ref C) "interval" = some (some (.ref pP1a)))
    (bP1 : PySem.W.specialIn K (.ref pP1a) "__get__" = some (some (.builtin "property.__get__")))
    (tP1 : PySem.W.takesIn K (.ref pP1a) = some true)
    (rP1 : PySem.W.recIn K pP1a "property" = some (.ref fP1 :: restP1))
    (lP1 : K.lookup fP1 = some ⟨ocP1, odP1, .func (PySem.W.fnOf "interval" "Spans.interval" (defArgs s_Spans_interval) (defBody s_Spans_interval) (defScope s_Spans_interval) .none kVP1 dcP1 pmP1 anP1 cdP1 ctP1), slP1⟩)
    (kP1 : PySem.W.codeIn K cdP1 "Spans.interval" = true)
    (pP1 : PySem.W.keepIn K (.ref fP1) = true)
    (aP2 : PySem.W.findIn K (.ref C) "names" = some (some (.ref pP2a)))
    (bP2 : PySem.W.specialIn K (.ref pP2a) "__get__" = some (some (.builtin "property.__get__")))
    (tP2 : PySem.W.takesIn K (.ref pP2a) = some true)
    (rP2 : PySem.W.recIn K pP2a "property" = some (.ref fP2 :: restP2))
    (lP2 : K.lookup fP2 = some ⟨ocP2, odP2, .func (PySem.W.fnOf "names" "Spans.names" (defArgs s_Spans_names) (defBody s_Spans_names) (defScope s_Spans_names) .none kVP2 dcP2 pmP2 anP2 cdP2 ctP2), slP2⟩)
    (kP2 : PySem.W.codeIn K cdP2 "Spans.names" = true)
    (pP2 : PySem.W.keepIn K (.ref fP2) = true)
    (aP3 : PySem.W.findIn K (.ref C) "rows" = some (some (.ref pP3a)))
    (bP3 : PySem.W.specialIn K (.ref pP3a) "__get__" = some (some (.builtin "property.__get__")))
    (tP3 : PySem.W.takesIn K (.ref pP3a) = some true)
    (rP3 : PySem.W.recIn K pP3a "property" = some (.ref fP3 :: restP3))
    (lP3 : K.lookup fP3 = some ⟨ocP3, odP3, .func (PySem.W.fnOf "rows" "Spans.rows" (defArgs s_Spans_rows) (defBody s_Spans_rows) (defScope s_Spans_rows) .none kVP3 dcP3 pmP3 anP3 cdP3 ctP3), slP3⟩)
    (kP3 : PySem.W.codeIn K cdP3 "Spans.rows" = true)
    (pP3 : PySem.W.keepIn K (.ref fP3) = true)
    (aP4 : PySem.W.findIn K (.ref C) "most" = some (some (.ref pP4a)))
    (bP4 : PySem.W.specialIn K (.ref pP4a) "__get__" = some (some (.builtin "property.__get__")))
    (tP4 : PySem.W.takesIn K (.ref pP4a) = some true)
    (rP4 : PySem.W.recIn K pP4a "property" = some (.ref fP4 :: restP4))
    (lP4 : K.lookup fP4 = some ⟨ocP4, odP4, .func (PySem.W.fnOf "most" "Spans.most" (defArgs s_Spans_most) (defBody s_Spans_most) (defScope s_Spans_most) .none kVP4 dcP4 pmP4 anP4 cdP4 ctP4), slP4⟩)
    (kP4 : PySem.W.codeIn K cdP4 "Spans.most" = true)
    (pP4 : PySem.W.keepIn K (.ref fP4) = true)
    (aP5 : PySem.W.findIn K (.ref C) "peaks" = some (some (.ref pP5a)))
    (bP5 : PySem.W.specialIn K (.ref pP5a) "__get__" = some (some (.builtin "property.__get__")))
    (tP5 : PySem.W.takesIn K (.ref pP5a) = some true)
    (rP5 : PySem.W.recIn K pP5a "property" = some (.ref fP5 :: restP5))
    (lP5 : K.lookup fP5 = some ⟨ocP5, odP5, .func (PySem.W.fnOf "peaks" "Spans.peaks" (defArgs s_Spans_peaks) (defBody s_Spans_peaks) (defScope s_Spans_peaks) .none kVP5 dcP5 pmP5 anP5 cdP5 ctP5), slP5⟩)
    (kP5 : PySem.W.codeIn K cdP5 "Spans.peaks" = true)
    (pP5 : PySem.W.keepIn K (.ref fP5) = true)
    (aP6 : PySem.W.findIn K (.ref C) "total" = some (some (.ref pP6a)))
    (bP6 : PySem.W.specialIn K (.ref pP6a) "__get__" = some (some (.builtin "property.__get__")))
    (tP6 : PySem.W.takesIn K (.ref pP6a) = some true)
    (rP6 : PySem.W.recIn K pP6a "property" = some (.ref fP6 :: restP6))
    (lP6 : K.lookup fP6 = some ⟨ocP6, odP6, .func (PySem.W.fnOf "total" "Spans.total" (defArgs s_Spans_total) (defBody s_Spans_total) (defScope s_Spans_total) .none kVP6 dcP6 pmP6 anP6 cdP6 ctP6), slP6⟩)
    (kP6 : PySem.W.codeIn K cdP6 "Spans.total" = true)
    (pP6 : PySem.W.keepIn K (.ref fP6) = true)
    (aP7 : PySem.W.findIn K (.ref C) "pieces" = some (some (.ref pP7a)))
    (bP7 : PySem.W.specialIn K (.ref pP7a) "__get__" = some (some (.builtin "property.__get__")))
    (tP7 : PySem.W.takesIn K (.ref pP7a) = some true)
    (rP7 : PySem.W.recIn K pP7a "property" = some (.ref fP7 :: restP7))
    (lP7 : K.lookup fP7 = some ⟨ocP7, odP7, .func (PySem.W.fnOf "pieces" "Spans.pieces" (defArgs s_Spans_pieces) (defBody s_Spans_pieces) (defScope s_Spans_pieces) .none kVP7 dcP7 pmP7 anP7 cdP7 ctP7), slP7⟩)
    (kP7 : PySem.W.codeIn K cdP7 "Spans.pieces" = true)
    (pP7 : PySem.W.keepIn K (.ref fP7) = true)
    (aP8 : PySem.W.findIn K (.ref C) "normal" = some (some (.ref pP8a)))
    (bP8 : PySem.W.specialIn K (.ref pP8a) "__get__" = some (some (.builtin "property.__get__")))
    (tP8 : PySem.W.takesIn K (.ref pP8a) = some true)
    (rP8 : PySem.W.recIn K pP8a "property" = some (.ref fP8 :: restP8))
    (lP8 : K.lookup fP8 = some ⟨ocP8, odP8, .func (PySem.W.fnOf "normal" "Spans.normal" (defArgs s_Spans_normal) (defBody s_Spans_normal) (defScope s_Spans_normal) .none kVP8 dcP8 pmP8 anP8 cdP8 ctP8), slP8⟩)
    (kP8 : PySem.W.codeIn K cdP8 "Spans.normal" = true)
    (pP8 : PySem.W.keepIn K (.ref fP8) = true)
    (iG : PySem.W.findIn K (.ref C) "__getitem__" = some (some (.ref fG)))
    (yG : PySem.W.isFn K (.ref fG) = true)
    (lG : K.lookup fG = some ⟨ocG, odG, .func (PySem.W.fnOf "__getitem__" "Spans.__getitem__" (defArgs s_Spans_getitem) (defBody s_Spans_getitem) (defScope s_Spans_getitem) .none kVG dcG pmG anG cdG ctG), slG⟩)
    (kG : PySem.W.codeIn K cdG "Spans.__getitem__" = true)
    (pG : PySem.W.keepIn K (.ref fG) = true)
    (iL : PySem.W.findIn K (.ref C) "_later" = some (some (.ref fL)))
    (yL : PySem.W.isFn K (.ref fL) = true)
    (lL : K.lookup fL = some ⟨ocL, odL, .func (PySem.W.fnOf "_later" "Spans._later" (defArgs s_Spans_later) (defBody s_Spans_later) (defScope s_Spans_later) .none kVL dcL pmL anL cdL ctL), slL⟩)
    (kL : PySem.W.codeIn K cdL "Spans._later" = true)
    (pL : PySem.W.keepIn K (.ref fL) = true)
    (iA : PySem.W.findIn K (.ref C) "__add__" = some (some (.ref fA)))
    (yA : PySem.W.isFn K (.ref fA) = true)
    (lA : K.lookup fA = some ⟨ocA, odA, .func (PySem.W.fnOf "__add__" "Spans.__add__" (defArgs s_Spans_add) (defBody s_Spans_add) (defScope s_Spans_add) .none kVA dcA pmA anA cdA ctA), slA⟩)
    (kA : PySem.W.codeIn K cdA "Spans.__add__" = true)
    (pA : PySem.W.keepIn K (.ref fA) = true)
    (iQ : PySem.W.findIn K (.ref C) "__eq__" = some (some (.ref fQ)))
    (yQ : PySem.W.isFn K (.ref fQ) = true)
    (lQ : K.lookup fQ = some ⟨ocQ, odQ, .func (PySem.W.fnOf "__eq__" "Spans.__eq__" (defArgs s_Spans_eq) (defBody s_Spans_eq) (defScope s_Spans_eq) .none kVQ dcQ pmQ anQ cdQ ctQ), slQ⟩)
    (kQ : PySem.W.codeIn K cdQ "Spans.__eq__" = true)
    (pQ : PySem.W.keepIn K (.ref fQ) = true)
    (iM1 : PySem.W.findIn K (.ref C) "_sums" = some (some (.ref fM1)))
    (yM1 : PySem.W.isFn K (.ref fM1) = true)
    (lM1 : K.lookup fM1 = some ⟨ocM1, odM1, .func (PySem.W.fnOf "_sums" "Spans._sums" (defArgs s_Spans_sums) (defBody s_Spans_sums) (defScope s_Spans_sums) .none kVM1 dcM1 pmM1 anM1 cdM1 ctM1), slM1⟩)
    (kM1 : PySem.W.codeIn K cdM1 "Spans._sums" = true)
    (pM1 : PySem.W.keepIn K (.ref fM1) = true)
    (iM2 : PySem.W.findIn K (.ref C) "_chosen" = some (some (.ref fM2)))
    (yM2 : PySem.W.isFn K (.ref fM2) = true)
    (lM2 : K.lookup fM2 = some ⟨ocM2, odM2, .func (PySem.W.fnOf "_chosen" "Spans._chosen" (defArgs s_Spans_chosen) (defBody s_Spans_chosen) (defScope s_Spans_chosen) .none kVM2 dcM2 pmM2 anM2 cdM2 ctM2), slM2⟩)
    (kM2 : PySem.W.codeIn K cdM2 "Spans._chosen" = true)
    (pM2 : PySem.W.keepIn K (.ref fM2) = true)
    (iM3 : PySem.W.findIn K (.ref C) "_linked" = some (some (.ref fM3)))
    (yM3 : PySem.W.isFn K (.ref fM3) = true)
    (lM3 : K.lookup fM3 = some ⟨ocM3, odM3, .func (PySem.W.fnOf "_linked" "Spans._linked" (defArgs s_Spans_linked) (defBody s_Spans_linked) (defScope s_Spans_linked) .none kVM3 dcM3 pmM3 anM3 cdM3 ctM3), slM3⟩)
    (kM3 : PySem.W.codeIn K cdM3 "Spans._linked" = true)
    (pM3 : PySem.W.keepIn K (.ref fM3) = true)
    (iM4 : PySem.W.findIn K (.ref C) "_has_free" = some (some (.ref fM4)))
    (yM4 : PySem.W.isFn K (.ref fM4) = true)
    (lM4 : K.lookup fM4 = some ⟨ocM4, odM4, .func (PySem.W.fnOf "_has_free" "Spans._has_free" (defArgs s_Spans_has_free) (defBody s_Spans_has_free) (defScope s_Spans_has_free) .none kVM4 dcM4 pmM4 anM4 cdM4 ctM4), slM4⟩)
    (kM4 : PySem.W.codeIn K cdM4 "Spans._has_free" = true)
    (pM4 : PySem.W.keepIn K (.ref fM4) = true)
    (iM5 : PySem.W.findIn K (.ref C) "each_alive" = some (some (.ref fM5)))
    (yM5 : PySem.W.isFn K (.ref fM5) = true)
    (lM5 : K.lookup fM5 = some ⟨ocM5, odM5, .func (PySem.W.fnOf "each_alive" "Spans.each_alive" (defArgs s_Spans_each_alive) (defBody s_Spans_each_alive) (defScope s_Spans_each_alive) .none kVM5 dcM5 pmM5 anM5 cdM5 ctM5), slM5⟩)
    (kM5 : PySem.W.codeIn K cdM5 "Spans.each_alive" = true)
    (pM5 : PySem.W.keepIn K (.ref fM5) = true)
    (iM6 : PySem.W.findIn K (.ref C) "__len__" = some (some (.ref fM6)))
    (yM6 : PySem.W.isFn K (.ref fM6) = true)
    (lM6 : K.lookup fM6 = some ⟨ocM6, odM6, .func (PySem.W.fnOf "__len__" "Spans.__len__" (defArgs s_Spans_len) (defBody s_Spans_len) (defScope s_Spans_len) .none kVM6 dcM6 pmM6 anM6 cdM6 ctM6), slM6⟩)
    (kM6 : PySem.W.codeIn K cdM6 "Spans.__len__" = true)
    (pM6 : PySem.W.keepIn K (.ref fM6) = true)
    (iM7 : PySem.W.findIn K (.ref C) "__or__" = some (some (.ref fM7)))
    (yM7 : PySem.W.isFn K (.ref fM7) = true)
    (lM7 : K.lookup fM7 = some ⟨ocM7, odM7, .func (PySem.W.fnOf "__or__" "Spans.__or__" (defArgs s_Spans_or) (defBody s_Spans_or) (defScope s_Spans_or) .none kVM7 dcM7 pmM7 anM7 cdM7 ctM7), slM7⟩)
    (kM7 : PySem.W.codeIn K cdM7 "Spans.__or__" = true)
    (pM7 : PySem.W.keepIn K (.ref fM7) = true)
    (iM8 : PySem.W.findIn K (.ref C) "__and__" = some (some (.ref fM8)))
    (yM8 : PySem.W.isFn K (.ref fM8) = true)
    (lM8 : K.lookup fM8 = some ⟨ocM8, odM8, .func (PySem.W.fnOf "__and__" "Spans.__and__" (defArgs s_Spans_and) (defBody s_Spans_and) (defScope s_Spans_and) .none kVM8 dcM8 pmM8 anM8 cdM8 ctM8), slM8⟩)
    (kM8 : PySem.W.codeIn K cdM8 "Spans.__and__" = true)
    (pM8 : PySem.W.keepIn K (.ref fM8) = true)
    (iV1 : PySem.W.findIn K (.ref C) "alive" = some (some (.ref fV1)))
    (yV1 : PySem.W.isFn K (.ref fV1) = true)
    (lV1 : K.lookup fV1 = some ⟨ocV1, odV1, .func (PySem.W.fnOf "alive" "Spans.alive" (defArgs s_Spans_alive) (defBody s_Spans_alive) (defScope s_Spans_alive) .none kVV1 dcV1 pmV1 anV1 cdV1 ctV1), slV1⟩)
    (kV1 : PySem.W.codeIn K cdV1 "Spans.alive" = true)
    (pV1 : PySem.W.keepIn K (.ref fV1) = true)
    (iV2 : PySem.W.findIn K (.ref C) "across" = some (some (.ref fV2)))
    (yV2 : PySem.W.isFn K (.ref fV2) = true)
    (lV2 : K.lookup fV2 = some ⟨ocV2, odV2, .func (PySem.W.fnOf "across" "Spans.across" (defArgs s_Spans_across) (defBody s_Spans_across) (defScope s_Spans_across) .none kVV2 dcV2 pmV2 anV2 cdV2 ctV2), slV2⟩)
    (kV2 : PySem.W.codeIn K cdV2 "Spans.across" = true)
    (pV2 : PySem.W.keepIn K (.ref fV2) = true)
    (cg : PySem.W.specialIn K (.builtin "object.__class__") "__get__" = some (some (.builtin "getset_descriptor.__get__")))
    (ct : PySem.W.takesIn K (.builtin "object.__class__") = some true)
    (fnG : PySem.W.fnIn K fG = true)
    (sf : PySem.W.selfFirst K C = true)
    (rc : PySem.W.findIn K (.ref C) "__radd__" = some none)
    (rd : PySem.W.findIn K (.ref C) "__rand__" = some none)
    : ∃ U : UX K mg, AddI K U.C ∧ OW.AndT K U.C := by
  exact ⟨⟨C, PySem.W.mg_of X G aC, ⟨c1C, c2C, c3C, c4C⟩, moC, neC, fI, _, ⟨⟨_, _, _, _, _, _, _, _, _, _, rfl, lIC, kIC, .inl ⟨rfl, rfl⟩, .inl rfl⟩, pIC⟩, ⟨c5C, c6C, c7C, c8C⟩, .all fun us hl => match us, hl with | [_, _, _], _ => rfl, n1C, n2C, n3C, n4C, n5C, ⟨pP1a, fP1, _, ⟨⟨_, _, _, _, _, _, _, _, _, _, rfl, lP1, kP1, .inl ⟨rfl, rfl⟩, .inl rfl⟩, pP1⟩, ⟨aP1, bP1, tP1, ⟨_, rP1⟩⟩, .all fun us hl => match us, hl with | [_], _ => rfl⟩, ⟨pP2a, fP2, _, ⟨⟨_, _, _, _, _, _, _, _, _, _, rfl, lP2, kP2, .inl ⟨rfl, rfl⟩, .inl rfl⟩, pP2⟩, ⟨aP2, bP2, tP2, ⟨_, rP2⟩⟩, .all fun us hl => match us, hl with | [_], _ => rfl⟩, ⟨fG, _, ⟨⟨_, _, _, _, _, _, _, _, _, _, rfl, lG, kG, .inl ⟨rfl, rfl⟩, .inl rfl⟩, pG⟩, ⟨iG, yG, pG⟩, .all fun us hl => match us, hl with | [_, _], _ => rfl⟩, ⟨fL, _, ⟨⟨_, _, _, _, _, _, _, _, _, _, rfl, lL, kL, .inl ⟨rfl, rfl⟩, .inl rfl⟩, pL⟩, ⟨iL, yL, pL⟩, .all fun us hl => match us, hl with | [_, _], _ => rfl⟩, ⟨fA, _, ⟨⟨_, _, _, _, _, _, _, _, _, _, rfl, lA, kA, .inl ⟨rfl, rfl⟩, .inl rfl⟩, pA⟩, ⟨iA, yA, pA⟩, .all fun us hl => match us, hl with | [_, _], _ => rfl⟩, ⟨fQ, _, ⟨⟨_, _, _, _, _, _, _, _, _, _, rfl, lQ, kQ, .inl ⟨rfl, rfl⟩, .inl rfl⟩, pQ⟩, ⟨iQ, yQ, pQ⟩, .all fun us hl => match us, hl with | [_, _], _ => rfl⟩, ⟨pP3a, fP3, _, ⟨⟨_, _, _, _, _, _, _, _, _, _, rfl, lP3, kP3, .inl ⟨rfl, rfl⟩, .inl rfl⟩, pP3⟩, ⟨aP3, bP3, tP3, ⟨_, rP3⟩⟩, .all fun us hl => match us, hl with | [_], _ => rfl⟩, ⟨pP4a, fP4, _, ⟨⟨_, _, _, _, _, _, _, _, _, _, rfl, lP4, kP4, .inl ⟨rfl, rfl⟩, .inl rfl⟩, pP4⟩, ⟨aP4, bP4, tP4, ⟨_, rP4⟩⟩, .all fun us hl => match us, hl with | [_], _ => rfl⟩, ⟨pP5a, fP5, _, ⟨⟨_, _, _, _, _, _, _, _, _, _, rfl, lP5, kP5, .inl ⟨rfl, rfl⟩, .inl rfl⟩, pP5⟩, ⟨aP5, bP5, tP5, ⟨_, rP5⟩⟩, .all fun us hl => match us, hl with | [_], _ => rfl⟩, ⟨pP6a, fP6, _, ⟨⟨_, _, _, _, _, _, _, _, _, _, rfl, lP6, kP6, .inl ⟨rfl, rfl⟩, .inl rfl⟩, pP6⟩, ⟨aP6, bP6, tP6, ⟨_, rP6⟩⟩, .all fun us hl => match us, hl with | [_], _ => rfl⟩, ⟨pP7a, fP7, _, ⟨⟨_, _, _, _, _, _, _, _, _, _, rfl, lP7, kP7, .inl ⟨rfl, rfl⟩, .inl rfl⟩, pP7⟩, ⟨aP7, bP7, tP7, ⟨_, rP7⟩⟩, .all fun us hl => match us, hl with | [_], _ => rfl⟩, ⟨pP8a, fP8, _, ⟨⟨_, _, _, _, _, _, _, _, _, _, rfl, lP8, kP8, .inl ⟨rfl, rfl⟩, .inl rfl⟩, pP8⟩, ⟨aP8, bP8, tP8, ⟨_, rP8⟩⟩, .all fun us hl => match us, hl with | [_], _ => rfl⟩, ⟨fM1, _, ⟨⟨_, _, _, _, _, _, _, _, _, _, rfl, lM1, kM1, .inl ⟨rfl, rfl⟩, .inl rfl⟩, pM1⟩, ⟨iM1, yM1, pM1⟩, .all fun us hl => match us, hl with | [_, _, _], _ => rfl⟩, ⟨fM2, _, ⟨⟨_, _, _, _, _, _, _, _, _, _, rfl, lM2, kM2, .inl ⟨rfl, rfl⟩, .inl rfl⟩, pM2⟩, ⟨iM2, yM2, pM2⟩, .all fun us hl => match us, hl with | [_, _], _ => rfl⟩, ⟨fM3, _, ⟨⟨_, _, _, _, _, _, _, _, _, _, rfl, lM3, kM3, .inl ⟨rfl, rfl⟩, .inl rfl⟩, pM3⟩, ⟨iM3, yM3, pM3⟩, .all fun us hl => match us, hl with | [_, _], _ => rfl⟩, ⟨fM4, _, ⟨⟨_, _, _, _, _, _, _, _, _, _, rfl, lM4, kM4, .inl ⟨rfl, rfl⟩, .inl rfl⟩, pM4⟩, ⟨iM4, yM4, pM4⟩, .all fun us hl => match us, hl with | [_, _, _, _], _ => rfl⟩, ⟨fM5, _, ⟨⟨_, _, _, _, _, _, _, _, _, _, rfl, lM5, kM5, .inl ⟨rfl, rfl⟩, .inl rfl⟩, pM5⟩, ⟨iM5, yM5, pM5⟩, .all fun us hl => match us, hl with | [_, _], _ => rfl⟩, ⟨fM6, _, ⟨⟨_, _, _, _, _, _, _, _, _, _, rfl, lM6, kM6, .inl ⟨rfl, rfl⟩, .inl rfl⟩, pM6⟩, ⟨iM6, yM6, pM6⟩, .all fun us hl => match us, hl with | [_], _ => rfl⟩, ⟨fM7, _, ⟨⟨_, _, _, _, _, _, _, _, _, _, rfl, lM7, kM7, .inl ⟨rfl, rfl⟩, .inl rfl⟩, pM7⟩, ⟨iM7, yM7, pM7⟩, .all fun us hl => match us, hl with | [_, _], _ => rfl⟩, ⟨fM8, _, ⟨⟨_, _, _, _, _, _, _, _, _, _, rfl, lM8, kM8, .inl ⟨rfl, rfl⟩, .inl rfl⟩, pM8⟩, ⟨iM8, yM8, pM8⟩, .all fun us hl => match us, hl with | [_, _], _ => rfl⟩, ⟨fV1, _, fun_mk lV1 kV1 pV1, ⟨iV1, yV1, pV1⟩⟩, ⟨fV2, _, fun_mk lV2 kV2 pV2, ⟨iV2, yV2, pV2⟩⟩, caC, cg, ct, fnG, sf⟩, ⟨rc, int_add, int_radd, sub_int⟩, ⟨rd, tup_and, tup_rand, sub_tuple⟩⟩
theorem all_mk {l : PySem.W.OpenLaw} {w : World} {K : PySem.W.Frag} {h : Heap} {mg : Str → Option Value} {fa f_wall f_is_name f_is_integer f_is_between f_check_integer f_check_between f_check_interval f_times_alive f_ascends f_is_span f_are_rows f_merged f_w_tray f_w_roll f_w_pick f_w_few f_w_names f_w_rings f_w_rows f_w_sorted f_w_counts f_w_shifted_right f_w_right f_w_parted_right f_law : Addr} (X : K.In h) (G : h.Ns mainGlobals mg) (hfa : mg "law" = some (.ref fa))
    {od_wall an_wall od_is_name an_is_name od_is_integer an_is_integer od_is_between an_is_between od_check_integer an_check_integer od_check_between an_check_between od_check_interval an_check_interval od_times_alive an_times_alive od_ascends an_ascends od_is_span an_is_span od_are_rows an_are_rows od_merged an_merged od_w_tray an_w_tray od_w_roll an_w_roll od_w_pick an_w_pick od_w_few an_w_few od_w_names an_w_names od_w_rings an_w_rings od_w_rows an_w_rows od_w_sorted an_w_sorted od_w_counts an_w_counts od_w_shifted_right an_w_shifted_right od_w_right an_w_right od_w_parted_right an_w_parted_right od_law an_law : Option Addr} {sl_wall sl_is_name sl_is_integer sl_is_between sl_check_integer sl_check_between sl_check_interval sl_times_alive sl_ascends sl_is_span sl_are_rows sl_merged sl_w_tray sl_w_roll sl_w_pick sl_w_few sl_w_names sl_w_rings sl_w_rows sl_w_sorted sl_w_counts sl_w_shifted_right sl_w_right sl_w_parted_right sl_law : Array (Option Value)} {oc_wall kV_wall dc_wall pm_wall cd_wall ct_wall oc_is_name kV_is_name dc_is_name pm_is_name cd_is_name ct_is_name oc_is_integer kV_is_integer dc_is_integer pm_is_integer cd_is_integer ct_is_integer oc_is_between kV_is_between dc_is_between pm_is_between cd_is_between ct_is_between oc_check_integer kV_check_integer dc_check_integer pm_check_integer cd_check_integer ct_check_integer oc_check_between kV_check_between dc_check_between pm_check_between cd_check_between ct_check_between oc_check_interval kV_check_interval dc_check_interval pm_check_interval cd_check_interval ct_check_interval oc_times_alive kV_times_alive dc_times_alive pm_times_alive cd_times_alive ct_times_alive oc_ascends kV_ascends dc_ascends pm_ascends cd_ascends ct_ascends oc_is_span kV_is_span dc_is_span pm_is_span cd_is_span ct_is_span oc_are_rows kV_are_rows dc_are_rows pm_are_rows cd_are_rows ct_are_rows oc_merged kV_merged dc_merged pm_merged cd_merged ct_merged oc_w_tray kV_w_tray dc_w_tray pm_w_tray cd_w_tray ct_w_tray oc_w_roll kV_w_roll dc_w_roll pm_w_roll cd_w_roll ct_w_roll oc_w_pick kV_w_pick dc_w_pick pm_w_pick cd_w_pick ct_w_pick oc_w_few kV_w_few dc_w_few pm_w_few cd_w_few ct_w_few oc_w_names kV_w_names dc_w_names pm_w_names cd_w_names ct_w_names oc_w_rings kV_w_rings dc_w_rings pm_w_rings cd_w_rings ct_w_rings oc_w_rows kV_w_rows dc_w_rows pm_w_rows cd_w_rows ct_w_rows oc_w_sorted kV_w_sorted dc_w_sorted pm_w_sorted cd_w_sorted ct_w_sorted oc_w_counts kV_w_counts dc_w_counts pm_w_counts cd_w_counts ct_w_counts oc_w_shifted_right kV_w_shifted_right dc_w_shifted_right pm_w_shifted_right cd_w_shifted_right ct_w_shifted_right oc_w_right kV_w_right dc_w_right pm_w_right cd_w_right ct_w_right oc_w_parted_right kV_w_parted_right dc_w_parted_right pm_w_parted_right cd_w_parted_right ct_w_parted_right oc_law kV_law dc_law pm_law cd_law ct_law : Value} {t_MAX_INTERVAL t_MAX_LETTERS t_MAX_VALUES t_MAX_LIFE : Tok}
    (a_wall : PySem.W.nsIn K mainGlobals "_wall" = some (some (.ref f_wall))) (l_wall : K.lookup f_wall = some ⟨oc_wall, od_wall, .func (PySem.W.fnOf "_wall" "_wall" (defArgs s_wall) (defBody s_wall) (defScope s_wall) .none kV_wall dc_wall pm_wall an_wall cd_wall ct_wall), sl_wall⟩) (k_wall : PySem.W.codeIn K cd_wall "_wall" = true) (p_wall : PySem.W.keepIn K (.ref f_wall) = true)
    (a_is_name : PySem.W.nsIn K mainGlobals "is_name" = some (some (.ref f_is_name))) (l_is_name : K.lookup f_is_name = some ⟨oc_is_name, od_is_name, .func (PySem.W.fnOf "is_name" "is_name" (defArgs s_is_name) (defBody s_is_name) (defScope s_is_name) .none kV_is_name dc_is_name pm_is_name an_is_name cd_is_name ct_is_name), sl_is_name⟩) (k_is_name : PySem.W.codeIn K cd_is_name "is_name" = true) (p_is_name : PySem.W.keepIn K (.ref f_is_name) = true)
    (a_is_integer : PySem.W.nsIn K mainGlobals "is_integer" = some (some (.ref f_is_integer))) (l_is_integer : K.lookup f_is_integer = some ⟨oc_is_integer, od_is_integer, .func (PySem.W.fnOf "is_integer" "is_integer" (defArgs s_is_integer) (defBody s_is_integer) (defScope s_is_integer) .none kV_is_integer dc_is_integer pm_is_integer an_is_integer cd_is_integer ct_is_integer), sl_is_integer⟩) (k_is_integer : PySem.W.codeIn K cd_is_integer "is_integer" = true) (p_is_integer : PySem.W.keepIn K (.ref f_is_integer) = true)
    (a_is_between : PySem.W.nsIn K mainGlobals "is_between" = some (some (.ref f_is_between))) (l_is_between : K.lookup f_is_between = some ⟨oc_is_between, od_is_between, .func (PySem.W.fnOf "is_between" "is_between" (defArgs s_is_between) (defBody s_is_between) (defScope s_is_between) .none kV_is_between dc_is_between pm_is_between an_is_between cd_is_between ct_is_between), sl_is_between⟩) (k_is_between : PySem.W.codeIn K cd_is_between "is_between" = true) (p_is_between : PySem.W.keepIn K (.ref f_is_between) = true)
    (a_check_integer : PySem.W.nsIn K mainGlobals "check_integer" = some (some (.ref f_check_integer))) (l_check_integer : K.lookup f_check_integer = some ⟨oc_check_integer, od_check_integer, .func (PySem.W.fnOf "check_integer" "check_integer" (defArgs s_check_integer) (defBody s_check_integer) (defScope s_check_integer) .none kV_check_integer dc_check_integer pm_check_integer an_check_integer cd_check_integer ct_check_integer), sl_check_integer⟩) (k_check_integer : PySem.W.codeIn K cd_check_integer "check_integer" = true) (p_check_integer : PySem.W.keepIn K (.ref f_check_integer) = true)
    (a_check_between : PySem.W.nsIn K mainGlobals "check_between" = some (some (.ref f_check_between))) (l_check_between : K.lookup f_check_between = some ⟨oc_check_between, od_check_between, .func (PySem.W.fnOf "check_between" "check_between" (defArgs s_check_between) (defBody s_check_between) (defScope s_check_between) .none kV_check_between dc_check_between pm_check_between an_check_between cd_check_between ct_check_between), sl_check_between⟩) (k_check_between : PySem.W.codeIn K cd_check_between "check_between" = true) (p_check_between : PySem.W.keepIn K (.ref f_check_between) = true)
    (a_check_interval : PySem.W.nsIn K mainGlobals "check_interval" = some (some (.ref f_check_interval))) (l_check_interval : K.lookup f_check_interval = some ⟨oc_check_interval, od_check_interval, .func (PySem.W.fnOf "check_interval" "check_interval" (defArgs s_check_interval) (defBody s_check_interval) (defScope s_check_interval) .none kV_check_interval dc_check_interval pm_check_interval an_check_interval cd_check_interval ct_check_interval), sl_check_interval⟩) (k_check_interval : PySem.W.codeIn K cd_check_interval "check_interval" = true) (p_check_interval : PySem.W.keepIn K (.ref f_check_interval) = true)
    (a_times_alive : PySem.W.nsIn K mainGlobals "times_alive" = some (some (.ref f_times_alive))) (l_times_alive : K.lookup f_times_alive = some ⟨oc_times_alive, od_times_alive, .func (PySem.W.fnOf "times_alive" "times_alive" (defArgs s_times_alive) (defBody s_times_alive) (defScope s_times_alive) .none kV_times_alive dc_times_alive pm_times_alive an_times_alive cd_times_alive ct_times_alive), sl_times_alive⟩) (k_times_alive : PySem.W.codeIn K cd_times_alive "times_alive" = true) (p_times_alive : PySem.W.keepIn K (.ref f_times_alive) = true)
    (a_ascends : PySem.W.nsIn K mainGlobals "ascends" = some (some (.ref f_ascends))) (l_ascends : K.lookup f_ascends = some ⟨oc_ascends, od_ascends, .func (PySem.W.fnOf "ascends" "ascends" (defArgs s_ascends) (defBody s_ascends) (defScope s_ascends) .none kV_ascends dc_ascends pm_ascends an_ascends cd_ascends ct_ascends), sl_ascends⟩) (k_ascends : PySem.W.codeIn K cd_ascends "ascends" = true) (p_ascends : PySem.W.keepIn K (.ref f_ascends) = true)
    (a_is_span : PySem.W.nsIn K mainGlobals "_is_span" = some (some (.ref f_is_span))) (l_is_span : K.lookup f_is_span = some ⟨oc_is_span, od_is_span, .func (PySem.W.fnOf "_is_span" "_is_span" (defArgs s_is_span) (defBody s_is_span) (defScope s_is_span) .none kV_is_span dc_is_span pm_is_span an_is_span cd_is_span ct_is_span), sl_is_span⟩) (k_is_span : PySem.W.codeIn K cd_is_span "_is_span" = true) (p_is_span : PySem.W.keepIn K (.ref f_is_span) = true)
    (a_are_rows : PySem.W.nsIn K mainGlobals "_are_rows" = some (some (.ref f_are_rows))) (l_are_rows : K.lookup f_are_rows = some ⟨oc_are_rows, od_are_rows, .func (PySem.W.fnOf "_are_rows" "_are_rows" (defArgs s_are_rows) (defBody s_are_rows) (defScope s_are_rows) .none kV_are_rows dc_are_rows pm_are_rows an_are_rows cd_are_rows ct_are_rows), sl_are_rows⟩) (k_are_rows : PySem.W.codeIn K cd_are_rows "_are_rows" = true) (p_are_rows : PySem.W.keepIn K (.ref f_are_rows) = true)
    (a_merged : PySem.W.nsIn K mainGlobals "_merged" = some (some (.ref f_merged))) (l_merged : K.lookup f_merged = some ⟨oc_merged, od_merged, .func (PySem.W.fnOf "_merged" "_merged" (defArgs s_merged) (defBody s_merged) (defScope s_merged) .none kV_merged dc_merged pm_merged an_merged cd_merged ct_merged), sl_merged⟩) (k_merged : PySem.W.codeIn K cd_merged "_merged" = true) (p_merged : PySem.W.keepIn K (.ref f_merged) = true)
    (a_w_tray : PySem.W.nsIn K mainGlobals "_law_tray" = some (some (.ref f_w_tray))) (l_w_tray : K.lookup f_w_tray = some ⟨oc_w_tray, od_w_tray, .func (PySem.W.fnOf "_law_tray" "_law_tray" (defArgs s_w_tray) (defBody s_w_tray) (defScope s_w_tray) .none kV_w_tray dc_w_tray pm_w_tray an_w_tray cd_w_tray ct_w_tray), sl_w_tray⟩) (k_w_tray : PySem.W.codeIn K cd_w_tray "_law_tray" = true) (p_w_tray : PySem.W.keepIn K (.ref f_w_tray) = true)
    (a_w_roll : PySem.W.nsIn K mainGlobals "_law_roll" = some (some (.ref f_w_roll))) (l_w_roll : K.lookup f_w_roll = some ⟨oc_w_roll, od_w_roll, .func (PySem.W.fnOf "_law_roll" "_law_roll" (defArgs s_w_roll) (defBody s_w_roll) (defScope s_w_roll) .none kV_w_roll dc_w_roll pm_w_roll an_w_roll cd_w_roll ct_w_roll), sl_w_roll⟩) (k_w_roll : PySem.W.codeIn K cd_w_roll "_law_roll" = true) (p_w_roll : PySem.W.keepIn K (.ref f_w_roll) = true)
    (a_w_pick : PySem.W.nsIn K mainGlobals "_law_pick" = some (some (.ref f_w_pick))) (l_w_pick : K.lookup f_w_pick = some ⟨oc_w_pick, od_w_pick, .func (PySem.W.fnOf "_law_pick" "_law_pick" (defArgs s_w_pick) (defBody s_w_pick) (defScope s_w_pick) .none kV_w_pick dc_w_pick pm_w_pick an_w_pick cd_w_pick ct_w_pick), sl_w_pick⟩) (k_w_pick : PySem.W.codeIn K cd_w_pick "_law_pick" = true) (p_w_pick : PySem.W.keepIn K (.ref f_w_pick) = true)
    (a_w_few : PySem.W.nsIn K mainGlobals "_law_few" = some (some (.ref f_w_few))) (l_w_few : K.lookup f_w_few = some ⟨oc_w_few, od_w_few, .func (PySem.W.fnOf "_law_few" "_law_few" (defArgs s_w_few) (defBody s_w_few) (defScope s_w_few) .none kV_w_few dc_w_few pm_w_few an_w_few cd_w_few ct_w_few), sl_w_few⟩) (k_w_few : PySem.W.codeIn K cd_w_few "_law_few" = true) (p_w_few : PySem.W.keepIn K (.ref f_w_few) = true)
    (a_w_names : PySem.W.nsIn K mainGlobals "_law_names" = some (some (.ref f_w_names))) (l_w_names : K.lookup f_w_names = some ⟨oc_w_names, od_w_names, .func (PySem.W.fnOf "_law_names" "_law_names" (defArgs s_w_names) (defBody s_w_names) (defScope s_w_names) .none kV_w_names dc_w_names pm_w_names an_w_names cd_w_names ct_w_names), sl_w_names⟩) (k_w_names : PySem.W.codeIn K cd_w_names "_law_names" = true) (p_w_names : PySem.W.keepIn K (.ref f_w_names) = true)
    (a_w_rings : PySem.W.nsIn K mainGlobals "_law_rings" = some (some (.ref f_w_rings))) (l_w_rings : K.lookup f_w_rings = some ⟨oc_w_rings, od_w_rings, .func (PySem.W.fnOf "_law_rings" "_law_rings" (defArgs s_w_rings) (defBody s_w_rings) (defScope s_w_rings) .none kV_w_rings dc_w_rings pm_w_rings an_w_rings cd_w_rings ct_w_rings), sl_w_rings⟩) (k_w_rings : PySem.W.codeIn K cd_w_rings "_law_rings" = true) (p_w_rings : PySem.W.keepIn K (.ref f_w_rings) = true)
    (a_w_rows : PySem.W.nsIn K mainGlobals "_law_rows" = some (some (.ref f_w_rows))) (l_w_rows : K.lookup f_w_rows = some ⟨oc_w_rows, od_w_rows, .func (PySem.W.fnOf "_law_rows" "_law_rows" (defArgs s_w_rows) (defBody s_w_rows) (defScope s_w_rows) .none kV_w_rows dc_w_rows pm_w_rows an_w_rows cd_w_rows ct_w_rows), sl_w_rows⟩) (k_w_rows : PySem.W.codeIn K cd_w_rows "_law_rows" = true) (p_w_rows : PySem.W.keepIn K (.ref f_w_rows) = true)
    (a_w_sorted : PySem.W.nsIn K mainGlobals "_law_sorted" = some (some (.ref f_w_sorted))) (l_w_sorted : K.lookup f_w_sorted = some ⟨oc_w_sorted, od_w_sorted, .func (PySem.W.fnOf "_law_sorted" "_law_sorted" (defArgs s_w_sorted) (defBody s_w_sorted) (defScope s_w_sorted) .none kV_w_sorted dc_w_sorted pm_w_sorted an_w_sorted cd_w_sorted ct_w_sorted), sl_w_sorted⟩) (k_w_sorted : PySem.W.codeIn K cd_w_sorted "_law_sorted" = true) (p_w_sorted : PySem.W.keepIn K (.ref f_w_sorted) = true)
    (a_w_counts : PySem.W.nsIn K mainGlobals "_law_counts" = some (some (.ref f_w_counts))) (l_w_counts : K.lookup f_w_counts = some ⟨oc_w_counts, od_w_counts, .func (PySem.W.fnOf "_law_counts" "_law_counts" (defArgs s_w_counts) (defBody s_w_counts) (defScope s_w_counts) .none kV_w_counts dc_w_counts pm_w_counts an_w_counts cd_w_counts ct_w_counts), sl_w_counts⟩) (k_w_counts : PySem.W.codeIn K cd_w_counts "_law_counts" = true) (p_w_counts : PySem.W.keepIn K (.ref f_w_counts) = true)
    (a_w_shifted_right : PySem.W.nsIn K mainGlobals "_law_shifted_right" = some (some (.ref f_w_shifted_right))) (l_w_shifted_right : K.lookup f_w_shifted_right = some ⟨oc_w_shifted_right, od_w_shifted_right, .func (PySem.W.fnOf "_law_shifted_right" "_law_shifted_right" (defArgs s_w_shifted_right) (defBody s_w_shifted_right) (defScope s_w_shifted_right) .none kV_w_shifted_right dc_w_shifted_right pm_w_shifted_right an_w_shifted_right cd_w_shifted_right ct_w_shifted_right), sl_w_shifted_right⟩) (k_w_shifted_right : PySem.W.codeIn K cd_w_shifted_right "_law_shifted_right" = true) (p_w_shifted_right : PySem.W.keepIn K (.ref f_w_shifted_right) = true)
    (a_w_right : PySem.W.nsIn K mainGlobals "_law_right" = some (some (.ref f_w_right))) (l_w_right : K.lookup f_w_right = some ⟨oc_w_right, od_w_right, .func (PySem.W.fnOf "_law_right" "_law_right" (defArgs s_w_right) (defBody s_w_right) (defScope s_w_right) .none kV_w_right dc_w_right pm_w_right an_w_right cd_w_right ct_w_right), sl_w_right⟩) (k_w_right : PySem.W.codeIn K cd_w_right "_law_right" = true) (p_w_right : PySem.W.keepIn K (.ref f_w_right) = true)
    (a_w_parted_right : PySem.W.nsIn K mainGlobals "_law_parted_right" = some (some (.ref f_w_parted_right))) (l_w_parted_right : K.lookup f_w_parted_right = some ⟨oc_w_parted_right, od_w_parted_right, .func (PySem.W.fnOf "_law_parted_right" "_law_parted_right" (defArgs s_w_parted_right) (defBody s_w_parted_right) (defScope s_w_parted_right) .none kV_w_parted_right dc_w_parted_right pm_w_parted_right an_w_parted_right cd_w_parted_right ct_w_parted_right), sl_w_parted_right⟩) (k_w_parted_right : PySem.W.codeIn K cd_w_parted_right "_law_parted_right" = true) (p_w_parted_right : PySem.W.keepIn K (.ref f_w_parted_right) = true)
    (a_law : PySem.W.nsIn K mainGlobals "law" = some (some (.ref f_law))) (l_law : K.lookup f_law = some ⟨oc_law, od_law, .func (PySem.W.fnOf "law" "law" (defArgs s_law) (defBody s_law) (defScope s_law) .none kV_law dc_law pm_law an_law cd_law ct_law), sl_law⟩) (k_law : PySem.W.codeIn K cd_law "law" = true) (p_law : PySem.W.keepIn K (.ref f_law) = true)
    (e_MAX_INTERVAL : PySem.W.nsIn K mainGlobals "MAX_INTERVAL" = some (some (.int 32 t_MAX_INTERVAL)))
    (e_MAX_LETTERS : PySem.W.nsIn K mainGlobals "MAX_LETTERS" = some (some (.int 8 t_MAX_LETTERS)))
    (e_MAX_VALUES : PySem.W.nsIn K mainGlobals "MAX_VALUES" = some (some (.int 8 t_MAX_VALUES)))
    (e_MAX_LIFE : PySem.W.nsIn K mainGlobals "MAX_LIFE" = some (some (.int 8 t_MAX_LIFE)))
    (y_int : PySem.W.nsIn K mainGlobals "int" = some none)
    (y_abs : PySem.W.nsIn K mainGlobals "abs" = some none)
    (y_len : PySem.W.nsIn K mainGlobals "len" = some none)
    (y_max : PySem.W.nsIn K mainGlobals "max" = some none)
    (y_min : PySem.W.nsIn K mainGlobals "min" = some none)
    (y_range : PySem.W.nsIn K mainGlobals "range" = some none)
    (y_sum : PySem.W.nsIn K mainGlobals "sum" = some none)
    (y_isinstance : PySem.W.nsIn K mainGlobals "isinstance" = some none)
    (y_repr : PySem.W.nsIn K mainGlobals "repr" = some none)
    (y_str : PySem.W.nsIn K mainGlobals "str" = some none)
    (y_all : PySem.W.nsIn K mainGlobals "all" = some none)
    (y_any : PySem.W.nsIn K mainGlobals "any" = some none)
    (y_sorted : PySem.W.nsIn K mainGlobals "sorted" = some none)
    (y_tuple : PySem.W.nsIn K mainGlobals "tuple" = some none)
    (y_list : PySem.W.nsIn K mainGlobals "list" = some none)
    (y_dict : PySem.W.nsIn K mainGlobals "dict" = some none)
    (y_set : PySem.W.nsIn K mainGlobals "set" = some none)
    (y_bool : PySem.W.nsIn K mainGlobals "bool" = some none)
    (y_enumerate : PySem.W.nsIn K mainGlobals "enumerate" = some none)
    (y_zip : PySem.W.nsIn K mainGlobals "zip" = some none)
    (uu : ∃ U : UX K mg, AddI K U.C ∧ OW.AndT K U.C)
    : ∃ fd : FuncData, (∀ (s : Shared) (v : Value), BindsTo s fd ⟨[v], []⟩ [("script", v)]) ∧ ∀ base : Heap, K.In base → base.Ns mainGlobals mg → GW.FnG l.prog w K mg base CX0 14 fa fd ["script"] (sp_law K) := by
  have e := hfa.symm.trans (PySem.W.mg_of X G a_law)
  cases e
  have F_wall := fun_mk (st := s_wall) l_wall k_wall p_wall
  have b_wall := F_wall.binds (ps := ["k"]) fun _ _ _ _ _ _ us hl => match us, hl with | [_], _ => rfl
  have F_is_name := fun_mk (st := s_is_name) l_is_name k_is_name p_is_name
  have b_is_name := F_is_name.binds (ps := ["value"]) fun _ _ _ _ _ _ us hl => match us, hl with | [_], _ => rfl
  have F_is_integer := fun_mk (st := s_is_integer) l_is_integer k_is_integer p_is_integer
  have b_is_integer := F_is_integer.binds (ps := ["value"]) fun _ _ _ _ _ _ us hl => match us, hl with | [_], _ => rfl
  have F_is_between := fun_mk (st := s_is_between) l_is_between k_is_between p_is_between
  have b_is_between := F_is_between.binds (ps := ["value", "low", "high"]) fun _ _ _ _ _ _ us hl => match us, hl with | [_, _, _], _ => rfl
  have F_check_integer := fun_mk (st := s_check_integer) l_check_integer k_check_integer p_check_integer
  have b_check_integer := F_check_integer.binds (ps := ["value"]) fun _ _ _ _ _ _ us hl => match us, hl with | [_], _ => rfl
  have F_check_between := fun_mk (st := s_check_between) l_check_between k_check_between p_check_between
  have b_check_between := F_check_between.binds (ps := ["value", "low", "high"]) fun _ _ _ _ _ _ us hl => match us, hl with | [_, _, _], _ => rfl
  have F_check_interval := fun_mk (st := s_check_interval) l_check_interval k_check_interval p_check_interval
  have b_check_interval := F_check_interval.binds (ps := ["value"]) fun _ _ _ _ _ _ us hl => match us, hl with | [_], _ => rfl
  have F_times_alive := fun_mk (st := s_times_alive) l_times_alive k_times_alive p_times_alive
  have b_times_alive := F_times_alive.binds (ps := ["begin", "end", "tick", "interval"]) fun _ _ _ _ _ _ us hl => match us, hl with | [_, _, _, _], _ => rfl
  have F_ascends := fun_mk (st := s_ascends) l_ascends k_ascends p_ascends
  have b_ascends := F_ascends.binds (ps := ["row"]) fun _ _ _ _ _ _ us hl => match us, hl with | [_], _ => rfl
  have F_is_span := fun_mk (st := s_is_span) l_is_span k_is_span p_is_span
  have b_is_span := F_is_span.binds (ps := ["interval", "value"]) fun _ _ _ _ _ _ us hl => match us, hl with | [_, _], _ => rfl
  have F_are_rows := fun_mk (st := s_are_rows) l_are_rows k_are_rows p_are_rows
  have b_are_rows := F_are_rows.binds (ps := ["interval", "value"]) fun _ _ _ _ _ _ us hl => match us, hl with | [_, _], _ => rfl
  have F_merged := fun_mk (st := s_merged) l_merged k_merged p_merged
  have b_merged := F_merged.binds (ps := ["parts", "names"]) fun _ _ _ _ _ _ us hl => match us, hl with | [_, _], _ => rfl
  have F_w_tray := fun_mk (st := s_w_tray) l_w_tray k_w_tray p_w_tray
  have b_w_tray := F_w_tray.binds (ps := ["script", "spot"]) fun _ _ _ _ _ _ us hl => match us, hl with | [_, _], _ => rfl
  have F_w_roll := fun_mk (st := s_w_roll) l_w_roll k_w_roll p_w_roll
  have b_w_roll := F_w_roll.binds (ps := ["tray", "total"]) fun _ _ _ _ _ _ us hl => match us, hl with | [_, _], _ => rfl
  have F_w_pick := fun_mk (st := s_w_pick) l_w_pick k_w_pick p_w_pick
  have b_w_pick := F_w_pick.binds (ps := ["tray", "items"]) fun _ _ _ _ _ _ us hl => match us, hl with | [_, _], _ => rfl
  have F_w_few := fun_mk (st := s_w_few) l_w_few k_w_few p_w_few
  have b_w_few := F_w_few.binds (ps := ["tray", "items", "many"]) fun _ _ _ _ _ _ us hl => match us, hl with | [_, _, _], _ => rfl
  have F_w_names := fun_mk (st := s_w_names) l_w_names k_w_names p_w_names
  have b_w_names := F_w_names.binds (ps := ["tray", "many"]) fun _ _ _ _ _ _ us hl => match us, hl with | [_, _], _ => rfl
  have F_w_rings := fun_mk (st := s_w_rings) l_w_rings k_w_rings p_w_rings
  have b_w_rings := F_w_rings.binds (ps := ["tray", "interval", "names"]) fun _ _ _ _ _ _ us hl => match us, hl with | [_, _, _], _ => rfl
  have F_w_rows := fun_mk (st := s_w_rows) l_w_rows k_w_rows p_w_rows
  have b_w_rows := F_w_rows.binds (ps := ["tray", "interval", "names"]) fun _ _ _ _ _ _ us hl => match us, hl with | [_, _, _], _ => rfl
  have F_w_sorted := fun_mk (st := s_w_sorted) l_w_sorted k_w_sorted p_w_sorted
  have b_w_sorted := F_w_sorted.binds (ps := ["rows"]) fun _ _ _ _ _ _ us hl => match us, hl with | [_], _ => rfl
  have F_w_counts := fun_mk (st := s_w_counts) l_w_counts k_w_counts p_w_counts
  have b_w_counts := F_w_counts.binds (ps := ["spans", "first"]) fun _ _ _ _ _ _ us hl => match us, hl with | [_, _], _ => rfl
  have F_w_shifted_right := fun_mk (st := s_w_shifted_right) l_w_shifted_right k_w_shifted_right p_w_shifted_right
  have b_w_shifted_right := F_w_shifted_right.binds (ps := ["tray", "spans", "rows"]) fun _ _ _ _ _ _ us hl => match us, hl with | [_, _, _], _ => rfl
  have F_w_right := fun_mk (st := s_w_right) l_w_right k_w_right p_w_right
  have b_w_right := F_w_right.binds (ps := ["tray"]) fun _ _ _ _ _ _ us hl => match us, hl with | [_], _ => rfl
  have F_w_parted_right := fun_mk (st := s_w_parted_right) l_w_parted_right k_w_parted_right p_w_parted_right
  have b_w_parted_right := F_w_parted_right.binds (ps := ["tray", "both", "names"]) fun _ _ _ _ _ _ us hl => match us, hl with | [_, _, _], _ => rfl
  have F_law := fun_mk (st := s_law) l_law k_law p_law
  have b_law := F_law.binds (ps := ["script"]) fun _ _ _ _ _ _ us hl => match us, hl with | [_], _ => rfl
  obtain ⟨U, ai, an⟩ := uu
  exact ⟨PySem.W.fnOf "law" "law" (defArgs s_law) (defBody s_law) (defScope s_law) .none kV_law dc_law pm_law an_law cd_law ct_law, fun s v => .of_eq rfl, fun base _ _ => ok_law (⟨_, _, F_wall, PySem.W.mg_of X G a_wall, b_wall, _, _, F_is_name, PySem.W.mg_of X G a_is_name, b_is_name, _, _, F_is_integer, PySem.W.mg_of X G a_is_integer, b_is_integer, _, _, F_is_between, PySem.W.mg_of X G a_is_between, b_is_between, _, _, F_check_integer, PySem.W.mg_of X G a_check_integer, b_check_integer, _, _, F_check_between, PySem.W.mg_of X G a_check_between, b_check_between, _, _, F_check_interval, PySem.W.mg_of X G a_check_interval, b_check_interval, _, _, F_times_alive, PySem.W.mg_of X G a_times_alive, b_times_alive, _, _, F_ascends, PySem.W.mg_of X G a_ascends, b_ascends, _, _, F_is_span, PySem.W.mg_of X G a_is_span, b_is_span, _, _, F_are_rows, PySem.W.mg_of X G a_are_rows, b_are_rows, _, _, F_merged, PySem.W.mg_of X G a_merged, b_merged, _, _, F_w_tray, PySem.W.mg_of X G a_w_tray, b_w_tray, _, _, F_w_roll, PySem.W.mg_of X G a_w_roll, b_w_roll, _, _, F_w_pick, PySem.W.mg_of X G a_w_pick, b_w_pick, _, _, F_w_few, PySem.W.mg_of X G a_w_few, b_w_few, _, _, F_w_names, PySem.W.mg_of X G a_w_names, b_w_names, _, _, F_w_rings, PySem.W.mg_of X G a_w_rings, b_w_rings, _, _, F_w_rows, PySem.W.mg_of X G a_w_rows, b_w_rows, _, _, F_w_sorted, PySem.W.mg_of X G a_w_sorted, b_w_sorted, _, _, F_w_counts, PySem.W.mg_of X G a_w_counts, b_w_counts, _, _, F_w_shifted_right, PySem.W.mg_of X G a_w_shifted_right, b_w_shifted_right, _, _, F_w_right, PySem.W.mg_of X G a_w_right, b_w_right, _, _, F_w_parted_right, PySem.W.mg_of X G a_w_parted_right, b_w_parted_right, _, _, F_law, PySem.W.mg_of X G a_law, b_law, ⟨t_MAX_INTERVAL, PySem.W.mg_of X G e_MAX_INTERVAL⟩, ⟨t_MAX_LETTERS, PySem.W.mg_of X G e_MAX_LETTERS⟩, ⟨t_MAX_VALUES, PySem.W.mg_of X G e_MAX_VALUES⟩, ⟨t_MAX_LIFE, PySem.W.mg_of X G e_MAX_LIFE⟩, PySem.W.mg_none_of X G y_int, PySem.W.mg_none_of X G y_abs, PySem.W.mg_none_of X G y_len, PySem.W.mg_none_of X G y_max, PySem.W.mg_none_of X G y_min, PySem.W.mg_none_of X G y_range, PySem.W.mg_none_of X G y_sum, PySem.W.mg_none_of X G y_isinstance, PySem.W.mg_none_of X G y_repr, PySem.W.mg_none_of X G y_str, PySem.W.mg_none_of X G y_all, PySem.W.mg_none_of X G y_any, PySem.W.mg_none_of X G y_sorted, PySem.W.mg_none_of X G y_tuple, PySem.W.mg_none_of X G y_list, PySem.W.mg_none_of X G y_dict, PySem.W.mg_none_of X G y_set, PySem.W.mg_none_of X G y_bool, PySem.W.mg_none_of X G y_enumerate, PySem.W.mg_none_of X G y_zip⟩ : T K mg) U ai an⟩
theorem walk {l : PySem.W.OpenLaw} {q : Program} {loose : List Str} {XP : (Str → Option Value) → Heap → Prop}
                                                                                                              {YP : World → Heap → Prop} {d : DefRec} {K : Params → PySem.W.Frag} (hn : l.most = some 63) (hdf : d.params.defaults = [])
    (hY : ∀ (w : World) (h : Heap), YP w h → (K w.params).In h)
    (F : ∀ (w : World) (mg : Str → Option Value) (fa : Addr) (h : Heap),
                                                                         (K w.params).In h → h.Ns mainGlobals mg → mg d.name = some (.ref fa) →
      ∃ fd : FuncData, (∀ (s : Shared) (u : Value), BindsTo s fd ⟨[u], []⟩ [("script", u)]) ∧ ∀ base : Heap, (K w.params).In base → base.Ns mainGlobals mg → GW.FnG l.prog w (K w.params) mg base CX0 14 fa fd ["script"] (sp_law (K w.params))) :
    PySem.W.WalkO q loose XP YP l.row.toRowW d []
                                                  (fun f vs => PySem.call f vs) :=
  GW.walkG (n := 63) (k := 14) (x := "script") hn (by decide) hdf ⟨rfl, by decide, by decide⟩ hY fun w mg fa h _ KX G hmg => by
    obtain ⟨fd, hb, hF⟩ := F w mg fa h KX G hmg
    exact ⟨fd, [], sp_law _, (fun _ h => by cases h), (fun _ h => by cases h), (fun _ h => by cases h), hb, (fun H a ns hl _ hS => ⟨a, ns, rfl, hS, hl, fun _ => rfl⟩), fun base kin hns _ => hF base kin hns⟩
end K40
open PySem PySem.W PyProof.Rows
set_option maxRecDepth 100000 in
set_option maxHeartbeats 0 in
theorem PySem.Challenge.cw_overrounds_k40_whole_spans_put_together_holds : PySem.Challenge.rw_overrounds_k40_whole_spans_put_together.Holds := by
  w_on; o_law; k_head; (case hw => w_witness2)
  k_fill
  refine K40.walk (l := PySem.Challenge.rw_overrounds_k40_whole_spans_put_together) rfl rfl (fun w h Y => PySem.W.kIn_of Y) ?F
  case F =>
    intro w mg fa h KX G hmg
    refine' K40.all_mk KX G hmg ?a_wall ?l_wall ?k_wall ?p_wall ?a_is_name ?l_is_name ?k_is_name ?p_is_name ?a_is_integer ?l_is_integer ?k_is_integer ?p_is_integer ?a_is_between ?l_is_between ?k_is_between ?p_is_between ?a_check_integer ?l_check_integer ?k_check_integer ?p_check_integer ?a_check_between ?l_check_between ?k_check_between ?p_check_between ?a_check_interval ?l_check_interval ?k_check_interval ?p_check_interval ?a_times_alive ?l_times_alive ?k_times_alive ?p_times_alive ?a_ascends ?l_ascends ?k_ascends ?p_ascends ?a_is_span ?l_is_span ?k_is_span ?p_is_span ?a_are_rows ?l_are_rows ?k_are_rows ?p_are_rows ?a_merged ?l_merged ?k_merged ?p_merged ?a_w_tray ?l_w_tray ?k_w_tray ?p_w_tray ?a_w_roll ?l_w_roll ?k_w_roll ?p_w_roll ?a_w_pick ?l_w_pick ?k_w_pick ?p_w_pick ?a_w_few ?l_w_few ?k_w_few ?p_w_few ?a_w_names ?l_w_names ?k_w_names ?p_w_names ?a_w_rings ?l_w_rings ?k_w_rings ?p_w_rings ?a_w_rows ?l_w_rows ?k_w_rows ?p_w_rows ?a_w_sorted ?l_w_sorted ?k_w_sorted ?p_w_sorted ?a_w_counts ?l_w_counts ?k_w_counts ?p_w_counts ?a_w_shifted_right ?l_w_shifted_right ?k_w_shifted_right ?p_w_shifted_right ?a_w_right ?l_w_right ?k_w_right ?p_w_right ?a_w_parted_right ?l_w_parted_right ?k_w_parted_right ?p_w_parted_right ?a_law ?l_law ?k_law ?p_law ?e_MAX_INTERVAL ?e_MAX_LETTERS ?e_MAX_VALUES ?e_MAX_LIFE ?y_int ?y_abs ?y_len ?y_max ?y_min ?y_range ?y_sum ?y_isinstance ?y_repr ?y_str ?y_all ?y_any ?y_sorted ?y_tuple ?y_list ?y_dict ?y_set ?y_bool ?y_enumerate ?y_zip ?uu
    (case a_wall => k_is)
    (case l_wall => k_is)
    (case k_wall => k_is)
    (case p_wall => k_is)
    (case a_is_name => k_is)
    (case l_is_name => k_is)
    (case k_is_name => k_is)
    (case p_is_name => k_is)
    (case a_is_integer => k_is)
    (case l_is_integer => k_is)
    (case k_is_integer => k_is)
    (case p_is_integer => k_is)
    (case a_is_between => k_is)
    (case l_is_between => k_is)
    (case k_is_between => k_is)
    (case p_is_between => k_is)
    (case a_check_integer => k_is)
    (case l_check_integer => k_is)
    (case k_check_integer => k_is)
    (case p_check_integer => k_is)
    (case a_check_between => k_is)
    (case l_check_between => k_is)
    (case k_check_between => k_is)
    (case p_check_between => k_is)
    (case a_check_interval => k_is)
    (case l_check_interval => k_is)
    (case k_check_interval => k_is)
    (case p_check_interval => k_is)
    (case a_times_alive => k_is)
    (case l_times_alive => k_is)
    (case k_times_alive => k_is)
    (case p_times_alive => k_is)
    (case a_ascends => k_is)
    (case l_ascends => k_is)
    (case k_ascends => k_is)
    (case p_ascends => k_is)
    (case a_is_span => k_is)
    (case l_is_span => k_is)
    (case k_is_span => k_is)
    (case p_is_span => k_is)
    (case a_are_rows => k_is)
    (case l_are_rows => k_is)
    (case k_are_rows => k_is)
    (case p_are_rows => k_is)
    (case a_merged => k_is)
    (case l_merged => k_is)
    (case k_merged => k_is)
    (case p_merged => k_is)
    (case a_w_tray => k_is)
    (case l_w_tray => k_is)
    (case k_w_tray => k_is)
    (case p_w_tray => k_is)
    (case a_w_roll => k_is)
    (case l_w_roll => k_is)
    (case k_w_roll => k_is)
    (case p_w_roll => k_is)
    (case a_w_pick => k_is)
    (case l_w_pick => k_is)
    (case k_w_pick => k_is)
    (case p_w_pick => k_is)
    (case a_w_few => k_is)
    (case l_w_few => k_is)
    (case k_w_few => k_is)
    (case p_w_few => k_is)
    (case a_w_names => k_is)
    (case l_w_names => k_is)
    (case k_w_names => k_is)
    (case p_w_names => k_is)
    (case a_w_rings => k_is)
    (case l_w_rings => k_is)
    (case k_w_rings => k_is)
    (case p_w_rings => k_is)
    (case a_w_rows => k_is)
    (case l_w_rows => k_is)
    (case k_w_rows => k_is)
    (case p_w_rows => k_is)
    (case a_w_sorted => k_is)
    (case l_w_sorted => k_is)
    (case k_w_sorted => k_is)
    (case p_w_sorted => k_is)
    (case a_w_counts => k_is)
    (case l_w_counts => k_is)
    (case k_w_counts => k_is)
    (case p_w_counts => k_is)
    (case a_w_shifted_right => k_is)
    (case l_w_shifted_right => k_is)
    (case k_w_shifted_right => k_is)
    (case p_w_shifted_right => k_is)
    (case a_w_right => k_is)
    (case l_w_right => k_is)
    (case k_w_right => k_is)
    (case p_w_right => k_is)
    (case a_w_parted_right => k_is)
    (case l_w_parted_right => k_is)
    (case k_w_parted_right => k_is)
    (case p_w_parted_right => k_is)
    (case a_law => k_is)
    (case l_law => k_is)
    (case k_law => k_is)
    (case p_law => k_is)
    (case e_MAX_INTERVAL => k_is)
    (case e_MAX_LETTERS => k_is)
    (case e_MAX_VALUES => k_is)
    (case e_MAX_LIFE => k_is)
    (case y_int => k_is)
    (case y_abs => k_is)
    (case y_len => k_is)
    (case y_max => k_is)
    (case y_min => k_is)
    (case y_range => k_is)
    (case y_sum => k_is)
    (case y_isinstance => k_is)
    (case y_repr => k_is)
    (case y_str => k_is)
    (case y_all => k_is)
    (case y_any => k_is)
    (case y_sorted => k_is)
    (case y_tuple => k_is)
    (case y_list => k_is)
    (case y_dict => k_is)
    (case y_set => k_is)
    (case y_bool => k_is)
    (case y_enumerate => k_is)
    (case y_zip => k_is)
    case uu =>
      refine' K40.mk_U KX G ?aC ?c1C ?c2C ?c3C ?c4C ?c5C ?c6C ?c7C ?c8C ?lIC ?kIC ?pIC ?n1C ?n2C ?n3C ?n4C ?n5C ?moC ?neC ?caC ?gCC ?tCC ?aP1 ?bP1 ?tP1 ?rP1 ?lP1 ?kP1 ?pP1 ?aP2 ?bP2 ?tP2 ?rP2 ?lP2 ?kP2 ?pP2 ?aP3 ?bP3 ?tP3 ?rP3 ?lP3 ?kP3 ?pP3 ?aP4 ?bP4 ?tP4 ?rP4 ?lP4 ?kP4 ?pP4 ?aP5 ?bP5 ?tP5 ?rP5 ?lP5 ?kP5 ?pP5 ?aP6 ?bP6 ?tP6 ?rP6 ?lP6 ?kP6 ?pP6 ?aP7 ?bP7 ?tP7 ?rP7 ?lP7 ?kP7 ?pP7 ?aP8 ?bP8 ?tP8 ?rP8 ?lP8 ?kP8 ?pP8 ?iG ?yG ?lG ?kG ?pG ?iL ?yL ?lL ?kL ?pL ?iA ?yA ?lA ?kA ?pA ?iQ ?yQ ?lQ ?kQ ?pQ ?iM1 ?yM1 ?lM1 ?kM1 ?pM1 ?iM2 ?yM2 ?lM2 ?kM2 ?pM2 ?iM3 ?yM3 ?lM3 ?kM3 ?pM3 ?iM4 ?yM4 ?lM4 ?kM4 ?pM4 ?iM5 ?yM5 ?lM5 ?kM5 ?pM5 ?iM6 ?yM6 ?lM6 ?kM6 ?pM6 ?iM7 ?yM7 ?lM7 ?kM7 ?pM7 ?iM8 ?yM8 ?lM8 ?kM8 ?pM8 ?iV1 ?yV1 ?lV1 ?kV1 ?pV1 ?iV2 ?yV2 ?lV2 ?kV2 ?pV2 ?cg ?ct ?fnG ?sf ?rc ?rd
      (case aC => k_is)
      (case c1C => k_is)
      (case c2C => k_is)
      (case c3C => k_is)
      (case c4C => k_is)
      (case c5C => k_is)
      (case c6C => k_is)
      (case c7C => k_is)
      (case c8C => k_is)
      (case lIC => k_is)
      (case kIC => k_is)
      (case pIC => k_is)
      (case n1C => k_is)
      (case n2C => k_is)
      (case n3C => k_is)
      (case n4C => k_is)
      (case n5C => k_is)
      (case moC => k_is)
      (case neC => k_is)
      (case caC => k_is)
      (case gCC => k_is)
      (case tCC => k_is)
      (case aP1 => k_is)
      (case bP1 => k_is)
      (case tP1 => k_is)
      (case rP1 => k_is)
      (case lP1 => k_is)
      (case kP1 => k_is)
      (case pP1 => k_is)
      (case aP2 => k_is)
      (case bP2 => k_is)
      (case tP2 => k_is)
      (case rP2 => k_is)
      (case lP2 => k_is)
      (case kP2 => k_is)
      (case pP2 => k_is)
      (case aP3 => k_is)
      (case bP3 => k_is)
      (case tP3 => k_is)
      (case rP3 => k_is)
      (case lP3 => k_is)
      (case kP3 => k_is)
      (case pP3 => k_is)
      (case aP4 => k_is)
      (case bP4 => k_is)
      (case tP4 => k_is)
      (case rP4 => k_is)
      (case lP4 => k_is)
      (case kP4 => k_is)
      (case pP4 => k_is)
      (case aP5 => k_is)
      (case bP5 => k_is)
      (case tP5 => k_is)
      (case rP5 => k_is)
      (case lP5 => k_is)
      (case kP5 => k_is)
      (case pP5 => k_is)
      (case aP6 => k_is)
      (case bP6 => k_is)
      (case tP6 => k_is)
      (case rP6 => k_is)
      (case lP6 => k_is)
      (case kP6 => k_is)
      (case pP6 => k_is)
      (case aP7 => k_is)
      (case bP7 => k_is)
      (case tP7 => k_is)
      (case rP7 => k_is)
      (case lP7 => k_is)
      (case kP7 => k_is)
      (case pP7 => k_is)
      (case aP8 => k_is)
      (case bP8 => k_is)
      (case tP8 => k_is)
      (case rP8 => k_is)
      (case lP8 => k_is)
      (case kP8 => k_is)
      (case pP8 => k_is)
      (case iG => k_is)
      (case yG => k_is)
      (case lG => k_is)
      (case kG => k_is)
      (case pG => k_is)
      (case iL => k_is)
      (case yL => k_is)
      (case lL => k_is)
      (case kL => k_is)
      (case pL => k_is)
      (case iA => k_is)
      (case yA => k_is)
      (case lA => k_is)
      (case kA => k_is)
      (case pA => k_is)
      (case iQ => k_is)
      (case yQ => k_is)
      (case lQ => k_is)
      (case kQ => k_is)
      (case pQ => k_is)
      (case iM1 => k_is)
      (case yM1 => k_is)
      (case lM1 => k_is)
      (case kM1 => k_is)
      (case pM1 => k_is)
      (case iM2 => k_is)
      (case yM2 => k_is)
      (case lM2 => k_is)
      (case kM2 => k_is)
      (case pM2 => k_is)
      (case iM3 => k_is)
      (case yM3 => k_is)
      (case lM3 => k_is)
      (case kM3 => k_is)
      (case pM3 => k_is)
      (case iM4 => k_is)
      (case yM4 => k_is)
      (case lM4 => k_is)
      (case kM4 => k_is)
      (case pM4 => k_is)
      (case iM5 => k_is)
      (case yM5 => k_is)
      (case lM5 => k_is)
      (case kM5 => k_is)
      (case pM5 => k_is)
      (case iM6 => k_is)
      (case yM6 => k_is)
      (case lM6 => k_is)
      (case kM6 => k_is)
      (case pM6 => k_is)
      (case iM7 => k_is)
      (case yM7 => k_is)
      (case lM7 => k_is)
      (case kM7 => k_is)
      (case pM7 => k_is)
      (case iM8 => k_is)
      (case yM8 => k_is)
      (case lM8 => k_is)
      (case kM8 => k_is)
      (case pM8 => k_is)
      (case iV1 => k_is)
      (case yV1 => k_is)
      (case lV1 => k_is)
      (case kV1 => k_is)
      (case pV1 => k_is)
      (case iV2 => k_is)
      (case yV2 => k_is)
      (case lV2 => k_is)
      (case kV2 => k_is)
      (case pV2 => k_is)
      (case cg => k_is)
      (case ct => k_is)
      (case fnG => k_is)
      (case sf => k_is)
      (case rc => k_is)
      (case rd => k_is)
