import PyProof.Rows.All
import Wide.All
import OpenK.AllK
import Wide.FinOn
import HandS.ForMost
import HandS.Wide
import HandS.IsInst
import HandS.Walk
import HandS.Style
import HandS.ForExc
import HandS.ExcInit
import HandS.Lambda
import HandS.Defaults
import HandS.MakeKwOnly
import HandS.TryMany
import KE.DataCmp
import HandS.EndTab
import HandS.DictComp
import HandS.DeepEq
import HandS.Property
import HandS.FStr
import HandS.Iter
import HandS.Finally
import HandS.ListItems
import KE.KNestM
import PyProof.ReprRoads
import PyProof.ListStr
import PyProof.StrBlock2
import HandS.Conv
import HandS.WordsDict
import HandS.List
import KE.KFmtOwn
import HandS.OwnEq
import HandS.More
import HandS.RaiseMore
import PyProof.InstNe
import OpenK.KMeth
import OpenK.KOps
import PyProof.EqKinds
import KE.DataEq
import KE.KDictList
import HandS.Text
import HandS.ClsMeth
import KE.RegKIsAll
import PySem.Challenge.RW_overrounds_k37_spans_told
set_option Elab.async false
set_option linter.all false
set_option maxRecDepth 100000
set_option maxHeartbeats 2000000
namespace K37
open PySem L2
def top (i : Nat) : Stmt := PySem.Challenge.pw_overrounds_k37_spans_told.main.body.getD i (.Pass ⟨0, 0, 0, 0⟩)
abbrev s_wall : Stmt := top 0
abbrev s_is_name : Stmt := top 10
abbrev s_is_integer : Stmt := top 11
abbrev s_is_between : Stmt := top 12
abbrev s_check_integer : Stmt := top 13
abbrev s_check_between : Stmt := top 14
abbrev s_check_interval : Stmt := top 15
abbrev s_times_alive : Stmt := top 16
abbrev s_ascends : Stmt := top 18
abbrev s_is_span : Stmt := top 22
abbrev s_are_rows : Stmt := top 23
abbrev s_w_tray : Stmt := top 26
abbrev s_w_roll : Stmt := top 27
abbrev s_w_pick : Stmt := top 28
abbrev s_w_few : Stmt := top 29
abbrev s_w_names : Stmt := top 30
abbrev s_w_rings : Stmt := top 31
abbrev s_w_rows : Stmt := top 32
abbrev s_w_sorted : Stmt := top 33
abbrev s_w_near : Stmt := top 34
abbrev s_w_odd : Stmt := top 35
abbrev s_w_is_told : Stmt := top 36
abbrev s_w_right : Stmt := top 37
abbrev s_law : Stmt := top 38
abbrev s_RoundError_init : Stmt := inClass (top 2) 0
abbrev s_UnknownName_init : Stmt := inClass (top 5) 0
abbrev s_InvalidNumber_init : Stmt := inClass (top 6) 0
abbrev s_Spans_init : Stmt := inClass (top 24) 0
abbrev s_Spans_interval : Stmt := inClass (top 24) 1
abbrev s_Spans_rows : Stmt := inClass (top 24) 2
abbrev s_Spans_names : Stmt := inClass (top 24) 3
abbrev s_Spans_most : Stmt := inClass (top 24) 4
abbrev s_Spans_peaks : Stmt := inClass (top 24) 5
abbrev s_Spans_total : Stmt := inClass (top 24) 6
abbrev s_Spans_pieces : Stmt := inClass (top 24) 7
abbrev s_Spans_normal : Stmt := inClass (top 24) 8
abbrev s_Spans_sums : Stmt := inClass (top 24) 9
abbrev s_Spans_chosen : Stmt := inClass (top 24) 10
abbrev s_Spans_alive : Stmt := inClass (top 24) 11
abbrev s_Spans_across : Stmt := inClass (top 24) 12
abbrev s_Spans_is_full : Stmt := inClass (top 24) 13
abbrev s_Spans_most_of : Stmt := inClass (top 24) 14
abbrev s_Spans_full_slots : Stmt := inClass (top 24) 15
abbrev s_Spans_is_apart : Stmt := inClass (top 24) 16
abbrev s_Spans_linked : Stmt := inClass (top 24) 17
abbrev s_Spans_has_free : Stmt := inClass (top 24) 18
abbrev s_Spans_each_alive : Stmt := inClass (top 24) 19
abbrev s_Spans_getitem : Stmt := inClass (top 24) 20
abbrev s_Spans_contains : Stmt := inClass (top 24) 21
abbrev s_Spans_len : Stmt := inClass (top 24) 22
abbrev s_Spans_iter : Stmt := inClass (top 24) 23
abbrev s_Spans_later : Stmt := inClass (top 24) 24
abbrev s_Spans_add : Stmt := inClass (top 24) 25
abbrev s_Spans_or : Stmt := inClass (top 24) 26
abbrev s_Spans_and : Stmt := inClass (top 24) 27
abbrev s_Spans_eq : Stmt := inClass (top 24) 28
abbrev s_Spans_str : Stmt := inClass (top 24) 29
theorem sc_RoundError_init : FnScope ["self", "told"] ["self", "told"] (defScope s_RoundError_init) := ⟨rfl, rfl, rfl, by decide +kernel, rfl, by decide +kernel, by decide +kernel⟩
theorem sc_UnknownName_init : FnScope ["self", "wanted"] ["self", "wanted"] (defScope s_UnknownName_init) := ⟨rfl, rfl, rfl, by decide +kernel, rfl, by decide +kernel, by decide +kernel⟩
theorem sc_InvalidNumber_init : FnScope ["self", "value"] ["self", "value"] (defScope s_InvalidNumber_init) := ⟨rfl, rfl, rfl, by decide +kernel, rfl, by decide +kernel, by decide +kernel⟩
theorem sc_Spans_init : FnScope ["self", "interval", "rows", "name", "begin", "end", "slot"] ["self", "interval", "rows"] (defScope s_Spans_init) := ⟨rfl, rfl, rfl, by decide +kernel, rfl, by decide +kernel, by decide +kernel⟩
theorem sc_Spans_interval : FnScope ["self"] ["self"] (defScope s_Spans_interval) := ⟨rfl, rfl, rfl, by decide +kernel, rfl, by decide +kernel, by decide +kernel⟩
theorem sc_Spans_rows : FnScope ["self"] ["self"] (defScope s_Spans_rows) := ⟨rfl, rfl, rfl, by decide +kernel, rfl, by decide +kernel, by decide +kernel⟩
theorem sc_Spans_names : FnScope ["self"] ["self"] (defScope s_Spans_names) := ⟨rfl, rfl, rfl, by decide +kernel, rfl, by decide +kernel, by decide +kernel⟩
theorem sc_Spans_most : FnScope ["self"] ["self"] (defScope s_Spans_most) := ⟨rfl, rfl, rfl, by decide +kernel, rfl, by decide +kernel, by decide +kernel⟩
theorem sc_Spans_peaks : FnScope ["self"] ["self"] (defScope s_Spans_peaks) := ⟨rfl, rfl, rfl, by decide +kernel, rfl, by decide +kernel, by decide +kernel⟩
theorem sc_Spans_total : FnScope ["self", "begin", "end"] ["self"] (defScope s_Spans_total) := ⟨rfl, rfl, rfl, by decide +kernel, rfl, by decide +kernel, by decide +kernel⟩
theorem sc_Spans_pieces : FnScope ["self"] ["self"] (defScope s_Spans_pieces) := ⟨rfl, rfl, rfl, by decide +kernel, rfl, by decide +kernel, by decide +kernel⟩
theorem sc_Spans_normal : FnScope ["self", "rows", "name", "begin", "end"] ["self"] (defScope s_Spans_normal) := ⟨rfl, rfl, rfl, by decide +kernel, rfl, by decide +kernel, by decide +kernel⟩
theorem sc_Spans_sums : FnScope ["self", "counts", "names", "slot", "name"] ["self", "counts", "names"] (defScope s_Spans_sums) := ⟨rfl, rfl, rfl, by decide +kernel, rfl, by decide +kernel, by decide +kernel⟩
theorem sc_Spans_chosen : FnScope ["self", "names", "name"] ["self", "names"] (defScope s_Spans_chosen) := ⟨rfl, rfl, rfl, by decide +kernel, rfl, by decide +kernel, by decide +kernel⟩
theorem sc_Spans_alive : FnScope ["self", "tick", "names", "chosen", "name"] ["self", "tick", "names"] (defScope s_Spans_alive) := ⟨rfl, rfl, rfl, by decide +kernel, rfl, by decide +kernel, by decide +kernel⟩
theorem sc_Spans_across : FnScope ["self", "moment", "names"] ["self", "moment", "names"] (defScope s_Spans_across) := ⟨rfl, rfl, rfl, by decide +kernel, rfl, by decide +kernel, by decide +kernel⟩
theorem sc_Spans_is_full : FnScope ["self", "moment", "names"] ["self", "moment", "names"] (defScope s_Spans_is_full) := ⟨rfl, rfl, rfl, by decide +kernel, rfl, by decide +kernel, by decide +kernel⟩
theorem sc_Spans_most_of : FnScope ["self", "names"] ["self", "names"] (defScope s_Spans_most_of) := ⟨rfl, rfl, rfl, by decide +kernel, rfl, by decide +kernel, by decide +kernel⟩
theorem sc_Spans_full_slots : FnScope ["self", "names"] ["self", "names"] (defScope s_Spans_full_slots) := ⟨rfl, rfl, rfl, by decide +kernel, rfl, by decide +kernel, by decide +kernel⟩
theorem sc_Spans_is_apart : FnScope ["self", "names"] ["self", "names"] (defScope s_Spans_is_apart) := ⟨rfl, rfl, rfl, by decide +kernel, rfl, by decide +kernel, by decide +kernel⟩
theorem sc_Spans_linked : FnScope ["self", "peak"] ["self", "peak"] (defScope s_Spans_linked) := ⟨rfl, rfl, rfl, by decide +kernel, rfl, by decide +kernel, by decide +kernel⟩
theorem sc_Spans_has_free : FnScope ["self", "names", "peak", "slot"] ["self", "names", "peak", "slot"] (defScope s_Spans_has_free) := ⟨rfl, rfl, rfl, by decide +kernel, rfl, by decide +kernel, by decide +kernel⟩
theorem sc_Spans_each_alive : FnScope ["self", "tick"] ["self", "tick"] (defScope s_Spans_each_alive) := ⟨rfl, rfl, rfl, by decide +kernel, rfl, by decide +kernel, by decide +kernel⟩
theorem sc_Spans_getitem : FnScope ["self", "name"] ["self", "name"] (defScope s_Spans_getitem) := ⟨rfl, rfl, rfl, by decide +kernel, rfl, by decide +kernel, by decide +kernel⟩
theorem sc_Spans_contains : FnScope ["self", "value"] ["self", "value"] (defScope s_Spans_contains) := ⟨rfl, rfl, rfl, by decide +kernel, rfl, by decide +kernel, by decide +kernel⟩
theorem sc_Spans_len : FnScope ["self"] ["self"] (defScope s_Spans_len) := ⟨rfl, rfl, rfl, by decide +kernel, rfl, by decide +kernel, by decide +kernel⟩
theorem sc_Spans_iter : FnScope ["self"] ["self"] (defScope s_Spans_iter) := ⟨rfl, rfl, rfl, by decide +kernel, rfl, by decide +kernel, by decide +kernel⟩
theorem sc_Spans_later : FnScope ["self", "ticks", "name", "begin", "end"] ["self", "ticks"] (defScope s_Spans_later) := ⟨rfl, rfl, rfl, by decide +kernel, rfl, by decide +kernel, by decide +kernel⟩
theorem sc_Spans_add : FnScope ["self", "other"] ["self", "other"] (defScope s_Spans_add) := ⟨rfl, rfl, rfl, by decide +kernel, rfl, by decide +kernel, by decide +kernel⟩
theorem sc_Spans_or : FnScope ["self", "other", "rows", "name"] ["self", "other"] (defScope s_Spans_or) := ⟨rfl, rfl, rfl, by decide +kernel, rfl, by decide +kernel, by decide +kernel⟩
theorem sc_Spans_and : FnScope ["self", "other", "name"] ["self", "other"] (defScope s_Spans_and) := ⟨rfl, rfl, rfl, by decide +kernel, rfl, by decide +kernel, by decide +kernel⟩
theorem sc_Spans_eq : FnScope ["self", "other"] ["self", "other"] (defScope s_Spans_eq) := ⟨rfl, rfl, rfl, by decide +kernel, rfl, by decide +kernel, by decide +kernel⟩
theorem sc_Spans_str : FnScope ["self"] ["self"] (defScope s_Spans_str) := ⟨rfl, rfl, rfl, by decide +kernel, rfl, by decide +kernel, by decide +kernel⟩
theorem sc_wall : FnScope ["k"] ["k"] (defScope s_wall) := ⟨rfl, rfl, rfl, by decide +kernel, rfl, by decide +kernel, by decide +kernel⟩
theorem sc_is_name : FnScope ["value", "letter"] ["value"] (defScope s_is_name) := ⟨rfl, rfl, rfl, by decide +kernel, rfl, by decide +kernel, by decide +kernel⟩
theorem sc_is_integer : FnScope ["value"] ["value"] (defScope s_is_integer) := ⟨rfl, rfl, rfl, by decide +kernel, rfl, by decide +kernel, by decide +kernel⟩
theorem sc_is_between : FnScope ["value", "low", "high"] ["value", "low", "high"] (defScope s_is_between) := ⟨rfl, rfl, rfl, by decide +kernel, rfl, by decide +kernel, by decide +kernel⟩
theorem sc_check_integer : FnScope ["value"] ["value"] (defScope s_check_integer) := ⟨rfl, rfl, rfl, by decide +kernel, rfl, by decide +kernel, by decide +kernel⟩
theorem sc_check_between : FnScope ["value", "low", "high"] ["value", "low", "high"] (defScope s_check_between) := ⟨rfl, rfl, rfl, by decide +kernel, rfl, by decide +kernel, by decide +kernel⟩
theorem sc_check_interval : FnScope ["value"] ["value"] (defScope s_check_interval) := ⟨rfl, rfl, rfl, by decide +kernel, rfl, by decide +kernel, by decide +kernel⟩
theorem sc_times_alive : FnScope ["begin", "end", "tick", "interval"] ["begin", "end", "tick", "interval"] (defScope s_times_alive) := ⟨rfl, rfl, rfl, by decide +kernel, rfl, by decide +kernel, by decide +kernel⟩
theorem sc_ascends : FnScope ["row", "at"] ["row"] (defScope s_ascends) := ⟨rfl, rfl, rfl, by decide +kernel, rfl, by decide +kernel, by decide +kernel⟩
theorem sc_is_span : FnScope ["interval", "value"] ["interval", "value"] (defScope s_is_span) := ⟨rfl, rfl, rfl, by decide +kernel, rfl, by decide +kernel, by decide +kernel⟩
theorem sc_are_rows : FnScope ["interval", "value", "name"] ["interval", "value"] (defScope s_are_rows) := ⟨rfl, rfl, rfl, by decide +kernel, rfl, by decide +kernel, by decide +kernel⟩
theorem sc_w_tray : FnScope ["script", "spot", "cell", "great", "begin"] ["script", "spot"] (defScope s_w_tray) := ⟨rfl, rfl, rfl, by decide +kernel, rfl, by decide +kernel, by decide +kernel⟩
theorem sc_w_roll : FnScope ["tray", "total", "found", "one", "two"] ["tray", "total"] (defScope s_w_roll) := ⟨rfl, rfl, rfl, by decide +kernel, rfl, by decide +kernel, by decide +kernel⟩
theorem sc_w_pick : FnScope ["tray", "items"] ["tray", "items"] (defScope s_w_pick) := ⟨rfl, rfl, rfl, by decide +kernel, rfl, by decide +kernel, by decide +kernel⟩
theorem sc_w_few : FnScope ["tray", "items", "many", "left", "found", "turn"] ["tray", "items", "many"] (defScope s_w_few) := ⟨rfl, rfl, rfl, by decide +kernel, rfl, by decide +kernel, by decide +kernel⟩
theorem sc_w_names : FnScope ["tray", "many", "letters", "stem", "found", "letter", "turn", "size"] ["tray", "many"] (defScope s_w_names) := ⟨rfl, rfl, rfl, by decide +kernel, rfl, by decide +kernel, by decide +kernel⟩
theorem sc_w_rings : FnScope ["tray", "interval", "names", "rows", "left", "some", "first", "begin", "name", "last"] ["tray", "interval", "names"] (defScope s_w_rings) := ⟨rfl, rfl, rfl, by decide +kernel, rfl, by decide +kernel, by decide +kernel⟩
theorem sc_w_rows : FnScope ["tray", "interval", "names", "rows", "name", "begin", "size"] ["tray", "interval", "names"] (defScope s_w_rows) := ⟨rfl, rfl, rfl, by decide +kernel, rfl, by decide +kernel, by decide +kernel⟩
theorem sc_w_sorted : FnScope ["rows", "name"] ["rows"] (defScope s_w_sorted) := ⟨rfl, rfl, rfl, by decide +kernel, rfl, by decide +kernel, by decide +kernel⟩
theorem sc_w_near : FnScope ["tray", "rows", "interval", "name", "begin", "end", "near", "found"] ["tray", "rows", "interval"] (defScope s_w_near) := ⟨rfl, rfl, rfl, by decide +kernel, rfl, by decide +kernel, by decide +kernel⟩
theorem sc_w_odd : FnScope ["tray", "rows", "spans", "name", "odd", "free", "letter", "one"] ["tray", "rows", "spans"] (defScope s_w_odd) := ⟨rfl, rfl, rfl, by decide +kernel, rfl, by decide +kernel, by decide +kernel⟩
theorem sc_w_is_told : FnScope ["tray", "spans", "rows", "interval", "due", "names", "told", "total", "odd", "name", "one"] ["tray", "spans", "rows", "interval"] (defScope s_w_is_told) := ⟨rfl, rfl, rfl, by decide +kernel, rfl, by decide +kernel, by decide +kernel⟩
theorem sc_w_right : FnScope ["tray", "interval", "rows", "far", "passed", "spans", "other", "moved", "name", "first", "normal", "near"] ["tray"] (defScope s_w_right) := ⟨rfl, rfl, rfl, by decide +kernel, rfl, by decide +kernel, by decide +kernel⟩
theorem sc_law : FnScope ["script", "spot", "one", "told", "due"] ["script"] (defScope s_law) := ⟨rfl, rfl, rfl, by decide +kernel, rfl, by decide +kernel, by decide +kernel⟩
/-- where the defs stand, and what the names hold -/
structure T (K : PySem.W.Frag) (mg : Str → Option Value) where
  f_wall : Addr
  d_wall : FuncData
  F_wall : Fun K "_wall" "_wall" s_wall f_wall d_wall
  m_wall : mg "_wall" = some (.ref f_wall)
  b_wall : Binds K d_wall ["k"] []
  f_is_name : Addr
  d_is_name : FuncData
  F_is_name : Fun K "is_name" "is_name" s_is_name f_is_name d_is_name
  m_is_name : mg "is_name" = some (.ref f_is_name)
  b_is_name : Binds K d_is_name ["value"] []
  f_is_integer : Addr
  d_is_integer : FuncData
  F_is_integer : Fun K "is_integer" "is_integer" s_is_integer f_is_integer d_is_integer
  m_is_integer : mg "is_integer" = some (.ref f_is_integer)
  b_is_integer : Binds K d_is_integer ["value"] []
  f_is_between : Addr
  d_is_between : FuncData
  F_is_between : Fun K "is_between" "is_between" s_is_between f_is_between d_is_between
  m_is_between : mg "is_between" = some (.ref f_is_between)
  b_is_between : Binds K d_is_between ["value", "low", "high"] []
  f_check_integer : Addr
  d_check_integer : FuncData
  F_check_integer : Fun K "check_integer" "check_integer" s_check_integer f_check_integer d_check_integer
  m_check_integer : mg "check_integer" = some (.ref f_check_integer)
  b_check_integer : Binds K d_check_integer ["value"] []
  f_check_between : Addr
  d_check_between : FuncData
  F_check_between : Fun K "check_between" "check_between" s_check_between f_check_between d_check_between
  m_check_between : mg "check_between" = some (.ref f_check_between)
  b_check_between : Binds K d_check_between ["value", "low", "high"] []
  f_check_interval : Addr
  d_check_interval : FuncData
  F_check_interval : Fun K "check_interval" "check_interval" s_check_interval f_check_interval d_check_interval
  m_check_interval : mg "check_interval" = some (.ref f_check_interval)
  b_check_interval : Binds K d_check_interval ["value"] []
  f_times_alive : Addr
  d_times_alive : FuncData
  F_times_alive : Fun K "times_alive" "times_alive" s_times_alive f_times_alive d_times_alive
  m_times_alive : mg "times_alive" = some (.ref f_times_alive)
  b_times_alive : Binds K d_times_alive ["begin", "end", "tick", "interval"] []
  f_ascends : Addr
  d_ascends : FuncData
  F_ascends : Fun K "ascends" "ascends" s_ascends f_ascends d_ascends
  m_ascends : mg "ascends" = some (.ref f_ascends)
  b_ascends : Binds K d_ascends ["row"] []
  f_is_span : Addr
  d_is_span : FuncData
  F_is_span : Fun K "_is_span" "_is_span" s_is_span f_is_span d_is_span
  m_is_span : mg "_is_span" = some (.ref f_is_span)
  b_is_span : Binds K d_is_span ["interval", "value"] []
  f_are_rows : Addr
  d_are_rows : FuncData
  F_are_rows : Fun K "_are_rows" "_are_rows" s_are_rows f_are_rows d_are_rows
  m_are_rows : mg "_are_rows" = some (.ref f_are_rows)
  b_are_rows : Binds K d_are_rows ["interval", "value"] []
  f_w_tray : Addr
  d_w_tray : FuncData
  F_w_tray : Fun K "_law_tray" "_law_tray" s_w_tray f_w_tray d_w_tray
  m_w_tray : mg "_law_tray" = some (.ref f_w_tray)
  b_w_tray : Binds K d_w_tray ["script", "spot"] []
  f_w_roll : Addr
  d_w_roll : FuncData
  F_w_roll : Fun K "_law_roll" "_law_roll" s_w_roll f_w_roll d_w_roll
  m_w_roll : mg "_law_roll" = some (.ref f_w_roll)
  b_w_roll : Binds K d_w_roll ["tray", "total"] []
  f_w_pick : Addr
  d_w_pick : FuncData
  F_w_pick : Fun K "_law_pick" "_law_pick" s_w_pick f_w_pick d_w_pick
  m_w_pick : mg "_law_pick" = some (.ref f_w_pick)
  b_w_pick : Binds K d_w_pick ["tray", "items"] []
  f_w_few : Addr
  d_w_few : FuncData
  F_w_few : Fun K "_law_few" "_law_few" s_w_few f_w_few d_w_few
  m_w_few : mg "_law_few" = some (.ref f_w_few)
  b_w_few : Binds K d_w_few ["tray", "items", "many"] []
  f_w_names : Addr
  d_w_names : FuncData
  F_w_names : Fun K "_law_names" "_law_names" s_w_names f_w_names d_w_names
  m_w_names : mg "_law_names" = some (.ref f_w_names)
  b_w_names : Binds K d_w_names ["tray", "many"] []
  f_w_rings : Addr
  d_w_rings : FuncData
  F_w_rings : Fun K "_law_rings" "_law_rings" s_w_rings f_w_rings d_w_rings
  m_w_rings : mg "_law_rings" = some (.ref f_w_rings)
  b_w_rings : Binds K d_w_rings ["tray", "interval", "names"] []
  f_w_rows : Addr
  d_w_rows : FuncData
  F_w_rows : Fun K "_law_rows" "_law_rows" s_w_rows f_w_rows d_w_rows
  m_w_rows : mg "_law_rows" = some (.ref f_w_rows)
  b_w_rows : Binds K d_w_rows ["tray", "interval", "names"] []
  f_w_sorted : Addr
  d_w_sorted : FuncData
  F_w_sorted : Fun K "_law_sorted" "_law_sorted" s_w_sorted f_w_sorted d_w_sorted
  m_w_sorted : mg "_law_sorted" = some (.ref f_w_sorted)
  b_w_sorted : Binds K d_w_sorted ["rows"] []
  f_w_near : Addr
  d_w_near : FuncData
  F_w_near : Fun K "_law_near" "_law_near" s_w_near f_w_near d_w_near
  m_w_near : mg "_law_near" = some (.ref f_w_near)
  b_w_near : Binds K d_w_near ["tray", "rows", "interval"] []
  f_w_odd : Addr
  d_w_odd : FuncData
  F_w_odd : Fun K "_law_odd" "_law_odd" s_w_odd f_w_odd d_w_odd
  m_w_odd : mg "_law_odd" = some (.ref f_w_odd)
  b_w_odd : Binds K d_w_odd ["tray", "rows", "spans"] []
  f_w_is_told : Addr
  d_w_is_told : FuncData
  F_w_is_told : Fun K "_law_is_told" "_law_is_told" s_w_is_told f_w_is_told d_w_is_told
  m_w_is_told : mg "_law_is_told" = some (.ref f_w_is_told)
  b_w_is_told : Binds K d_w_is_told ["tray", "spans", "rows", "interval"] []
  f_w_right : Addr
  d_w_right : FuncData
  F_w_right : Fun K "_law_right" "_law_right" s_w_right f_w_right d_w_right
  m_w_right : mg "_law_right" = some (.ref f_w_right)
  b_w_right : Binds K d_w_right ["tray"] []
  f_law : Addr
  d_law : FuncData
  F_law : Fun K "law" "law" s_law f_law d_law
  m_law : mg "law" = some (.ref f_law)
  b_law : Binds K d_law ["script"] []
  c_MAX_INTERVAL : ∃ t, mg "MAX_INTERVAL" = some (.int 32 t)
  c_MAX_LETTERS : ∃ t, mg "MAX_LETTERS" = some (.int 8 t)
  c_MAX_VALUES : ∃ t, mg "MAX_VALUES" = some (.int 8 t)
  c_MAX_LIFE : ∃ t, mg "MAX_LIFE" = some (.int 8 t)
  z_int : mg "int" = none
  z_abs : mg "abs" = none
  z_len : mg "len" = none
  z_max : mg "max" = none
  z_min : mg "min" = none
  z_range : mg "range" = none
  z_sum : mg "sum" = none
  z_isinstance : mg "isinstance" = none
  z_repr : mg "repr" = none
  z_str : mg "str" = none
  z_all : mg "all" = none
  z_any : mg "any" = none
  z_sorted : mg "sorted" = none
  z_tuple : mg "tuple" = none
  z_list : mg "list" = none
  z_dict : mg "dict" = none
  z_set : mg "set" = none
  z_bool : mg "bool" = none
/-- a list of three ints stands at r -/
def Rl (H : Hp) (r : Addr) : Prop := ∃ a b c : Int, H r = some (.lst [.int a, .int b, .int c])
/-- what the heap held, but for what stands at r -/
def Only (r : Addr) (H H' : Hp) : Prop := ∀ b o, b ≠ r → H b = some o → H' b = some o
theorem Only.refl {r : Addr} {H : Hp} : Only r H H := fun _ _ _ e => e
theorem Only.trans {r : Addr} {H H1 H2 : Hp} (a : Only r H H1) (b : Only r H1 H2) : Only r H H2 := fun c o n e => b c o n (a c o n e)
theorem Only.upd {r : Addr} {H : Hp} {o : HO} : Only r H (upd H r o) := fun b _ n e => by rw [upd_ne n]; exact e
theorem Only.new {r p : Addr} {H : Hp} {o : HO} (n : H p = none) : Only r H (L2.upd H p o) := fun b _ _ e => by rw [upd_ne (ne_of_none e n)]; exact e
theorem Rl.new {r p : Addr} {H : Hp} {o : HO} (h : Rl H r) (n : H p = none) : Rl (upd H p o) r := by
  obtain ⟨a, b, c, e⟩ := h
  exact ⟨a, b, c, by rw [upd_ne (ne_of_none e n)]; exact e⟩
theorem Rl.ne {r p : Addr} {H : Hp} (h : Rl H r) (n : H p = none) : p ≠ r := by
  obtain ⟨a, b, c, e⟩ := h
  exact (ne_of_none e n).symm
theorem Only.seqL {K : PySem.W.Frag} {r l : Addr} {H H' : Hp} {xs : List V} (o : Only r H H') (n : l ≠ r) (h : SqL K H l xs) : SqL K H' l xs := by
  rcases h with (h | ⟨u, h⟩) | h
  · exact .inl (.inl (o _ _ n h))
  · exact .inl (.inr ⟨u, o _ _ n h⟩)
  · exact .inr h
theorem Only.seqT {K : PySem.W.Frag} {r l : Addr} {H H' : Hp} {xs : List V} (o : Only r H H') (n : l ≠ r) (h : SqT K H l xs) : SqT K H' l xs := by
  rcases h with (h | ⟨u, h⟩) | h
  · exact .inl (.inl (o _ _ n h))
  · exact .inl (.inr ⟨u, o _ _ n h⟩)
  · exact .inr h
theorem ix_at {α : Type} {xs : List α} {i : Int} (h0 : 0 ≤ i) (h1 : i < xs.length) : ∃ v, v ∈ xs ∧ atI xs i = some v := by
  have h2 : i.toNat < xs.length := by omega
  refine ⟨xs[i.toNat], List.getElem_mem h2, ?_⟩
  have h3 : ((i.toNat : Nat) : Int) = i := Int.toNat_of_nonneg h0
  have := atI_nat (xs := xs) (j := i.toNat) (List.getElem?_eq_getElem h2)
  rw [h3] at this
  exact this
/-- what a draw is made from: a list, a tuple, a text -/
def SeqV (K : PySem.W.Frag) (H : Hp) (r : Addr) (x : V) (xs : List V) : Prop :=
  (∃ l, x = .ref l ∧ l ≠ r ∧ (SqL K H l xs ∨ SqT K H l xs)) ∨ (∃ z : Str, x = .str z ∧ z.length ≤ sizeLine ∧ xs = z.cps.toList.map fun c => V.str ⟨#[c]⟩)
theorem lg {i : Int} {b : Nat} (h0 : 0 ≤ i) (h : i < 2 ^ b) (hb : 0 < b) : i.natAbs.log2 < b := by
  refine PySem.Flt.log2_lt_of hb ?_
  have : (i.natAbs : Int) = i := Int.natAbs_of_nonneg h0
  have h2 : ((i.natAbs : Nat) : Int) < ((2 ^ b : Nat) : Int) := by rw [this, Int.natCast_pow]; exact h
  exact Int.ofNat_lt.mp h2
section
variable {X : Cx}
theorem op_powW : OpR X (binaryOp .Pow) (rI (fun i j => 0 ≤ j ∧ (Builtin.Int.intBits i : Int) * j ≤ 2 ^ 27) fun i j => .int (i ^ j.toNat)) := opI fun _ _ _ _ _ _ _ hc q => PyProof.Rows.pow_int hc.1 hc.2 q
end
theorem ite_join {c : Bool} {ta tb : TE} {σ : St} {H : Hp} {Q : VK} (R : V → Hp → Prop) (ha : c = true → ∀ Q' : VK, (∀ v H', R v H' → Q' v H') → ta σ H Q') (hb : c = false → ∀ Q' : VK, (∀ v H', R v H' → Q' v H') → tb σ H Q')
    (h : ∀ v H', R v H' → Q v H') : if c = true then ta σ H Q else tb σ H Q := by
  cases c with
  | true => exact iteT (ha rfl Q h)
  | false => exact iteF (hb rfl Q h)
theorem at_ns {ns : List Int} {i : Nat} (h : i < ns.length) : ∃ z, atI (ns.map V.int) (i : Int) = some (.int z) :=
  ⟨ns[i], atI_nat (by rw [List.getElem?_map, List.getElem?_eq_getElem h]; rfl)⟩
theorem bl_t {Q : VK} {b : Bool} {H : Hp} (e : b = true) (k : Q (.bl true) H) : Q (.bl b) H := e ▸ k
theorem int_to {Q : VK} {i j : Int} {H : Hp} (e : i = j) (k : Q (.int j) H) : Q (.int i) H := e ▸ k
theorem if_ne {x y : V} {A B : Prop} (h : x ≠ y) (a : A) : if (!decide (x = y)) = true then A else B := by
  rw [decide_eq_false h]
  exact iteT a
theorem if_dec_t {x y : V} {A B : Prop} (h : x = y) (a : A) : if decide (x = y) = true then A else B := by
  rw [decide_eq_true h]
  exact iteT a
theorem if_dec_f {x y : V} {A B : Prop} (h : x ≠ y) (b : B) : if decide (x = y) = true then A else B := by
  rw [decide_eq_false h]
  exact iteF b
theorem dp_all {K : PySem.W.Frag} {H : Hp} : ∀ ns : List Int, DpAll K H (ns.map V.int) (ns.map PyData.int)
  | [] => .nil
  | n :: r => .cons (.int n) (dp_all r)
theorem dp_ints {K : PySem.W.Frag} {H : Hp} {a : Addr} (ns : List Int) (h : SqL K H a (ns.map V.int)) : Dp K H (.ref a) (.list (ns.map PyData.int)) := .lst h (dp_all ns)
theorem cells_n (n m : Nat) : ((if (if ((n : Nat) : Int) < (m : Int) then ((n : Nat) : Int) else (m : Int)) > 1 then (if ((n : Nat) : Int) < (m : Int) then ((n : Nat) : Int) else (m : Int)) else 1) : Int) ≤ (m : Int) + 1 ∧ 1 ≤ ((if (if ((n : Nat) : Int) < (m : Int) then ((n : Nat) : Int) else (m : Int)) > 1 then (if ((n : Nat) : Int) < (m : Int) then ((n : Nat) : Int) else (m : Int)) else 1) : Int) := by
  split <;> split <;> omega
def nmC (z : Str) : Bool := decide (1 ≤ z.length ∧ z.length ≤ 8) && z.cps.toList.all fun c => decide (97 ≤ c) && decide (c ≤ 122)
def nmD : PyData → Bool
  | .str z => nmC z
  | _ => false
def inD (lo hi : Int) : PyData → Bool
  | .int n => (decide (-1000000000000 < n) && decide (n < 1000000000000)) && (decide (lo ≤ n) && decide (n ≤ hi))
  | _ => false
def isInD : PyData → Bool
  | .int n => decide (-1000000000000 < n) && decide (n < 1000000000000)
  | _ => false
def prD (hi : Int) : PyData → Bool
  | .tuple [a, b] => nmD a && inD 0 hi b
  | _ => false
def rwD (most : Nat) (hi : Int) : PyData → Bool
  | .tuple ds => decide (ds.length ≤ most) && ds.all (prD hi)
  | _ => false
/-- every text in it is short -/
def okD (d : PyData) : Prop := d.weight ≤ 1000000
/-- a value that is the datum d, or a dict -/
def DD (K : PySem.W.Frag) (H : Hp) (x : V) (d : PyData) : Prop := Dp K H x d ∨ ∃ a kvs, x = .ref a ∧ H a = some (.dK kvs) ∧ d = .dict []
theorem Same.seqT {K : PySem.W.Frag} {H H' : Hp} {a : Addr} {xs : List V} (e : Same H H') (h : SqT K H a xs) : SqT K H' a xs := by
  rcases h with (h | ⟨o, h⟩) | h
  · exact .inl (.inl (e _ _ h))
  · exact .inl (.inr ⟨o, e _ _ h⟩)
  · exact .inr h
mutual
theorem dp_same {K : PySem.W.Frag} {H H' : Hp} (s : Same H H') : ∀ (d : PyData) (x : V), Dp K H x d → Dp K H' x d
  | .none, _, h => by cases h; exact .non
  | .bool b, _, h => by cases h; exact .bl b
  | .int i, _, h => by cases h; exact .int i
  | .str z, _, h => by cases h; exact .str z
  | .list ds, _, h => by
    cases h with
    | lst h1 h2 => exact .lst (Same.seq s h1) (dpa_same s ds _ h2)
  | .tuple ds, _, h => by
    cases h with
    | tup h1 h2 => exact .tup (Same.seqT s h1) (dpa_same s ds _ h2)
  | .dict _, _, h => by cases h
theorem dpa_same {K : PySem.W.Frag} {H H' : Hp} (s : Same H H') : ∀ (ds : List PyData) (xs : List V), DpAll K H xs ds → DpAll K H' xs ds
  | [], _, h => by cases h; exact .nil
  | d :: ds, _, h => by
    cases h with
    | cons h1 h2 => exact .cons (dp_same s d _ h1) (dpa_same s ds _ h2)
end
theorem DD.same {K : PySem.W.Frag} {H H' : Hp} {x : V} {d : PyData} (s : Same H H') (h : DD K H x d) : DD K H' x d := by
  rcases h with h | ⟨a, kvs, e1, e2, e3⟩
  · exact .inl (dp_same s d x h)
  · exact .inr ⟨a, kvs, e1, s _ _ e2, e3⟩
theorem dpa_len {K : PySem.W.Frag} {H : Hp} : ∀ {ds : List PyData} {xs : List V}, DpAll K H xs ds → ds.length = xs.length
  | [], _, h => by cases h; rfl
  | d :: ds, _, h => by
    cases h with
    | cons h1 h2 => rw [List.length_cons, List.length_cons, dpa_len h2]
theorem dpa_get {K : PySem.W.Frag} {H : Hp} : ∀ {ds : List PyData} {xs : List V} {i : Nat} {x : V}, DpAll K H xs ds → xs[i]? = some x → ∃ d, ds[i]? = some d ∧ Dp K H x d
  | [], _, i, x, h, e => by cases h; simp at e
  | d :: ds, _, 0, x, h, e => by
    cases h with
    | cons h1 h2 =>
      obtain rfl := Option.some.inj e
      exact ⟨d, rfl, h1⟩
  | d :: ds, _, i + 1, x, h, e => by
    cases h with
    | cons h1 h2 => exact dpa_get (i := i) h2 e
def tyD : PyData → String
  | .none => "NoneType" | .bool _ => "bool" | .int _ => "int" | .str _ => "str" | .list _ => "list" | .tuple _ => "tuple" | .dict _ => "dict"
theorem DD.ty {K : PySem.W.Frag} {H : Hp} {x : V} {d : PyData} (h : DD K H x d) : TyX K H x (.type (tyD d)) := by
  rcases h with h | ⟨a, kvs, rfl, e, rfl⟩
  · cases h with
    | non => exact .base .non
    | bl b => exact .base (.bl b)
    | int i => exact .base (.int i)
    | str z => exact .base (.str z)
    | lst h1 h2 =>
      rcases h1 with (h | ⟨o, h⟩) | ⟨o, its, n, e1, e2, _⟩
      · exact .base (.lst h)
      · exact .base (.frz h)
      · exact .kList e1 e2
    | tup h1 h2 =>
      rcases h1 with (h | ⟨o, h⟩) | ⟨o, its, n, e1, e2, _⟩
      · exact .base (.tup h)
      · exact .fTuple h
      · exact .kTuple e1 e2
  · exact .base (.dK e)
theorem weight_mem : ∀ {ds : List PyData} {d : PyData}, d ∈ ds → d.weight ≤ PyData.weightAll ds
  | a :: r, d, h => by
    rw [PyData.weightAll]
    rcases List.mem_cons.mp h with rfl | h
    · omega
    · have := weight_mem h
      omega
theorem okD_tup {ds : List PyData} (h : okD (.tuple ds)) {d : PyData} (hd : d ∈ ds) : okD d := by
  have h1 := weight_mem hd
  have h2 : PyData.weightAll ds ≤ 1000000 := by
    have h3 : (PyData.tuple ds).weight ≤ 1000000 := h
    rw [PyData.weight] at h3
    exact h3
  exact Nat.le_trans h1 h2
theorem okD_str {z : Str} (h : okD (.str z)) : z.length ≤ 1000000 := by
  have h3 : (PyData.str z).weight ≤ 1000000 := h
  rw [PyData.weight] at h3
  exact h3
theorem bl_to {Q : VK} {b c : Bool} {H : Hp} (e : b = c) (k : Q (.bl c) H) : Q (.bl b) H := e ▸ k
theorem Same.rl {H H' : Hp} {r : Addr} (s : Same H H') (h : Rl H r) : Rl H' r := by
  obtain ⟨a, b, c, e⟩ := h
  exact ⟨a, b, c, s _ _ e⟩
theorem Same.only {H H' : Hp} {r : Addr} (s : Same H H') : Only r H H' := fun b o _ e => s b o e
theorem Same.new {H : Hp} {p : Addr} {o : HO} (n : H p = none) : Same H (upd H p o) := fun b u e => by rw [upd_ne (ne_of_none e n)]; exact e
theorem Same.at {H0 H : Hp} {D : Addr} {o : HO} (n : H0 D = none) (s : Same H0 H) : Same H0 (upd H D o) := fun b u e => by rw [upd_ne (ne_of_none e n)]; exact s b u e
theorem lt_sign (c d : Nat) : (([c] : List Nat) < [d]) ↔ c < d := by
  constructor
  · intro h
    rcases List.cons_lt_cons_iff.mp h with h | ⟨_, h⟩
    · exact h
    · exact absurd h (by simp)
  · intro h
    exact List.cons_lt_cons_iff.mpr (.inl h)
theorem tk_succ {z : Str} {i c : Nat} (h : z.cps[i]? = some c) : z.cps.toList.take (i + 1) = z.cps.toList.take i ++ [c] := by
  have h2 : z.cps.toList[i]? = some c := by rw [Array.getElem?_toList]; exact h
  rw [List.take_add_one, h2]
  rfl
theorem tk_all (z : Str) : z.cps.toList.take z.cps.size = z.cps.toList := List.take_of_length_le (by rw [Array.length_toList]; exact Nat.le_refl _)
theorem not_str {d : PyData} (h : ∀ z, d ≠ .str z) : kitB (tyD d) "str" = some false ∧ nmD d = false := by
  cases d with
  | str z => exact absurd rfl (h z)
  | _ => exact ⟨by simp only [tyD]; decide +kernel, rfl⟩
theorem not_int {d : PyData} (h1 : ∀ n, d ≠ .int n) (h2 : ∀ b, d ≠ .bool b) : kitB (tyD d) "int" = some false ∧ isInD d = false := by
  cases d with
  | int n => exact absurd rfl (h1 n)
  | bool b => exact absurd rfl (h2 b)
  | _ => exact ⟨by simp only [tyD]; decide +kernel, rfl⟩
theorem not_tup {d : PyData} (h : ∀ ds, d ≠ .tuple ds) : kitB (tyD d) "tuple" = some false := by
  cases d with
  | tuple z => exact absurd rfl (h z)
  | _ => simp only [tyD]; decide +kernel
/-- its items ascend -/
def ascD (ds : List PyData) : Bool := (List.range (ds.length - 1)).all fun i => PySem.W.dataLt (ds.getD i .none) (ds.getD (i + 1) .none)
theorem depth_in {hi : Int} {d : PyData} (h : prD hi d = true) : ∃ z n, d = .tuple [.str z, .int n] := by
  unfold prD at h
  split at h
  · rename_i a b
    have h1 := (Bool.and_eq_true_iff.mp h).1
    have h2 := (Bool.and_eq_true_iff.mp h).2
    cases a with
    | str z =>
      cases b with
      | int n => exact ⟨z, n, rfl⟩
      | _ => cases h2
    | _ => cases h1
  · cases h
section
variable {X : Cx}
def rLtD (K : PySem.W.Frag) : R2 := fun x y H Q => ∃ d e, Dp K H x d ∧ Dp K H y e ∧ PySem.W.alike d e = true ∧ d ≠ .none ∧ d.depth ≤ 60 ∧ Q (.bl (PySem.W.dataLt d e)) H
theorem op_ltD (hu : X.A.units + 64 < cLine) : OpR X (compareOp .Lt) (rLtD X.K) := by
  intro pins s σ H x y v u Q I rx ry h
  obtain ⟨d, e, h1, h2, h3, h4, h5, q⟩ := h
  obtain ⟨as, r1⟩ := Dp.reads I d x v h1 rx
  obtain ⟨bs, r2⟩ := Dp.reads I e y u h2 ry
  exact PySem.W.lt_data r1 r2 h3 h4 (by have := Nat.min_le_left d.depth e.depth; omega) ⟨.bl _, H, I, rfl, q⟩
end

section
variable {P : Program} {w : World} {K : PySem.W.Frag}
                                                      {mg : Str → Option Value} {base : Heap}
def sp_w_tray (K : PySem.W.Frag) : Sp := fun vs H Q _ => ∃ (s : Addr) (ns : List Int) (i : Nat), vs = [.ref s, .int (i : Int)] ∧ SqL K H s (ns.map V.int) ∧ ∀ p a b c, H p = none → Q (.ref p) (upd H p (.lst [.int a, .int b, .int c]))
theorem ok_w_tray (T : T K mg) : FnOk P w K mg base CX0 1 T.f_w_tray T.d_w_tray ["script", "spot"] (sp_w_tray K) := by
  refine T.F_w_tray.ok sc_w_tray (fun vs H Q E h => ?_) (fun cdv A outer s H vs Q E hr h => ?_)
  · obtain ⟨s, ns, i, rfl, _⟩ := h
    rfl
  · obtain ⟨s, ns, i, rfl, hS, k⟩ := h
    have hu := hu_of hr
    refine ⟨_, (pss_cons (ps_set (i := 2) sc_w_tray.nd rfl (Or.inl rfl) (pe_ifExp (pt_cmpR op_lt (pv 1) (pe_callB call_len (by rfl) T.z_len (by decide +kernel) (pa_cons (pv 0) pa_nil)) (nomark _)) (pe_ix ix_seq (pv 0) (pv 1) (fun _ _ => rfl)) (pe_op op_add (pe_op op_mul pe_int (pv 1)) pe_int)))
      (pss_cons (ps_set (i := 3) sc_w_tray.nd rfl (Or.inl rfl) (pe_op op_mod (pe_callTy call_int1 (by rfl) T.z_int (by decide +kernel) (pa_cons (pe_callB call_abs (by rfl) T.z_abs (by decide +kernel) (pa_cons (pv 2) pa_nil)) pa_nil)) (pe_op op_powW (pe_op op_pow pe_int pe_int) pe_int)))
      (pss_cons (ps_set (i := 4) sc_w_tray.nd rfl (Or.inl rfl) (pe_op op_add (pe_op op_add (pe_op op_add (pe_op op_mul (pv 3) pe_int) (pe_op op_mul pe_int (pv 1))) (pe_op op_mul pe_int (pe_callTy call_int1 (by rfl) T.z_int (by decide +kernel) (pa_cons (pe_cmpR op_lt (pv 2) pe_int (nomark _)) pa_nil)))) pe_int))
      (pss_one (ps_ret (pe_lst (pa_cons (pe_callB (call_max2 rfl) (by rfl) T.z_max (by decide +kernel) (pa_cons pe_int (pa_cons (pe_op op_sub (pv 3) (pe_op op_pow pe_int pe_int)) pa_nil))) (pa_cons (pe_op op_mod (pe_callTy call_int1 (by rfl) T.z_int (by decide +kernel) (pa_cons (pv 4) pa_nil)) pe_int) (pa_cons pe_int pa_nil))))))))), ?_⟩
    refine ⟨_, rfl, _, rfl, _, _, rfl, .inl ⟨_, hS, rfl⟩, _, _, rfl, rfl, _, rfl, ?_⟩
    refine ite_join (fun v H' => H' = H ∧ ∃ z, v = .int z) (fun c Q' q => ?_) (fun c Q' q => ?_) ?_
    · have hi := of_decide_eq_true c
      rw [List.length_map] at hi
      obtain ⟨z, hz⟩ := at_ns (ns := ns) (i := i) (by omega)
      exact ⟨_, rfl, _, rfl, .inl ⟨_, _, _, _, rfl, rfl, hS, hz, q _ _ ⟨rfl, z, rfl⟩⟩⟩
    · exact ⟨_, rfl, _, _, rfl, rfl, .inl ⟨by decide, by decide⟩, _, _, rfl, rfl, q _ _ ⟨rfl, _, rfl⟩⟩
    rintro v H' ⟨rfl, z, rfl⟩
    refine ⟨_, rfl, _, rfl, .inl ⟨_, rfl, ?_⟩⟩
    refine ⟨_, _, rfl, rfl, ⟨by decide, by decide, by decide⟩, _, _, rfl, rfl, ⟨by decide, by decide +kernel⟩, _, _, rfl, rfl, (by show (0 : Int) < _; decide +kernel), ?_⟩
    refine ⟨_, rfl, _, _, rfl, rfl, .inr ⟨by decide, by decide⟩, ?_⟩
    refine ⟨_, rfl, _, _, rfl, rfl, .inl ⟨by decide, by decide⟩, _, _, rfl, rfl, ?_⟩
    refine ⟨_, rfl, _, _, rfl, rfl, .inr ⟨_, rfl, ?_⟩⟩
    refine ⟨_, _, rfl, rfl, .inl ⟨by decide, by decide⟩, _, _, rfl, rfl, _, _, rfl, rfl, ?_⟩
    refine ⟨_, rfl, _, _, rfl, rfl, ⟨by decide, by decide, by decide⟩, _, _, rfl, rfl, _, _, rfl, _, rfl, .inl ⟨_, rfl, ?_⟩⟩
    refine ⟨_, _, rfl, rfl, (by show (0 : Int) < _; decide), (by show 3 ≤ sizeLine; decide), fun p hp => ?_⟩
    exact k p _ _ _ hp
def sp_w_roll (K : PySem.W.Frag) : Sp := fun vs H Q _ => ∃ (r : Addr) (n : Int), vs = [.ref r, .int n] ∧ Rl H r ∧ 0 < n ∧ n.natAbs.log2 < 9000 ∧ ∀ v H', 0 ≤ v → v < n → Rl H' r → Only r H H' → Q (.int v) H'
theorem ok_w_roll (T : T K mg) : FnOk P w K mg base CX0 1 T.f_w_roll T.d_w_roll ["tray", "total"] (sp_w_roll K) := by
  refine T.F_w_roll.ok sc_w_roll (fun vs H Q E h => ?_) (fun cdv A outer s H vs Q E hr h => ?_)
  · obtain ⟨r, n, rfl, _⟩ := h
    rfl
  · obtain ⟨r, n, rfl, ⟨a, b, c, e⟩, h0, h9, k⟩ := h
    have hu := hu_of hr
    refine ⟨_, (pss_cons (ps_if (pt_cmpR op_gt (pe_ix ix_seq (pv 0) pe_int (fun _ _ => rfl)) pe_int (nomark _))
      (pss_cons (ps_set (i := 2) sc_w_roll.nd rfl (Or.inl rfl) (pe_op op_mod (pe_callTy call_int1 (by rfl) T.z_int (by decide +kernel) (pa_cons (pe_ix ix_seq (pv 0) pe_int (fun _ _ => rfl)) pa_nil)) (pv 1)))
      (pss_cons (ps_asg (pe_op op_fdivW (pe_ix ix_seq (pv 0) pe_int (fun _ _ => rfl)) (pv 1)) (pg_sub (pv 0) pe_int set_list))
      (pss_one (ps_ret (pv 2)))))
      pss_nil)
      (pss_cons (ps_asg (pe_op op_add (pe_ix ix_seq (pv 0) pe_int (fun _ _ => rfl)) pe_int) (pg_sub (pv 0) pe_int set_list))
      (pss_cons (ps_set (i := 3) sc_w_roll.nd rfl (Or.inl rfl) (pe_op op_mod (pe_callTy call_int1 (by rfl) T.z_int (by decide +kernel) (pa_cons (pe_op op_add (pe_ix ix_seq (pv 0) pe_int (fun _ _ => rfl)) (pe_op op_mul pe_int (pe_ix ix_seq (pv 0) pe_int (fun _ _ => rfl)))) pa_nil)) pe_int))
      (pss_cons (ps_set (i := 4) sc_w_roll.nd rfl (Or.inl rfl) (pe_op op_add (pe_op op_mul (pe_op op_mod (pe_callTy call_int1 (by rfl) T.z_int (by decide +kernel) (pa_cons (pe_op op_mul (pv 3) (pv 3)) pa_nil)) pe_int) (pv 3)) (pe_op op_mul pe_int (pe_ix ix_seq (pv 0) pe_int (fun _ _ => rfl)))))
      (pss_one (ps_ret (pe_op op_mod (pe_callTy call_int1 (by rfl) T.z_int (by decide +kernel) (pa_cons (pe_op op_fdivW (pe_op op_mod (pe_callTy call_int1 (by rfl) T.z_int (by decide +kernel) (pa_cons (pe_op op_add (pv 4) (pe_ix ix_seq (pv 0) pe_int (fun _ _ => rfl))) pa_nil)) pe_int) pe_int) pa_nil)) (pv 1)))))))), ?_⟩
    have u3 : ∀ {x y z : V} {G : Hp}, G r = some (.lst [x, y, z]) → SqL K G r [x, y, z] := fun g => SqL.of g
    refine ⟨_, rfl, .inl ⟨_, _, _, _, rfl, rfl, u3 e, rfl, ?_⟩⟩
    refine ⟨_, _, rfl, rfl, _, rfl, ?_⟩
    refine ite2 (fun c1 => ?_) (fun c1 => ?_)
    · refine ⟨_, rfl, .inl ⟨_, _, _, _, rfl, rfl, u3 e, rfl, .inl ⟨_, rfl, ?_⟩⟩⟩
      refine ⟨_, rfl, _, _, rfl, rfl, h0, ?_⟩
      refine ⟨_, rfl, .inl ⟨_, _, _, _, rfl, rfl, u3 e, rfl, ?_⟩⟩
      refine ⟨_, rfl, _, _, rfl, rfl, ⟨h0, h9⟩, _, rfl, _, _, _, 0, rfl, rfl, e, rfl, ?_⟩
      refine ⟨_, rfl, ?_⟩
      exact k _ _ (Int.emod_nonneg _ (by omega)) (Int.emod_lt_of_pos _ h0) ⟨_, _, _, upd_same⟩ Only.upd
    · refine ⟨_, rfl, .inl ⟨_, _, _, _, rfl, rfl, u3 e, rfl, ?_⟩⟩
      refine ⟨_, _, rfl, rfl, _, rfl, _, _, _, 2, rfl, rfl, e, rfl, ?_⟩
      have e2 : (upd H r (.lst [.int a, .int b, .int (c + 1)])) r = some (.lst [.int a, .int b, .int (c + 1)]) := upd_same
      refine ⟨_, rfl, .inl ⟨_, _, _, _, rfl, rfl, u3 e2, rfl, ?_⟩⟩
      refine ⟨_, rfl, .inl ⟨_, _, _, _, rfl, rfl, u3 e2, rfl, ?_⟩⟩
      refine ⟨_, _, rfl, rfl, .inl ⟨by decide, by decide⟩, _, _, rfl, rfl, .inl ⟨_, rfl, ?_⟩⟩
      refine ⟨_, _, rfl, rfl, (by show (0 : Int) < _; decide), ?_⟩
      have o1 : -(2 ^ 64) < (b + 922337203 * (c + 1)) % 2305843009213693951 ∧ (b + 922337203 * (c + 1)) % 2305843009213693951 < 2 ^ 64 := by omega
      refine ⟨_, rfl, _, rfl, _, _, rfl, rfl, .inl o1, .inl ⟨_, rfl, ?_⟩⟩
      refine ⟨_, _, rfl, rfl, (by show (0 : Int) < _; decide), _, rfl, _, _, rfl, rfl, .inr o1, ?_⟩
      refine ⟨_, rfl, .inl ⟨_, _, _, _, rfl, rfl, u3 e2, rfl, ?_⟩⟩
      refine ⟨_, _, rfl, rfl, .inl ⟨by decide, by decide⟩, _, _, rfl, rfl, ?_⟩
      refine ⟨_, rfl, _, rfl, .inl ⟨_, _, _, _, rfl, rfl, u3 e2, rfl, ?_⟩⟩
      refine ⟨_, _, rfl, rfl, .inl ⟨_, rfl, ?_⟩⟩
      refine ⟨_, _, rfl, rfl, (by show (0 : Int) < _; decide), ?_⟩
      refine ⟨_, _, rfl, rfl, ⟨by decide, by decide⟩, .inl ⟨_, rfl, ?_⟩⟩
      refine ⟨_, rfl, _, _, rfl, rfl, h0, ?_⟩
      exact k _ _ (Int.emod_nonneg _ (by omega)) (Int.emod_lt_of_pos _ h0) ⟨_, _, _, e2⟩ Only.upd
def sp_w_pick (K : PySem.W.Frag) : Sp := fun vs H Q _ => ∃ (r : Addr) (x : V) (xs : List V), vs = [.ref r, x] ∧ Rl H r ∧ SeqV K H r x xs ∧ 0 < xs.length ∧ xs.length ≤ sizeLine ∧ ∀ v H', v ∈ xs → Rl H' r → Only r H H' → Q v H'
theorem ok_w_pick (T : T K mg) : FnOk P w K mg base CX0 2 T.f_w_pick T.d_w_pick ["tray", "items"] (sp_w_pick K) := by
  have G_w_roll : FnOk P w K mg base CX0 1 T.f_w_roll T.d_w_roll ["tray", "total"] (sp_w_roll K) := ok_w_roll T
  refine T.F_w_pick.ok sc_w_pick (fun vs H Q E h => ?_) (fun cdv A outer s H vs Q E hr h => ?_)
  · obtain ⟨r, x, xs, rfl, _⟩ := h
    rfl
  · obtain ⟨r, x, xs, rfl, hR, hx, h0, h1, k⟩ := h
    have hu := hu_of hr
    have hr_w_roll : Room 1 _ := hr.mono (by decide)
    refine ⟨_, (pss_one (ps_ret (pe_ix ix_seq (pv 1) (pe_call G_w_roll hr_w_roll rfl T.m_w_roll T.F_w_roll.kp T.b_w_roll .nil pass0 (pa_cons (pv 0) (pa_cons (pe_callB call_len (by rfl) T.z_len (by decide +kernel) (pa_cons (pv 1) pa_nil)) pa_nil))) (fun _ _ => rfl)))), ?_⟩
    have hl : (xs.length : Int).natAbs.log2 < 9000 := by
      have : xs.length < 2 ^ 63 := Nat.lt_of_le_of_lt h1 (by decide)
      exact Nat.lt_trans (lg (b := 63) (by omega) (by omega) (by decide)) (by decide)
    refine ⟨_, rfl, _, rfl, _, rfl, x, xs.length, rfl, ?_, ?_⟩
    · rcases hx with ⟨l, rfl, hn, h | h⟩ | ⟨z, rfl, hz, rfl⟩
      · exact .inl ⟨_, h, rfl⟩
      · exact .inr ⟨_, h, rfl⟩
      · exact ⟨hz, by rw [List.length_map]; rfl⟩
    refine ⟨r, _, rfl, hR, by omega, hl, fun v H' v0 v1 R' O' => ?_⟩
    obtain ⟨y, hy, ha⟩ := ix_at v0 v1
    rcases hx with ⟨l, rfl, hn, h | h⟩ | ⟨z, rfl, hz, rfl⟩
    · exact .inl ⟨_, _, _, _, rfl, rfl, O'.seqL hn h, ha, k _ _ hy R' O'⟩
    · exact .inr (.inl ⟨_, _, _, _, rfl, rfl, O'.seqT hn h, ha, k _ _ hy R' O'⟩)
    · obtain ⟨i, hi⟩ : ∃ c, atI z.cps.toList v = some c := by
        unfold atI at ha ⊢
        rw [List.length_map] at ha
        cases e : ixN z.cps.toList.length v with
        | none => rw [e] at ha; cases ha
        | some j =>
          rw [e] at ha
          simp only [Option.bind_some] at ha ⊢
          rw [List.getElem?_map] at ha
          cases e2 : z.cps.toList[j]? with
          | none => rw [e2] at ha; cases ha
          | some c => exact ⟨c, rfl⟩
      have hc : i ∈ z.cps.toList := by
        unfold atI at hi
        cases e : ixN z.cps.toList.length v with
        | none => rw [e] at hi; cases hi
        | some j => rw [e] at hi; exact List.mem_of_getElem? hi
      exact .inr (.inr ⟨_, _, _, rfl, rfl, hz, hi, k _ _ (List.mem_map.mpr ⟨i, hc, rfl⟩) R' O'⟩)
def sp_is_name (K : PySem.W.Frag) : Sp := fun vs H Q _ => ∃ (x : V) (d : PyData), vs = [x] ∧ DD K H x d ∧ okD d ∧ ∀ H', Same H H' → Q (.bl (nmD d)) H'
theorem ok_is_name (T : T K mg) : FnOk P w K mg base CX0 1 T.f_is_name T.d_is_name ["value"] (sp_is_name K) := by
  refine T.F_is_name.ok sc_is_name (fun vs H Q E h => ?_) (fun cdv A outer s H vs Q E hr h => ?_)
  · obtain ⟨x, d, rfl, _⟩ := h
    rfl
  · obtain ⟨x, d, rfl, hx, hw, k⟩ := h
    have hu := hu_of hr
    obtain ⟨_, c_MAX_LETTERS⟩ := T.c_MAX_LETTERS
    refine ⟨_, (pss_cons (ps_if (PW.pt (pw_or (pt_not (pt_val (pe_callB call_isi (by rfl) T.z_isinstance (by decide +kernel) (pa_cons (pv 0) (pa_cons (pe_bltn (v := V.ty "str") (u := Value.type "str") (by rfl) T.z_str (by decide +kernel) rfl) pa_nil))))) (pw_or1 (pt_not (pt_chain op_le op_le pe_int (pe_callB call_len (by rfl) T.z_len (by decide +kernel) (pa_cons (pv 0) pa_nil)) (pe_glob (v := V.int 8) rfl c_MAX_LETTERS ⟨_, rfl⟩))))))
      (pss_one (ps_ret pe_bl))
      pss_nil)
      (pss_one (ps_ret (pe_callB (cr_all rfl) (by rfl) T.z_all (by decide +kernel) (pa_cons (pe_lc (own := [("letter", 1)]) (g := gName 1) rfl sc_is_name.nd (pi_str (pv 0)) (blkOk_by (N := ["value", "letter"]) (sc := defScope s_is_name) (by decide +kernel)) (fun _ _ _ _ _ => (pg_name (i := 1) sc_is_name.nd rfl (Or.inl rfl))) (fun _ _ _ _ _ => pts_nil) (fun _ _ _ _ _ => (pe_chain op_le_str op_le_str pe_str (pv 1) pe_str))) pa_nil))))), ?_⟩
    by_cases hs : ∃ z, d = .str z
    · obtain ⟨z, rfl⟩ := hs
      have hz := okD_str hw
      obtain rfl : x = .str z := by
        rcases hx with h | ⟨_, _, _, _, h⟩
        · cases h
          rfl
        · cases h
      refine ⟨_, rfl, _, _, _, _, true, rfl, .ty _, .base (.str _), kit_ty (by decide +kernel), _, rfl, iteF ?_⟩
      refine ⟨_, rfl, _, _, rfl, ⟨Nat.le_trans hz (by decide), rfl⟩, _, _, rfl, rfl, _, rfl, ?_⟩
      refine ite2 (fun c1 => ?_) (fun c1 => ?_)
      · have h1 := of_decide_eq_true c1
        refine ⟨_, _, rfl, rfl, _, rfl, ?_⟩
        by_cases h2 : (z.length : Int) ≤ 8
        · rw [decide_eq_true h2]
          refine iteF ?_
          refine ⟨_, rfl, _, rfl, fun D hD => ?_⟩
          refine lc_it walk_str (fun i H' => H' D = some (.lst (((z.cps.toList.take i).map fun c => decide (97 ≤ c) && decide (c ≤ 122)).map V.bl)) ∧ Same H H') ⟨upd_same, Same.new hD⟩ (fun _ _ _ _ => trivial) ?_ ?_
          · rintro i y H1 H2 hi ⟨eD, S⟩ ⟨rfl, c, hc, rfl⟩
            refine ⟨rfl, ?_⟩
            unfold tYes
            dsimp only
            rw [if_pos rfl]
            refine ⟨_, rfl, _, _, rfl, rfl, _, rfl, ?_⟩
            have done : ∀ b : Bool, b = (decide (97 ≤ c) && decide (c ≤ 122)) → ∃ acc, H2 D = some (.lst acc) ∧ acc.length < sizeLine ∧ (upd H2 D (.lst (acc ++ [V.bl b]))) D = some (.lst (((z.cps.toList.take (i + 1)).map fun c => decide (97 ≤ c) && decide (c ≤ 122)).map V.bl)) ∧ Same H (upd H2 D (.lst (acc ++ [V.bl b]))) := by
              rintro b rfl
              refine ⟨_, eD, ?_, ?_, Same.at hD S⟩
              · rw [List.length_map, List.length_map, List.length_take]
                have : z.cps.toList.length = z.length := by simp [Str.length]
                exact Nat.lt_of_le_of_lt (Nat.le_trans (Nat.min_le_right _ _) (by omega : z.cps.toList.length ≤ 100)) (by decide)
              · rw [upd_same, tk_succ hc, List.map_append, List.map_append]
                rfl
            refine ite2 (fun c2 => ?_) (fun c2 => ?_)
            · have h3 : 97 ≤ c := by
                rw [Bool.not_eq_true', decide_eq_false_iff_not] at c2
                have c3 : ¬ (([c] : List Nat) < [97]) := c2
                rw [lt_sign] at c3
                omega
              refine ⟨_, _, rfl, rfl, done _ ?_⟩
              rw [decide_eq_true h3, Bool.true_and]
              by_cases h4 : c ≤ 122
              · rw [decide_eq_true h4]
                show (!decide (([122] : List Nat) < [c])) = true
                rw [decide_eq_false (by rw [lt_sign]; omega)]
                rfl
              · rw [decide_eq_false h4]
                show (!decide (([122] : List Nat) < [c])) = false
                rw [decide_eq_true (by rw [lt_sign]; omega)]
                rfl
            · have h3 : ¬ 97 ≤ c := by
                rw [Bool.not_eq_true', decide_eq_false_iff_not] at c2
                have c3 := Classical.not_not.mp c2
                have c4 : ([c] : List Nat) < [97] := c3
                rw [lt_sign] at c4
                omega
              refine done _ ?_
              rw [decide_eq_false h3, Bool.false_and]
          · rintro H9 ⟨eD, S⟩
            refine ⟨_, _, rfl, SqL.of eD, ?_⟩
            refine bl_to ?_ (k _ S)
            rw [tk_all]
            show _ = (decide (1 ≤ z.length ∧ z.length ≤ 8) && _)
            rw [decide_eq_true (show 1 ≤ z.length ∧ z.length ≤ 8 by omega), Bool.true_and, List.all_map]
            rfl
        · rw [decide_eq_false h2]
          refine iteT ?_
          refine bl_to ?_ (k _ (Same.refl _))
          show false = (decide (1 ≤ z.length ∧ z.length ≤ 8) && _)
          rw [decide_eq_false (show ¬ (1 ≤ z.length ∧ z.length ≤ 8) by omega), Bool.false_and]
      · have h1 : ¬ (1 : Int) ≤ (z.length : Int) := fun q => c1 (decide_eq_true q)
        refine ⟨_, rfl, iteT ?_⟩
        refine bl_to ?_ (k _ (Same.refl _))
        show false = (decide (1 ≤ z.length ∧ z.length ≤ 8) && _)
        rw [decide_eq_false (show ¬ (1 ≤ z.length ∧ z.length ≤ 8) by omega), Bool.false_and]
    · have hn := not_str fun z e => hs ⟨z, e⟩
      refine ⟨_, rfl, _, _, _, _, false, rfl, .ty _, hx.ty, kit_ty hn.1, _, rfl, iteT ?_⟩
      exact iteT (bl_to hn.2.symm (k _ (Same.refl _)))
def sp_is_integer (K : PySem.W.Frag) : Sp := fun vs H Q _ => ∃ (x : V) (d : PyData), vs = [x] ∧ DD K H x d ∧ Q (.bl (isInD d)) H
theorem ok_is_integer (T : T K mg) : FnOk P w K mg base CX0 1 T.f_is_integer T.d_is_integer ["value"] (sp_is_integer K) := by
  refine T.F_is_integer.ok sc_is_integer (fun vs H Q E h => ?_) (fun cdv A outer s H vs Q E hr h => ?_)
  · obtain ⟨x, d, rfl, _⟩ := h
    rfl
  · obtain ⟨x, d, rfl, hx, k⟩ := h
    have hu := hu_of hr
    refine ⟨_, (pss_cons (ps_if (PW.pt (pw_or (pt_not (pt_val (pe_callB call_isi (by rfl) T.z_isinstance (by decide +kernel) (pa_cons (pv 0) (pa_cons (pe_bltn (v := V.ty "int") (u := Value.type "int") (by rfl) T.z_int (by decide +kernel) rfl) pa_nil))))) (pw_or1 (pt_val (pe_callB call_isi (by rfl) T.z_isinstance (by decide +kernel) (pa_cons (pv 0) (pa_cons (pe_bltn (v := V.ty "bool") (u := Value.type "bool") (by rfl) T.z_bool (by decide +kernel) rfl) pa_nil)))))))
      (pss_one (ps_ret pe_bl))
      pss_nil)
      (pss_one (ps_ret (pe_chain op_lt op_lt (pe_un un_neg (pe_op op_pow pe_int pe_int)) (pv 0) (pe_op op_pow pe_int pe_int))))), ?_⟩
    by_cases h1 : ∃ n, d = .int n
    · obtain ⟨n, rfl⟩ := h1
      obtain rfl : x = .int n := by
        rcases hx with h | ⟨_, _, _, _, h⟩
        · cases h
          rfl
        · cases h
      refine ⟨_, rfl, _, _, _, _, true, rfl, .ty _, .base (.int _), kit_ty (by decide +kernel), _, rfl, iteF ?_⟩
      refine ⟨_, rfl, _, _, _, _, false, rfl, .ty _, .base (.int _), kit_ty (by decide +kernel), _, rfl, iteF ?_⟩
      refine ⟨_, _, rfl, rfl, ⟨by decide, by decide, by decide⟩, _, rfl, _, rfl, _, _, rfl, rfl, _, rfl, ?_⟩
      have e1 : decide (-(10 ^ Int.toNat 12) < n) = decide (-1000000000000 < n) := rfl
      refine ite2 (fun c => ?_) (fun c => ?_)
      · refine ⟨_, _, rfl, rfl, ⟨by decide, by decide, by decide⟩, _, _, rfl, rfl, ?_⟩
        refine bl_to ?_ k
        show _ = (decide (-1000000000000 < n) && decide (n < 1000000000000))
        rw [← e1, c, Bool.true_and]
        rfl
      · refine bl_to ?_ k
        show _ = (decide (-1000000000000 < n) && decide (n < 1000000000000))
        rw [← e1, Bool.eq_false_iff.mpr c, Bool.false_and]
    · by_cases h2 : ∃ b, d = .bool b
      · obtain ⟨b, rfl⟩ := h2
        refine ⟨_, rfl, _, _, _, _, true, rfl, .ty _, hx.ty, kit_ty (a := "bool") (b := "int") (by decide +kernel), _, rfl, iteF ?_⟩
        refine ⟨_, rfl, _, _, _, _, true, rfl, .ty _, hx.ty, kit_ty (a := "bool") (b := "bool") (by decide +kernel), _, rfl, iteT ?_⟩
        exact k
      · have hn := not_int (fun n e => h1 ⟨n, e⟩) fun b e => h2 ⟨b, e⟩
        refine ⟨_, rfl, _, _, _, _, false, rfl, .ty _, hx.ty, kit_ty hn.1, _, rfl, iteT ?_⟩
        exact iteT (bl_to hn.2.symm k)
def sp_is_between (K : PySem.W.Frag) : Sp := fun vs H Q _ => ∃ (x : V) (d : PyData) (lo hi : Int), vs = [x, .int lo, .int hi] ∧ DD K H x d ∧ Q (.bl (inD lo hi d)) H
theorem ok_is_between (T : T K mg) : FnOk P w K mg base CX0 2 T.f_is_between T.d_is_between ["value", "low", "high"] (sp_is_between K) := by
  have G_is_integer : FnOk P w K mg base CX0 1 T.f_is_integer T.d_is_integer ["value"] (sp_is_integer K) := ok_is_integer T
  refine T.F_is_between.ok sc_is_between (fun vs H Q E h => ?_) (fun cdv A outer s H vs Q E hr h => ?_)
  · obtain ⟨x, d, lo, hi, rfl, _⟩ := h
    rfl
  · obtain ⟨x, d, lo, hi, rfl, hx, k⟩ := h
    have hu := hu_of hr
    have hr_is_integer : Room 1 _ := hr.mono (by decide)
    refine ⟨_, (pss_one (ps_ret (pe_and (pe_call G_is_integer hr_is_integer rfl T.m_is_integer T.F_is_integer.kp T.b_is_integer .nil pass0 (pa_cons (pv 0) pa_nil)) (pe_one (pe_chain op_le op_le (pv 1) (pv 0) (pv 2)))))), ?_⟩
    refine ⟨_, rfl, x, d, rfl, hx, _, rfl, ?_⟩
    by_cases h : isInD d = true
    · rw [h]
      refine iteT ?_
      obtain ⟨n, rfl⟩ : ∃ n, d = .int n := by
        cases d with
        | int n => exact ⟨n, rfl⟩
        | _ => cases h
      obtain rfl : x = .int n := by
        rcases hx with h | ⟨_, _, _, _, h⟩
        · cases h
          rfl
        · cases h
      have hi2 : (decide (-1000000000000 < n) && decide (n < 1000000000000)) = true := h
      have k2 : Q (.bl (decide (lo ≤ n) && decide (n ≤ hi))) H := bl_to (by show _ = ((decide (-1000000000000 < n) && decide (n < 1000000000000)) && _); rw [hi2, Bool.true_and]) k
      refine ⟨_, rfl, _, rfl, _, _, rfl, rfl, _, rfl, ?_⟩
      refine ite2 (fun c => ?_) (fun c => ?_)
      · exact ⟨_, rfl, _, _, rfl, rfl, bl_to (by rw [c, Bool.true_and]) k2⟩
      · exact bl_to (by rw [Bool.eq_false_iff.mpr c, Bool.false_and]) k2
    · rw [Bool.eq_false_iff.mpr h]
      refine iteF (bl_to ?_ k)
      cases d with
      | int n =>
        show false = ((decide (-1000000000000 < n) && decide (n < 1000000000000)) && _)
        have h3 : ¬ (decide (-1000000000000 < n) && decide (n < 1000000000000)) = true := h
        rw [Bool.eq_false_iff.mpr h3, Bool.false_and]
      | _ => rfl
def sp_check_integer (K : PySem.W.Frag) : Sp := fun vs H Q _ => ∃ (n : Int), vs = [.int n] ∧ (-1000000000000 < n ∧ n < 1000000000000) ∧ Q .non H
theorem ok_check_integer (T : T K mg) : FnOk P w K mg base CX0 2 T.f_check_integer T.d_check_integer ["value"] (sp_check_integer K) := by
  have G_is_integer : FnOk P w K mg base CX0 1 T.f_is_integer T.d_is_integer ["value"] (sp_is_integer K) := ok_is_integer T
  refine T.F_check_integer.ok sc_check_integer (fun vs H Q E h => ?_) (fun cdv A outer s H vs Q E hr h => ?_)
  · obtain ⟨n, rfl, _⟩ := h
    rfl
  · obtain ⟨n, rfl, hn, k⟩ := h
    have hu := hu_of hr
    have hr_is_integer : Room 1 _ := hr.mono (by decide)
    refine ⟨_, (pss_one (ps_if (pt_not (pt_val (pe_call G_is_integer hr_is_integer rfl T.m_is_integer T.F_is_integer.kp T.b_is_integer .nil pass0 (pa_cons (pv 0) pa_nil))))
      (pss_one ps_never)
      pss_nil)), ?_⟩
    refine ⟨_, rfl, _, .int n, rfl, .inl (.int n), _, rfl, ?_⟩
    rw [show isInD (.int n) = true from by show (decide (-1000000000000 < n) && decide (n < 1000000000000)) = true; rw [decide_eq_true hn.1, decide_eq_true hn.2]; rfl]
    exact iteF k
def sp_check_between (K : PySem.W.Frag) : Sp := fun vs H Q _ => ∃ (n lo hi : Int), vs = [.int n, .int lo, .int hi] ∧ (-1000000000000 < n ∧ n < 1000000000000) ∧ lo ≤ n ∧ n ≤ hi ∧ Q .non H
theorem ok_check_between (T : T K mg) : FnOk P w K mg base CX0 3 T.f_check_between T.d_check_between ["value", "low", "high"] (sp_check_between K) := by
  have G_is_between : FnOk P w K mg base CX0 2 T.f_is_between T.d_is_between ["value", "low", "high"] (sp_is_between K) := ok_is_between T
  refine T.F_check_between.ok sc_check_between (fun vs H Q E h => ?_) (fun cdv A outer s H vs Q E hr h => ?_)
  · obtain ⟨n, lo, hi, rfl, _⟩ := h
    rfl
  · obtain ⟨n, lo, hi, rfl, hn, h1, h2, k⟩ := h
    have hu := hu_of hr
    have hr_is_between : Room 2 _ := hr.mono (by decide)
    refine ⟨_, (pss_one (ps_if (pt_not (pt_val (pe_call G_is_between hr_is_between rfl T.m_is_between T.F_is_between.kp T.b_is_between .nil pass0 (pa_cons (pv 0) (pa_cons (pv 1) (pa_cons (pv 2) pa_nil))))))
      (pss_one ps_never)
      pss_nil)), ?_⟩
    refine ⟨_, rfl, _, rfl, _, rfl, _, .int n, lo, hi, rfl, .inl (.int n), _, rfl, ?_⟩
    rw [show inD lo hi (.int n) = true from by show ((decide (-1000000000000 < n) && decide (n < 1000000000000)) && (decide (lo ≤ n) && decide (n ≤ hi))) = true; rw [decide_eq_true hn.1, decide_eq_true hn.2, decide_eq_true h1, decide_eq_true h2]; rfl]
    exact iteF k
def sp_check_interval (K : PySem.W.Frag) : Sp := fun vs H Q _ => ∃ (n : Int), vs = [.int n] ∧ 1 ≤ n ∧ n ≤ 32 ∧ Q .non H
theorem ok_check_interval (T : T K mg) : FnOk P w K mg base CX0 4 T.f_check_interval T.d_check_interval ["value"] (sp_check_interval K) := by
  have G_check_between : FnOk P w K mg base CX0 3 T.f_check_between T.d_check_between ["value", "low", "high"] (sp_check_between K) := ok_check_between T
  refine T.F_check_interval.ok sc_check_interval (fun vs H Q E h => ?_) (fun cdv A outer s H vs Q E hr h => ?_)
  · obtain ⟨n, rfl, _⟩ := h
    rfl
  · obtain ⟨n, rfl, h1, h2, k⟩ := h
    have hu := hu_of hr
    have hr_check_between : Room 3 _ := hr.mono (by decide)
    obtain ⟨_, c_MAX_INTERVAL⟩ := T.c_MAX_INTERVAL
    refine ⟨_, (pss_one (ps_expr (pe_call G_check_between hr_check_between rfl T.m_check_between T.F_check_between.kp T.b_check_between .nil pass0 (pa_cons (pv 0) (pa_cons pe_int (pa_cons (pe_glob (v := V.int 32) rfl c_MAX_INTERVAL ⟨_, rfl⟩) pa_nil)))))), ?_⟩
    refine ⟨_, rfl, n, 1, 32, rfl, ⟨by omega, by omega⟩, h1, h2, ?_⟩
    exact k
def sp_times_alive (K : PySem.W.Frag) : Sp := fun vs H Q _ => ∃ (b e t n : Int), vs = [.int b, .int e, .int t, .int n] ∧ (-1000000000000 < b ∧ b ≤ e ∧ e < 1000000000000) ∧ (-1000000000000 < t ∧ t < 1000000000000) ∧ 1 ≤ n ∧ n ≤ 32 ∧ Q (.int ((t - b) / n - (t - e) / n)) H
theorem ok_times_alive (T : T K mg) : FnOk P w K mg base CX0 5 T.f_times_alive T.d_times_alive ["begin", "end", "tick", "interval"] (sp_times_alive K) := by
  have G_check_integer : FnOk P w K mg base CX0 2 T.f_check_integer T.d_check_integer ["value"] (sp_check_integer K) := ok_check_integer T
  have G_check_interval : FnOk P w K mg base CX0 4 T.f_check_interval T.d_check_interval ["value"] (sp_check_interval K) := ok_check_interval T
  refine T.F_times_alive.ok sc_times_alive (fun vs H Q E h => ?_) (fun cdv A outer s H vs Q E hr h => ?_)
  · obtain ⟨b, e, t, n, rfl, _⟩ := h
    rfl
  · obtain ⟨b, e, t, n, rfl, hb, ht, h1, h2, k⟩ := h
    have hu := hu_of hr
    have hr_check_integer : Room 2 _ := hr.mono (by decide)
    have hr_check_interval : Room 4 _ := hr.mono (by decide)
    refine ⟨_, (pss_cons (ps_expr (pe_call G_check_integer hr_check_integer rfl T.m_check_integer T.F_check_integer.kp T.b_check_integer .nil pass0 (pa_cons (pv 0) pa_nil)))
      (pss_cons (ps_expr (pe_call G_check_integer hr_check_integer rfl T.m_check_integer T.F_check_integer.kp T.b_check_integer .nil pass0 (pa_cons (pv 1) pa_nil)))
      (pss_cons (ps_if (pt_cmpR op_lt (pv 1) (pv 0) (nomark _))
      (pss_one ps_never)
      pss_nil)
      (pss_cons (ps_expr (pe_call G_check_integer hr_check_integer rfl T.m_check_integer T.F_check_integer.kp T.b_check_integer .nil pass0 (pa_cons (pv 2) pa_nil)))
      (pss_cons (ps_expr (pe_call G_check_interval hr_check_interval rfl T.m_check_interval T.F_check_interval.kp T.b_check_interval .nil pass0 (pa_cons (pv 3) pa_nil)))
      (pss_one (ps_ret (pe_op op_sub (pe_op op_fdivW (pe_op op_sub (pv 2) (pv 0)) (pv 3)) (pe_op op_fdivW (pe_op op_sub (pv 2) (pv 1)) (pv 3)))))))))), ?_⟩
    refine ⟨_, rfl, b, rfl, ⟨by omega, by omega⟩, ?_⟩
    refine ⟨_, rfl, e, rfl, ⟨by omega, by omega⟩, ?_⟩
    refine ⟨_, rfl, _, rfl, _, _, rfl, rfl, _, rfl, ?_⟩
    rw [decide_eq_false (show ¬ e < b by omega)]
    refine iteF ?_
    refine ⟨_, rfl, t, rfl, ⟨by omega, by omega⟩, ?_⟩
    refine ⟨_, rfl, n, rfl, h1, h2, ?_⟩
    have hl : n.natAbs.log2 < 9000 := Nat.lt_trans (lg (b := 6) (by omega) (by omega) (by decide)) (by decide)
    refine ⟨_, rfl, _, rfl, _, _, rfl, rfl, _, rfl, _, _, rfl, rfl, ⟨by omega, hl⟩, ?_⟩
    refine ⟨_, rfl, _, rfl, _, _, rfl, rfl, _, rfl, _, _, rfl, rfl, ⟨by omega, hl⟩, ?_⟩
    exact ⟨_, _, rfl, rfl, k⟩
end
end K37
namespace K37
open PySem L2
section
variable {P : Program} {w : World} {K : PySem.W.Frag}
                                                      {mg : Str → Option Value} {base : Heap}
/-- draws without putting back: some of the items, in some order -/
def sp_w_few (K : PySem.W.Frag) : Sp := fun vs H Q _ => ∃ (r l : Addr) (xs : List V) (many : Int), vs = [.ref r, .ref l, .int many] ∧ Rl H r ∧ (SqL K H l xs ∨ SqT K H l xs) ∧ xs.length ≤ 100 ∧ 0 ≤ many ∧ many ≤ 100 ∧
  ∀ l' ys rest H', Rl H' r → Only r H H' → H l' = none → H' l' = some (.lst ys) → xs.Perm (ys ++ rest) → (ys.length : Int) = (if (xs.length : Int) < many then (xs.length : Int) else many) → Q (.ref l') H'
theorem er_perm {α : Type} : ∀ {l : List α} {k : Nat} (h : k < l.length), (l[k] :: l.eraseIdx k).Perm l
  | [], k, h => absurd h (Nat.not_lt_zero k)
  | x :: l, 0, _ => .refl _
  | x :: l, k + 1, h => by
    have hk : k < l.length := Nat.lt_of_succ_lt_succ h
    have ih := er_perm hk
    exact (List.Perm.swap x l[k] _).trans (ih.cons x)
theorem perm_take {xs ys rest : List V} {k : Nat} {y : V} (h : xs.Perm (ys ++ rest)) (e : rest[k]? = some y) : xs.Perm ((ys ++ [y]) ++ rest.eraseIdx k) := by
  obtain ⟨hk, rfl⟩ := List.getElem?_eq_some_iff.mp e
  refine h.trans ?_
  rw [List.append_assoc]
  refine List.Perm.append_left ys ?_
  exact (er_perm hk).symm
theorem ok_w_few (T : T K mg) : FnOk P w K mg base CX0 2 T.f_w_few T.d_w_few ["tray", "items", "many"] (sp_w_few K) := by
  have G_w_roll : FnOk P w K mg base CX0 1 T.f_w_roll T.d_w_roll ["tray", "total"] (sp_w_roll K) := ok_w_roll T
  refine T.F_w_few.ok sc_w_few (fun vs H Q E h => ?_) (fun cdv A outer s H vs Q E hr h => ?_)
  · obtain ⟨r, l, xs, many, rfl, _⟩ := h
    rfl
  · obtain ⟨r, l, xs, many, rfl, hR, hl, h100, m0, m1, k⟩ := h
    have hu := hu_of hr
    have hr_w_roll : Room 1 _ := hr.mono (by decide)
    refine ⟨_, (pss_cons (ps_par (i := 3) (j := 4) (by rfl) sc_w_few.nd rfl rfl (by decide) rfl rfl (pa_cons (pe_callTy call_list_of (by rfl) T.z_list (by decide +kernel) (pa_cons (pv 1) pa_nil)) (pa_cons (pe_lst pa_nil) pa_nil)) (by rfl))
      (pss_cons (ps_for PassesOwn.never rfl (pi_range1 (by rfl) T.z_range (pa_cons (pe_callB (call_min2 rfl) (by rfl) T.z_min (by decide +kernel) (pa_cons (pv 2) (pa_cons (pe_callB call_len (by rfl) T.z_len (by decide +kernel) (pa_cons (pv 3) pa_nil)) pa_nil))) pa_nil)) (pg_name (i := 5) sc_w_few.nd rfl (Or.inl rfl))
      (pss_one (ps_expr (pe_bm PySem.F.plainAttrs_list PySem.F.slot_list_append PySem.F.type_list_append mt_append (pv 4) (pa_cons (pe_bm PySem.F.plainAttrs_list PySem.F.slot_list_pop PySem.F.type_list_pop mt_popAt (pv 3) (pa_cons (pe_call G_w_roll hr_w_roll rfl T.m_w_roll T.F_w_roll.kp T.b_w_roll .nil pass0 (pa_cons (pv 0) (pa_cons (pe_callB call_len (by rfl) T.z_len (by decide +kernel) (pa_cons (pv 3) pa_nil)) pa_nil))) pa_nil)) pa_nil)))))
      (pss_one (ps_ret (pv 4))))), ?_⟩
    refine ⟨_, rfl, l, xs, rfl, hl, fun a ha => ?_⟩
    refine ⟨by show 0 ≤ sizeLine; decide, fun b hb => ?_⟩
    refine ⟨_, _, rfl, ?_⟩
    have nab : b ≠ a := fun z => by rw [z, upd_same] at hb; cases hb
    have hb0 : H b = none := by
      rw [upd_ne nab] at hb
      exact hb
    have nra : r ≠ a := fun z => by obtain ⟨x, y, z', q⟩ := hR; rw [z, ha] at q; cases q
    have nrb : r ≠ b := fun z => by obtain ⟨x, y, z', q⟩ := hR; rw [z, hb0] at q; cases q
    have S2 : Same H (upd (upd H a (.lst xs)) b (.lst [])) := fun c o e => by
      rw [upd_ne (ne_of_none e hb0), upd_ne (ne_of_none e ha)]
      exact e
    have eA0 : (upd (upd H a (.lst xs)) b (.lst [])) a = some (.lst xs) := by rw [upd_ne nab.symm, upd_same]
    refine ⟨_, rfl, _, rfl, _, _, rfl, .inl ⟨_, SqL.of eA0, rfl⟩, _, _, rfl, _, rfl, by split <;> omega, by split <;> omega, ?_⟩
    refine for_range (n := (if (xs.length : Int) < many then (xs.length : Int) else many).toNat) (fun i σ H' => ∃ v, σ = [some (.ref r), some (.ref l), some (.int many), some (.ref a), some (.ref b), v] ∧ Rl H' r ∧ Only r H H' ∧ ∃ ys rest, H' a = some (.lst rest) ∧ H' b = some (.lst ys) ∧ xs.Perm (ys ++ rest) ∧ ys.length = i)
      ⟨none, rfl, Same.rl S2 hR, Same.only S2, [], xs, eA0, upd_same, .refl _, rfl⟩ ?_ ?_
    · rintro i σ H' hi ⟨v, rfl, R', O', ys, rest, eA, eB, pm, ly⟩
      have hpl := pm.length_eq
      rw [List.length_append] at hpl
      have hi2 : (i : Int) < (if (xs.length : Int) < many then (xs.length : Int) else many) := by omega
      have hrl : 0 < rest.length := by
        split at hi2 <;> omega
      refine ⟨_, rfl, .inl ⟨rfl, _, SqL.of eB⟩, ?_⟩
      refine ⟨_, rfl, .inl ⟨rfl, _, SqL.of eA⟩, ?_⟩
      refine ⟨_, rfl, _, rfl, _, _, rfl, .inl ⟨_, SqL.of eA, rfl⟩, r, _, rfl, R', by omega, ?_, fun v G4 v0 v1 R4 O4 => ?_⟩
      · exact Nat.lt_trans (lg (b := 63) (by omega) (by omega) (by decide)) (by decide)
      have eA4 : G4 a = some (.lst rest) := O4 _ _ nra.symm eA
      have eB4 : G4 b = some (.lst ys) := O4 _ _ nrb.symm eB
      have hv : v.toNat < rest.length := by omega
      have ey : rest[v.toNat]? = some rest[v.toNat] := List.getElem?_eq_getElem hv
      generalize rest[v.toNat] = y at ey
      refine ⟨a, rest, v, v.toNat, y, rfl, rfl, eA4, by omega, by omega, PySem.StrLaws.seqIndex_nonneg v0 (by omega), ey, ?_⟩
      have eB5 : (upd G4 a (.lst (rest.eraseIdx v.toNat))) b = some (.lst ys) := by rw [upd_ne nab]; exact eB4
      refine ⟨b, ys, y, rfl, rfl, eB5, by rw [sizeLine_eq]; omega, ?_⟩
      refine ⟨_, rfl, ?_, ?_, ys ++ [y], rest.eraseIdx v.toNat, ?_, upd_same, perm_take pm ey, ?_⟩
      · obtain ⟨x1, x2, x3, q⟩ := R4
        exact ⟨x1, x2, x3, by rw [upd_ne nrb, upd_ne nra]; exact q⟩
      · intro c o nc e
        rw [upd_ne (ne_of_none e hb0), upd_ne (ne_of_none e ha)]
        exact O4 _ _ nc (O' _ _ nc e)
      · rw [upd_ne nab.symm, upd_same]
      · rw [List.length_append, ly]
        rfl
    · rintro σ H' ⟨v, rfl, R', O', ys, rest, eA, eB, pm, ly⟩
      refine ⟨_, rfl, k b ys rest H' R' O' hb0 eB pm ?_⟩
      rw [ly]
      split <;> omega
end
end K37
/-! data with dicts: what they read as, repr; list(text), text * int -/
namespace RL
open PySem PySem.Spec PyProof.Rows L2
/-- a key as a datum -/
def keyD : Key → PyData
  | .inl i => .int i
  | .inr z => .str z
mutual
/-- a value that is a datum, dicts with int and text keys too -/
inductive DS (K : PySem.W.Frag) (H : Hp) : V → PyData → Prop
  | non : DS K H .non .none
  | bl (b : Bool) : DS K H (.bl b) (.bool b)
  | int (i : Int) : DS K H (.int i) (.int i)
  | str (x : Str) : DS K H (.str x) (.str x)
  | lst {a : Addr} {xs : List V} {ds : List PyData} : SqL K H a xs → DSs K H xs ds → DS K H (.ref a) (.list ds)
  | tup {a : Addr} {xs : List V} {ds : List PyData} : SqT K H a xs → DSs K H xs ds → DS K H (.ref a) (.tuple ds)
  | dic {a : Addr} {kvs : List (Key × V)} {es : List (PyData × PyData)} : H a = some (.dK kvs) → DSk K H kvs es → DS K H (.ref a) (.dict es)
inductive DSs (K : PySem.W.Frag) (H : Hp) : List V → List PyData → Prop
  | nil : DSs K H [] []
  | cons {v : V} {vs : List V} {d : PyData} {ds : List PyData} : DS K H v d → DSs K H vs ds → DSs K H (v :: vs) (d :: ds)
inductive DSk (K : PySem.W.Frag) (H : Hp) : List (Key × V) → List (PyData × PyData) → Prop
  | nil : DSk K H [] []
  | cons {k : Key} {v : V} {kvs : List (Key × V)} {d : PyData} {es : List (PyData × PyData)} : DS K H v d → DSk K H kvs es → DSk K H ((k, v) :: kvs) ((keyD k, d) :: es)
end
section
variable {X : Cx} {pins : List (Addr × Obj)}
                                             {σ : L2.St} {H : Hp} {s : Shared}
theorem pairs_rel {prog : Program} {w : World} : ∀ {es : List DictEntry} {vs : List (Key × Value)}, Pairs (mixKind prog w) es vs → ∀ {kvs : List (Key × V)}, KV kvs vs → Vals (kvs.map (·.2)) (es.map (·.val)) ∧ Vals (kvs.map fun kv => kV kv.1) (es.map (·.key))
  | _, _, .nil, _, h => by
    unfold KV at h
    cases h
    exact ⟨.nil, .nil⟩
  | _, _, .cons hk hv hr, _, h => by
    unfold KV at h
    cases h with
    | cons h1 h2 =>
      obtain ⟨e1, e2⟩ := h1
      have ih := pairs_rel hr h2
      refine ⟨.cons (by dsimp only; rw [hv]; exact e2) ih.1, .cons ?_ ih.2⟩
      dsimp only
      rw [e1]
      exact keyIs_rel hk
mutual
theorem DS.reads (I : Inv X pins σ H s) : ∀ (d : PyData) (v : V) (u : Value), DS X.K H v d → RelV v u → ∃ as, Reads s.heap u d as
  | .none, _, _, h, r => by
    cases h
    cases r
    exact ⟨_, Reads.none⟩
  | .bool b, _, _, h, r => by
    cases h
    cases r
    exact ⟨_, Reads.bool b⟩
  | .int i, _, _, h, r => by
    cases h
    obtain ⟨t, rfl⟩ := r
    exact ⟨_, Reads.int i t⟩
  | .str x, _, _, h, r => by
    cases h
    obtain ⟨t, rfl⟩ := r
    exact ⟨_, Reads.str x t⟩
  | .list ds, _, _, h, r => by
    cases h with
    | lst hs ha =>
      cases r
      obtain ⟨its, rv, ⟨o, n, ho, hc, _, hd⟩, _⟩ := I.list hs
      obtain ⟨as, hr⟩ := DSs.reads I ds _ its ha rv
      exact ⟨_, Reads.list ho hc hd hr⟩
  | .tuple ds, _, _, h, r => by
    cases h with
    | tup hs ha =>
      cases r
      obtain ⟨its, rv, ⟨o, ho, hc, n, hd⟩, _⟩ := I.tuple hs
      obtain ⟨as, hr⟩ := DSs.reads I ds _ its ha rv
      exact ⟨_, Reads.tuple ho hc hd hr⟩
  | .dict es, _, _, h, r => by
    cases h with
    | dic ha hk =>
      cases r
      obtain ⟨_, _, vs, kv, o, ee, ep, h1, h2, h3, _, hp, _⟩ := dk_of I.hok ha
      obtain ⟨r1, r2⟩ := pairs_rel hp kv
      obtain ⟨as, a1⟩ := DSk.readsK I es _ (ee.toList.map (·.key)) hk r2
      obtain ⟨bs, a2⟩ := DSk.readsV I es _ (ee.toList.map (·.val)) hk r1
      exact ⟨_, Reads.dict h1 h2.1 h3 a1 a2⟩
theorem DSs.reads (I : Inv X pins σ H s) : ∀ (ds : List PyData) (vs : List V) (us : List Value), DSs X.K H vs ds → Vals vs us → ∃ as, ReadsAll s.heap us ds as
  | [], _, _, h, r => by
    cases h
    cases r
    exact ⟨_, ReadsAll.nil⟩
  | d :: ds, _, _, h, r => by
    cases h with
    | cons h1 h2 =>
      cases r with
      | cons r1 r2 =>
        obtain ⟨as, a1⟩ := DS.reads I d _ _ h1 r1
        obtain ⟨bs, a2⟩ := DSs.reads I ds _ _ h2 r2
        exact ⟨_, ReadsAll.cons a1 a2⟩
theorem DSk.readsV (I : Inv X pins σ H s) : ∀ (es : List (PyData × PyData)) (kvs : List (Key × V)) (us : List Value), DSk X.K H kvs es → Vals (kvs.map (·.2)) us → ∃ as, ReadsAll s.heap us (es.map (·.2)) as
  | [], _, _, h, r => by
    cases h
    cases r
    exact ⟨_, ReadsAll.nil⟩
  | (kd, d) :: es, _, _, h, r => by
    cases h with
    | cons h1 h2 =>
      cases r with
      | cons r1 r2 =>
        obtain ⟨as, a1⟩ := DS.reads I d _ _ h1 r1
        obtain ⟨bs, a2⟩ := DSk.readsV I es _ _ h2 r2
        exact ⟨_, ReadsAll.cons a1 a2⟩
theorem DSk.readsK (I : Inv X pins σ H s) : ∀ (es : List (PyData × PyData)) (kvs : List (Key × V)) (us : List Value), DSk X.K H kvs es → Vals (kvs.map fun kv => kV kv.1) us → ∃ as, ReadsAll s.heap us (es.map (·.1)) as
  | [], _, _, h, r => by
    cases h
    cases r
    exact ⟨_, ReadsAll.nil⟩
  | (kd, d) :: es, _, _, h, r => by
    cases h with
    | @cons k _ _ _ _ h1 h2 =>
      cases r with
      | cons r1 r2 =>
        obtain ⟨bs, a2⟩ := DSk.readsK I es _ _ h2 r2
        cases k with
        | inl i =>
          obtain ⟨t, rfl⟩ := r1
          exact ⟨_, ReadsAll.cons (Reads.int i t) a2⟩
        | inr z =>
          obtain ⟨t, rfl⟩ := r1
          exact ⟨_, ReadsAll.cons (Reads.str z t) a2⟩
end
/-! ### what it shows -/
mutual
theorem DS.show (I : Inv X pins σ H s) : ∀ (d : PyData) (v : V) (u : Value), DS X.K H v d → RelV v u → d.showable = true → d.shown.length ≤ sizeLine → ∃ bs, ReadAtMost s.heap d.depth bs ∧ ReprK X.prog X.w bs s.heap d.depth u d.shown
  | .none, _, _, h, r, _, _ => by
    cases h
    cases r
    exact ⟨[], (fun _ h => nomatch h), by simp only [PyData.shown]; exact .of_is ReprIs.none _ _ _⟩
  | .bool b, _, _, h, r, _, _ => by
    cases h
    cases r
    exact ⟨[], (fun _ h => nomatch h), by simp only [PyData.shown]; exact .of_is (ReprIs.bool b) _ _ _⟩
  | .int i, _, _, h, r, hs, _ => by
    cases h
    obtain ⟨t, rfl⟩ := r
    exact ⟨[], (fun _ h => nomatch h), by simp only [PyData.shown]; exact .of_is (ReprIs.int t (by simpa [PyData.showable] using hs)) _ _ _⟩
  | .str x, _, _, h, r, _, hz => by
    cases h
    obtain ⟨t, rfl⟩ := r
    exact ⟨[], (fun _ h => nomatch h), by simp only [PyData.shown]; exact .of_is (ReprIs.str x t (by simpa only [PyData.shown] using hz)) _ _ _⟩
  | .list ds, _, _, h, r, hs, hz => by
    obtain ⟨as, rd⟩ := DS.reads I _ _ _ h r
    cases h with
    | lst hq ha =>
      cases r
      have hz' : (listText (PyData.shownAll ds)).length ≤ sizeLine := by simpa only [PyData.shown] using hz
      obtain ⟨its, rv, ⟨o, n, h1, h2, _, h3⟩, _⟩ := I.list hq
      obtain ⟨bs, hb, hk⟩ := DSs.show I ds _ its ha rv (by simpa [PyData.showable] using hs) (fun t ht => Nat.le_trans (listText_mem_le ht) hz')
      have hna := not_mem_of_deeper rd (by simp only [PyData.depth]; omega) hb
      refine ⟨_ :: bs, ReadAtMost.cons rd (by simp only [PyData.depth]; omega) hb, ?_⟩
      simp only [PyData.depth, PyData.shown]
      cases its with
      | nil =>
        cases rv
        cases ha
        simp only [PyData.shownAll, listText_nil]
        exact ReprK.listEmpty h1 h2 h3
      | cons x l => exact ReprK.list h1 h2 h3 hna
                                                  (by simpa using hk.length_eq) (fun i y e => hk.item i y (by simpa using e))
  | .tuple ds, _, _, h, r, hs, hz => by
    obtain ⟨as, rd⟩ := DS.reads I _ _ _ h r
    cases h with
    | tup hq ha =>
      cases r
      have hz' : (tupleText (PyData.shownAll ds)).length ≤ sizeLine := by simpa only [PyData.shown] using hz
      obtain ⟨its, rv, ⟨o, h1, h2, n, h3⟩, _⟩ := I.tuple hq
      obtain ⟨bs, hb, hk⟩ := DSs.show I ds _ its ha rv (by simpa [PyData.showable] using hs) (fun t ht => Nat.le_trans (tupleText_mem_le ht) hz')
      have hna := not_mem_of_deeper rd (by simp only [PyData.depth]; omega) hb
      refine ⟨_ :: bs, ReadAtMost.cons rd (by simp only [PyData.depth]; omega) hb, ?_⟩
      simp only [PyData.depth, PyData.shown]
      exact ReprK.tuple h1 h2 h3 hna (by simpa using hk)
  | .dict es, _, _, h, r, hs, hz => by
    obtain ⟨as, rd⟩ := DS.reads I _ _ _ h r
    cases h with
    | dic ha hk =>
      cases r
      have hz' : (dictText (PyData.shownKv es)).length ≤ sizeLine := by simpa only [PyData.shown] using hz
      obtain ⟨_, hsys, vs, kv, o, ee, ep, h1, h2, h3, _, hp, _⟩ := dk_of I.hok ha
      obtain ⟨r1, r2⟩ := pairs_rel hp kv
      obtain ⟨hs1, hs2⟩ := PyData.showableKv_split es (by simpa [PyData.showable] using hs)
      obtain ⟨b1, hb1, k1⟩ := DSk.showK I es _ (ee.toList.map (·.key)) hk r2 hs1 (fun t ht => let ⟨p, hp, hl⟩ := PyData.shownKv_key_le es t ht; Nat.le_trans hl (Nat.le_trans (dictText_mem_le hp) hz'))
      obtain ⟨b2, hb2, k2⟩ := DSk.showV I es _ (ee.toList.map (·.val)) hk r1 hs2 (fun t ht => let ⟨p, hp, hl⟩ := PyData.shownKv_val_le es t ht; Nat.le_trans hl (Nat.le_trans (dictText_mem_le hp) hz'))
      have hb : ReadAtMost s.heap (PyData.depthKv es) (b1 ++ b2) := (hb1.mono (PyData.depthAll_keys_le es)).append (hb2.mono (PyData.depthAll_vals_le es))
      have hna := not_mem_of_deeper rd (by simp only [PyData.depth]; omega) hb
      refine ⟨_ :: (b1 ++ b2), ReadAtMost.cons rd (by simp only [PyData.depth]; omega) hb, ?_⟩
      simp only [PyData.depth, PyData.shown, PyData.shownKv_eq]
      exact ReprK.dict h1 h2.1 h3 hsys hna (ReprEntriesK.of_two ee.toList _ _
        (k1.more_le (fun b hb => List.mem_append_left _ hb) (PyData.depthAll_keys_le es)) (k2.more_le (fun b hb => List.mem_append_right _ hb) (PyData.depthAll_vals_le es)))
theorem DSs.show (I : Inv X pins σ H s) : ∀ (ds : List PyData) (vs : List V) (us : List Value), DSs X.K H vs ds → Vals vs us → PyData.showableAll ds = true → (∀ t ∈ PyData.shownAll ds, t.length ≤ sizeLine) → ∃ bs, ReadAtMost s.heap (PyData.depthAll ds) bs ∧ ReprAllK X.prog X.w bs s.heap (PyData.depthAll ds) us (PyData.shownAll ds)
  | [], _, _, h, r, _, _ => by
    cases h
    cases r
    exact ⟨[], (fun _ h => nomatch h), by simp only [PyData.shownAll]; exact .nil⟩
  | d :: ds, _, _, h, r, hs, hz => by
    cases h with
    | cons h1 h2 =>
      cases r with
      | cons r1 r2 =>
        have hs' : d.showable = true ∧ PyData.showableAll ds = true := by simpa [PyData.showableAll] using hs
        obtain ⟨b1, hb1, k1⟩ := DS.show I d _ _ h1 r1 hs'.1 (hz _ (by simp only [PyData.shownAll]; exact List.mem_cons_self ..))
        obtain ⟨b2, hb2, k2⟩ := DSs.show I ds _ _ h2 r2 hs'.2 (fun t ht => hz t (by simp only [PyData.shownAll]; exact List.mem_cons_of_mem _ ht))
        refine ⟨b1 ++ b2, ?_, ?_⟩
        · simp only [PyData.depthAll]
          exact (hb1.mono (Nat.le_max_left _ _)).append (hb2.mono (Nat.le_max_right _ _))
        · simp only [PyData.depthAll, PyData.shownAll]
          exact .cons ((k1.more fun b hb => List.mem_append_left _ hb).level_le
                                                                                (Nat.le_max_left _ _)) (k2.more_le (fun b hb => List.mem_append_right _ hb) (Nat.le_max_right _ _))
theorem DSk.showV (I : Inv X pins σ H s) : ∀ (es : List (PyData × PyData)) (kvs : List (Key × V)) (us : List Value), DSk X.K H kvs es → Vals (kvs.map (·.2)) us → PyData.showableAll (es.map (·.2)) = true → (∀ t ∈ PyData.shownAll (es.map (·.2)), t.length ≤ sizeLine) →
    ∃ bs, ReadAtMost s.heap (PyData.depthAll (es.map (·.2))) bs ∧ ReprAllK X.prog X.w bs s.heap (PyData.depthAll (es.map (·.2))) us (PyData.shownAll (es.map (·.2)))
  | [], _, _, h, r, _, _ => by
    cases h
    cases r
    exact ⟨[], (fun _ h => nomatch h), by simp only [List.map_nil, PyData.shownAll]; exact .nil⟩
  | (kd, d) :: es, _, _, h, r, hs, hz => by
    cases h with
    | cons h1 h2 =>
      cases r with
      | cons r1 r2 =>
        have hs' : d.showable = true ∧ PyData.showableAll (es.map (·.2)) = true := by simpa [PyData.showableAll] using hs
        obtain ⟨b1, hb1, k1⟩ := DS.show I d _ _ h1 r1 hs'.1 (hz _ (by simp only [List.map_cons, PyData.shownAll]; exact List.mem_cons_self ..))
        obtain ⟨b2, hb2, k2⟩ := DSk.showV I es _ _ h2 r2 hs'.2 (fun t ht => hz t (by simp only [List.map_cons, PyData.shownAll]; exact List.mem_cons_of_mem _ ht))
        refine ⟨b1 ++ b2, ?_, ?_⟩
        · simp only [List.map_cons, PyData.depthAll]
          exact (hb1.mono (Nat.le_max_left _ _)).append (hb2.mono (Nat.le_max_right _ _))
        · simp only [List.map_cons, PyData.depthAll, PyData.shownAll]
          exact .cons ((k1.more fun b hb => List.mem_append_left _ hb).level_le
                                                                                (Nat.le_max_left _ _)) (k2.more_le (fun b hb => List.mem_append_right _ hb) (Nat.le_max_right _ _))
theorem DSk.showK (I : Inv X pins σ H s) : ∀ (es : List (PyData × PyData)) (kvs : List (Key × V)) (us : List Value), DSk X.K H kvs es → Vals (kvs.map fun kv => kV kv.1) us → PyData.showableAll (es.map (·.1)) = true → (∀ t ∈ PyData.shownAll (es.map (·.1)), t.length ≤ sizeLine) →
    ∃ bs, ReadAtMost s.heap (PyData.depthAll (es.map (·.1))) bs ∧ ReprAllK X.prog X.w bs s.heap (PyData.depthAll (es.map (·.1))) us (PyData.shownAll (es.map (·.1)))
  | [], _, _, h, r, _, _ => by
    cases h
    cases r
    exact ⟨[], (fun _ h => nomatch h), by simp only [List.map_nil, PyData.shownAll]; exact .nil⟩
  | (kd, d) :: es, _, _, h, r, hs, hz => by
    cases h with
    | @cons k _ _ _ _ h1 h2 =>
      cases r with
      | cons r1 r2 =>
        have hs' : (keyD k).showable = true ∧ PyData.showableAll (es.map (·.1)) = true := by simpa [PyData.showableAll] using hs
        have hz1 : (keyD k).shown.length ≤ sizeLine := hz _ (by simp only [List.map_cons, PyData.shownAll]; exact List.mem_cons_self ..)
        obtain ⟨b2, hb2, k2⟩ := DSk.showK I es _ _ h2 r2 hs'.2 (fun t ht => hz t (by simp only [List.map_cons, PyData.shownAll]; exact List.mem_cons_of_mem _ ht))
        refine ⟨b2, ?_, ?_⟩
        · simp only [List.map_cons, PyData.depthAll]
          exact hb2.mono (Nat.le_max_right _ _)
        · simp only [List.map_cons, PyData.depthAll, PyData.shownAll]
          refine .cons ?_ (k2.more_le (fun b hb => hb) (Nat.le_max_right _ _))
          cases k with
          | inl i =>
            obtain ⟨t, rfl⟩ := r1
            simp only [keyD, PyData.shown]
            exact .of_is (ReprIs.int t (by simpa [keyD, PyData.showable] using hs'.1)) _ _ _
          | inr z =>
            obtain ⟨t, rfl⟩ := r1
            simp only [keyD, PyData.shown] at hz1 ⊢
            exact .of_is (ReprIs.str z t hz1) _ _ _
end
end
/-! ### repr -/
section
variable {X : Cx}
def rReprD (K : PySem.W.Frag) : List V → Hp → VK → Prop := fun xs H Q => ∃ (a : Addr) (d : PyData), xs = [.ref a] ∧ DS K H (.ref a) d ∧ d.showable = true ∧ d.shown.length ≤ sizeLine ∧ d.depth ≤ 60 ∧ Q (.str d.shown) H
theorem cr_reprD (hgd : X.A.guards = some []) (hu : X.A.units + 64 < cLine) : CallR X (.builtin "repr") (rReprD X.K) := by
  intro pins s σ H xs us Q I r h
  obtain ⟨a, d, rfl, hd, h1, h2, h3, q⟩ := h
  obtain ⟨u, rfl, ru⟩ := vals1 r
  obtain rfl : u = Value.ref a := ru
  have fin : ∀ h' u tk, (∀ b o, s.heap.get? b = some o → h'.get? b = some o) → EP X pins σ Q (.str d.shown u) { s with heap := h', toks := tk } := fun h' u tk k => ⟨.str _, H, I.kept (t' := tk) k, ⟨_, rfl⟩, q⟩
  obtain ⟨as, rd⟩ := DS.reads I _ _ _ hd rfl
  obtain ⟨bs, hb, hk⟩ := DS.show I _ _ _ hd rfl h1 h2
  cases hd with
  | @lst _ xs ds hq ha =>
    have hz' : (listText (PyData.shownAll ds)).length ≤ sizeLine := by simpa only [PyData.shown] using h2
    obtain ⟨its, rv, ⟨o, n, e1, e2, _, e3⟩, _⟩ := I.list hq
    obtain ⟨bs, hb, hk⟩ := DSs.show I ds _ its ha rv (by simpa [PyData.showable] using h1) (fun t ht => Nat.le_trans (listText_mem_le ht) hz')
    have hna := not_mem_of_deeper rd (by simp only [PyData.depth]; omega) hb
    simp only [PyData.depth] at h3
    simp only [PyData.shown] at fin
    refine PySem.call_repr_slot (by omega) ⟨o, e1, e2⟩ PySem.F.slot_list_repr.toG ?_
    cases its with
    | nil =>
      cases rv
      cases ha
      simp only [PyData.shownAll, listText_nil] at fin
      exact call_list_repr_empty ⟨o, e1, e2⟩ e1 e3 ⟨_, _, rfl, fin s.heap _ _ fun _ _ e => e⟩
    | cons x l =>
      exact call_list_reprK e1 e2 e3 hna (by simpa using hk.length_eq) (fun i y e => hk.item i y (by simpa using e)) hgd (fun b _ => Clear.nil b) (by show X.A.units + 1 + _ < cLine; omega) (fun _ _ e => e) (fun h' u tk k => ⟨_, _, rfl, fin h' u tk k⟩) hz'
  | @tup _ xs ds hq ha =>
    have hz' : (tupleText (PyData.shownAll ds)).length ≤ sizeLine := by simpa only [PyData.shown] using h2
    obtain ⟨its, rv, ⟨o, e1, e2, n, e3⟩, _⟩ := I.tuple hq
    obtain ⟨bs, hb, hk⟩ := DSs.show I ds _ its ha rv (by simpa [PyData.showable] using h1) (fun t ht => Nat.le_trans (tupleText_mem_le ht) hz')
    have hna := not_mem_of_deeper rd (by simp only [PyData.depth]; omega) hb
    simp only [PyData.depth] at h3
    simp only [PyData.shown] at fin
    refine PySem.call_repr_slot (by omega) ⟨o, e1, e2⟩ PySem.F.slot_tuple_repr ?_
    exact call_tuple_reprK e1 e2 e3 hna (by simpa using hk) hgd (fun b _ => Clear.nil b) (by show X.A.units + 1 + _ < cLine; omega) (fun _ _ e => e) (fun h' u tk k => ⟨_, _, rfl, fin h' u tk k⟩) hz'
  | @dic _ kvs es ha hkv =>
    have hz' : (dictText (PyData.shownKv es)).length ≤ sizeLine := by simpa only [PyData.shown] using h2
    obtain ⟨_, hsys, vs, kv, o, ee, ep, e1, e2, e3, _, hp, _⟩ := dk_of I.hok ha
    obtain ⟨r1, r2⟩ := pairs_rel hp kv
    obtain ⟨hs1, hs2⟩ := PyData.showableKv_split es (by simpa [PyData.showable] using h1)
    obtain ⟨b1, hb1, k1⟩ := DSk.showK I es _ (ee.toList.map (·.key)) hkv r2 hs1 (fun t ht => let ⟨p, hp, hl⟩ := PyData.shownKv_key_le es t ht; Nat.le_trans hl (Nat.le_trans (dictText_mem_le hp) hz'))
    obtain ⟨b2, hb2, k2⟩ := DSk.showV I es _ (ee.toList.map (·.val)) hkv r1 hs2 (fun t ht => let ⟨p, hp, hl⟩ := PyData.shownKv_val_le es t ht; Nat.le_trans hl (Nat.le_trans (dictText_mem_le hp) hz'))
    have hb : ReadAtMost s.heap (PyData.depthKv es) (b1 ++ b2) := (hb1.mono (PyData.depthAll_keys_le es)).append (hb2.mono (PyData.depthAll_vals_le es))
    have hna := not_mem_of_deeper rd (by simp only [PyData.depth]; omega) hb
    simp only [PyData.depth] at h3
    simp only [PyData.shown, PyData.shownKv_eq] at fin
    refine PySem.call_repr_slot (by omega) ⟨o, e1, e2.1⟩ PySem.F.slot_dict_repr ?_
    exact call_dict_reprK e1 e2.1 e3 hsys hna (ReprEntriesK.of_two ee.toList _ _
      (k1.more_le (fun b hb => List.mem_append_left _ hb) (PyData.depthAll_keys_le es)) (k2.more_le (fun b hb => List.mem_append_right _ hb) (PyData.depthAll_vals_le es))) hgd (fun b _ => Clear.nil b) (by show X.A.units + 1 + _ < cLine; omega) (fun _ _ e => e) (fun h' u tk k => ⟨_, _, rfl, fin h' u tk k⟩) (by rw [← PyData.shownKv_eq]; exact hz')
/-! ### list(text) -/
def rListStr : List V → Hp → VK → Prop := fun xs H Q => ∃ z : Str, xs = [.str z] ∧ z.length ≤ sizeLine ∧ ∀ l, H l = none → Q (.ref l) (upd H l (.lst (z.cps.toList.map fun c => V.str ⟨#[c]⟩)))
theorem cr_listStr (hc : X.calm = true) : CallR X (.type "list") rListStr := by
  intro pins s σ H xs us Q I r h
  obtain ⟨z, rfl, hz, q⟩ := h
  obtain ⟨u, rfl, ru⟩ := vals1 r
  obtain ⟨t, rfl⟩ := ru
  refine call_list_str (I.ok.hd hc) z t (fun h' tk acc' c' kp hS hacc => ?_) hz
  refine ⟨.ref s.heap.objs.size, upd H s.heap.objs.size (.lst (z.cps.toList.map fun c => V.str ⟨#[c]⟩)), I.laid kp (Nat.le_refl _) (show ObjOk X.prog X.w _ _ _ (.lst _) from ⟨?_, acc'.toList, c', ?_, ?_⟩), rfl, q _ (I.hok.fresh (Nat.le_refl _))⟩
  · rw [List.length_map, Array.length_toList]; exact hz
  · refine vals_of_at (by rw [List.length_map, Array.length_toList, Array.length_toList, hacc.1]) fun j x w h1 h2 => ?_
    obtain ⟨c, u, hk, rfl⟩ := hacc.2 j w (by rw [← Array.getElem?_toList]; exact h2)
    rw [List.getElem?_map, Array.getElem?_toList, hk] at h1
    cases h1
    exact ⟨u, rfl⟩
  · rw [Array.toArray_toList]; exact hS
/-! ### text * int -/
def rMulS : R2 := fun x y H Q => ∃ (z : Str) (n : Int), x = .str z ∧ y = .int n ∧ MulOk z n ∧ Q (.str (Txt.mul z n)) H
theorem op_mulS : OpR X (binaryOp .Mult) rMulS := by
  intro pins s σ H x y v u Q I rx ry h
  obtain ⟨z, n, rfl, rfl, ok, q⟩ := h
  obtain ⟨t, rfl⟩ := rx
  obtain ⟨t', rfl⟩ := ry
  exact SB.mul ok fun t k => ⟨.str _, H, I.tok _, ⟨_, rfl⟩, q⟩
end
end RL
namespace K37
open PySem L2
open PyProof.Rows PySem.Spec
/-- names with their begins and ends -/
abbrev Rws := List (Str × Int × Int)
def Kvs (L : List (Str × Addr)) : List (Key × V) := L.map fun p => (Sum.inr p.1, V.ref p.2)
def TupAt (H : Hp) (t : Addr) (b e : Int) : Prop := H t = some (.tup [.int b, .int e])
inductive Tups (H : Hp) : List (Str × Addr) → Rws → Prop
  | nil : Tups H [] []
  | cons {n : Str} {t : Addr} {b e : Int} {L : List (Str × Addr)} {R : Rws} : TupAt H t b e → Tups H L R → Tups H ((n, t) :: L) ((n, b, e) :: R)
/-- what keeps tuples -/
def KT (H H' : Hp) : Prop := ∀ t xs, H t = some (.tup xs) → H' t = some (.tup xs)
theorem KT.refl {H : Hp} : KT H H := fun _ _ e => e
theorem KT.trans {H H1 H2 : Hp} (a : KT H H1) (b : KT H1 H2) : KT H H2 := fun t xs e => b t xs (a t xs e)
theorem KT.same {H H' : Hp} (s : Same H H') : KT H H' := fun t xs e => s t _ e
theorem KT.only {H H' : Hp} {r : Addr} (o : Only r H H') (h : Rl H r) : KT H H' := fun t xs e => o t _ (fun w => by obtain ⟨x, y, z, q⟩ := h; rw [w, q] at e; cases e) e
theorem KT.put {H : Hp} {d : Addr} {o u : HO} (h : H d = some u) (n : ∀ xs, u ≠ .tup xs) : KT H (upd H d o) := fun t xs e => by
  rw [upd_ne (fun w => n xs (by rw [w, h] at e; exact Option.some.inj e))]
  exact e
theorem KT.new {H : Hp} {d : Addr} {o : HO} (h : H d = none) : KT H (upd H d o) := fun t xs e => by rw [upd_ne (ne_of_none e h)]; exact e
theorem Tups.keep {H H' : Hp} (k : KT H H') : ∀ {L : List (Str × Addr)} {R : Rws}, Tups H L R → Tups H' L R
  | _, _, .nil => .nil
  | _, _, .cons h t => .cons (k _ _ h) (Tups.keep k t)
theorem Tups.names {H : Hp} : ∀ {L : List (Str × Addr)} {R : Rws}, Tups H L R → L.map (·.1) = R.map (·.1)
  | _, _, .nil => rfl
  | _, _, .cons _ t => by rw [List.map_cons, List.map_cons, Tups.names t]
theorem Tups.len {H : Hp} {L : List (Str × Addr)} {R : Rws} (h : Tups H L R) : L.length = R.length := by
  rw [← List.length_map (f := (·.1)) (as := L), h.names, List.length_map]
theorem Tups.snoc {H : Hp} {n : Str} {t : Addr} {b e : Int} : ∀ {L : List (Str × Addr)} {R : Rws}, Tups H L R → TupAt H t b e → Tups H (L ++ [(n, t)]) (R ++ [(n, b, e)])
  | _, _, .nil, q => .cons q .nil
  | _, _, .cons h t, q => .cons h (Tups.snoc t q)
theorem Tups.get {H : Hp} {n : Str} : ∀ {L : List (Str × Addr)} {R : Rws}, Tups H L R → n ∈ R.map (·.1) → ∃ t b e, valV (Kvs L) (.inr n) = some (.ref t) ∧ TupAt H t b e ∧ (n, b, e) ∈ R
  | _, _, .nil, h => by cases h
  | _, _, .cons (n := m) (t := t) (b := b) (e := e) (L := L) (R := R) h ts, hn => by
    by_cases c : m = n
    · subst c
      exact ⟨t, b, e, valV_pos (p := ((Sum.inr m : Key), V.ref t)) rfl, h, List.mem_cons_self⟩
    · rcases List.mem_cons.mp hn with q | q
      · exact absurd q.symm c
      · obtain ⟨t', b', e', h1, h2, h3⟩ := Tups.get ts q
        exact ⟨t', b', e', (valV_neg (p := ((Sum.inr m : Key), V.ref t)) (fun z => c (Sum.inr.inj z))).trans h1, h2, List.mem_cons_of_mem _ h3⟩
theorem nodup_uniq : ∀ {R : Rws} {n : Str} {p q : Int × Int}, (R.map (·.1)).Nodup → (n, p) ∈ R → (n, q) ∈ R → p = q
  | [], _, _, _, _, h, _ => by cases h
  | (m, u) :: R, n, p, q, nd, h1, h2 => by
    rw [List.map_cons, List.nodup_cons] at nd
    rcases List.mem_cons.mp h1 with e1 | e1
    · rcases List.mem_cons.mp h2 with e2 | e2
      · cases e1; cases e2; rfl
      · cases e1
        exact absurd (List.mem_map.mpr ⟨_, e2, rfl⟩) nd.1
    · rcases List.mem_cons.mp h2 with e2 | e2
      · cases e2
        exact absurd (List.mem_map.mpr ⟨_, e1, rfl⟩) nd.1
      · exact nodup_uniq nd.2 e1 e2
theorem Tups.at {H : Hp} {L : List (Str × Addr)} {R : Rws} (h : Tups H L R) (nd : (R.map (·.1)).Nodup) {n : Str} {b e : Int} (m : (n, b, e) ∈ R) : ∃ t, valV (Kvs L) (.inr n) = some (.ref t) ∧ TupAt H t b e := by
  obtain ⟨t, b', e', h1, h2, h3⟩ := h.get (n := n) (List.mem_map.mpr ⟨_, m, rfl⟩)
  have := nodup_uniq nd m h3
  cases this
  exact ⟨t, h1, h2⟩
theorem valV_none {L : List (Str × Addr)} {n : Str} (h : n ∉ L.map (·.1)) : valV (Kvs L) (.inr n) = none := by
  cases e : valV (Kvs L) (.inr n) with
  | none => rfl
  | some v =>
    refine absurd ?_ h
    have := valV_in e
    unfold Kvs at this
    rw [List.map_map] at this
    obtain ⟨p, hp, q⟩ := List.mem_map.mp this
    exact List.mem_map.mpr ⟨p, hp, Sum.inr.inj q⟩
theorem kvs_snoc (L : List (Str × Addr)) (n : Str) (t : Addr) : Kvs (L ++ [(n, t)]) = Kvs L ++ [(Sum.inr n, V.ref t)] := by
  unfold Kvs
  rw [List.map_append]
  rfl
theorem putK_kvs {L : List (Str × Addr)} {n : Str} {t : Addr} (h : n ∉ L.map (·.1)) : putK (Kvs L) (.inr n) (.ref t) = Kvs (L ++ [(n, t)]) := by
  rw [putK_new _ (valV_none h), kvs_snoc]
theorem kvs_len (L : List (Str × Addr)) : (Kvs L).length = L.length := List.length_map ..
theorem kvs_keys (L : List (Str × Addr)) : (Kvs L).map (·.1) = (L.map (·.1)).map Sum.inr := by
  unfold Kvs
  rw [List.map_map, List.map_map]
  rfl
theorem mergeK_kvs : ∀ (M L : List (Str × Addr)), ((L ++ M).map (·.1)).Nodup → mergeK (Kvs L) (Kvs M) = Kvs (L ++ M)
  | [], L, _ => by rw [List.append_nil]; rfl
  | (n, t) :: M, L, nd => by
    have hn : n ∉ L.map (·.1) := fun h => by
      rw [List.map_append, List.map_cons] at nd
      have := (List.nodup_append.mp nd).2.2 n h n List.mem_cons_self
      exact this rfl
    have e : mergeK (Kvs L) (Kvs ((n, t) :: M)) = mergeK (putK (Kvs L) (.inr n) (.ref t)) (Kvs M) := rfl
    rw [e, putK_kvs hn, mergeK_kvs M (L ++ [(n, t)]) (by rw [List.append_assoc]; exact nd), List.append_assoc]
    rfl
/-- such a dict as a datum -/
def rowD (r : Str × Int × Int) : PyData × PyData := (.str r.1, .tuple [.int r.2.1, .int r.2.2])
def rowsD (R : Rws) : PyData := .dict (R.map rowD)
theorem tupAt_ds {K : PySem.W.Frag} {H : Hp} {t : Addr} {b e : Int} (h : TupAt H t b e) : RL.DS K H (.ref t) (.tuple [.int b, .int e]) := .tup (SqT.of h) (.cons (.int _) (.cons (.int _) .nil))
theorem Tups.dsk {K : PySem.W.Frag} {H : Hp} : ∀ {L : List (Str × Addr)} {R : Rws}, Tups H L R → RL.DSk K H (Kvs L) (R.map rowD)
  | _, _, .nil => .nil
  | _, _, .cons h t => .cons (k := Sum.inr _) (tupAt_ds h) (Tups.dsk t)
theorem rows_ds {K : PySem.W.Frag} {H : Hp} {a : Addr} {L : List (Str × Addr)} {R : Rws} (ha : H a = some (.dK (Kvs L))) (h : Tups H L R) : RL.DS K H (.ref a) (rowsD R) := .dic ha h.dsk
/-! ### sorting -/
theorem risingS_pw : ∀ (p : Str) (l : List Str), risingS p l = true → (∀ y ∈ l, ltCps y.cps.toList p.cps.toList = false) ∧ l.Pairwise (fun a b => ltCps b.cps.toList a.cps.toList = false)
  | p, [], _ => ⟨(fun _ h => by cases h), List.Pairwise.nil⟩
  | p, x :: r, h => by
    have h' : (!ltCps x.cps.toList p.cps.toList && risingS x r) = true := h
    rw [Bool.and_eq_true] at h'
    obtain ⟨h1, h2⟩ := h'
    obtain ⟨i1, i2⟩ := risingS_pw x r h2
    have hx : ltCps x.cps.toList p.cps.toList = false := by simpa using h1
    refine ⟨fun y hy => ?_, List.pairwise_cons.mpr ⟨i1, i2⟩⟩
    rcases List.mem_cons.mp hy with rfl | hy
    · exact hx
    · have hy2 := i1 y hy
      rw [ltCps_eq] at hx hy2 ⊢
      rw [decide_eq_false_iff_not] at hx hy2 ⊢
      exact List.not_lt.mpr (List.le_trans (List.not_lt.mp hx) (List.not_lt.mp hy2))
theorem sortedS_pw {l : List Str} (h : sortedS l = true) : l.Pairwise (fun a b => ltCps b.cps.toList a.cps.toList = false) := by
  cases l with
  | nil => exact List.Pairwise.nil
  | cons x r =>
    obtain ⟨a, b⟩ := risingS_pw x r h
    exact List.pairwise_cons.mpr ⟨a, b⟩
theorem str_ext {a b : Str} (h : a.cps.toList = b.cps.toList) : a = b := by
  obtain ⟨⟨a⟩⟩ := a
  obtain ⟨⟨b⟩⟩ := b
  simp only at h
  rw [h]
theorem sorted_eq {xs ys zs : List Str} (p1 : ys.Perm xs) (p2 : zs.Perm xs) (s1 : sortedS ys = true) (s2 : sortedS zs = true) : ys = zs := by
  refine List.Perm.eq_of_pairwise (le := fun a b => ltCps b.cps.toList a.cps.toList = false) (fun a b _ _ h1 h2 => ?_) (sortedS_pw s1) (sortedS_pw s2) (p1.trans p2.symm)
  rw [ltCps_eq, decide_eq_false_iff_not] at h1 h2
  exact str_ext (List.le_antisymm (List.not_lt.mp h1) (List.not_lt.mp h2))
/-- the rows in the order of their names -/
structure Srd (R S : Rws) : Prop where
  pm : S.Perm R
  so : sortedS (S.map (·.1)) = true
theorem Srd.eq {R S S' : Rws} (nd : (R.map (·.1)).Nodup) (a : Srd R S) (b : Srd R S') : S = S' := by
  have e := sorted_eq (a.pm.map (·.1)) (b.pm.map (·.1)) a.so b.so
  have key : ∀ {X Y : Rws}, X.map (·.1) = Y.map (·.1) → (∀ x ∈ X, x ∈ R) → (∀ y ∈ Y, y ∈ R) → X = Y := by
    intro X
    induction X with
    | nil =>
      intro Y h _ _
      cases Y with
      | nil => rfl
      | cons _ _ => cases h
    | cons x X ih =>
      intro Y h h1 h2
      cases Y with
      | nil => cases h
      | cons y Y =>
        obtain ⟨xn, xp⟩ := x
        obtain ⟨yn, yp⟩ := y
        obtain ⟨e1, e2⟩ := List.cons.inj h
        obtain rfl : xn = yn := e1
        have : xp = yp := nodup_uniq nd (h1 _ List.mem_cons_self) (h2 _ List.mem_cons_self)
        rw [this, ih e2 (fun x hx => h1 x (List.mem_cons_of_mem _ hx)) (fun x hx => h2 x (List.mem_cons_of_mem _ hx))]
  exact key e (fun x hx => a.pm.mem_iff.mp hx) (fun x hx => b.pm.mem_iff.mp hx)
theorem Srd.nodup {R S : Rws} (nd : (R.map (·.1)).Nodup) (a : Srd R S) : (S.map (·.1)).Nodup := (a.pm.map (·.1)).nodup_iff.mpr nd
/-- a span of an interval -/
def SpOk (T : Int) (r : Str × Int × Int) : Prop := 1 ≤ r.2.2 - r.2.1 ∧ r.2.2 - r.2.1 ≤ 8 * T
def Near (c : Int) (r : Str × Int × Int) : Prop := -c ≤ r.2.1 ∧ r.2.2 ≤ c
end K37
namespace K37
open PySem L2
open PyProof.Rows PySem.Spec
abbrev tx (cs : List Nat) : Str := ⟨cs.toArray⟩
abbrev chV (c : Nat) : V := V.str ⟨#[c]⟩
def LETC : List Nat := [97, 98, 99, 100, 101, 102, 103, 104, 105, 106, 107, 108, 109, 110, 111, 112, 113, 114, 115, 116, 117, 118, 119, 120, 121, 122]
def low (cs : List Nat) : Prop := ∀ c ∈ cs, 97 ≤ c ∧ c ≤ 122
theorem low_letc : low LETC := by
  show ∀ c ∈ LETC, 97 ≤ c ∧ c ≤ 122
  decide
theorem nd_letc : LETC.Nodup := by decide
theorem letters_eq : ((Str.ofString "abcdefghijklmnopqrstuvwxyz").cps.toList.map fun c => V.str ⟨#[c]⟩) = LETC.map chV := by rfl
theorem tx_inj {a b : List Nat} (h : tx a = tx b) : a = b := by
  have : a.toArray = b.toArray := congrArg Str.cps h
  exact congrArg Array.toList this
theorem ch_inj {a b : Nat} (h : chV a = chV b) : a = b := by
  have h1 : (⟨#[a]⟩ : Str) = ⟨#[b]⟩ := V.str.inj h
  have h2 : (#[a] : Array Nat) = #[b] := congrArg Str.cps h1
  simpa using h2
theorem join_ones : ∀ cs : List Nat, Txt.join (Str.ofString "") (cs.map fun c => (⟨#[c]⟩ : Str)) = tx cs := by
  have e0 : Str.ofString "" = Str.empty := by rfl
  have key : ∀ cs : List Nat, Str.join Str.empty (cs.map fun c => (⟨#[c]⟩ : Str)) = tx cs := by
    intro cs
    induction cs with
    | nil => rfl
    | cons c cs ih =>
      cases cs with
      | nil => rfl
      | cons d cs =>
        show (⟨#[c]⟩ : Str) ++ Str.empty ++ Str.join Str.empty ((d :: cs).map fun c => (⟨#[c]⟩ : Str)) = _
        rw [ih]
        show (⟨(#[c] ++ (#[] : Array Nat)) ++ (d :: cs).toArray⟩ : Str) = ⟨(c :: d :: cs).toArray⟩
        simp
  intro cs
  rw [TL.join_eq, e0, key]
theorem nmC_tx {cs : List Nat} (h1 : 1 ≤ cs.length) (h2 : cs.length ≤ 8) (h : low cs) : nmC (tx cs) = true := by
  unfold nmC
  have e : (tx cs).length = cs.length := by show (cs.toArray).size = _; simp
  rw [e, decide_eq_true ⟨h1, h2⟩, Bool.true_and, List.all_eq_true]
  intro c hc
  have hc' : c ∈ cs := by simpa using hc
  rw [decide_eq_true (h c hc').1, decide_eq_true (h c hc').2]
  rfl
theorem sub_map {α : Type} {f : α → V} {xs : List α} : ∀ {ys : List V}, (∀ y ∈ ys, y ∈ xs.map f) → ∃ cs : List α, ys = cs.map f ∧ ∀ c ∈ cs, c ∈ xs
  | [], _ => ⟨[], rfl, fun _ h => by cases h⟩
  | y :: ys, h => by
    obtain ⟨cs, e, m⟩ := sub_map (ys := ys) fun z hz => h z (List.mem_cons_of_mem _ hz)
    obtain ⟨c, hc, e2⟩ := List.mem_map.mp (h y List.mem_cons_self)
    refine ⟨c :: cs, by rw [List.map_cons, e, e2], fun d hd => ?_⟩
    rcases List.mem_cons.mp hd with rfl | hd
    · exact hc
    · exact m d hd
theorem nd_of_map {α β : Type} {f : α → β} {cs : List α} (h : (cs.map f).Nodup) : cs.Nodup := by
  unfold List.Nodup at h ⊢
  rw [List.pairwise_map] at h
  exact h.imp fun hab e => hab (by rw [e])
theorem nd_map {α β : Type} {f : α → β} {cs : List α} (inj : ∀ a ∈ cs, ∀ b ∈ cs, f a = f b → a = b) (h : cs.Nodup) : (cs.map f).Nodup := by
  induction cs with
  | nil => exact List.nodup_nil
  | cons c cs ih =>
    rw [List.nodup_cons] at h
    rw [List.map_cons, List.nodup_cons]
    refine ⟨fun hm => ?_, ih (fun a ha b hb => inj a (List.mem_cons_of_mem _ ha) b (List.mem_cons_of_mem _ hb)) h.2⟩
    obtain ⟨d, hd, e⟩ := List.mem_map.mp hm
    have := inj d (List.mem_cons_of_mem _ hd) c List.mem_cons_self e
    exact h.1 (this ▸ hd)
theorem few_of {α : Type} {f : α → V} {xs : List α} (inj : ∀ a ∈ xs, ∀ b ∈ xs, f a = f b → a = b) (nd : xs.Nodup) {ys rest : List V} (pm : (xs.map f).Perm (ys ++ rest)) : ∃ cs : List α, ys = cs.map f ∧ (∀ c ∈ cs, c ∈ xs) ∧ cs.Nodup := by
  obtain ⟨cs, rfl, m⟩ := sub_map (f := f) (xs := xs) (ys := ys) fun y hy => pm.mem_iff.mpr (List.mem_append_left _ hy)
  exact ⟨cs, rfl, m, nd_of_map (List.nodup_append.mp (pm.nodup_iff.mp (nd_map inj nd))).1⟩
theorem few_letters {ys rest : List V} (pm : (LETC.map chV).Perm (ys ++ rest)) : ∃ cs : List Nat, ys = cs.map chV ∧ low cs ∧ cs.Nodup := by
  obtain ⟨cs, e, m, nd⟩ := few_of (fun a _ b _ h => ch_inj h) nd_letc pm
  exact ⟨cs, e, fun c hc => low_letc c (m c hc), nd⟩
theorem chs_map (cs : List Nat) : cs.map chV = (cs.map fun c => (⟨#[c]⟩ : Str)).map V.str := by
  rw [List.map_map]
  rfl
theorem ones_len (cs : List Nat) : ((cs.map fun c => (⟨#[c]⟩ : Str)).map (·.length)).sum = cs.length := by
  induction cs with
  | nil => rfl
  | cons c cs ih =>
    rw [List.map_cons, List.map_cons, List.sum_cons, ih, List.length_cons]
    show 1 + cs.length = cs.length + 1
    omega
theorem cut_tx (cs : List Nat) (k : Nat) : cutS (tx cs) none (some (k : Int)) = tx (cs.take k) := by
  unfold cutS
  rw [HT.sIx_none, HT.sIx_nat]
  have e : (tx cs).length = cs.length := by show (cs.toArray).size = _; simp
  rw [e]
  show (⟨((cs.toArray.toList.drop 0).take (min k cs.length - 0)).toArray⟩ : Str) = _
  simp only [List.drop_zero, Nat.sub_zero]
  congr 2
  show cs.take (min k cs.length) = cs.take k
  rcases Nat.le_total k cs.length with h | h
  · rw [Nat.min_eq_left h]
  · rw [Nat.min_eq_right h, List.take_length, List.take_of_length_le h]
section
variable {P : Program} {w : World} {K : PySem.W.Frag}
                                                      {mg : Str → Option Value} {base : Heap}
/-- the names: different, each a name -/
def sp_w_names (K : PySem.W.Frag) : Sp := fun vs H Q _ => ∃ (r : Addr) (many : Nat), vs = [.ref r, .int (many : Int)] ∧ Rl H r ∧ 1 ≤ many ∧ many ≤ 8 ∧
  ∀ l (ns : List Str) H', Rl H' r → Only r H H' → H l = none → H' l = some (.lst (ns.map V.str)) → ns.Nodup → ns.length = many → (∀ n ∈ ns, nmC n = true) → Q (.ref l) H'
theorem ok_w_names (T : T K mg) : FnOk P w K mg base CX0 3 T.f_w_names T.d_w_names ["tray", "many"] (sp_w_names K) := by
  have G_w_few : FnOk P w K mg base CX0 2 T.f_w_few T.d_w_few ["tray", "items", "many"] (sp_w_few K) := ok_w_few T
  have G_w_pick : FnOk P w K mg base CX0 2 T.f_w_pick T.d_w_pick ["tray", "items"] (sp_w_pick K) := ok_w_pick T
  have G_w_roll : FnOk P w K mg base CX0 1 T.f_w_roll T.d_w_roll ["tray", "total"] (sp_w_roll K) := ok_w_roll T
  refine T.F_w_names.ok sc_w_names (fun vs H Q E h => ?_) (fun cdv A outer s H vs Q E hr h => ?_)
  · obtain ⟨r, many, rfl, _⟩ := h
    rfl
  · obtain ⟨r, many, rfl, hR, m1, m8, k⟩ := h
    have hu := hu_of hr
    have hr_w_few : Room 2 _ := hr.mono (by decide)
    have hr_w_pick : Room 2 _ := hr.mono (by decide)
    have hr_w_roll : Room 1 _ := hr.mono (by decide)
    refine ⟨_, (pss_cons (ps_set (i := 2) sc_w_names.nd rfl (Or.inr rfl) (pe_callTy (RL.cr_listStr rfl) (by rfl) T.z_list (by decide +kernel) (pa_cons pe_str pa_nil)))
      (pss_cons (ps_if (pt_cmpR op_eq (pe_call G_w_roll hr_w_roll rfl T.m_w_roll T.F_w_roll.kp T.b_w_roll .nil pass0 (pa_cons (pv 0) (pa_cons pe_int pa_nil))) pe_int (nomark _))
      (pss_cons (ps_set (i := 3) sc_w_names.nd rfl (Or.inr rfl) (pe_join pe_str (pe_lc (own := [("turn", 6)]) (g := gName 6) rfl sc_w_names.nd (pi_range1 (by rfl) T.z_range (pa_cons pe_int pa_nil)) (blkOk_by (N := ["tray", "many", "letters", "stem", "found", "letter", "turn", "size"]) (sc := defScope s_w_names) (by decide +kernel)) (fun _ _ _ _ _ => (pg_name (i := 6) sc_w_names.nd rfl (Or.inl rfl))) (fun _ _ _ _ _ => pts_nil) (fun _ _ _ _ _ => (pe_call G_w_pick hr_w_pick rfl T.m_w_pick T.F_w_pick.kp T.b_w_pick .nil pass0 (pa_cons (pv 0) (pa_cons (pv 2) pa_nil)))))))
      (pss_one (ps_ret (pe_lc (own := [("size", 7)]) (g := gName 7) rfl sc_w_names.nd (pi_list (pe_call G_w_few hr_w_few rfl T.m_w_few T.F_w_few.kp T.b_w_few .nil pass0 (pa_cons (pv 0) (pa_cons (pe_lst (pa_cons pe_int (pa_cons pe_int (pa_cons pe_int (pa_cons pe_int (pa_cons pe_int (pa_cons pe_int (pa_cons pe_int (pa_cons pe_int pa_nil))))))))) (pa_cons (pv 1) pa_nil))))) (blkOk_by (N := ["tray", "many", "letters", "stem", "found", "letter", "turn", "size"]) (sc := defScope s_w_names) (by decide +kernel)) (fun _ _ _ _ _ => (pg_name (i := 7) sc_w_names.nd rfl (Or.inl rfl))) (fun _ _ _ _ _ => pts_nil) (fun _ _ _ _ _ => (pe_slice sl_str (pv 3) po_none (po_some (pv 7))))))))
      pss_nil)
      (pss_cons (ps_asg (pe_tup (pa_cons (pe_join pe_str (pe_call G_w_few hr_w_few rfl T.m_w_few T.F_w_few.kp T.b_w_few .nil pass0 (pa_cons (pv 0) (pa_cons (pv 2) (pa_cons (pe_call G_w_roll hr_w_roll rfl T.m_w_roll T.F_w_roll.kp T.b_w_roll .nil pass0 (pa_cons (pv 0) (pa_cons pe_int pa_nil))) pa_nil))))) (pa_cons (pe_lst pa_nil) pa_nil))) (pg_tup rfl (pgs_cons (pg_name (i := 3) sc_w_names.nd rfl (Or.inr rfl)) (pgs_cons (pg_name (i := 4) sc_w_names.nd rfl (Or.inl rfl)) pgs_nil))))
      (pss_cons (ps_for PassesOwn.never rfl (pi_list (pe_call G_w_few hr_w_few rfl T.m_w_few T.F_w_few.kp T.b_w_few .nil pass0 (pa_cons (pv 0) (pa_cons (pv 2) (pa_cons (pv 1) pa_nil))))) (pg_name (i := 5) sc_w_names.nd rfl (Or.inl rfl))
      (pss_one (ps_expr (pe_bm PySem.F.plainAttrs_list PySem.F.slot_list_append PySem.F.type_list_append mt_append (pv 4) (pa_cons (pe_op op_add_str (pe_op op_add_str (pv 3) (pv 5)) (pe_join pe_str (pe_call G_w_few hr_w_few rfl T.m_w_few T.F_w_few.kp T.b_w_few .nil pass0 (pa_cons (pv 0) (pa_cons (pv 2) (pa_cons (pe_call G_w_pick hr_w_pick rfl T.m_w_pick T.F_w_pick.kp T.b_w_pick .nil pass0 (pa_cons (pv 0) (pa_cons (pe_lst (pa_cons pe_int (pa_cons pe_int (pa_cons pe_int (pa_cons pe_int (pa_cons pe_int pa_nil)))))) pa_nil))) pa_nil)))))) pa_nil)))))
      (pss_one (ps_ret (pv 4))))))), ?_⟩
    refine ⟨_, rfl, by show 26 ≤ sizeLine; decide, fun la hla => ?_⟩
    have S0 : Same H (upd H la (.lst (LETC.map chV))) := Same.new hla
    have e0 : (upd H la (.lst (LETC.map chV))) la = some (.lst (LETC.map chV)) := upd_same
    have R0 := Same.rl S0 hR
    have nla : la ≠ r := hR.ne hla
    rw [letters_eq]
    generalize upd H la (.lst (LETC.map chV)) = H0 at S0 e0 R0 ⊢
    refine ⟨_, rfl, r, 4, rfl, R0, by decide, by decide +kernel, fun v H1 v0 v1 R1 O1 => ⟨rfl, _, rfl, ?_⟩⟩
    have e1 := O1 _ _ nla e0
    refine ite2 (fun c => ?_) (fun c => ?_)
    · clear c
      refine ⟨⟨_, rfl⟩, ?_⟩
      refine ⟨_, rfl, by decide, by decide, fun D hD => ?_⟩
      have nDr : D ≠ r := R1.ne hD
      have nDa : la ≠ D := ne_of_none e1 hD
      refine lc_range (n := 8) (fun i H' => ∃ cs : List Nat, cs.length = i ∧ low cs ∧ H' D = some (.lst (cs.map chV)) ∧ Rl H' r ∧ Only r H1 H') ⟨[], rfl, (fun _ h => by cases h), upd_same, R1.new hD, Only.new hD⟩ ?_ ?_
      · rintro i H2 hi ⟨cs, lc, lw, eD, R2, O2⟩
        refine ⟨rfl, ?_⟩
        unfold tYes
        dsimp only
        rw [if_pos rfl]
        refine ⟨_, rfl, _, rfl, r, _, LETC.map chV, rfl, R2, .inl ⟨la, rfl, nla, .inl (SqL.of (O2 _ _ nla e1))⟩, by decide, by decide, fun u H3 hu3 R3 O3 => ?_⟩
        obtain ⟨c, hc, rfl⟩ := List.mem_map.mp hu3
        refine ⟨_, O3 _ _ nDr eD, by rw [List.length_map, lc, sizeLine_eq]; omega, cs ++ [c], by rw [List.length_append, lc]; rfl, ?_, by rw [upd_same, List.map_append]; rfl, ?_, ?_⟩
        · intro d hd
          rcases List.mem_append.mp hd with hd | hd
          · exact lw d hd
          · rw [List.mem_singleton.mp hd]
            exact low_letc c hc
        · obtain ⟨x1, x2, x3, q⟩ := R3
          exact ⟨x1, x2, x3, by rw [upd_ne nDr.symm]; exact q⟩
        · intro b o nb e
          rw [upd_ne (ne_of_none e hD)]
          exact O3 _ _ nb (O2 _ _ nb e)
      · rintro H2 ⟨cs, lc, lw, eD, R2, O2⟩
        refine ⟨_, D, cs.map fun c => (⟨#[c]⟩ : Str), rfl, rfl, .inl (SqL.of (by rw [eD, chs_map])), by rw [ones_len, lc, List.length_map, lc]; decide, ?_⟩
        rw [join_ones]
        refine ⟨_, rfl, by show 8 ≤ sizeLine; decide, fun l8 hl8 => ?_⟩
        have n8 : l8 ≠ r := R2.ne hl8
        refine ⟨_, rfl, r, l8, _, many, rfl, R2.new hl8, .inl (SqL.of upd_same), by decide, by omega, by omega, fun l' ys rest H3 R3 O3 hl' el' pm ly => ?_⟩
        have O23 : Only r H2 H3 := Only.trans (Only.new hl8) O3
        have O13 : Only r H1 H3 := Only.trans O2 O23
        have nl'r : l' ≠ r := by
          have := R2.new (o := .lst [V.int 1, .int 2, .int 3, .int 4, .int 5, .int 6, .int 7, .int 8]) hl8
          exact this.ne hl'
        obtain ⟨ks, rfl, mk, ndk⟩ := few_of (f := fun n : Nat => V.int (n : Int)) (xs := [1, 2, 3, 4, 5, 6, 7, 8]) (fun a _ b _ h => by have := V.int.inj h; omega) (by decide) pm
        rw [List.length_map] at ly
        have lk : ks.length = many := by
          have h8 : (if ((([V.int 1, .int 2, .int 3, .int 4, .int 5, .int 6, .int 7, .int 8] : List V).length : Nat) : Int) < (many : Int) then ((([V.int 1, .int 2, .int 3, .int 4, .int 5, .int 6, .int 7, .int 8] : List V).length : Nat) : Int) else (many : Int)) = many := by
            show (if ((8 : Nat) : Int) < (many : Int) then _ else _) = _
            rw [if_neg (by omega)]
          have := ly.trans h8
          omega
        refine ⟨l', rfl, ⟨_, SqL.of el'⟩, fun F hF => ?_⟩
        have nFl : l' ≠ F := ne_of_none el' hF
        refine lc_list (xs := ks.map fun n : Nat => V.int (n : Int)) (fun i H' => H' F = some (.lst ((ks.take i).map fun n => V.str (tx (cs.take n)))) ∧ Same H3 H') ⟨upd_same, Same.new hF⟩ (fun i H' _ h => SqL.of (h.2 _ _ el')) ?_ ?_
        · rintro i x H4 hx ⟨eF, S4⟩
          refine ⟨rfl, ?_⟩
          unfold tYes
          dsimp only
          rw [if_pos rfl]
          rw [List.getElem?_map] at hx
          cases e2 : ks[i]? with
          | none => rw [e2] at hx; cases hx
          | some n =>
            rw [e2] at hx
            cases hx
            refine ⟨_, rfl, _, rfl, _, rfl, _, rfl, by show (cs.toArray).size ≤ sizeLine; rw [List.size_toArray, lc]; decide, ?_⟩
            rw [cut_tx]
            have li : i < ks.length := (List.getElem?_eq_some_iff.mp e2).1
            refine ⟨_, eF, by rw [List.length_map, List.length_take, sizeLine_eq]; omega, ?_, Same.at hF S4⟩
            rw [upd_same, List.take_add_one, e2, List.map_append]
            rfl
        · rintro H4 ⟨eF, S4⟩
          rw [List.length_map, List.take_length] at eF
          refine k F (ks.map fun n => tx (cs.take n)) H4 (Same.rl S4 R3) ?_ ?_ (by rw [eF, List.map_map]; rfl) ?_ (by rw [List.length_map, lk]) ?_
          · exact Only.trans (Only.trans (Same.only S0) (Only.trans O1 O13)) (Same.only S4)
          · cases e5 : H F with
            | none => rfl
            | some o =>
              have nFr : F ≠ r := fun z => by rw [z] at hF; obtain ⟨_, _, _, q⟩ := R3; rw [q] at hF; cases hF
              have := O13 _ _ nFr (O1 _ _ nFr (S0 _ _ e5))
              rw [this] at hF
              cases hF
          · refine nd_map (fun a ha b hb e => ?_) ndk
            have ha' := mk a ha
            have hb' := mk b hb
            have e6 := congrArg List.length (tx_inj e)
            rw [List.length_take, List.length_take, lc] at e6
            simp only [List.mem_cons, List.not_mem_nil, or_false] at ha' hb'
            omega
          · intro n hn
            obtain ⟨m, hm, rfl⟩ := List.mem_map.mp hn
            have hm' := mk m hm
            simp only [List.mem_cons, List.not_mem_nil, or_false] at hm'
            refine nmC_tx ?_ ?_ fun c hc => lw c (List.mem_of_mem_take hc)
            · rw [List.length_take, lc]; omega
            · rw [List.length_take, lc]; omega
    · clear c
      refine ⟨⟨_, rfl⟩, ?_⟩
      refine ⟨_, rfl, _, rfl, _, rfl, r, 4, rfl, R1, by decide, by decide +kernel, fun u H2 u0 u1 R2 O2 => ?_⟩
      have e2 := O2 _ _ nla e1
      refine ⟨r, la, _, u, rfl, R2, .inl (SqL.of e2), by decide, u0, by omega, fun l' ys rest H3 R3 O3 hl' el' pm ly => ?_⟩
      obtain ⟨ss, rfl, ls, _⟩ := few_letters pm
      have lss : ss.length ≤ 3 := by
        rw [List.length_map] at ly
        have e26 : (LETC.map chV).length = 26 := rfl
        rw [e26, if_neg (by omega)] at ly
        omega
      refine ⟨_, l', ss.map fun c => (⟨#[c]⟩ : Str), rfl, rfl, .inl (SqL.of (by rw [el', chs_map])), by rw [ones_len, List.length_map]; show ss.length + ss.length * 0 ≤ _; omega, ?_⟩
      rw [join_ones]
      have e3 := O3 _ _ nla e2
      refine ⟨by show 0 ≤ sizeLine; decide, fun f hf => ⟨by show 2 ≤ sizeLine; decide, fun t ht => ?_⟩⟩
      have nfr : f ≠ r := R3.ne hf
      have nfa : la ≠ f := ne_of_none e3 hf
      have nft : f ≠ t := ne_of_none (upd_same (a := f) (H := H3) (o := .lst [])) ht
      have htu := ht
      rw [upd_ne nft.symm] at ht
      have S3 : Same H3 (upd (upd H3 f (.lst [])) t (.tup [V.str (tx ss), V.ref f])) := fun b o e => by
        rw [upd_ne (ne_of_none e ht), upd_ne (ne_of_none e hf)]
        exact e
      have ef : (upd (upd H3 f (.lst [])) t (.tup [V.str (tx ss), V.ref f])) f = some (.lst []) := by rw [upd_ne nft, upd_same]
      refine ⟨t, _, rfl, SqT.of upd_same, rfl, _, _, rfl, ?_⟩
      have R4 := Same.rl S3 R3
      have e4 := S3 _ _ e3
      have O14 : Only r H1 (upd (upd H3 f (.lst [])) t (.tup [V.str (tx ss), V.ref f])) := Only.trans (Only.trans O2 O3) (Same.only S3)
      have hf1 : H f = none := by
        cases e5 : H f with
        | none => rfl
        | some o =>
          have := O3 _ _ nfr (O2 _ _ nfr (O1 _ _ nfr (S0 _ _ e5)))
          rw [this] at hf
          cases hf
      generalize upd (upd H3 f (.lst [])) t (.tup [V.str (tx ss), V.ref f]) = H4 at S3 ef R4 e4 O14 ⊢
      refine ⟨_, _, rfl, rfl, ?_⟩
      refine ⟨_, rfl, _, rfl, _, rfl, r, la, _, many, rfl, R4, .inl (SqL.of e4), by decide, by omega, by omega, fun lm ys rest H5 R5 O5 hlm elm pm ly => ?_⟩
      obtain ⟨cs, rfl, lc, ndc⟩ := few_letters pm
      have lcm : cs.length = many := by
        rw [List.length_map] at ly
        have e26 : (LETC.map chV).length = 26 := rfl
        rw [e26, if_neg (by omega)] at ly
        omega
      have ef5 := O5 _ _ nfr ef
      have e5 := O5 _ _ nla e4
      have nlm : lm ≠ r := R4.ne hlm
      have nlf : lm ≠ f := fun z => by rw [z, ef] at hlm; cases hlm
      refine ⟨lm, rfl, ⟨_, SqL.of elm⟩, for_list (xs := cs.map chV) (fun i σ H' => (∃ v, σ = [some (.ref r), some (.int many), some (.ref la), some (.str (tx ss)), some (.ref f), v, none, none]) ∧ Rl H' r ∧ (∀ b o, b ≠ r → b ≠ f → H5 b = some o → H' b = some o) ∧
        ∃ ps : List (Nat × List Nat), ps.map (·.1) = cs.take i ∧ H' f = some (.lst (ps.map fun p => V.str (tx (ss ++ p.1 :: p.2)))) ∧ ∀ p ∈ ps, low p.2 ∧ p.2.length ≤ 4)
        ⟨⟨none, rfl⟩, R5, (fun b o _ _ e => e), [], rfl, ef5, fun _ h => by cases h⟩ (fun i σ H' _ h => SqL.of (h.2.2.1 _ _ nlm nlf elm)) ?_ ?_⟩
      · rintro i x σ' H6 hx ⟨⟨v', rfl⟩, R6, O6, ps, ep, ef6, hps⟩
        rw [List.getElem?_map] at hx
        cases ec : cs[i]? with
        | none => rw [ec] at hx; cases hx
        | some c =>
          rw [ec] at hx
          cases hx
          have li : i < cs.length := (List.getElem?_eq_some_iff.mp ec).1
          have hc : 97 ≤ c ∧ c ≤ 122 := lc c (List.mem_of_getElem? ec)
          refine ⟨_, rfl, .inl ⟨rfl, _, SqL.of ef6⟩, ?_⟩
          have l1 : (tx ss).length = ss.length := by show (ss.toArray).size = _; simp
          refine ⟨_, rfl, _, rfl, _, _, rfl, rfl, by rw [l1, sizeLine_eq]; show ss.length + 1 ≤ _; omega, ?_⟩
          refine ⟨⟨_, rfl⟩, _, rfl, _, rfl, _, rfl, by show 5 ≤ sizeLine; decide, fun l5 hl5 => ?_⟩
          have R7 : Rl (upd H6 l5 (.lst [V.int 0, .int 0, .int 1, .int 2, .int 4])) r := R6.new hl5
          refine ⟨r, _, [V.int 0, .int 0, .int 1, .int 2, .int 4], rfl, R7, .inl ⟨l5, rfl, R6.ne hl5, .inl (SqL.of upd_same)⟩, by decide, by show 5 ≤ sizeLine; decide, fun pv' H7 hpv R8 O8 => ?_⟩
          have eL : H6 la = some (.lst (LETC.map chV)) := O6 _ _ nla nfa e5
          obtain ⟨n4, rfl, h0, h4⟩ : ∃ n : Int, pv' = .int n ∧ 0 ≤ n ∧ n ≤ 4 := by
            simp only [List.mem_cons, List.not_mem_nil, or_false] at hpv
            rcases hpv with rfl | rfl | rfl | rfl | rfl
            · exact ⟨0, rfl, by decide, by decide⟩
            · exact ⟨0, rfl, by decide, by decide⟩
            · exact ⟨1, rfl, by decide, by decide⟩
            · exact ⟨2, rfl, by decide, by decide⟩
            · exact ⟨4, rfl, by decide, by decide⟩
          have O67 : Only r H6 H7 := Only.trans (Only.new hl5) O8
          refine ⟨r, la, _, n4, rfl, R8, .inl (SqL.of (O67 _ _ nla eL)), by decide, h0, by omega, fun lt ys rest H8 R9 O9 hlt elt pm ly => ?_⟩
          obtain ⟨ts, rfl, lt4, _⟩ := few_letters pm
          have ltl : ts.length ≤ 4 := by
            rw [List.length_map] at ly
            have e26 : (LETC.map chV).length = 26 := rfl
            rw [e26, if_neg (by omega)] at ly
            omega
          refine ⟨_, lt, ts.map fun c => (⟨#[c]⟩ : Str), rfl, rfl, .inl (SqL.of (by rw [elt, chs_map])), by rw [ones_len, List.length_map]; show ts.length + ts.length * 0 ≤ _; omega, ?_⟩
          rw [join_ones]
          have l2 : (tx ts).length = ts.length := by show (ts.toArray).size = _; simp
          refine ⟨_, _, rfl, rfl, ?_, ?_⟩
          · show ((ss.toArray ++ #[c]).size + ts.toArray.size) ≤ sizeLine
            simp only [Array.size_append, List.size_toArray, sizeLine_eq]
            show ss.length + 1 + ts.length ≤ _
            omega
          have ecat : (tx ss ++ (⟨#[c]⟩ : Str)) ++ tx ts = tx (ss ++ c :: ts) := by
            show (⟨(ss.toArray ++ #[c]) ++ ts.toArray⟩ : Str) = ⟨(ss ++ c :: ts).toArray⟩
            simp
          rw [ecat]
          have O68 : Only r H6 H8 := Only.trans O67 O9
          refine ⟨f, _, _, rfl, rfl, O68 _ _ nfr ef6, ?_, ⟨_, rfl⟩, ?_, ?_, ps ++ [(c, ts)], ?_, ?_, ?_⟩
          · rw [List.length_map, sizeLine_eq]
            have := congrArg List.length ep
            rw [List.length_map, List.length_take] at this
            omega
          · obtain ⟨x1, x2, x3, q⟩ := R9
            exact ⟨x1, x2, x3, by rw [upd_ne nfr.symm]; exact q⟩
          · intro b o nb nbf e
            rw [upd_ne nbf]
            exact O68 _ _ nb (O6 _ _ nb nbf e)
          · rw [List.map_append, ep, List.take_add_one, ec]
            rfl
          · rw [upd_same, List.map_append]
            rfl
          · intro p hp
            rcases List.mem_append.mp hp with hp | hp
            · exact hps p hp
            · rw [List.mem_singleton.mp hp]
              exact ⟨lt4, ltl⟩
      · rintro σ' H6 ⟨⟨v', rfl⟩, R6, O6, ps, ep, ef6, hps⟩
        rw [List.length_map, List.take_length] at ep
        refine ⟨_, rfl, k f (ps.map fun p => tx (ss ++ p.1 :: p.2)) H6 R6 ?_ hf1 (by rw [ef6, List.map_map]; rfl) ?_ (by rw [List.length_map, ← lcm, ← ep, List.length_map]) ?_⟩
        · intro b o nb e
          have nbf : b ≠ f := ne_of_none e hf1
          exact O6 _ _ nb nbf (O5 _ _ nb (O14 _ _ nb (O1 _ _ nb (S0 _ _ e))))
        · have ndp : (ps.map (·.1)).Nodup := by rw [ep]; exact ndc
          refine nd_map (fun a ha b hb e => ?_) (nd_of_map ndp)
          have e7 := tx_inj e
          have e8 := List.append_cancel_left e7
          obtain ⟨e9, e10⟩ := List.cons.inj e8
          obtain ⟨a1, a2⟩ := a
          obtain ⟨b1, b2⟩ := b
          simp only at e9 e10
          rw [e9, e10]
        · intro n hn
          obtain ⟨p, hp, rfl⟩ := List.mem_map.mp hn
          obtain ⟨q1, q2⟩ := hps p hp
          have hpc : p.1 ∈ cs := by rw [← ep]; exact List.mem_map.mpr ⟨p, hp, rfl⟩
          refine nmC_tx (by rw [List.length_append, List.length_cons]; omega) (by rw [List.length_append, List.length_cons]; omega) fun c hc => ?_
          rcases List.mem_append.mp hc with hc | hc
          · exact ls c hc
          · rcases List.mem_cons.mp hc with rfl | hc
            · exact lc _ hpc
            · exact q1 c hc
end
end K37
namespace K37
open PySem L2
open PyProof.Rows PySem.Spec
section
variable {P : Program} {w : World} {K : PySem.W.Frag}
                                                      {mg : Str → Option Value} {base : Heap}
/-- pairs (name, the tuple of the name) -/
def PairsAt (H : Hp) (ps : List Addr) (L : List (Str × Addr)) : Prop := Paired (fun p q => H p = some (.tup [.str q.1, .ref q.2])) ps L
theorem PairsAt.keep {H H' : Hp} (k : KT H H') {ps : List Addr} {L : List (Str × Addr)} (h : PairsAt H ps L) : PairsAt H' ps L := by
  unfold PairsAt at h ⊢
  induction h with
  | nil => exact .nil
  | cons a b ih => exact .cons (k _ _ a) ih
theorem PairsAt.snoc {H : Hp} {ps : List Addr} {L : List (Str × Addr)} (h : PairsAt H ps L) {p t : Addr} {n : Str} (q : H p = some (.tup [.str n, .ref t])) : PairsAt H (ps ++ [p]) (L ++ [(n, t)]) := by
  unfold PairsAt at h ⊢
  induction h with
  | nil => exact .cons q .nil
  | cons a b ih => exact .cons a ih
theorem PairsAt.pd {K : PySem.W.Frag} {H : Hp} {ps : List Addr} {L : List (Str × Addr)} (h : PairsAt H ps L) : Paired (fun p kv => SqT K H p [kV kv.1, kv.2]) ps (Kvs L) := by
  unfold PairsAt at h
  induction h with
  | nil => exact .nil
  | cons a b ih => exact .cons (SqT.of a) ih
/-- the rows that some names have -/
def pickR (R : Rws) (ns : List Str) : Rws := ns.map fun n => (n, (R.lookup n).getD (0, 0))
theorem lookup_mem : ∀ {R : Rws} {n : Str} {p : Int × Int}, (R.map (·.1)).Nodup → (n, p) ∈ R → R.lookup n = some p
  | [], _, _, _, h => by cases h
  | (m, u) :: R, n, p, nd, h => by
    rw [List.map_cons, List.nodup_cons] at nd
    rcases List.mem_cons.mp h with e | e
    · cases e
      exact List.lookup_cons_self
    · have hne : (n == m) = false := by
        rw [beq_eq_false_iff_ne]
        rintro rfl
        exact nd.1 (List.mem_map.mpr ⟨_, e, rfl⟩)
      rw [List.lookup_cons, hne]
      exact lookup_mem nd.2 e
theorem pickR_names (R : Rws) (ns : List Str) : (pickR R ns).map (·.1) = ns := by
  unfold pickR
  rw [List.map_map]
  exact List.map_id' _
theorem pickR_mem {R : Rws} {ns : List Str} (nd : (R.map (·.1)).Nodup) (sub : ∀ n ∈ ns, n ∈ R.map (·.1)) : ∀ x ∈ pickR R ns, x ∈ R := by
  intro x hx
  obtain ⟨n, hn, rfl⟩ := List.mem_map.mp hx
  obtain ⟨⟨m, p⟩, hm, e⟩ := List.mem_map.mp (sub n hn)
  obtain rfl : m = n := e
  rw [lookup_mem nd hm]
  exact hm
theorem pickR_perm {R : Rws} {ns : List Str} (nd : (R.map (·.1)).Nodup) (pm : ns.Perm (R.map (·.1))) : (pickR R ns).Perm R := by
  have e : pickR R (R.map (·.1)) = R := by
    unfold pickR
    rw [List.map_map]
    have : ∀ x ∈ R, ((fun n => (n, (R.lookup n).getD (0, 0))) ∘ fun x => x.1) x = x := by
      rintro ⟨n, p⟩ hx
      show (n, (R.lookup n).getD (0, 0)) = (n, p)
      rw [lookup_mem nd hx]
      rfl
    rw [List.map_congr_left this]
    exact List.map_id' _
  have := pm.map fun n => (n, (R.lookup n).getD (0, 0))
  unfold pickR at e
  rw [e] at this
  exact this
theorem pickR_snoc (R : Rws) (ns : List Str) (n : Str) {p : Int × Int} (h : R.lookup n = some p) : pickR R (ns ++ [n]) = pickR R ns ++ [(n, p)] := by
  unfold pickR
  rw [List.map_append]
  show _ ++ [(n, (R.lookup n).getD (0, 0))] = _
  rw [h]
  rfl
def sp_w_sorted (K : PySem.W.Frag) : Sp := fun vs H Q _ => ∃ (d : Addr) (L : List (Str × Addr)) (R : Rws), vs = [.ref d] ∧ H d = some (.dK (Kvs L)) ∧ Tups H L R ∧ (R.map (·.1)).Nodup ∧ R.length ≤ 8 ∧
  ∀ d' L' S H', Same H H' → H d' = none → H' d' = some (.dK (Kvs L')) → Tups H' L' S → Srd R S → Q (.ref d') H'
theorem ok_w_sorted (T : T K mg) : FnOk P w K mg base CX0 1 T.f_w_sorted T.d_w_sorted ["rows"] (sp_w_sorted K) := by
  refine T.F_w_sorted.ok sc_w_sorted (fun vs H Q E h => ?_) (fun cdv A outer s H vs Q E hr h => ?_)
  · obtain ⟨d, L, R, rfl, _⟩ := h
    rfl
  · obtain ⟨d, L, R, rfl, hd, ts, nd, l8, k⟩ := h
    have hu := hu_of hr
    refine ⟨_, (pss_one (ps_ret (pe_callTy (call_dictP rfl) (by rfl) T.z_dict (by decide +kernel) (pa_cons (pe_lc (own := [("name", 1)]) (g := gName 1) rfl sc_w_sorted.nd (pi_list (pe_callB (call_sortedD rfl) (by rfl) T.z_sorted (by decide +kernel) (pa_cons (pv 0) pa_nil))) (blkOk_by (N := ["rows", "name"]) (sc := defScope s_w_sorted) (by decide +kernel)) (fun _ _ _ _ _ => (pg_name (i := 1) sc_w_sorted.nd rfl (Or.inl rfl))) (fun _ _ _ _ _ => pts_nil) (fun _ _ _ _ _ => (pe_tup (pa_cons (pv 1) (pa_cons (pe_dget (by exact hu) (pv 0) (pv 1) (fun _ _ => rfl)) pa_nil))))) pa_nil)))), ?_⟩
    refine ⟨_, rfl, d, _, L.map (·.1), rfl, .inl hd, kvs_keys L, by rw [List.length_map, ts.len]; omega, fun ys p pm so hp => ?_⟩
    have S1 := Same.new (o := .lst (ys.map V.str)) hp
    have ep : (upd H p (.lst (ys.map V.str))) p = some (.lst (ys.map V.str)) := upd_same
    generalize upd H p (.lst (ys.map V.str)) = H1 at S1 ep ⊢
    rw [ts.names] at pm
    refine ⟨p, rfl, ⟨_, SqL.of ep⟩, fun D hD => ?_⟩
    refine lc_list (xs := ys.map V.str) (fun i H' => Same H1 H' ∧ ∃ (ps : List Addr) (M : List (Str × Addr)), H' D = some (.lst (ps.map V.ref)) ∧ PairsAt H' ps M ∧ Tups H' M (pickR R (ys.take i)) ∧ ps.length = i) ⟨Same.new hD, [], [], upd_same, .nil, .nil, rfl⟩ (fun i H' _ h => SqL.of (h.1 _ _ ep)) ?_ ?_
    · rintro i x H2 hx ⟨S2, ps, M, eD, pa, tm, lp⟩
      refine ⟨rfl, ?_⟩
      unfold tYes
      dsimp only
      rw [if_pos rfl]
      rw [List.getElem?_map] at hx
      cases e2 : ys[i]? with
      | none => rw [e2] at hx; cases hx
      | some n =>
        rw [e2] at hx
        cases hx
        have hn : n ∈ R.map (·.1) := pm.mem_iff.mp (List.mem_of_getElem? e2)
        have S12 := Same.trans S1 S2
        have ts2 := ts.keep (KT.same S12)
        obtain ⟨t, b, e, hv, ht, hm⟩ := ts2.get hn
        refine ⟨_, rfl, _, rfl, _, rfl, d, V.ref t, rfl, ?_, by show 2 ≤ sizeLine; decide, fun q hq => ?_⟩
        · have := DGet.k (k := Sum.inr n) (S12 _ _ hd)
          rw [hv] at this
          exact this
        have nDq : D ≠ q := ne_of_none eD hq
        have li : i < ys.length := (List.getElem?_eq_some_iff.mp e2).1
        have l8' : ys.length ≤ 8 := by rw [pm.length_eq, List.length_map]; exact l8
        refine ⟨_, (by rw [upd_ne nDq]; exact eD), by rw [List.length_map, lp, sizeLine_eq]; omega, ?_, ps ++ [q], M ++ [(n, t)], by rw [upd_same, List.map_append]; rfl, ?_, ?_, by rw [List.length_append, lp]; rfl⟩
        · exact Same.at hD (Same.trans S2 (Same.new hq))
        · have kt : KT H2 (upd (upd H2 q (.tup [V.str n, V.ref t])) D (.lst (ps.map V.ref ++ [V.ref q]))) := KT.trans (KT.new hq) (KT.put (u := .lst (ps.map V.ref)) (by rw [upd_ne nDq]; exact eD) (fun _ z => by cases z))
          exact (pa.keep kt).snoc (by rw [upd_ne nDq.symm, upd_same])
        · have kt : KT H2 (upd (upd H2 q (.tup [V.str n, V.ref t])) D (.lst (ps.map V.ref ++ [V.ref q]))) := KT.trans (KT.new hq) (KT.put (u := .lst (ps.map V.ref)) (by rw [upd_ne nDq]; exact eD) (fun _ z => by cases z))
          rw [List.take_add_one, e2]
          show Tups _ _ (pickR R (ys.take i ++ [n]))
          rw [pickR_snoc R _ n (lookup_mem nd hm)]
          exact (tm.keep kt).snoc (kt _ _ ht)
    · rintro H2 ⟨S2, ps, M, eD, pa, tm, lp⟩
      rw [List.length_map, List.take_length] at tm
      refine ⟨D, ps, Kvs M, rfl, SqL.of eD, pa.pd, fun q hq => ?_⟩
      have nm : (M.map (·.1)).Nodup := by
        rw [tm.names, pickR_names]
        exact pm.nodup_iff.mpr nd
      have e0 : mergeK [] (Kvs M) = Kvs M := mergeK_kvs M [] (by simpa using nm)
      rw [e0]
      refine k q M (pickR R ys) _ (Same.trans S1 (Same.trans S2 (Same.new hq))) ?_ upd_same (tm.keep (KT.new hq)) ⟨pickR_perm nd pm, by rw [pickR_names]; exact so⟩
      cases e5 : H q with
      | none => rfl
      | some o =>
        rw [S2 _ _ (S1 _ _ e5)] at hq
        cases hq
end
end K37
namespace K37
open PySem L2
open PyProof.Rows PySem.Spec
theorem un64 {k : Nat} {A : Around} (r : Room k A) : A.units + 64 < cLine := by
  have := r.un
  omega
theorem nm_ok {z : Str} (h : nmC z = true) : PyData.strOk z = true := by
  unfold nmC at h
  have q := (Bool.and_eq_true_iff.mp h).2
  unfold PyData.strOk
  rw [← Array.all_toList, List.all_eq_true]
  intro c hc
  have e := List.all_eq_true.mp q c hc
  have e2 := of_decide_eq_true (Bool.and_eq_true_iff.mp e).2
  exact decide_eq_true (by omega)
theorem nmC_len {z : Str} (h : nmC z = true) : 1 ≤ z.length ∧ z.length ≤ 8 := by
  unfold nmC at h
  exact of_decide_eq_true (Bool.and_eq_true_iff.mp h).1
theorem shaped_names {ns : List Str} (h : ∀ n ∈ ns, nmC n = true) : SeqAt.shaped (.list (ns.map PyData.str)) = true := by
  have key : ∀ ns : List Str, (∀ n ∈ ns, nmC n = true) → PyData.canLayAll0 (ns.map PyData.str) = true ∧ PyData.depthAll (ns.map PyData.str) ≤ 1 := by
    intro ns
    induction ns with
    | nil => intro _; exact ⟨by simp [PyData.canLayAll0], by simp [PyData.depthAll]⟩
    | cons n ns ih =>
      intro h
      obtain ⟨h1, h2⟩ := ih fun q hq => h q (List.mem_cons_of_mem _ hq)
      have h3 := nm_ok (h n List.mem_cons_self)
      refine ⟨?_, ?_⟩
      · simp [PyData.canLayAll0, PyData.canLay0, h1, h3]
      · simp [PyData.depthAll, PyData.depth]
        omega
  obtain ⟨k1, k2⟩ := key ns h
  show ((PyData.list (ns.map PyData.str)).canLay0 && decide ((PyData.list (ns.map PyData.str)).depth ≤ 64)) = true
  rw [Bool.and_eq_true]
  exact ⟨by simp only [PyData.canLay0]; exact k1, decide_eq_true (by simp only [PyData.depth]; omega)⟩
theorem dpa_strs {K : PySem.W.Frag} {H : Hp} : ∀ ns : List Str, DpAll K H (ns.map V.str) (ns.map PyData.str)
  | [] => .nil
  | n :: ns => .cons (.str n) (dpa_strs ns)
theorem flat_strs (ns : List Str) : (ns.map V.str).all flatV = true := by
  rw [List.all_map, List.all_eq_true]
  intro n _
  rfl
theorem inV_strs (n : Str) (ns : List Str) : inV (.str n) (ns.map V.str) = decide (n ∈ ns) := by
  unfold inV
  rw [List.any_map]
  induction ns with
  | nil => rfl
  | cons m ns ih =>
    rw [List.any_cons, ih]
    show ((m == n) || _) = _
    by_cases e : n = m
    · subst e
      simp
    · have e' : (m == n) = false := by rw [beq_eq_false_iff_ne]; exact fun z => e z.symm
      rw [e', Bool.false_or]
      simp [e]
section
variable {P : Program} {w : World} {K : PySem.W.Frag}
                                                      {mg : Str → Option Value} {base : Heap}
def sp_w_rings (K : PySem.W.Frag) : Sp := fun vs H Q _ => ∃ (r l : Addr) (t : Int) (ns : List Str), vs = [.ref r, .int t, .ref l] ∧ Rl H r ∧ SqL K H l (ns.map V.str) ∧ 1 ≤ t ∧ t ≤ 32 ∧ ns.Nodup ∧ ns.length ≤ 8 ∧ (∀ n ∈ ns, nmC n = true) ∧
  ∀ d L (R : Rws) H', Rl H' r → Only r H H' → H d = none → H' d = some (.dK (Kvs L)) → Tups H' L R → (R.map (·.1)).Perm ns → (∀ x ∈ R, SpOk t x ∧ Near 1000 x) → Q (.ref d) H'
def sp_w_rows (K : PySem.W.Frag) : Sp := fun vs H Q _ => ∃ (r l : Addr) (t : Int) (ns : List Str), vs = [.ref r, .int t, .ref l] ∧ Rl H r ∧ l ≠ r ∧ SqL K H l (ns.map V.str) ∧ 1 ≤ t ∧ t ≤ 32 ∧ ns.Nodup ∧ ns.length ≤ 8 ∧ (∀ n ∈ ns, nmC n = true) ∧
  ∀ d L (R : Rws) H', Rl H' r → Only r H H' → H d = none → H' d = some (.dK (Kvs L)) → Tups H' L R → (R.map (·.1)).Perm ns → (∀ x ∈ R, SpOk t x ∧ Near 1000 x) → Q (.ref d) H'
theorem tups_put {H : Hp} {d q : Addr} {L : List (Str × Addr)} {R : Rws} {n : Str} {b e : Int} (hd : H d = some (.dK (Kvs L))) (ts : Tups H L R) (hn : n ∉ R.map (·.1)) (ht : TupAt H q b e) :
    (upd H d (.dK (putK (Kvs L) (.inr n) (.ref q)))) d = some (.dK (Kvs (L ++ [(n, q)]))) ∧ Tups (upd H d (.dK (putK (Kvs L) (.inr n) (.ref q)))) (L ++ [(n, q)]) (R ++ [(n, b, e)]) := by
  have hn' : n ∉ L.map (·.1) := by rw [ts.names]; exact hn
  have kt : KT H (upd H d (.dK (putK (Kvs L) (.inr n) (.ref q)))) := KT.put hd (fun _ z => by cases z)
  exact ⟨by rw [upd_same, putK_kvs hn'], (ts.keep kt).snoc (kt _ _ ht)⟩
theorem ok_w_rows (T : T K mg) (G_w_rings : FnOk P w K mg base CX0 3 T.f_w_rings T.d_w_rings ["tray", "interval", "names"] (sp_w_rings K)) : FnOk P w K mg base CX0 4 T.f_w_rows T.d_w_rows ["tray", "interval", "names"] (sp_w_rows K) := by
  have G_w_pick : FnOk P w K mg base CX0 2 T.f_w_pick T.d_w_pick ["tray", "items"] (sp_w_pick K) := ok_w_pick T
  have G_w_roll : FnOk P w K mg base CX0 1 T.f_w_roll T.d_w_roll ["tray", "total"] (sp_w_roll K) := ok_w_roll T
  refine T.F_w_rows.ok sc_w_rows (fun vs H Q E h => ?_) (fun cdv A outer s H vs Q E hr h => ?_)
  · obtain ⟨r, l, t, ns, rfl, _⟩ := h
    rfl
  · obtain ⟨r, l, t, ns, rfl, hR, nlr, hl, t1, t2, nd, l8, hnm, k⟩ := h
    have hu := hu_of hr
    have hr_w_pick : Room 2 _ := hr.mono (by decide)
    have hr_w_rings : Room 3 _ := hr.mono (by decide)
    have hr_w_roll : Room 1 _ := hr.mono (by decide)
    refine ⟨_, (pss_cons (ps_if (pt_cmpR op_eq (pe_call G_w_roll hr_w_roll rfl T.m_w_roll T.F_w_roll.kp T.b_w_roll .nil pass0 (pa_cons (pv 0) (pa_cons pe_int pa_nil))) pe_int (nomark _))
      (pss_one (ps_ret (pe_call G_w_rings hr_w_rings rfl T.m_w_rings T.F_w_rings.kp T.b_w_rings .nil pass0 (pa_cons (pv 0) (pa_cons (pv 1) (pa_cons (pv 2) pa_nil))))))
      pss_nil)
      (pss_cons (ps_set (i := 3) sc_w_rows.nd rfl (Or.inl rfl) pe_dnewK)
      (pss_cons (ps_for PassesOwn.never rfl (pi_list (pv 2)) (pg_name (i := 4) sc_w_rows.nd rfl (Or.inl rfl))
      (pss_cons (ps_set (i := 5) sc_w_rows.nd rfl (Or.inl rfl) (pe_op op_sub (pe_call G_w_roll hr_w_roll rfl T.m_w_roll T.F_w_roll.kp T.b_w_roll .nil pass0 (pa_cons (pv 0) (pa_cons (pe_op op_mul pe_int (pv 1)) pa_nil))) (pv 1)))
      (pss_cons (ps_set (i := 6) sc_w_rows.nd rfl (Or.inl rfl) (pe_op op_add pe_int (pe_call G_w_roll hr_w_roll rfl T.m_w_roll T.F_w_roll.kp T.b_w_roll .nil pass0 (pa_cons (pv 0) (pa_cons (pe_call G_w_pick hr_w_pick rfl T.m_w_pick T.F_w_pick.kp T.b_w_pick .nil pass0 (pa_cons (pv 0) (pa_cons (pe_lst (pa_cons (pv 1) (pa_cons (pv 1) (pa_cons (pv 1) (pa_cons (pe_op op_mul pe_int (pv 1)) (pa_cons (pe_op op_mul pe_int (pv 1)) pa_nil)))))) pa_nil))) pa_nil)))))
      (pss_one (ps_dput (by exact hu) (pv 3) (pv 4) (pe_tup (pa_cons (pv 5) (pa_cons (pe_op op_add (pv 5) (pv 6)) pa_nil))) rfl)))))
      (pss_one (ps_ret (pv 3)))))), ?_⟩
    refine ⟨_, rfl, r, 3, rfl, hR, by decide, by decide +kernel, fun v H1 v0 v1 R1 O1 => ⟨rfl, _, rfl, ?_⟩⟩
    have hl1 := O1.seqL nlr hl
    refine ite2 (fun c => ?_) (fun c => ?_)
    · clear c
      refine ⟨_, rfl, _, rfl, _, rfl, r, l, t, ns, rfl, R1, hl1, t1, t2, nd, l8, hnm, fun d L R H' R' O' hd ed ts pm hx => ?_⟩
      refine k d L R H' R' (Only.trans O1 O') ?_ ed ts pm hx
      cases e5 : H d with
      | none => rfl
      | some o =>
        have ndr : d ≠ r := R1.ne hd
        rw [O1 _ _ ndr e5] at hd
        cases hd
    · clear c
      intro d hd
      have ndr : d ≠ r := R1.ne hd
      have hdH : H d = none := by
        cases e5 : H d with
        | none => rfl
        | some o =>
          rw [O1 _ _ ndr e5] at hd
          cases hd
      have R2 := R1.new (o := .dK []) hd
      have O2 : Only r H (upd H1 d (.dK [])) := Only.trans O1 (Only.new hd)
      have ed2 : (upd H1 d (.dK [])) d = some (.dK (Kvs [])) := upd_same
      have hl2 := (Only.new (r := r) (o := .dK []) hd).seqL nlr hl1
      generalize upd H1 d (.dK []) = H2 at R2 O2 ed2 hl2 ⊢
      refine ⟨_, rfl, l, rfl, ⟨_, hl2⟩, for_list (xs := ns.map V.str) (fun i σ H' => (∃ v1 v2 v3, σ = [some (.ref r), some (.int t), some (.ref l), some (.ref d), v1, v2, v3]) ∧ Rl H' r ∧ Only r H H' ∧ SqL K H' l (ns.map V.str) ∧ ∃ L R, H' d = some (.dK (Kvs L)) ∧ Tups H' L R ∧ R.map (·.1) = ns.take i ∧ ∀ x ∈ R, SpOk t x ∧ Near 1000 x)
        ⟨⟨none, none, none, rfl⟩, R2, O2, hl2, [], [], ed2, .nil, rfl, fun _ h => by cases h⟩ (fun i σ H' _ h => h.2.2.2.1) ?_ ?_⟩
      · rintro i x σ' H3 hx ⟨⟨v1, v2, v3, rfl⟩, R3, O3, hl3, L, R, ed, ts, en, hR3⟩
        rw [List.getElem?_map] at hx
        cases en2 : ns[i]? with
        | none => rw [en2] at hx; cases hx
        | some n =>
          rw [en2] at hx
          cases hx
          have li : i < ns.length := (List.getElem?_eq_some_iff.mp en2).1
          refine ⟨_, rfl, _, rfl, _, _, rfl, rfl, .inl ⟨by decide, by decide⟩, r, 3 * t, rfl, R3, by omega, Nat.lt_trans (lg (b := 10) (by omega) (by omega) (by decide)) (by decide), fun u H4 u0 u1 R4 O4 => ?_⟩
          refine ⟨_, rfl, _, _, rfl, rfl, ?_⟩
          refine ⟨_, rfl, _, rfl, _, rfl, _, rfl, _, rfl, _, rfl, _, _, rfl, rfl, .inl ⟨by decide, by decide⟩, _, rfl, _, _, rfl, rfl, .inl ⟨by decide, by decide⟩, by show 5 ≤ sizeLine; decide, fun l5 hl5 => ?_⟩
          have R5 := R4.new (o := .lst [V.int t, .int t, .int t, .int (2 * t), .int (8 * t)]) hl5
          refine ⟨r, _, [V.int t, .int t, .int t, .int (2 * t), .int (8 * t)], rfl, R5, .inl ⟨l5, rfl, R4.ne hl5, .inl (SqL.of upd_same)⟩, Nat.succ_pos _, by show 5 ≤ sizeLine; decide, fun pv' H6 hpv R6 O6 => ?_⟩
          obtain ⟨m, rfl, m0, m1⟩ : ∃ n : Int, pv' = .int n ∧ 1 ≤ n ∧ n ≤ 8 * t := by
            simp only [List.mem_cons, List.not_mem_nil, or_false] at hpv
            rcases hpv with rfl | rfl | rfl | rfl | rfl
            · exact ⟨t, rfl, by omega, by omega⟩
            · exact ⟨t, rfl, by omega, by omega⟩
            · exact ⟨t, rfl, by omega, by omega⟩
            · exact ⟨2 * t, rfl, by omega, by omega⟩
            · exact ⟨8 * t, rfl, by omega, by omega⟩
          refine ⟨r, m, rfl, R6, by omega, Nat.lt_trans (lg (b := 10) (by omega) (by omega) (by decide)) (by decide), fun z H7 z0 z1 R7 O7 => ?_⟩
          refine ⟨_, _, rfl, rfl, ?_⟩
          refine ⟨_, rfl, _, rfl, _, rfl, _, _, rfl, rfl, by show 2 ≤ sizeLine; decide, fun q hq => ?_⟩
          have O37 : Only r H3 H7 := Only.trans O4 (Only.trans (Only.trans (Only.new hl5) O6) O7)
          have ed7 := O37 _ _ ndr ed
          have ts7 := ts.keep (KT.only O37 R3)
          have S8 := Same.new (o := .tup [V.int (u - t), .int (u - t + (1 + z))]) hq
          have eq8 : (upd H7 q (.tup [V.int (u - t), .int (u - t + (1 + z))])) q = some (.tup [V.int (u - t), .int (u - t + (1 + z))]) := upd_same
          have R8 := Same.rl S8 R7
          generalize upd H7 q (.tup [V.int (u - t), .int (u - t + (1 + z))]) = H8 at S8 eq8 R8 ⊢
          have ed8 := S8 _ _ ed7
          have ts8 := ts7.keep (KT.same S8)
          have hn : n ∉ R.map (·.1) := by
            rw [en]
            intro hm
            have nd2 := nd
            rw [← List.take_append_drop i ns] at nd2
            have hd2 : n ∈ ns.drop i := by
              rw [List.mem_iff_getElem?]
              exact ⟨0, by rw [List.getElem?_drop]; exact en2⟩
            exact (List.nodup_append.mp nd2).2.2 n hm n hd2 rfl
          have hl8 : SqL K H8 l (ns.map V.str) := Only.seqL (Only.trans O37 (Same.only S8)) nlr hl3
          obtain ⟨f1, f2⟩ := tups_put ed8 ts8 hn (show TupAt H8 q (u - t) (u - t + (1 + z)) from eq8)
          refine ⟨_, rfl, _, rfl, d, _, rfl, DPut.k (k := Sum.inr n) ed8 (by rw [kvs_len, ts8.len, ← List.length_map (f := (·.1)) (as := R), en, List.length_take, sizeLine_eq]; omega), ?_⟩
          have od : ∀ b o, b ≠ r → H b = some o → (upd H8 d (.dK (putK (Kvs L) (.inr n) (.ref q)))) b = some o := fun b o nb e => by
            rw [upd_ne (ne_of_none e hdH)]
            exact S8 _ _ (O37 _ _ nb (O3 _ _ nb e))
          refine ⟨⟨_, _, _, rfl⟩, ?_, od, ?_, L ++ [(n, q)], R ++ [(n, u - t, u - t + (1 + z))], f1, f2, ?_, ?_⟩
          · obtain ⟨x1, x2, x3, e⟩ := R8
            exact ⟨x1, x2, x3, by rw [upd_ne ndr.symm]; exact e⟩
          · rcases hl8 with (h | ⟨o, h⟩) | h
            · exact .inl (.inl (by rw [upd_ne (fun z => by rw [z, ed8] at h; cases h)]; exact h))
            · exact .inl (.inr ⟨o, by rw [upd_ne (fun z => by rw [z, ed8] at h; cases h)]; exact h⟩)
            · exact .inr h
          · rw [List.map_append, en, List.take_add_one, en2]
            rfl
          · intro x hx
            rcases List.mem_append.mp hx with hx | hx
            · exact hR3 x hx
            · rw [List.mem_singleton.mp hx]
              refine ⟨⟨?_, ?_⟩, ?_, ?_⟩
              · show 1 ≤ u - t + (1 + z) - (u - t); omega
              · show u - t + (1 + z) - (u - t) ≤ 8 * t; omega
              · show -1000 ≤ u - t; omega
              · show u - t + (1 + z) ≤ 1000; omega
      · rintro σ' H3 ⟨⟨v1, v2, v3, rfl⟩, R3, O3, hl3, L, R, ed, ts, en, hR3⟩
        rw [List.length_map, List.take_length] at en
        exact ⟨_, rfl, k d L R H3 R3 O3 hdH ed ts (by rw [en]) hR3⟩
end
end K37
namespace K37
open PySem L2
open PyProof.Rows PySem.Spec
theorem filter_perm {lf cs : List Str} (nl : lf.Nodup) (nc : cs.Nodup) (sub : ∀ c ∈ cs, c ∈ lf) : (cs ++ lf.filter fun n => !decide (n ∈ cs)).Perm lf := by
  refine (List.perm_ext_iff_of_nodup ?_ nl).mpr fun n => ?_
  · refine List.nodup_append.mpr ⟨nc, nl.filter _, fun a ha b hb e => ?_⟩
    have hb2 := (List.mem_filter.mp hb).2
    subst e
    simp [ha] at hb2
  · rw [List.mem_append, List.mem_filter]
    constructor
    · rintro (h | h)
      · exact sub n h
      · exact h.1
    · intro h
      by_cases c : n ∈ cs
      · exact .inl c
      · exact .inr ⟨h, by simp [c]⟩
theorem cutV_last (xs : List V) : cutV xs none (some (-1)) = xs.dropLast := by
  unfold cutV
  rw [HT.sIx_none]
  have e : HT.sIx xs.length xs.length (some (-1)) = xs.length - 1 := by
    show (if (-1 : Int) < 0 then ((-1 : Int) + (xs.length : Int)).toNat else min (-1 : Int).toNat xs.length) = _
    rw [if_pos (by decide)]
    omega
  rw [e, List.dropLast_eq_take]
  simp only [List.drop_zero, Nat.sub_zero]
section
variable {P : Program} {w : World} {K : PySem.W.Frag}
                                                      {mg : Str → Option Value} {base : Heap}
/-- ahead of a turn of _law_rings -/
def RingW (K : PySem.W.Frag) (r d : Addr) (t : Int) (ns : List Str) (H0 : Hp) (σa σb : L2.St) (m : Nat) (σ' : L2.St) (G : Hp) : Prop := (∃ la v5 v6 v7 v8 v9, σ' = σa ++ [some (.ref la), v5, v6, v7, v8, v9] ∧ ∃ (lf : List Str) (L : List (Str × Addr)) (R : Rws), G la = some (.lst (lf.map V.str)) ∧ la ≠ r ∧ la ≠ d ∧ lf.length = m ∧
  G d = some (.dK (Kvs L)) ∧ Tups G L R ∧ (R.map (·.1) ++ lf).Perm ns ∧ (∀ x ∈ R, SpOk t x ∧ Near 1000 x)) ∧ Rl G r ∧ (∀ b o, b ≠ r → H0 b = some o → G b = some o)
theorem ok_w_rings (T : T K mg) : FnOk P w K mg base CX0 3 T.f_w_rings T.d_w_rings ["tray", "interval", "names"] (sp_w_rings K) := by
  have G_w_few : FnOk P w K mg base CX0 2 T.f_w_few T.d_w_few ["tray", "items", "many"] (sp_w_few K) := ok_w_few T
  have G_w_pick : FnOk P w K mg base CX0 2 T.f_w_pick T.d_w_pick ["tray", "items"] (sp_w_pick K) := ok_w_pick T
  have G_w_roll : FnOk P w K mg base CX0 1 T.f_w_roll T.d_w_roll ["tray", "total"] (sp_w_roll K) := ok_w_roll T
  refine T.F_w_rings.ok sc_w_rings (fun vs H Q E h => ?_) (fun cdv A outer s H vs Q E hr h => ?_)
  · obtain ⟨r, l, t, ns, rfl, _⟩ := h
    rfl
  · obtain ⟨r, l, t, ns, rfl, hR, hl, t1, t2, nd, l8, hnm, k⟩ := h
    have hu := hu_of hr
    have hr_w_few : Room 2 _ := hr.mono (by decide)
    have hr_w_pick : Room 2 _ := hr.mono (by decide)
    have hr_w_roll : Room 1 _ := hr.mono (by decide)
    refine ⟨_, (pss_cons (ps_par (i := 3) (j := 4) (by rfl) sc_w_rings.nd rfl rfl (by decide) rfl rfl (pa_cons pe_dnewK (pa_cons (pe_callTy call_list_of (by rfl) T.z_list (by decide +kernel) (pa_cons (pv 2) pa_nil)) pa_nil)) (by rfl))
      (pss_cons (ps_while PassesOwn.never (pt_cmpR (op_neD (un64 hr)) (pv 4) (pe_lst pa_nil) (nomark _))
      (pss_cons (ps_set (i := 5) sc_w_rings.nd rfl (Or.inr rfl) (pe_call G_w_few hr_w_few rfl T.m_w_few T.F_w_few.kp T.b_w_few .nil pass0 (pa_cons (pv 0) (pa_cons (pv 4) (pa_cons (pe_op op_add pe_int (pe_call G_w_roll hr_w_roll rfl T.m_w_roll T.F_w_roll.kp T.b_w_roll .nil pass0 (pa_cons (pv 0) (pa_cons pe_int pa_nil)))) pa_nil)))))
      (pss_cons (ps_setLc (i := 4) (own := [("name", 8)]) (g := gName 8) rfl sc_w_rings.nd rfl rfl (sw_true rfl rfl rfl (by decide +kernel)) (pi_list (pv 4)) (blkOk_by (N := ["tray", "interval", "names", "rows", "left", "some", "first", "begin", "name", "last"]) (sc := defScope s_w_rings) (by decide +kernel)) (fun _ _ _ _ _ => (pg_name (i := 8) sc_w_rings.nd rfl (Or.inl rfl))) (fun _ _ _ _ _ => pts_one (pt_cmpR (r := rIn K true) op_notIn_seq (pv 8) (pv 5) rfl)) (fun _ _ _ _ _ => (pv 8)))
      (pss_cons (ps_set (i := 6) sc_w_rings.nd rfl (Or.inl rfl) (pe_call G_w_roll hr_w_roll rfl T.m_w_roll T.F_w_roll.kp T.b_w_roll .nil pass0 (pa_cons (pv 0) (pa_cons (pe_op op_mul pe_int (pv 1)) pa_nil))))
      (pss_cons (ps_set (i := 7) sc_w_rings.nd rfl (Or.inl rfl) (pv 6))
      (pss_cons (ps_for PassesOwn.never rfl (pi_list (pe_slice sl_list (pv 5) po_none (po_some (pe_un un_neg pe_int)))) (pg_name (i := 8) sc_w_rings.nd rfl (Or.inl rfl))
      (pss_cons (ps_dput (by exact hu) (pv 3) (pv 8) (pe_tup (pa_cons (pv 7) (pa_cons (pe_op op_add (pe_op op_add (pv 7) pe_int) (pe_call G_w_roll hr_w_roll rfl T.m_w_roll T.F_w_roll.kp T.b_w_roll .nil pass0 (pa_cons (pv 0) (pa_cons (pv 1) pa_nil)))) pa_nil))) rfl)
      (pss_one (ps_set (i := 7) sc_w_rings.nd rfl (Or.inl rfl) (pe_ix ix_seq (pe_dget (by exact hu) (pv 3) (pv 8) (fun _ _ => rfl)) pe_int (fun _ _ => rfl))))))
      (pss_cons (ps_set (i := 9) sc_w_rings.nd rfl (Or.inl rfl) (pe_op op_add (pe_op op_add pe_int (pe_op op_mod (pe_callTy call_int1 (by rfl) T.z_int (by decide +kernel) (pa_cons (pe_op op_sub (pe_op op_sub (pv 6) (pv 7)) pe_int) pa_nil)) (pv 1))) (pe_op op_mul (pv 1) (pe_call G_w_pick hr_w_pick rfl T.m_w_pick T.F_w_pick.kp T.b_w_pick .nil pass0 (pa_cons (pv 0) (pa_cons (pe_lst (pa_cons pe_int (pa_cons pe_int (pa_cons pe_int (pa_cons pe_int pa_nil))))) pa_nil))))))
      (pss_one (ps_dput (by exact hu) (pv 3) (pe_ix ix_seq (pv 5) (pe_un un_neg pe_int) (fun _ _ => rfl)) (pe_tup (pa_cons (pv 7) (pa_cons (pe_op op_add (pv 7) (pv 9)) pa_nil))) rfl))))))))) 
      (pss_one (ps_ret (pv 3))))), ?_⟩
    intro d hd
    have ndr : d ≠ r := hR.ne hd
    have hl1 : SqL K (upd H d (.dK [])) l (ns.map V.str) := Same.seq (Same.new hd) hl
    refine ⟨_, rfl, l, _, rfl, .inl hl1, fun la hla => ?_⟩
    have nda : la ≠ d := fun z => by rw [z, upd_same] at hla; cases hla
    have hla0 : H la = none := by rw [upd_ne nda] at hla; exact hla
    have nla : la ≠ r := hR.ne hla0
    refine ⟨_, _, rfl, ?_⟩
    refine ⟨RingW K r d t ns H [some (.ref r), some (.int t), some (.ref l), some (.ref d)] [], ⟨ns.length, ⟨la, none, none, none, none, none, rfl, ns, [], [], upd_same, nla, nda, rfl, by rw [upd_ne nda.symm, upd_same]; rfl, .nil, by simp, fun _ h => by cases h⟩, ?_, ?_⟩, ?_⟩
    · obtain ⟨x1, x2, x3, e⟩ := hR
      exact ⟨x1, x2, x3, by rw [upd_ne nla.symm, upd_ne ndr.symm]; exact e⟩
    · intro b o _ e
      rw [upd_ne (ne_of_none e hla0), upd_ne (ne_of_none e hd)]
      exact e
    clear hl1 hla hla0 nla nda la
    rintro m σ' G ⟨⟨la, v5, v6, v7, v8, v9, rfl, lf, L, R, ea, nar, nad, lm, ed, ts, pm, hx⟩, RG, OG⟩
    have ndL : (R.map (·.1) ++ lf).Nodup := pm.nodup_iff.mpr nd
    have nlf : lf.Nodup := (List.nodup_append.mp ndL).2.1
    have ll8 : R.length + lf.length ≤ 8 := by
      have := pm.length_eq
      rw [List.length_append, List.length_map] at this
      omega
    have nmL : ∀ n ∈ lf, nmC n = true := fun n hn => hnm n (pm.mem_iff.mp (List.mem_append_right _ hn))
    refine ⟨_, rfl, by show 0 ≤ sizeLine; decide, fun e he => ?_⟩
    have S3 : Same G (upd G e (.lst [])) := Same.new he
    have e_e : (upd G e (.lst [])) e = some (.lst []) := upd_same
    have ea3 := S3 _ _ ea
    have ed3 := S3 _ _ ed
    have ts3 := ts.keep (KT.same S3)
    have R3 := Same.rl S3 RG
    refine ⟨.list (lf.map PyData.str), .list [], .lst (SqL.of ea3) (dpa_strs lf), .lst (SqL.of upd_same) .nil, shaped_names nmL, by decide +kernel, _, rfl, ?_⟩
    generalize upd G e (.lst []) = G3 at S3 e_e ea3 ed3 ts3 R3 ⊢
    cases lf with
    | nil =>
      rw [show PyData.eqv (.list (([] : List Str).map PyData.str)) (.list []) = true from by decide +kernel]
      refine iteF ⟨_, rfl, k d L R G3 R3 (fun b o nb e => S3 _ _ (OG b o nb e)) hd ed3 ts3 (by simpa using pm) hx⟩
    | cons n0 lf0 =>
      rw [show PyData.eqv (.list ((n0 :: lf0).map PyData.str)) (.list []) = false from by simp [PyData.eqv, PyData.eqvAll]]
      refine iteT ⟨_, fun σ' H' h => h, ?_⟩
      have hne : 1 ≤ (n0 :: lf0).length := by rw [List.length_cons]; omega
      have OG3 : ∀ b o, b ≠ r → H b = some o → G3 b = some o := fun b o nb e => S3 _ _ (OG b o nb e)
      generalize n0 :: lf0 = lf at ea ea3 lm pm ndL nlf ll8 nmL hne ⊢
      clear ea ed ts S3 RG OG e_e he
      -- some
      refine ⟨_, rfl, _, rfl, _, rfl, r, 3, rfl, R3, by decide, by decide +kernel, fun u H4 u0 u1 R4 O4 => ⟨_, _, rfl, rfl, ?_⟩⟩
      refine ⟨r, la, lf.map V.str, 1 + u, rfl, R4, .inl (SqL.of (O4 _ _ nar ea3)), by rw [List.length_map]; omega, by omega, by omega, fun ls ys rest H5 R5 O5 hls els pmf lys => ?_⟩
      obtain ⟨cs, rfl, mcs, ndcs⟩ := few_of (f := V.str) (xs := lf) (fun a _ b _ h => V.str.inj h) nlf pmf
      have lcs : 1 ≤ cs.length := by
        rw [List.length_map, List.length_map] at lys
        split at lys <;> omega
      have O35 : Only r G3 H5 := Only.trans O4 O5
      have nls : ls ≠ r := R4.ne hls
      have ed5 := O35 _ _ ndr ed3
      have ea5 := O35 _ _ nar ea3
      have ts5 := ts3.keep (KT.only O35 R3)
      have OG5 : ∀ b o, b ≠ r → H b = some o → H5 b = some o := fun b o nb e => O35 _ _ nb (OG3 b o nb e)
      have nlsd : ls ≠ d := fun z => by rw [z, ed5] at els; cases els
      clear ea3 ed3 ts3 OG3 R3 O35 lys pmf
      -- left
      refine ⟨_, rfl, la, rfl, ⟨_, SqL.of ea5⟩, fun D hD => ?_⟩
      have nDr : D ≠ r := R5.ne hD
      have nDd : D ≠ d := fun z => by rw [z, ed5] at hD; cases hD
      have nDl : ls ≠ D := ne_of_none els hD
      refine lc_list (xs := lf.map V.str) (fun i H' => H' D = some (.lst (((lf.take i).filter fun n => !decide (n ∈ cs)).map V.str)) ∧ Same H5 H') ⟨upd_same, Same.new hD⟩ (fun i H' _ h => SqL.of (h.2 _ _ ea5)) ?_ ?_
      · rintro i x H6 hx6 ⟨eD, S6⟩
        rw [List.getElem?_map] at hx6
        cases en2 : lf[i]? with
        | none => rw [en2] at hx6; cases hx6
        | some n =>
          rw [en2] at hx6
          cases hx6
          refine ⟨rfl, ?_⟩
          refine ⟨_, rfl, _, rfl, ls, _, rfl, .inl (SqL.of (S6 _ _ els)), rfl, flat_strs _, _, rfl, ?_⟩
          rw [inV_strs]
          have tk : (lf.take (i + 1)).filter (fun n => !decide (n ∈ cs)) = (lf.take i).filter (fun n => !decide (n ∈ cs)) ++ (if n ∈ cs then [] else [n]) := by
            rw [List.take_add_one, en2, List.filter_append]
            congr 1
            by_cases c : n ∈ cs
            · simp [c]
            · simp [c]
          have li : i < lf.length := (List.getElem?_eq_some_iff.mp en2).1
          by_cases c : n ∈ cs
          · simp only [if_true, c, decide_true, Bool.not_true, Bool.false_eq_true, if_false]
            refine ⟨?_, S6⟩
            rw [tk, if_pos c, List.append_nil]
            exact eD
          · simp only [if_true, c, decide_false, Bool.not_false]
            refine ⟨_, rfl, _, eD, ?_, ?_, Same.at hD S6⟩
            · rw [List.length_map, sizeLine_eq]
              have := List.length_filter_le (fun n => !decide (n ∈ cs)) (lf.take i)
              rw [List.length_take] at this
              omega
            · rw [upd_same, tk, if_neg c, List.map_append]
              rfl
      rintro H6 ⟨eD, S6⟩
      rw [List.length_map, List.take_length] at eD
      have R6 := Same.rl S6 R5
      have ed6 := S6 _ _ ed5
      have ts6 := ts5.keep (KT.same S6)
      have els6 := S6 _ _ els
      have OG6 : ∀ b o, b ≠ r → H b = some o → H6 b = some o := fun b o nb e => S6 _ _ (OG5 b o nb e)
      clear ed5 ts5 ea5 els OG5 S6 R5 hD hls R4 O4 O5
      -- first, begin
      refine ⟨_, rfl, _, rfl, _, _, rfl, rfl, .inl ⟨by decide, by decide⟩, r, 2 * t, rfl, R6, by omega, Nat.lt_trans (lg (b := 10) (by omega) (by omega) (by decide)) (by decide), fun f H7 f0 f1 R7 O7 => ?_⟩
      have ed7 := O7 _ _ ndr ed6
      have ts7 := ts6.keep (KT.only O7 R6)
      have els7 := O7 _ _ nls els6
      have eD7 := O7 _ _ nDr eD
      have OG7 : ∀ b o, b ≠ r → H b = some o → H7 b = some o := fun b o nb e => O7 _ _ nb (OG6 b o nb e)
      clear ed6 ts6 els6 eD OG6 R6 O7
      obtain ⟨c0, z, rfl⟩ : ∃ c0 z, cs = c0 ++ [z] := by
        rcases List.eq_nil_or_concat cs with e | ⟨c0, z, e⟩
        · rw [e] at lcs
          exact absurd lcs (by decide)
        · exact ⟨c0, z, by rw [e, List.concat_eq_append]⟩
      refine ⟨_, rfl, _, rfl, _, rfl, _, rfl, ls, _, rfl, SqL.of els7, fun p hp => ?_⟩
      have ecut : cutV ((c0 ++ [z]).map V.str) none (some (-1)) = c0.map V.str := by
        rw [cutV_last, List.map_append]
        exact List.dropLast_concat
      rw [ecut]
      have S8 := Same.new (o := .lst (c0.map V.str)) hp
      have ep8 : (upd H7 p (.lst (c0.map V.str))) p = some (.lst (c0.map V.str)) := upd_same
      have R8 := Same.rl S8 R7
      have npr : p ≠ r := R7.ne hp
      have npd : p ≠ d := fun z => by rw [z, ed7] at hp; cases hp
      generalize upd H7 p (.lst (c0.map V.str)) = H8 at S8 ep8 R8 ⊢
      have ed8 := S8 _ _ ed7
      have ts8 := ts7.keep (KT.same S8)
      have els8 := S8 _ _ els7
      have eD8 := S8 _ _ eD7
      have OG8 : ∀ b o, b ≠ r → H b = some o → H8 b = some o := fun b o nb e => S8 _ _ (OG7 b o nb e)
      clear ed7 ts7 els7 eD7 OG7 R7 S8 hp ecut
      have ndc0 : c0.Nodup := (List.nodup_append.mp ndcs).1
      have fresh : ∀ i n, (c0 ++ [z])[i]? = some n → n ∉ R.map (·.1) ++ (c0 ++ [z]).take i := fun i n e hm => by
        have hn : n ∈ c0 ++ [z] := List.mem_of_getElem? e
        rcases List.mem_append.mp hm with hm | hm
        · exact (List.nodup_append.mp ndL).2.2 n hm n (mcs n hn) rfl
        · have nd2 := ndcs
          rw [← List.take_append_drop i (c0 ++ [z])] at nd2
          have hd2 : n ∈ (c0 ++ [z]).drop i := by
            rw [List.mem_iff_getElem?]
            exact ⟨0, by rw [List.getElem?_drop]; exact e⟩
          exact (List.nodup_append.mp nd2).2.2 n hm n hd2 rfl
      have lcs8 : R.length + c0.length + 1 ≤ 8 := by
        have h1 : (c0 ++ [z]).length ≤ lf.length := by
          have := (filter_perm nlf ndcs mcs).length_eq
          rw [List.length_append] at this
          omega
        rw [List.length_append] at h1
        have h2 : ([z] : List Str).length = 1 := rfl
        omega
      refine ⟨p, rfl, ⟨_, SqL.of ep8⟩, for_list (xs := c0.map V.str) (fun i σ H' => (∃ b v8, σ = [some (.ref r), some (.int t), some (.ref l), some (.ref d), some (.ref D), some (.ref ls), some (.int f), some (.int b), v8, v9] ∧ f ≤ b ∧ b ≤ f + t * i) ∧ Rl H' r ∧ (∀ b o, b ≠ r → b ≠ d → H8 b = some o → H' b = some o) ∧
        ∃ L' R', H' d = some (.dK (Kvs L')) ∧ Tups H' L' R' ∧ R'.map (·.1) = R.map (·.1) ++ (c0 ++ [z]).take i ∧ ∀ x ∈ R', SpOk t x ∧ Near 1000 x) ⟨⟨f, _, rfl, Int.le_refl _, by simp⟩, R8, (fun b o _ _ e => e), L, R, ed8, ts8, by simp, hx⟩ (fun i σ H' _ h => SqL.of (h.2.2.1 _ _ npr npd ep8)) ?_ ?_⟩
      · rintro i x σ' H9 hx9 ⟨⟨b, v8, rfl, b0, b1⟩, R9, O9, L', R', ed9, ts9, en9, hR9⟩
        rw [List.getElem?_map] at hx9
        cases en2 : c0[i]? with
        | none => rw [en2] at hx9; cases hx9
        | some n =>
          rw [en2] at hx9
          cases hx9
          have li : i < c0.length := (List.getElem?_eq_some_iff.mp en2).1
          have en3 : (c0 ++ [z])[i]? = some n := by rw [List.getElem?_append_left li]; exact en2
          have bi : t * i ≤ 32 * 8 := Int.le_trans (Int.mul_le_mul_of_nonneg_right t2 (by omega)) (by omega)
          refine ⟨_, rfl, _, rfl, _, _, rfl, rfl, _, rfl, _, rfl, r, t, rfl, R9, by omega, Nat.lt_trans (lg (b := 10) (by omega) (by omega) (by decide)) (by decide), fun g H10 g0 g1 R10 O10 => ?_⟩
          refine ⟨_, _, rfl, rfl, by show 2 ≤ sizeLine; decide, fun q hq => ?_⟩
          have S11 := Same.new (o := .tup [V.int b, .int (b + 1 + g)]) hq
          have eq11 : (upd H10 q (.tup [V.int b, .int (b + 1 + g)])) q = some (.tup [V.int b, .int (b + 1 + g)]) := upd_same
          have R11 := Same.rl S11 R10
          generalize upd H10 q (.tup [V.int b, .int (b + 1 + g)]) = H11 at S11 eq11 R11 ⊢
          have ed11 := S11 _ _ (O10 _ _ ndr ed9)
          have ts11 := (ts9.keep (KT.only O10 R9)).keep (KT.same S11)
          have hn : n ∉ R'.map (·.1) := by rw [en9]; exact fresh i n en3
          obtain ⟨g1', g2'⟩ := tups_put ed11 ts11 hn (show TupAt H11 q b (b + 1 + g) from eq11)
          have lL : L'.length ≤ 8 := by
            rw [ts9.len, ← List.length_map (f := (·.1)) (as := R'), en9, List.length_append, List.length_map, List.length_take]
            omega
          refine ⟨_, rfl, _, rfl, d, _, rfl, DPut.k (k := Sum.inr n) ed11 (by rw [kvs_len, sizeLine_eq]; omega), ?_⟩
          have keep : ∀ b' o, b' ≠ r → b' ≠ d → H8 b' = some o → (upd H11 d (.dK (putK (Kvs L') (.inr n) (.ref q)))) b' = some o := fun b' o nb nbd e => by
            rw [upd_ne nbd]
            exact S11 _ _ (O10 _ _ nb (O9 _ _ nb nbd e))
          have nqd : q ≠ d := fun z => by rw [z, ed11] at eq11; cases eq11
          have eq12 : (upd H11 d (.dK (putK (Kvs L') (.inr n) (.ref q)))) q = some (.tup [V.int b, .int (b + 1 + g)]) := by rw [upd_ne nqd]; exact eq11
          have R12 : Rl (upd H11 d (.dK (putK (Kvs L') (.inr n) (.ref q)))) r := by
            obtain ⟨x1, x2, x3, e⟩ := R11
            exact ⟨x1, x2, x3, by rw [upd_ne ndr.symm]; exact e⟩
          generalize upd H11 d (.dK (putK (Kvs L') (.inr n) (.ref q))) = H12 at g1' g2' keep eq12 R12 ⊢
          have hv : valV (Kvs (L' ++ [(n, q)])) (.inr n) = some (.ref q) := by
            rw [kvs_snoc, valV_snoc _ _ _ _ (valV_none (by rw [ts9.names]; exact hn)), if_pos rfl]
          refine ⟨_, rfl, _, rfl, d, V.ref q, rfl, ?_, .inr (.inl ⟨q, _, _, _, rfl, rfl, SqT.of eq12, rfl, ?_⟩)⟩
          · have := DGet.k (k := Sum.inr n) g1'
            rw [hv] at this
            exact this
          refine ⟨⟨b + 1 + g, _, rfl, by omega, ?_⟩, R12, keep, L' ++ [(n, q)], R' ++ [(n, b, b + 1 + g)], g1', g2', ?_, ?_⟩
          · have : t * ((i + 1 : Nat) : Int) = t * i + t := by rw [Int.natCast_add, Int.mul_add]; simp
            omega
          · rw [List.map_append, en9, List.take_add_one, en3, List.append_assoc]
            rfl
          · intro x hx'
            rcases List.mem_append.mp hx' with hx' | hx'
            · exact hR9 x hx'
            · rw [List.mem_singleton.mp hx']
              refine ⟨⟨?_, ?_⟩, ?_, ?_⟩
              · show 1 ≤ b + 1 + g - b; omega
              · show b + 1 + g - b ≤ 8 * t; omega
              · show -1000 ≤ b; omega
              · show b + 1 + g ≤ 1000; omega
      · rintro σ' H9 ⟨⟨b, v8, rfl, b0, b1⟩, R9, O9, L', R', ed9, ts9, en9, hR9⟩
        rw [List.length_map] at b1 en9
        have bi : t * c0.length ≤ 32 * 8 := Int.le_trans (Int.mul_le_mul_of_nonneg_right t2 (by omega)) (by omega)
        refine ⟨_, rfl, _, rfl, _, _, rfl, rfl, _, _, rfl, rfl, .inl ⟨_, rfl, _, rfl, _, _, rfl, rfl, by omega, _, _, rfl, rfl, ?_⟩⟩
        have mo0 : 0 ≤ (f - b - 1) % t := Int.emod_nonneg _ (by omega)
        have mo1 : (f - b - 1) % t < t := Int.emod_lt_of_pos _ (by omega)
        refine ⟨_, rfl, _, rfl, by show 4 ≤ sizeLine; decide, fun l4 hl4 => ?_⟩
        have R10 := R9.new (o := .lst [V.int 0, .int 0, .int 0, .int 1]) hl4
        refine ⟨r, _, [V.int 0, .int 0, .int 0, .int 1], rfl, R10, .inl ⟨l4, rfl, R9.ne hl4, .inl (SqL.of upd_same)⟩, Nat.succ_pos _, by show 4 ≤ sizeLine; decide, fun pv' H11 hpv R11 O11 => ?_⟩
        obtain ⟨c, rfl, c01⟩ : ∃ n : Int, pv' = .int n ∧ (n = 0 ∨ n = 1) := by
          simp only [List.mem_cons, List.not_mem_nil, or_false] at hpv
          rcases hpv with rfl | rfl | rfl | rfl
          · exact ⟨0, rfl, .inl rfl⟩
          · exact ⟨0, rfl, .inl rfl⟩
          · exact ⟨0, rfl, .inl rfl⟩
          · exact ⟨1, rfl, .inr rfl⟩
        refine ⟨_, _, rfl, rfl, .inl ⟨by omega, by omega⟩, _, _, rfl, rfl, ?_⟩
        have tc : 0 ≤ t * c ∧ t * c ≤ t := by rcases c01 with rfl | rfl <;> omega
        have O9b : Only r H9 H11 := Only.trans (Only.new hl4) O11
        generalize (f - b - 1) % t = mo at mo0 mo1 ⊢
        generalize t * c = tc' at tc ⊢
        refine ⟨_, rfl, _, rfl, _, rfl, _, _, rfl, rfl, by show 2 ≤ sizeLine; decide, fun q hq => ?_⟩
        have S12 := Same.new (o := .tup [V.int b, .int (b + (1 + mo + tc'))]) hq
        have eq12 : (upd H11 q (.tup [V.int b, .int (b + (1 + mo + tc'))])) q = some (.tup [V.int b, .int (b + (1 + mo + tc'))]) := upd_same
        have R12 := Same.rl S12 R11
        generalize upd H11 q (.tup [V.int b, .int (b + (1 + mo + tc'))]) = H12 at S12 eq12 R12 ⊢
        have ed12 := S12 _ _ (O9b _ _ ndr ed9)
        have ts12 := (ts9.keep (KT.only O9b R9)).keep (KT.same S12)
        have els12 := S12 _ _ (O9b _ _ nls (O9 _ _ nls nlsd els8))
        have eD12 := S12 _ _ (O9b _ _ nDr (O9 _ _ nDr nDd eD8))
        have en3 : (c0 ++ [z])[c0.length]? = some z := by rw [List.getElem?_append_right (Nat.le_refl _)]; simp
        have en10 : R'.map (·.1) = R.map (·.1) ++ c0 := by rw [en9, List.take_append_of_le_length (Nat.le_refl _), List.take_length]
        have hn : z ∉ R'.map (·.1) := by rw [en9]; exact fresh _ _ en3
        obtain ⟨g1', g2'⟩ := tups_put ed12 ts12 hn (show TupAt H12 q b (b + (1 + mo + tc')) from eq12)
        have hat : atI ((c0 ++ [z]).map V.str) (-1) = some (.str z) := by
          rw [List.map_append]
          exact atI_last (c0.map V.str) (V.str z)
        refine ⟨_, rfl, _, rfl, _, rfl, .inl ⟨ls, _, _, _, rfl, rfl, SqL.of els12, hat, ?_⟩⟩
        have lL : L'.length ≤ 8 := by
          rw [ts9.len, ← List.length_map (f := (·.1)) (as := R'), en10, List.length_append, List.length_map]
          omega
        refine ⟨d, _, rfl, DPut.k (k := Sum.inr z) ed12 (by rw [kvs_len, sizeLine_eq]; omega), ?_⟩
        have nDd' : D ≠ d := nDd
        refine ⟨(lf.filter fun n => !decide (n ∈ c0 ++ [z])).length, ?_, ⟨D, _, _, _, _, _, rfl, lf.filter fun n => !decide (n ∈ c0 ++ [z]), L' ++ [(z, q)], R' ++ [(z, b, b + (1 + mo + tc'))], by rw [upd_ne nDd]; exact eD12, nDr, nDd, rfl, g1', g2', ?_, ?_⟩, ?_, ?_⟩
        · have h1 := (filter_perm nlf ndcs mcs).length_eq
          rw [List.length_append, List.length_append] at h1
          have h2 : ([z] : List Str).length = 1 := rfl
          omega
        · rw [List.map_append, en10]
          show ((R.map (·.1) ++ c0) ++ [z] ++ _).Perm ns
          rw [List.append_assoc (R.map (·.1)) c0 [z], List.append_assoc]
          exact ((filter_perm nlf ndcs mcs).append_left _).trans pm
        · intro x hx'
          rcases List.mem_append.mp hx' with hx' | hx'
          · exact hR9 x hx'
          · rw [List.mem_singleton.mp hx']
            refine ⟨⟨?_, ?_⟩, ?_, ?_⟩
            · show 1 ≤ b + (1 + mo + tc') - b; omega
            · show b + (1 + mo + tc') - b ≤ 8 * t; omega
            · show -1000 ≤ b; omega
            · show b + (1 + mo + tc') ≤ 1000; omega
        · obtain ⟨x1, x2, x3, e⟩ := R12
          exact ⟨x1, x2, x3, by rw [upd_ne ndr.symm]; exact e⟩
        · intro b' o nb e
          rw [upd_ne (ne_of_none e hd)]
          exact S12 _ _ (O9b _ _ nb (O9 _ _ nb (ne_of_none e hd) (OG8 b' o nb e)))
end
end K37
namespace K37
open PySem L2
open PyProof.Rows PySem.Spec
/-- a dict comprehension over a walk -/
theorem dc_it {J : It} {n : Nat} {G : Hp → Prop} {Y : Nat → Hp → V → Hp → Prop} (w : Walk J n G Y) {g : TG} {tt : TT} {tk tv : TE} {vs : List Nat} {σ : L2.St} {H1 : Hp} {D : Addr} {Qd : Hp → Prop} (Pv : Nat → Hp → Prop) (h0 : Pv 0 (upd H1 D (.dK []))) (hG : ∀ i H, i ≤ n → Pv i H → G H)
    (hs : ∀ i x H H', i < n → Pv i H → Y i H x H' → g x
                                                        (wipe σ vs) H' fun σ2 H2 => wipe σ2 vs = wipe σ vs ∧ tt σ2 H2 fun b H3 =>
      if b = true then tk σ2 H3 fun y H4 => tv σ2 H4 fun z H5 => ∃ kvs k, y = kV k ∧ H5 D = some (.dK kvs) ∧ kvs.length < sizeLine ∧ Pv (i + 1) (upd H5 D (.dK (putK kvs k z))) else Pv (i + 1) H3) (hd : ∀ H, Pv n H → Qd H) :
    ∃ W : Nat → Nat → Hp → Prop, (∃ m, W 0 m
                                             (upd H1 D (.dK []))) ∧ ∀ i m H, W i m H →
      (J.stop i H ∧ Qd H) ∨ (J.go i H ∧ ∃ Nx : Hp → Prop, (∀ H', Nx H' → ∃ m', m' < m ∧ W
                                                                                          (i + 1) m' H') ∧ ∀ x H', J.yld i H x H' → g x (wipe σ vs) H' fun σ2 H2 => wipe σ2 vs = wipe σ vs ∧ tt σ2 H2 fun b H3 =>
        if b = true then tk σ2 H3 fun y H4 => tv σ2 H4 fun z H5 => ∃ kvs k, y = kV k ∧ H5 D = some
                                                                                                   (.dK kvs) ∧ kvs.length < sizeLine ∧ Nx (upd H5 D (.dK (putK kvs k z))) else Nx H3) := by
  refine ⟨fun i m H => m = n - i ∧ i ≤ n ∧ Pv i H,
                                                   ⟨n, by simp, Nat.zero_le _, h0⟩, ?_⟩
  rintro i m H ⟨rfl, hi, p⟩
  have q := hG i H hi p
  by_cases hlt : i < n
  · refine .inr ⟨w.goes i H hlt q, Pv (i + 1), fun H' p' => ⟨n -
                                                                 (i + 1), by omega, rfl, hlt, p'⟩, fun x H' y => hs i x H H' hlt p (w.yields i H x H' hlt q y)⟩
  · have e : i = n := by omega
    subst e
    exact .inl ⟨w.stops H q, hd H p⟩
theorem upd_idem {H : Hp} {d : Addr} {u : HO} (h : H d = some u) : upd H d u = H := by
  funext b
  by_cases e : b = d
  · rw [e, upd_same, h]
  · rw [upd_ne e]
theorem same_lock {H G : Hp} {d : Addr} {u o : HO} (hd : H d = some u) (s : Same (upd H d o) G) : Same H (upd G d u) := fun b v e => by
  by_cases c : b = d
  · rw [c, upd_same]
    rw [c, hd] at e
    exact e
  · rw [upd_ne c]
    exact s b v (by rw [upd_ne c]; exact e)
theorem kt_lock {H : Hp} {d : Addr} {u o : HO} (hd : H d = some u) (n : ∀ xs, u ≠ .tup xs) : KT H (upd H d o) := KT.put hd n
section
variable {P : Program} {w : World} {K : PySem.W.Frag}
                                                      {mg : Str → Option Value} {base : Heap}
def sp_is_span (K : PySem.W.Frag) : Sp := fun vs H Q _ => ∃ (t : Int) (a : Addr) (b e : Int), vs = [.int t, .ref a] ∧ TupAt H a b e ∧ (-1000000000000 < b ∧ b < 1000000000000) ∧ (-1000000000000 < e ∧ e < 1000000000000) ∧ (1 ≤ t ∧ t ≤ 32) ∧ 1 ≤ e - b ∧ e - b ≤ 8 * t ∧ Q (.bl true) H
theorem isInD_int {n : Int} (h : -1000000000000 < n ∧ n < 1000000000000) : isInD (.int n) = true := by
  show (decide (-1000000000000 < n) && decide (n < 1000000000000)) = true
  rw [decide_eq_true h.1, decide_eq_true h.2]
  rfl
theorem ok_is_span (T : T K mg) : FnOk P w K mg base CX0 2 T.f_is_span T.d_is_span ["interval", "value"] (sp_is_span K) := by
  have G_is_integer : FnOk P w K mg base CX0 1 T.f_is_integer T.d_is_integer ["value"] (sp_is_integer K) := ok_is_integer T
  refine T.F_is_span.ok sc_is_span (fun vs H Q E h => ?_) (fun cdv A outer s H vs Q E hr h => ?_)
  · obtain ⟨t, a, b, e, rfl, _⟩ := h
    rfl
  · obtain ⟨t, a, b, e, rfl, ha, hb, he, ht, h1, h2, k⟩ := h
    have hu := hu_of hr
    have hr_is_integer : Room 1 _ := hr.mono (by decide)
    obtain ⟨_, c_MAX_LIFE⟩ := T.c_MAX_LIFE
    refine ⟨_, (pss_cons (ps_if (PW.pt (pw_or (pt_not (pt_val (pe_callB call_isi (by rfl) T.z_isinstance (by decide +kernel) (pa_cons (pv 1) (pa_cons (pe_bltn (v := V.ty "tuple") (u := Value.type "tuple") (by rfl) T.z_tuple (by decide +kernel) rfl) pa_nil))))) (pw_or1 (pt_cmpR op_ne (pe_callB call_len (by rfl) T.z_len (by decide +kernel) (pa_cons (pv 1) pa_nil)) pe_int (nomark _)))))
      (pss_one (ps_ret pe_bl))
      pss_nil)
      (pss_cons (ps_if (PW.pt (pw_or (pt_not (pt_val (pe_call G_is_integer hr_is_integer rfl T.m_is_integer T.F_is_integer.kp T.b_is_integer .nil pass0 (pa_cons (pe_ix ix_seq (pv 1) pe_int (fun _ _ => rfl)) pa_nil)))) (pw_or1 (pt_not (pt_val (pe_call G_is_integer hr_is_integer rfl T.m_is_integer T.F_is_integer.kp T.b_is_integer .nil pass0 (pa_cons (pe_ix ix_seq (pv 1) pe_int (fun _ _ => rfl)) pa_nil)))))))
      (pss_one (ps_ret pe_bl))
      pss_nil)
      (pss_one (ps_ret (pe_chain op_le op_le pe_int (pe_op op_sub (pe_ix ix_seq (pv 1) pe_int (fun _ _ => rfl)) (pe_ix ix_seq (pv 1) pe_int (fun _ _ => rfl))) (pe_op op_mul (pe_glob (v := V.int 8) rfl c_MAX_LIFE ⟨_, rfl⟩) (pv 0))))))), ?_⟩
    have sq : SqT K H a [V.int b, .int e] := SqT.of ha
    refine ⟨_, rfl, _, _, _, _, true, rfl, .ty _, .base (.tup ha), kit_ty (by decide +kernel), _, rfl, iteF ?_⟩
    refine ⟨_, rfl, _, _, rfl, .inr ⟨_, sq, rfl⟩, rfl, _, rfl, ?_⟩
    rw [show (!decide (V.int ((([V.int b, V.int e] : List V).length : Nat) : Int) = V.int 2)) = false from rfl]
    refine iteF ?_
    refine ⟨_, rfl, .inr (.inl ⟨_, _, _, _, rfl, rfl, sq, rfl, ?_⟩)⟩
    refine ⟨_, .int b, rfl, .inl (.int _), _, rfl, ?_⟩
    rw [isInD_int hb]
    refine iteF ?_
    refine ⟨_, rfl, .inr (.inl ⟨_, _, _, _, rfl, rfl, sq, rfl, ?_⟩)⟩
    refine ⟨_, .int e, rfl, .inl (.int _), _, rfl, ?_⟩
    rw [isInD_int he]
    refine iteF ?_
    refine ⟨_, rfl, .inr (.inl ⟨_, _, _, _, rfl, rfl, sq, rfl, ?_⟩)⟩
    refine ⟨_, rfl, .inr (.inl ⟨_, _, _, _, rfl, rfl, sq, rfl, ?_⟩)⟩
    refine ⟨_, _, rfl, rfl, _, _, rfl, rfl, _, rfl, ?_⟩
    rw [decide_eq_true h1]
    refine iteT ?_
    refine ⟨_, rfl, _, _, rfl, rfl, .inl ⟨by decide, by decide⟩, _, _, rfl, rfl, ?_⟩
    exact bl_to (decide_eq_true h2) k
/-- the rows of spans -/
structure Good (t : Int) (R : Rws) : Prop where
  nd : (R.map (·.1)).Nodup
  l1 : 1 ≤ R.length
  l8 : R.length ≤ 8
  nm : ∀ x ∈ R, nmC x.1 = true
  sp : ∀ x ∈ R, SpOk t x
  nr : ∀ x ∈ R, Near 900000000000 x
  t1 : 1 ≤ t
  t2 : t ≤ 32
def sp_are_rows (K : PySem.W.Frag) : Sp := fun vs H Q _ => ∃ (t : Int) (d : Addr) (L : List (Str × Addr)) (R : Rws), vs = [.int t, .ref d] ∧ H d = some (.dK (Kvs L)) ∧ Tups H L R ∧ Good t R ∧ ∀ H', Same H H' → Q (.bl true) H'
theorem okD_nm {z : Str} (h : nmC z = true) : okD (.str z) := by
  unfold okD
  rw [PyData.weight]
  have e : z.cps.size = z.length := rfl
  have := (nmC_len h).2
  omega
theorem ok_are_rows (T : T K mg) : FnOk P w K mg base CX0 3 T.f_are_rows T.d_are_rows ["interval", "value"] (sp_are_rows K) := by
  have G_is_span : FnOk P w K mg base CX0 2 T.f_is_span T.d_is_span ["interval", "value"] (sp_is_span K) := ok_is_span T
  have G_is_name : FnOk P w K mg base CX0 1 T.f_is_name T.d_is_name ["value"] (sp_is_name K) := ok_is_name T
  refine T.F_are_rows.ok sc_are_rows (fun vs H Q E h => ?_) (fun cdv A outer s H vs Q E hr h => ?_)
  · obtain ⟨t, d, L, R, rfl, _⟩ := h
    rfl
  · obtain ⟨t, d, L, R, rfl, hd, ts, gd, k⟩ := h
    have hu := hu_of hr
    have hr_is_span : Room 2 _ := hr.mono (by decide)
    have hr_is_name : Room 1 _ := hr.mono (by decide)
    obtain ⟨_, c_MAX_VALUES⟩ := T.c_MAX_VALUES
    refine ⟨_, (pss_cons (ps_if (PW.pt (pw_or (pt_not (pt_val (pe_callB call_isi (by rfl) T.z_isinstance (by decide +kernel) (pa_cons (pv 1) (pa_cons (pe_bltn (v := V.ty "dict") (u := Value.type "dict") (by rfl) T.z_dict (by decide +kernel) rfl) pa_nil))))) (pw_or1 (pt_not (pt_chain op_le op_le pe_int (pe_callB call_lenD (by rfl) T.z_len (by decide +kernel) (pa_cons (pv 1) pa_nil)) (pe_glob (v := V.int 8) rfl c_MAX_VALUES ⟨_, rfl⟩))))))
      (pss_one (ps_ret pe_bl))
      pss_nil)
      (pss_one (ps_ret (pe_callB (cr_all rfl) (by rfl) T.z_all (by decide +kernel) (pa_cons (pe_lock (pe_lc (own := [("name", 2)]) (g := gName 2) rfl sc_are_rows.nd (pi_keys (pv 1)) (blkOk_by (N := ["interval", "value", "name"]) (sc := defScope s_are_rows) (by decide +kernel)) (fun _ _ _ _ _ => (pg_name (i := 2) sc_are_rows.nd rfl (Or.inl rfl))) (fun _ _ _ _ _ => pts_nil) (fun _ _ _ _ _ => (pe_and (pe_call G_is_name hr_is_name rfl T.m_is_name T.F_is_name.kp T.b_is_name .nil pass0 (pa_cons (pv 2) pa_nil)) (pe_one (pe_call G_is_span hr_is_span rfl T.m_is_span T.F_is_span.kp T.b_is_span .nil pass0 (pa_cons (pv 0) (pa_cons (pe_dget (by exact hu) (pv 1) (pv 2) (fun _ _ => rfl)) pa_nil)))))))) pa_nil))))), ?_⟩
    refine ⟨_, rfl, _, _, _, _, true, rfl, .ty _, .base (.dK hd), kit_ty (by decide +kernel), _, rfl, iteF ?_⟩
    have hlen : (Kvs L).length = R.length := by rw [kvs_len, ts.len]
    refine ⟨_, rfl, d, Kvs L, rfl, hd, _, _, rfl, rfl, _, rfl, ?_⟩
    rw [hlen, decide_eq_true (by have := gd.l1; omega)]
    refine iteT ?_
    refine ⟨_, _, rfl, rfl, _, rfl, ?_⟩
    rw [decide_eq_true (by have := gd.l8; omega)]
    refine iteF ?_
    refine ⟨d, _, hd, True.intro, fun od => ?_⟩
    refine ⟨_, rfl, d, od, rfl, .inl ⟨Kvs L, upd_same, fun D hD => ?_⟩⟩
    have nDd : d ≠ D := fun z => by rw [← z, upd_same] at hD; cases hD
    have hD0 : H D = none := by rw [upd_ne nDd.symm] at hD; exact hD
    have kl : KT H (upd H d (.frz od (.dK (Kvs L)))) := KT.put hd (fun _ z => by cases z)
    refine lc_it walk_keys (fun i H' => H' D = some (.lst ((List.replicate i true).map V.bl)) ∧ Same (upd H d (.frz od (.dK (Kvs L)))) H') ⟨upd_same, Same.new hD⟩ (fun i H' _ h => h.2 _ _ upd_same) ?_ ?_
    · rintro i x H1 H2 hi ⟨eD, S⟩ ⟨rfl, kk, vv, ek, rfl⟩
      refine ⟨rfl, ?_⟩
      unfold tYes
      dsimp only
      rw [if_pos rfl]
      obtain ⟨⟨n, a⟩, hm, e3⟩ : ∃ p ∈ L, (Sum.inr p.1, V.ref p.2) = (kk, vv) := by
        have := List.mem_of_getElem? ek
        exact List.mem_map.mp this
      obtain ⟨e4, e5⟩ := Prod.mk.inj e3
      subst e4 e5
      have hn : n ∈ R.map (·.1) := by rw [← ts.names]; exact List.mem_map.mpr ⟨_, hm, rfl⟩
      have ts1 := ts.keep (KT.trans kl (KT.same S))
      obtain ⟨q, b, e, hv, hq, hR⟩ := ts1.get hn
      have g1 := gd.nr _ hR
      have g2 := gd.sp _ hR
      have g3 := gd.t2
      have g4 := gd.t1
      unfold Near at g1
      unfold SpOk at g2
      simp only at g1 g2
      refine ⟨_, rfl, _, .str n, rfl, .inl (.str _), okD_nm (gd.nm _ hR), fun H3 S3 => ?_⟩
      rw [show nmD (.str n) = true from gd.nm _ hR]
      refine ⟨_, rfl, iteT ?_⟩
      refine ⟨_, rfl, _, rfl, _, rfl, d, V.ref q, rfl, ?_, ?_⟩
      · refine .inl ⟨Kvs L, Sum.inr n, .inr ⟨od, S3 _ _ (S _ _ upd_same)⟩, rfl, hv.symm⟩
      refine ⟨t, q, b, e, rfl, (KT.same S3) _ _ hq, by omega, by omega, by omega, by omega, by omega, ?_⟩
      refine ⟨_, S3 _ _ eD, by rw [List.length_map, List.length_replicate, sizeLine_eq]; have := gd.l8; omega, ?_, Same.at hD (Same.trans S S3)⟩
      rw [upd_same, List.replicate_succ', List.map_append]
      rfl
    · rintro H1 ⟨eD, S⟩
      refine ⟨S _ _ upd_same, ?_⟩
      refine ⟨_, _, rfl, SqL.of (by rw [upd_ne nDd.symm]; exact eD), ?_⟩
      refine bl_to ?_ (k _ (same_lock hd S))
      rw [List.all_eq_true]
      intro b hb
      exact (List.mem_replicate.mp hb).2
end
end K37
/-! an own class's ==, !=, str, by the promises of its defs -/
namespace OW
open PySem PySem.Spec PyProof.Rows L2

section
variable {prog : Program} {w : World} {A : Around} {E : Value → Shared → Prop} {s : Shared} {K : PySem.W.Frag} {x C L : Addr} {h₀ : Heap} {m : Str → Option Value} {ox : Obj} {od : Option Obj} {b tb : Value}
/-- a comparison by what the left one's special method gives -/
theorem cmp_left {op : CmpOp} {Q : Value → Shared → Prop} (hu : A.units < cLine) (X : K.In s.heap) (I : PySem.W.InstAt s.heap x ox C od) (hb : PySem.W.Looks (model prog w) s.heap (typeOf b) tb) (hn : PySem.W.notFirst K C tb = true)
    (one : wpAny (model prog w) A (tryCompare (.ref x) (cmpInfo op).2.1 b) (fun r s' => ∃ v, r = some v ∧ Q v s') E s) : wpAny (model prog w) A (richCompare op (.ref x) b) Q E s := by
  unfold richCompare
  simp only [oneThing_ref]
  refine wpAny_holding (wpAny_bind (wpAny_cRoomFor hu (wpAny_bind (I.type.here (wpAny_bind (hb.here ?_))))))
  have fin : ∀ {k : Option Value → Sem Value}, (∀ v, k (some v) = pure v) → wpAny (model prog w) A (tryCompare (.ref x) (cmpInfo op).2.1 b >>= k) Q E s := fun hk => by
    refine wpAny_bind (wpAny_mono one
                                      (fun r s' z => ?_) fun _ _ e => e)
    obtain ⟨v, rfl, q⟩ := z
    rw [hk]
    exact wpAny_pure q
  split
  · rename_i q
    have e : PySem.W.subIn K tb (.ref C) = some false := by
      rcases Bool.or_eq_true_iff.mp hn with e | e
      · rw [beq_iff_eq.mp e] at q
        simp at q
      · exact beq_iff_eq.mp e
    refine wpAny_bind ((PySem.W.looks_subIn X e).here ?_)
    simp only [Bool.false_eq_true, if_false]
    exact fin fun v => rfl
  · refine wpAny_bind (wpAny_pure ?_)
    simp only [Bool.false_eq_true, if_false]
    exact fin fun v => rfl
/-- a special method that the class has from object -/
theorem if_builtin {M : Model} {name : Str} {id : String} {args : List Value} {Q : Option Value → Shared → Prop} (X : K.In s.heap) (I : PySem.W.InstAt s.heap x ox C od) (hs : PySem.W.findIn K (.ref C) name = some (some (.builtin id)))
    (hb : ∀ self, bindSpecial (.builtin id) self = pure (.builtin id, [self])) (h : wpAny M A (call (.builtin id) (.ref x :: args)) (fun v => Q (some v)) E s) : wpAny M A (callSpecialIfBound? (.ref x) name args) Q E s := by
  simp only [callSpecialIfBound?, bindSpecialIfBound?]
  refine wpAny_holding (wpAny_bind (wpAny_bind (wpAny_bind (I.type.here ((PySem.W.looks_findIn X hs).here (wpAny_bind (wpAny_askSetting (wpAny_ite ?_))))))))
  have fin : wpAny M A (call (.builtin id) ([.ref x] ++ args) >>= fun v => pure (some v)) Q E s := wpAny_bind (wpAny_mono h (fun v s' h' => wpAny_pure h') fun _ _ h' => h')
  split
  · exact wpAny_bind (wpAny_of_eq (hb _) (wpAny_pure (by exact fin)))
  · exact wpAny_tryCatch (wpAny_bind (wpAny_of_eq (hb _) (wpAny_pure (by exact fin))))
/-- != from an own == -/
theorem ne_left {f : Addr} {Q : Value → Shared → Prop} (hu : A.in1.units < cLine) (X : K.In s.heap) (I : PySem.W.InstAt s.heap x ox C od) (hm : PySem.W.mroIn K C (.type "object") = some true) (hn : PySem.W.findIn K (.ref C) "__ne__" = some (some (.builtin "object.__ne__")))
    (hs : PySem.W.findIn K (.ref C) "__eq__" = some (some (.ref f))) (hf : PySem.W.isFn K (.ref f) = true)
    (h : wpAny (model prog w) A.in1 (call (.ref f) [.ref x, b]) (fun v s' => ∃ z, v = .bool z ∧ Q (.bool (!z)) s') E s) : wpAny (model prog w) A (tryCompare (.ref x) (cmpInfo .NotEq).2.1 b) (fun r s' => ∃ v, r = some v ∧ Q v s') E s := by
  unfold tryCompare
  refine wpAny_bind (if_builtin X I hn F.cmp_object.ne.bind (wpAny_call (codeAny_call_builtin F.cmp_object.ne.plain F.cmpEntry_ne (PySem.W.check_slot F.cmpKind_ne F.cmpSplit_ne (I.type.andThen (PySem.W.looks_mroIn X hm)) (F.cmpArgs_ne _ _) ?_))))
  unfold Builtin.«object.__ne__»
  refine wpAny_bind (wpAny_of_eq (a := ((Value.ref x), [b])) rfl ?_)
  dsimp only
  refine wpAny_bind (wpAny_cRoomFor hu ?_)
  refine wpAny_bind (PySem.W.ifBound_K X I hs hf (wpAny_mono h (fun v s' z => ?_) fun _ _ e => e))
  obtain ⟨z, rfl, q⟩ := z
  refine wpAny_bind (wpAny_truthy_bool ?_)
  exact wpAny_pure (wpAny_pure ⟨_, rfl, q⟩)
end

/-- the type of a value -/
def Tyd (K : PySem.W.Frag) (H : Hp) (y : V) (tb : Value) : Prop :=
  match y with
  | .non => tb = .type "NoneType"
  | .bl _ => tb = .type "bool"
  | .int _ => tb = .type "int"
  | .str _ => tb = .type "str"
  | .ref a => ((∃ xs, SqL K H a xs) ∧ tb = .type "list") ∨ ((∃ xs, SqT K H a xs) ∧ tb = .type "tuple") ∨ ∃ C dx fs, H a = some (.ins C dx fs) ∧ tb = .ref C
  | _ => False
section
variable {X : Cx} {pins : List (Addr × Obj)} {σ : L2.St} {H : Hp} {s : Shared} {y : V} {u tb : Value}
theorem tyd_at {h : Heap} {a : Addr} {o : Obj} {M : Model} {t : Value} (ho : h.get? a = some o) (hc : o.cls = t) : PySem.W.Looks M h (typeOf (.ref a)) t := fun A Q E s k q => wpAny_typeOf_ref (k _ _ ho) (by rw [hc]; exact q)
theorem tyd_looks (I : Inv X pins σ H s) (r : RelV y u) (t : Tyd X.K H y tb) : PySem.W.Looks (model X.prog X.w) s.heap (typeOf u) tb := by
  cases y with
  | non => cases r; cases t; exact PySem.W.Looks.of_pure rfl
  | bl b => cases r; cases t; exact PySem.W.Looks.of_pure rfl
  | int i => obtain ⟨tk, rfl⟩ := r; cases t; exact PySem.W.Looks.of_pure rfl
  | str x => obtain ⟨tk, rfl⟩ := r; cases t; exact PySem.W.Looks.of_pure rfl
  | ref a =>
    cases r
    rcases t with ⟨⟨xs, h⟩, rfl⟩ | ⟨⟨xs, h⟩, rfl⟩ | ⟨C, dx, fs, h, rfl⟩
    · obtain ⟨its, _, pl, _⟩ := I.list h
      obtain ⟨o, ho, hc, _⟩ := pl.isList
      exact tyd_at ho hc
    · obtain ⟨its, _, ⟨o, ho, hc, _⟩, _⟩ := I.tuple h
      exact tyd_at ho hc
    · obtain ⟨mA, O, _⟩ := ins_get I.hok h
      obtain ⟨od, J, _⟩ := O.look
      exact J.type
  | byt _ => exact t.elim
  | flt _ => exact t.elim
  | ty _ => exact t.elim

/-- a def called from within a builtin -/
theorem run_at {CX : CXT} {n : Nat} {f : Addr} {fd : FuncData} {ps : List Str} {sp : Sp} {E : XK} {A : Around} {Q : VK} {us : List Value} {vs : List V} (F : FnOk X.prog X.w X.K X.mg X.base CX n f fd ps sp) (sb : Sub X n A) (hb : Binds X.K fd ps []) (hx : Passes CX X E)
    (I : Inv X pins σ H s) (r : Vals vs us) (h : sp vs H Q E) : wpAny (model X.prog X.w) A (call (.ref f) us) (EP X pins σ Q) X.xe s := by
  have e0 : Env0 X.prog X.w X.K X.mg X.base A X.stack s H := by
    have e := I.env0
    exact ⟨by rw [sb.fr]; exact e.frames, e.mod, e.bs, e.bsz, e.funs, e.frf, e.hok, e.bare⟩
  have hl := F.len _ _ _ _ h
  refine wpAny_call (codeAny_mono (F.run A X.stack s H ⟨us, []⟩ us vs Q E sb.room e0 (by
    have := hb s us I.kIn (by rw [List.append_nil, ← r.length]; exact hl)
    rwa [List.append_nil] at this) r h) fun r s' hq => ?_)
  cases r with
  | error e => exact hx pins σ H s e s' I hq
  | ok fl =>
    cases fl with
    | ret w => exact I.after hq
    | next => exact False.elim hq
    | brk => exact False.elim hq
    | cont => exact False.elim hq
theorem not_ni {z : V} {v : Value} {R : Prop} (r : RelV z v) (h : v ≠ .notImplemented → R) : R := h fun e => by
  subst e
  cases z <;> first | exact nomatch r | (obtain ⟨t, e⟩ := r; exact nomatch e) | (cases r)

/-- the class's own == -/
structure OwnEq (X : Cx) (C f : Addr) : Prop where
  fs : PySem.W.findIn X.K (.ref C) "__eq__" = some (some (.ref f))
  fn : PySem.W.isFn X.K (.ref f) = true
def rOwnEq (K : PySem.W.Frag) (C : Addr) (sp : Sp) (E : XK) : R2 := fun x y H Q => ∃ a dx fs tb, x = .ref a ∧ H a = some (.ins C dx fs) ∧ Tyd K H y tb ∧ PySem.W.notFirst K C tb = true ∧ sp [x, y] H Q E
theorem op_ownEq {CX : CXT} {n : Nat} {C f : Addr} {fd : FuncData} {ps : List Str} {sp : Sp} {E : XK} (F : FnOk X.prog X.w X.K X.mg X.base CX n f fd ps sp) (o : OwnEq X C f) (hr : Room n X.A) (hb : Binds X.K fd ps []) (hx : Passes CX X E) :
    OpR X (compareOp .Eq) (rOwnEq X.K C sp E) := by
  intro pins s σ H x y v u Q I rx ry h
  obtain ⟨a, dx, fs, tb, rfl, ha, ty, nf, q⟩ := h
  cases rx
  obtain ⟨mA, O, _⟩ := ins_get I.hok ha
  obtain ⟨od, J, _⟩ := O.look
  show wpAny _ _ (richCompare .Eq (.ref a) u) _ _ _
  refine cmp_left hr.units0 I.kIn J (tyd_looks I ry ty) nf ?_
  unfold tryCompare
  refine wpAny_bind (PySem.W.ifBound_K I.kIn J o.fs o.fn (wpAny_mono (run_at F ⟨hr, rfl⟩ hb hx I (vs := [.ref a, y]) (.cons rfl (.cons ry .nil)) q) (fun v s' z => ?_) fun _ _ e => e))
  obtain ⟨zv, H', I', r', q'⟩ := z
  refine not_ni r' fun ne => ?_
  cases v <;> first | exact absurd rfl ne | exact wpAny_pure ⟨_, rfl, zv, H', I', r', q'⟩
def rOwnNe (K : PySem.W.Frag) (C : Addr) (sp : Sp) (E : XK) : R2 := fun x y H Q => ∃ a dx fs tb, x = .ref a ∧ H a = some (.ins C dx fs) ∧ Tyd K H y tb ∧ PySem.W.notFirst K C tb = true ∧ sp [x, y] H (fun v H' => ∃ b, v = .bl b ∧ Q (.bl (!b)) H') E
theorem op_ownNe {CX : CXT} {n : Nat} {C f : Addr} {fd : FuncData} {ps : List Str} {sp : Sp} {E : XK} (F : FnOk X.prog X.w X.K X.mg X.base CX n f fd ps sp) (o : OwnEq X C f) (hm : PySem.W.mroIn X.K C (.type "object") = some true)
    (hn : PySem.W.findIn X.K (.ref C) "__ne__" = some (some (.builtin "object.__ne__"))) (hr : Room (n + 1) X.A) (hb : Binds X.K fd ps []) (hx : Passes CX X E) :
    OpR X (compareOp .NotEq) (rOwnNe X.K C sp E) := by
  intro pins s σ H x y v u Q I rx ry h
  obtain ⟨a, dx, fs, tb, rfl, ha, ty, nf, q⟩ := h
  cases rx
  obtain ⟨mA, O, _⟩ := ins_get I.hok ha
  obtain ⟨od, J, _⟩ := O.look
  show wpAny _ _ (richCompare .NotEq (.ref a) u) _ _ _
  refine cmp_left hr.units0 I.kIn J (tyd_looks I ry ty) nf ?_
  refine ne_left hr.in1.units0 I.kIn J hm hn o.fs o.fn (wpAny_mono (run_at F ⟨hr.in1, rfl⟩ hb hx I (vs := [.ref a, y]) (.cons rfl (.cons ry .nil)) q) (fun v s' z => ?_) fun _ _ e => e)
  obtain ⟨zv, H', I', r', b, rfl, q'⟩ := z
  cases r'
  exact ⟨b, rfl, .bl (!b), H', I', rfl, q'⟩
end
end OW
/-! an own class's in, len, [..], +, str, by the promises of its defs -/
namespace OW
open PySem PySem.Spec PyProof.Rows L2
section
variable {X : Cx} {CX : CXT} {n : Nat} {C f : Addr} {fd : FuncData} {ps : List Str} {sp : Sp} {E : XK}
/-- the class has a def at f as its special method -/
structure OwnM (X : Cx) (C : Addr) (name : Str) (f : Addr) : Prop where
  fs : PySem.W.findIn X.K (.ref C) name = some (some (.ref f))
  fn : PySem.W.isFn X.K (.ref f) = true
/-- what holds of a tracked instance -/
theorem inst_at {pins : List (Addr × Obj)} {σ : L2.St} {H : Hp} {s : Shared} {a dx : Addr} {fs : List (Str × V)} (I : Inv X pins σ H s) (ha : H a = some (.ins C dx fs)) : ∃ ox od, PySem.W.InstAt s.heap a ox C od := by
  obtain ⟨mA, O, _⟩ := ins_get I.hok ha
  obtain ⟨od, J, _⟩ := O.look
  exact ⟨_, od, J⟩
def rOwnIn (C : Addr) (sp : Sp) (E : XK) (neg : Bool) : R2 := fun y x H Q => ∃ a dx fs, x = .ref a ∧ H a = some (.ins C dx fs) ∧ sp [x, y] H (fun v H' => ∃ b, v = .bl b ∧ Q (.bl (if neg then !b else b)) H') E
theorem op_ownIn (F : FnOk X.prog X.w X.K X.mg X.base CX n f fd ps sp) (o : OwnM X C "__contains__" f) (hr : Room n X.A) (hb : Binds X.K fd ps []) (hx : Passes CX X E) : OpR X (compareOp .In) (rOwnIn C sp E false) := by
  intro pins s σ H y x u v Q I ry rx h
  obtain ⟨a, dx, fs, rfl, ha, q⟩ := h
  cases rx
  obtain ⟨ox, od, J⟩ := inst_at I ha
  obtain ⟨m, hF⟩ := I.fr
  refine PySem.W.in_K hF I.ok.mod.kin J o.fs o.fn (wpAny_mono (run_at F ⟨hr, rfl⟩ hb hx I (vs := [.ref a, y]) (.cons rfl (.cons ry .nil)) q) (fun v s' z => ?_) fun _ _ e => e)
  obtain ⟨zv, H', I', r', b, rfl, q'⟩ := z
  cases r'
  exact wpAny_truthy_bool ⟨.bl b, H', I', rfl, q'⟩
theorem op_ownNotIn (F : FnOk X.prog X.w X.K X.mg X.base CX n f fd ps sp) (o : OwnM X C "__contains__" f) (hr : Room n X.A) (hb : Binds X.K fd ps []) (hx : Passes CX X E) : OpR X (compareOp .NotIn) (rOwnIn C sp E true) := by
  intro pins s σ H y x u v Q I ry rx h
  obtain ⟨a, dx, fs, rfl, ha, q⟩ := h
  cases rx
  obtain ⟨ox, od, J⟩ := inst_at I ha
  obtain ⟨m, hF⟩ := I.fr
  refine PySem.W.notIn_K hF I.ok.mod.kin J o.fs o.fn (wpAny_mono (run_at F ⟨hr, rfl⟩ hb hx I (vs := [.ref a, y]) (.cons rfl (.cons ry .nil)) q) (fun v s' z => ?_) fun _ _ e => e)
  obtain ⟨zv, H', I', r', b, rfl, q'⟩ := z
  cases r'
  exact wpAny_truthy_bool ⟨.bl (!b), H', I', rfl, q'⟩
/-- len(o) -/
def rOwnLen (C : Addr) (sp : Sp) (E : XK) : List V → Hp → VK → Prop := fun xs H Q => ∃ a dx fs, xs = [.ref a] ∧ H a = some (.ins C dx fs) ∧ sp [.ref a] H (fun v H' => ∃ i : Int, v = .int i ∧ 0 ≤ i ∧ i < 2 ^ 63 ∧ Q (.int i) H') E
theorem cr_ownLen (F : FnOk X.prog X.w X.K X.mg X.base CX n f fd ps sp) (o : OwnM X C "__len__" f) (hr : Room (n + 1) X.A) (hb : Binds X.K fd ps []) (hx : Passes CX X E) : CallR X (.builtin "len") (rOwnLen C sp E) := by
  intro pins s σ H xs us Q I r h
  obtain ⟨a, dx, fs, rfl, ha, q⟩ := h
  rw [Vals.ref1 r]
  obtain ⟨ox, od, J⟩ := inst_at I ha
  obtain ⟨m, hF⟩ := I.fr
  refine PySem.W.len_K hF I.ok.mod.kin J o.fs o.fn (wpAny_mono (run_at F ⟨hr.in1, rfl⟩ hb hx I (vs := [.ref a]) (.cons rfl .nil) q) (fun v s' z => ?_) fun _ _ e => e)
  obtain ⟨zv, H', I', r', i, rfl, h0, h1, q'⟩ := z
  obtain ⟨t, rfl⟩ := r'
  exact ⟨⟨h0, h1⟩, .int i, H', I'.tok _, ⟨_, rfl⟩, q'⟩
/-- o + p of one class -/
def rOwnAdd (C : Addr) (sp : Sp) (E : XK) : R2 := fun x y H Q => ∃ a dx fs b dy gs, x = .ref a ∧ H a = some (.ins C dx fs) ∧ y = .ref b ∧ H b = some (.ins C dy gs) ∧ sp [x, y] H Q E
theorem op_ownAdd (F : FnOk X.prog X.w X.K X.mg X.base CX n f fd ps sp) (o : OwnM X C "__add__" f) (hc : PySem.W.selfFirst X.K C = true) (hr : Room n X.A) (hb : Binds X.K fd ps []) (hx : Passes CX X E) : OpR X (binaryOp .Add) (rOwnAdd C sp E) := by
  intro pins s σ H x y u v Q I rx ry h
  obtain ⟨a, dx, fs, b, dy, gs, rfl, ha, rfl, hb', q⟩ := h
  cases rx
  cases ry
  obtain ⟨ox, od, J⟩ := inst_at I ha
  obtain ⟨oy, od', J'⟩ := inst_at I hb'
  obtain ⟨m, hF⟩ := I.fr
  refine PySem.W.binop_K hF I.ok.mod.kin J J'.type hc o.fs o.fn (wpAny_mono (run_at F ⟨hr, rfl⟩ hb hx I (vs := [.ref a, .ref b]) (.cons rfl (.cons rfl .nil)) q) (fun v s' z => ?_) fun _ _ e => e)
  obtain ⟨zv, H', I', r', q'⟩ := z
  refine not_ni r' fun ne => ?_
  cases v <;> first | exact absurd rfl ne | exact ⟨zv, H', I', r', q'⟩
end
section
variable {prog : Program} {w : World} {A : Around} {E : Value → Shared → Prop} {s : Shared} {K : PySem.W.Frag} {x C f : Addr} {ox : Obj} {od : Option Obj}
open Builtin Builtin.Str in
/-- str(o), an own __str__ -/
theorem str_own {Q : Value → Shared → Prop} (hu : A.in1.in1.units < cLine) (X : K.In s.heap) (I : PySem.W.InstAt s.heap x ox C od) (hs : PySem.W.findIn K (.ref C) "__str__" = some (some (.ref f))) (hf : PySem.W.isFn K (.ref f) = true)
    (h : wpAny (model prog w) A.in1.in1 (call (.ref f) [.ref x]) (PySem.W.StrBack Q) E s) : wpAny (model prog w) A (call (.type "str") [.ref x]) Q E s := by
  refine callType_codes (T := "str") (Bi := Builtin.«object.__init__»)
                                                                       (Q₁ := fun r s₁ => ∃ y u, r = .str y u ∧ Q r s₁) PySem.F.called_str (PySem.F.typeCall_str_1 _) PySem.F.entry_object_init ?_ ?_
  · refine codeAny_of_tree ?_
    show wpAny _ A.in1.in1 (do checkBuiltinCall "str.__new__"
                                                              ⟨[.type "str", .ref x], []⟩; again (.builtin "str.__new__" ⟨[.type "str", .ref x], []⟩)) _ _ s
    refine wpAny_bind (wpAny_of_eq (PySem.F.newCall_str_1 _) (wpAny_pure
                                                                         ⟨plainId_quiet (by decide +kernel) _, codeAny_builtin PySem.F.entry_str_new ?_⟩))
    rw [Around.under_plainId (by decide +kernel) _, str_new_tree]
    refine wpAny_bind (wpAny_pure (wpAny_bind (wpAny_of_eq isSubtype_str_str ?_)))
    have key : wpAny (model prog w) A.in1.in1 (PySem.Builtin.Str.strOf
                                                                       (.ref x)) (fun r s₁ => ∃ y u, r = .str y u ∧ Q r s₁) E s := by
      unfold PySem.Builtin.Str.strOf
      rw [show isExactStr (.ref x) = false from rfl]
      refine wpAny_bind
                        (m := cRoomFor _ _) (wpAny_cRoomFor hu ?_)
      refine wpAny_bind (m := callSpecial? (.ref x) (Str.ofString "__str__")) (PySem.W.special_fn X I hs (beq_iff_eq.mp hf) (wpAny_mono h (fun r s' z => ?_) fun _ _ y => y))
      cases r <;> first | exact z.elim | exact wpAny_pure
                                                          ⟨_, _, rfl, z⟩
    exact wpAny_bind (wpAny_mono key
                                     (fun r s₁ hr => wpAny_pure hr) fun _ _ y => y)
  · rintro obj s₁ ⟨y, u, rfl, hq⟩
    exact ⟨typeIs_str _ _ _, PySem.F.args_object_init_2 _ _, object_init_meets PySem.F.called_str.init.lookup PySem.F.called_str.made
                                                                                                                                      (by decide) prog w A.in1 _ s₁ ⟨typeIs_str _ _ _, rfl, hq⟩⟩
end
section
variable {X : Cx} {CX : CXT} {n : Nat} {C f : Addr} {fd : FuncData} {ps : List Str} {sp : Sp} {E : XK}
def rOwnStr (C : Addr) (sp : Sp) (E : XK) : List V → Hp → VK → Prop := fun xs H Q => ∃ a dx fs, xs = [.ref a] ∧ H a = some (.ins C dx fs) ∧ sp [.ref a] H (fun v H' => ∃ z, v = .str z ∧ Q (.str z) H') E
theorem cr_ownStr (F : FnOk X.prog X.w X.K X.mg X.base CX n f fd ps sp) (o : OwnM X C "__str__" f) (hr : Room (n + 2) X.A) (hb : Binds X.K fd ps []) (hx : Passes CX X E) : CallR X (.type "str") (rOwnStr C sp E) := by
  intro pins s σ H xs us Q I r h
  obtain ⟨a, dx, fs, rfl, ha, q⟩ := h
  rw [Vals.ref1 r]
  obtain ⟨ox, od, J⟩ := inst_at I ha
  refine str_own hr.in1.in1.units0 I.kIn J o.fs o.fn (wpAny_mono (run_at F ⟨hr.in1.in1, rfl⟩ hb hx I (vs := [.ref a]) (.cons rfl .nil) q) (fun v s' z => ?_) fun _ _ e => e)
  obtain ⟨zv, H', I', r', y, rfl, q'⟩ := z
  obtain ⟨t, rfl⟩ := r'
  exact ⟨.str y, H', I', ⟨t, rfl⟩, q'⟩
/-- o[i] -/
def rOwnItem (C : Addr) (sp : Sp) (E : XK) : R2 := fun x y H Q => ∃ a dx fs, x = .ref a ∧ H a = some (.ins C dx fs) ∧ sp [x, y] H Q E
theorem pe_ownItem {a b : Expr} {ta tb : TE} {pos : Pos} (ha : PE X a ta) (hb : PE X b tb) (F : FnOk X.prog X.w X.K X.mg X.base CX n f fd ps sp) (o : OwnM X C "__getitem__" f) (hfn : PySem.W.fnIn X.K f = true) (hr : Room (n + 1) X.A) (hbd : Binds X.K fd ps []) (hx : Passes CX X E)
    (hsl : ∀ x i, subscripted b true (.ref x) i = runValue (.builtin "lifetime.subscript" ⟨[.ref x, i], []⟩)) : PE X (.Subscript a b pos) (tOp (rOwnItem C sp E) ta tb) := by
  refine ⟨fun pins s σ H Q I h => ?_⟩
  refine Subscript_
                    (binT ha hb I h fun v u s2 x y H2 I2 rx ry q => ?_)
  obtain ⟨p, dx, fs, rfl, hp, q⟩ := q
  cases rx
  obtain ⟨ox, od, J⟩ := inst_at I2 hp
  obtain ⟨m, hF⟩ := I2.fr
  exact PySem.W.sub_K hF I2.ok.mod.kin J o.fs hfn o.fn (run_at F ⟨hr.in1, rfl⟩ hbd hx I2 (vs := [.ref p, y]) (.cons rfl (.cons ry .nil)) q) (hsl _ _)
end
end OW
/-! == of dicts of data in one order; in, of a value that is no text, in a tuple of texts -/
namespace RL
open PySem PySem.Spec PyProof.Rows L2
/-- all values equal, place by place -/
def allE : List (PyData × PyData) → List (PyData × PyData) → Bool
  | (_, d) :: es, (_, e) :: fs => PyData.eqv d e && allE es fs
  | _, _ => true
section
variable {X : Cx} {pins : List (Addr × Obj)}
                                             {σ : L2.St} {H : Hp} {s : Shared}
theorem dic_hits (I : Inv X pins σ H s) {A : Around} (hu : A.units + 60 < cLine) {ls : List (Key × V)} {vb : List (Key × Value)} (rb : KV ls vb) :
    ∀ {es' fs' : List (PyData × PyData)} {ks' ls' : List (Key × V)} {va' : List (Key × Value)}, DSk X.K H ks' es' → DSk X.K H ls' fs' → KV ks' va' → ks'.map (·.1) = ls'.map (·.1) → (∀ p ∈ ls', valV ls p.1 = some p.2) →
      PyData.plainAll (es'.map (·.2)) = true → PyData.plainAll (fs'.map (·.2)) = true → PyData.depthAll (es'.map (·.2)) ≤ 60 → PySem.W.KeqHitsP X.prog X.w A s vb va' (allE es' fs')
  | [], _, _, _, _, h1, h2, r, e, _, _, _, _ => by
    cases h1
    unfold KV at r
    cases r
    simp only [allE]
    exact .nil
  | (kd, d) :: es', _, _, _, _, h1, h2, r, e, hv, p1, p2, hd => by
    cases h1 with
    | @cons k v ks' _ _ hd1 hk1 =>
      cases h2 with
      | nil => cases e
      | @cons k2 v2 ls' d2 fs' hd2 hk2 =>
        obtain ⟨rfl, e2⟩ := List.cons.inj e
        unfold KV at r
        cases r with
        | @cons _ q _ qs h t =>
          obtain ⟨hq1, hq2⟩ := h
          obtain ⟨qk, qv⟩ := q
          obtain rfl : k = qk := hq1
          have rr : RelO (some v2) (valueAt vb k) := by
            rw [← hv _ List.mem_cons_self]
            exact rb.val k
          obtain ⟨y, hy, ry⟩ := rr.some_of
          have p1' : d.plain = true ∧ PyData.plainAll (es'.map (·.2)) = true := by simpa [PyData.plainAll] using p1
          have p2' : d2.plain = true ∧ PyData.plainAll (fs'.map (·.2)) = true := by simpa [PyData.plainAll] using p2
          have hdd : d.depth ≤ 60 ∧ PyData.depthAll (es'.map (·.2)) ≤ 60 := by
            simp only [List.map_cons, PyData.depthAll] at hd
            omega
          obtain ⟨as, ra⟩ := DS.reads I _ _ _ hd1 hq2
          obtain ⟨bs, rb'⟩ := DS.reads I _ _ _ hd2 ry
          refine .hit hy (SeqAt.EqAt.eqP (SeqAt.eqAt_plain d d2 A s qv y as bs ra rb' p1'.1 p2'.1 (by have := Nat.min_le_left d.depth d2.depth; omega))) ?_
          exact dic_hits I hu rb hk1 hk2 t e2 (fun p hp => hv p (List.mem_cons_of_mem _ hp)) p1'.2 p2'.2 hdd.2
/-- a == b, two dicts with the same keys in one order -/
def rEqDic (K : PySem.W.Frag) : R2 := fun x y H Q => ∃ a b ks ls es fs, x = .ref a ∧ y = .ref b ∧ H a = some (.dK ks) ∧ H b = some (.dK ls) ∧ DSk K H ks es ∧ DSk K H ls fs ∧ ks.map (·.1) = ls.map (·.1) ∧ (∀ p ∈ ls, valV ls p.1 = some p.2) ∧
  PyData.plainAll (es.map (·.2)) = true ∧ PyData.plainAll (fs.map (·.2)) = true ∧ PyData.depthAll (es.map (·.2)) ≤ 60 ∧ Q (.bl (allE es fs)) H
theorem op_eqDic (hu : X.A.units + 64 < cLine) : OpR X (compareOp .Eq) (rEqDic X.K) := by
  intro pins s σ H x y v u Q I rx ry h
  obtain ⟨a, b, ks, ls, es, fs, rfl, rfl, ha, hb, h1, h2, e, hv, p1, p2, hd, q⟩ := h
  cases rx
  cases ry
  obtain ⟨_, ya, va, ra, da⟩ :=
                                (show ObjOk X.prog X.w H s.heap a (.dK ks) from I.hok a _ ha)
  obtain ⟨_, yb, vb, rb, db⟩ :=
                                (show ObjOk X.prog X.w H s.heap b (.dK ls) from I.hok b _ hb)
  have hl : va.length = vb.length := by
    rw [← ra.length, ← rb.length, ← List.length_map (f := (·.1)) (as := ks), e, List.length_map]
  refine PySem.W.rcP_dicts (knd := mixKind X.prog X.w) (r := allE es fs) ya yb da db (by omega) (fun _ => dic_hits I (by show X.A.units + 1 + 60 < cLine; omega) rb h1 h2 ra e hv p1 p2 hd) _ _ ?_
  rw [show (va.length == vb.length && allE es fs) = allE es fs from by rw [hl]; simp]
  exact ⟨.bl _, H, I, rfl, q⟩
end
/-! ### in a tuple of texts -/
section
open AutoSeq1 (wpAny_loadPart')
open SeqAt MeetsSeq MeetsSeq2 MeetsSeq3 SeqRoads2
variable {prog : Program} {w : World}
theorem tuple_containsJ (l : Addr) (items : Array Value) (n : Nat) (dd : Option Addr) (sl : Array (Option Value)) (x : Value) (J : Shared → Prop) :
    MeetsIn prog w (Builtin.«tuple.__contains__» ⟨[.ref l, x], []⟩)
      (fun A R s => s.heap.get? l = some { cls := .type "tuple", dict := dd, data := .seq items n, slots := sl } ∧ J s ∧ (∀ y, y ∈ items → ∀ s', J s' → wpAny (model prog w) A.in1 (eqBool y x) (fun b s'' => b = false ∧ J s'') (fun e s' => R (.error e) s') s') ∧ ∀ s', J s' → R (.ok (.ret (.bool false))) s') :=
  .of_wp fun A R s h => by
    obtain ⟨hp, g, d, tk, os⟩ := s; obtain ⟨hl, hj, he, h⟩ := h
    wp_walk using wpAny_loadPart' hl, wpAny_forIn_array _ (fun rest b s' => b.1 = none ∧ J s' ∧ (∀ y, y ∈ rest → y ∈ items)) _
    case turn =>
      rintro y rest b s' ⟨hb, hj', hmem⟩
      refine wpAny_bind (wpAny_mono (he y (hmem y (List.mem_cons_self ..)) s' hj') (fun b' s'' z => ?_) fun _ _ z => z)
      obtain ⟨rfl, hj2⟩ := z
      wp_walk
      exact ⟨rfl, hj2, fun z hz => hmem z (List.mem_cons_of_mem _ hz)⟩
    case fin =>
      rintro ⟨b1, b2⟩ s' ⟨hb, hj', -⟩
      simp only at hb
      subst hb
      wp_walk
      exact ⟨_, rfl, h _ hj'⟩
    case h =>
      exact ⟨rfl, hj, fun y hy => by simpa using hy⟩
end
end RL
/-! ### a text beside a dict, beside an instance -/
namespace RL
open PySem PySem.Spec PyProof.Rows L2
open AutoSeq1 (wpAny_loadPart')
theorem str_declines_dict (b : Str) (u : Tok) (l : Addr) (c : Value) (es : Array DictEntry) (n : Nat) (dd : Option Addr) (sl : Array (Option Value)) :
    Meets (Builtin.«str.__eq__» ⟨[.str b u, .ref l], []⟩) (fun _ R s => s.heap.get? l = some { cls := c, dict := dd, data := .dict es n, slots := sl } ∧ R (.ok (.ret .notImplemented)) s) :=
  .of_wp fun prog w A R s h => by obtain ⟨hp, g, d, tk, os⟩ := s; obtain
                                                                         ⟨hl, h⟩ := h; wp_walk using wpAny_loadPart' hl, wpAny_load hl; exact ⟨_, rfl, h⟩
theorem str_declines_plain (b : Str) (u : Tok) (l : Addr) (c : Value) (dd : Option Addr) (sl : Array (Option Value)) :
    Meets (Builtin.«str.__eq__» ⟨[.str b u, .ref l], []⟩) (fun _ R s => s.heap.get? l = some { cls := c, dict := dd, data := .plain, slots := sl } ∧ R (.ok (.ret .notImplemented)) s) :=
  .of_wp fun prog w A R s h => by obtain ⟨hp, g, d, tk, os⟩ := s; obtain
                                                                         ⟨hl, h⟩ := h; wp_walk using wpAny_loadPart' hl, wpAny_load hl; exact ⟨_, rfl, h⟩
section
variable {prog : Program}
                          {w : World} {A : Around} {s : Shared}
theorem dict_declines_str {K : Type} [DecidableEq K] {knd : KeyKind prog w K} {a : Addr} {ka : List (K × Value)} {z : Str} {t : Tok} {E Q : Value → Shared → Prop} (da : s.heap.DictOf knd a ka) (h : Q .notImplemented s) :
    wpAny (model prog w) A (call (.builtin "dict.__eq__") [.ref a, .str z t]) Q E s := by
  refine wpAny_call_entry PySem.F.slot_dict_eq da.typeIs PySem.F.entry_dict_eq ?_ (PySem.F.args_dict_eq_2 _ _)
  show wpAny _ _ (Builtin.Dict.dictSlotArgs "__eq__" ⟨[.ref a, .str z t], []⟩ >>= _) _ _ s
  refine wpAny_bind ?_
  unfold Builtin.Dict.dictSlotArgs
  refine wpAny_bind (wpAny_notOrdered_dict da.typeIs ?_)
  show wpAny _ _ (pure (Value.ref a, Value.str z t)) _ _ s
  refine wpAny_pure ?_
  refine wpAny_bind (wpAny_isInstance (T := "str") (typeIs_str s z t) PySem.F.sub_str_dict ?_)
  simp only [Bool.not_false, if_true]
  refine wpAny_bind (wpAny_rule ?_)
  exact wpAny_pure ⟨_, rfl, h⟩
end
end RL
namespace RL
open PySem PySem.Spec PyProof.Rows L2
open AutoSeq1 (wpAny_loadPart')
section
variable {prog : Program}
                          {w : World} {A : Around} {s : Shared}
theorem eqb_of_rc {z : Str} {t : Tok} {a : Addr} {E : Value → Shared → Prop} {Q : Bool → Shared → Prop} (h : wpAny (model prog w) A (richCompare .Eq (.str z t) (.ref a)) (fun v s' => ∃ b, v = .bool b ∧ Q b s') E s) : wpAny (model prog w) A (eqBool (.str z t) (.ref a)) Q E s := by
  unfold eqBool
  refine wpAny_holding ?_
  refine wpAny_ite_split (fun hab => absurd
                                            (eq_of_beq hab) nofun) (fun _ => ?_)
  refine wpAny_bind (wpAny_mono h (fun v s' z => ?_) fun _ _ z => z)
  obtain ⟨b, rfl, q⟩ := z
  exact wpAny_truthy_bool q
theorem rc_str_dict {K : Type} [DecidableEq K] {knd : KeyKind prog w K} {a : Addr} {ka : List (K × Value)} {z : Str} {t : Tok} {E Q : Value → Shared → Prop} (hu : A.units < cLine) (da : s.heap.DictOf knd a ka) (h : Q (.bool false) s) :
    wpAny (model prog w) A (richCompare .Eq (.str z t) (.ref a)) Q E s := by
  obtain ⟨⟨cls, dd, data, sl⟩, es, ep, ho, hx, hd, hr⟩ := id da
  have hc := hx.1
  simp only at hc hd
  subst hc hd
  exact SeqAt.rc_eq_decline_or (k := false) (typeIs_str s z t) da.typeIs (by decide) PySem.F.sub_dict_str PySem.F.slot_str_eq PySem.F.slot_dict_eq
    (fun _ hq => call_meets PySem.F.slot_str_eq (typeIs_str s z t) PySem.F.entry_str_eq (PySem.F.args_str_eq_2 _ _) (str_declines_dict z t a (.type "dict") es ep dd sl) ⟨ho, hq⟩)
    (fun _ hq => dict_declines_str da hq)
    (fun _ hq => wpAny_of_eq (rfl : isSame (.str z t) (.ref a) = pure false) hq) (.inr hu) h
theorem rc_str_inst {K : PySem.W.Frag} {x C dx f : Addr} {od : Option Obj} {z : Str} {t : Tok} {E Q : Value → Shared → Prop} (hu : A.units < cLine) (X : K.In s.heap) (ho : s.heap.get? x = some (PySem.W.instObj C dx)) (I : PySem.W.InstAt s.heap x (PySem.W.instObj C dx) C od)
    (hn : PySem.W.subIn K (.ref C) (.type "str") = some false) (hs : PySem.W.findIn K (.ref C) "__eq__" = some (some (.ref f))) (hf : PySem.W.isFn K (.ref f) = true)
    (h : wpAny (model prog w) A (call (.ref f) [.ref x, .str z t]) (fun v s' => v ≠ .notImplemented ∧ Q v s') E s) : wpAny (model prog w) A (richCompare .Eq (.str z t) (.ref x)) Q E s := by
  have ha := typeIs_str s z t
  simp only [richCompare, ha.oneThing_none]
  try with_reducible refine wpAny_holding ?_
  refine wpAny_bind (wpAny_cRoomFor hu ?_)
  refine wpAny_bind (wpAny_typeOf ha (wpAny_bind (wpAny_typeOf_ref ho ?_)))
  have hne : (Value.type "str" != (PySem.W.instObj C dx).cls) = true := rfl
  simp only [hne, if_true]
  refine wpAny_bind ((PySem.W.looks_subIn X hn).here ?_)
  simp only [Bool.false_eq_true, if_false, Bool.not_false, if_true]
  refine wpAny_bind (m := tryCompare (.str z t) _ (.ref x)) (wpAny_tryCompare_declines ha PySem.F.slot_str_eq (call_meets PySem.F.slot_str_eq ha PySem.F.entry_str_eq (PySem.F.args_str_eq_2 _ _) (str_declines_plain z t x (.ref C) (some dx) #[]) ⟨ho, rfl, ?_⟩))
  refine wpAny_bind (m := tryCompare (.ref x) _ (.str z t)) ?_
  unfold tryCompare
  refine wpAny_bind (PySem.W.ifBound_K X I hs hf (wpAny_mono h (fun v s' y => ?_) fun _ _ e => e))
  obtain ⟨y1, y2⟩ := y
  cases v <;> first | exact absurd rfl y1 | exact wpAny_pure (wpAny_pure y2)
end
section
variable {X : Cx} {CX : CXT} {n : Nat} {C f : Addr} {fd : FuncData} {ps : List Str} {sp : Sp} {E : XK}
/-- x in y, y a tuple of texts, x no text -/
def rInOdd (K : PySem.W.Frag) (C : Addr) (sp : Sp) (E : XK) : R2 := fun x y H Q => ∃ (p : Addr) (ns : List Str), y = .ref p ∧ SqT K H p (ns.map V.str) ∧ Q (.bl false) H ∧
  ((∃ d, DS K H x d ∧ d.plain = true ∧ d.depth ≤ 60 ∧ ∀ z, PyData.eqv (.str z) d = false) ∨ (∃ a kvs, x = .ref a ∧ H a = some (.dK kvs)) ∨
    ∃ a dx fs, x = .ref a ∧ H a = some (.ins C dx fs) ∧ ∀ z : Str, sp [x, .str z] H (fun v H' => v = .bl false ∧ H' = H) E)
theorem strs_vals : ∀ {ns : List Str} {its : List Value}, Vals (ns.map V.str) its → ∀ y ∈ its, ∃ z t, y = Value.str z t
  | [], _, h, y, hy => by
    cases h
    cases hy
  | n :: ns, _, h, y, hy => by
    cases h with
    | cons h1 h2 =>
      rcases List.mem_cons.mp hy with rfl | hy
      · obtain ⟨t, e⟩ := h1
        exact ⟨n, t, e⟩
      · exact strs_vals h2 y hy
theorem op_inOdd (F : FnOk X.prog X.w X.K X.mg X.base CX n f fd ps sp) (o : OW.OwnEq X C f) (hsub : PySem.W.subIn X.K (.ref C) (.type "str") = some false) (hr : Room (n + 2) X.A) (hun : X.A.units + 64 < cLine) (hb : Binds X.K fd ps []) (hx : Passes CX X E) :
    OpR X (compareOp .In) (rInOdd X.K C sp E) := by
  intro pins s σ H x y v u Q I rx ry h
  obtain ⟨p, ns, rfl, hq, q, hk⟩ := h
  cases ry
  obtain ⟨its, rv, ⟨⟨cls, dd, data, sl⟩, ho, hc, m, hd⟩, _⟩ := I.tuple hq
  simp only at hc hd
  subst hc hd
  have hT : s.TypeIs (.ref p) "tuple" := ⟨_, ho, rfl⟩
  have key : wpAny (model X.prog X.w) X.A (call (.builtin "tuple.__contains__") [.ref p, v]) (fun r s' => r = Value.bool false ∧ Inv X pins σ H s') X.xe s := by
    refine call_meetsIn PySem.F.slot_tuple_contains hT PySem.F.entry_tuple_contains (PySem.F.args_tuple_contains_2 _ _) (tuple_containsJ p its.toArray m dd sl v (fun s' => Inv X pins σ H s')) ⟨ho, I, ?_, fun s' I' => ⟨rfl, I'⟩⟩
    intro y hy s' I'
    obtain ⟨z, t, rfl⟩ := strs_vals rv y (by simpa using hy)
    have hu1 : X.A.in1.units < cLine := by show X.A.units + 1 < cLine; omega
    rcases hk with ⟨d, h1, h2, h3, h4⟩ | ⟨a, kvs, rfl, ha⟩ | ⟨a, dx, fs, rfl, ha, hsp⟩
    · obtain ⟨as, rd⟩ := DS.reads I' _ _ _ h1 rx
      have g := SeqAt.eqAt_plain (.str z) d X.A.in1 s' (.str z t) v _ as (Reads.str z t) rd rfl h2 (by show X.A.units + 1 + _ < cLine; have := Nat.min_le_right (PyData.str z).depth d.depth; omega)
      rw [h4 z] at g
      exact g X.prog X.w _ _ ⟨rfl, I'⟩
    · cases rx
      obtain ⟨_, _, va, _, da⟩ := dk_of I'.hok ha
      exact eqb_of_rc (rc_str_dict hu1 da ⟨false, rfl, rfl, I'⟩)
    · cases rx
      obtain ⟨mA, O, _⟩ := ins_get I'.hok ha
      obtain ⟨od, J, _⟩ := O.look
      have ho' : s'.heap.get? a = some (PySem.W.instObj C dx) := by
        obtain ⟨_, _, _, e, _⟩ := (show ObjOk X.prog X.w H s'.heap a (.ins C dx fs) from I'.hok a _ ha)
        exact e
      refine eqb_of_rc (rc_str_inst hu1 I'.kIn ho' J hsub o.fs o.fn (wpAny_mono (OW.run_at F ⟨hr.in1.mono (by omega), rfl⟩ hb hx I' (vs := [.ref a, .str z]) (.cons rfl (.cons ⟨t, rfl⟩ .nil)) (hsp z)) (fun r s2 y => ?_) fun _ _ e => ?_))
      · obtain ⟨zv, H', I2, r2, rfl, rfl⟩ := y
        cases r2
        exact ⟨(fun e => nomatch e), false, rfl, rfl, I2⟩
      · exact e
  show wpAny _ X.A (do return Value.bool (← contains (.ref p) v)) _ _ s
  refine wpAny_bind (wpAny_contains_slot hT PySem.F.slot_tuple_contains (wpAny_mono key (fun r s' z => ?_) fun _ _ e => e))
  obtain ⟨rfl, I'⟩ := z
  exact wpAny_truthy_bool (wpAny_pure ⟨.bl false, H, I', rfl, q⟩)
end
end RL
namespace RL
open PySem PySem.Spec PyProof.Rows L2 OW
section
variable {X : Cx}
/-- an own == beside a dict -/
def rOwnEqD (K : PySem.W.Frag) (C : Addr) (sp : Sp) (E : XK) : R2 := fun x y H Q => ∃ a dx fs b kvs, x = .ref a ∧ H a = some (.ins C dx fs) ∧ y = .ref b ∧ H b = some (.dK kvs) ∧ PySem.W.notFirst K C (.type "dict") = true ∧ sp [x, y] H Q E
theorem dict_looks {pins : List (Addr × Obj)} {σ : L2.St} {H : Hp} {s : Shared} {b : Addr} {kvs : List (Key × V)} (I : Inv X pins σ H s) (hb : H b = some (.dK kvs)) : PySem.W.Looks (model X.prog X.w) s.heap (typeOf (.ref b)) (.type "dict") := by
  obtain ⟨_, _, va, _, da⟩ := dk_of I.hok hb
  obtain ⟨o, es, ep, ho, hx, _⟩ := da
  exact tyd_at ho hx.1
theorem op_ownEqD {CX : CXT} {n : Nat} {C f : Addr} {fd : FuncData} {ps : List Str} {sp : Sp} {E : XK} (F : FnOk X.prog X.w X.K X.mg X.base CX n f fd ps sp) (o : OwnEq X C f) (hr : Room n X.A) (hb : Binds X.K fd ps []) (hx : Passes CX X E) :
    OpR X (compareOp .Eq) (rOwnEqD X.K C sp E) := by
  intro pins s σ H x y v u Q I rx ry h
  obtain ⟨a, dx, fs, b, kvs, rfl, ha, rfl, hb', nf, q⟩ := h
  cases rx
  cases ry
  obtain ⟨mA, O, _⟩ := ins_get I.hok ha
  obtain ⟨od, J, _⟩ := O.look
  show wpAny _ _ (richCompare .Eq (.ref a) (.ref b)) _ _ _
  refine cmp_left hr.units0 I.kIn J (dict_looks I hb') nf ?_
  unfold tryCompare
  refine wpAny_bind (PySem.W.ifBound_K I.kIn J o.fs o.fn (wpAny_mono (run_at F ⟨hr, rfl⟩ hb hx I (vs := [.ref a, .ref b]) (.cons rfl (.cons rfl .nil)) q) (fun v s' z => ?_) fun _ _ e => e))
  obtain ⟨zv, H', I', r', q'⟩ := z
  refine not_ni r' fun ne => ?_
  cases v <;> first | exact absurd rfl ne | exact wpAny_pure ⟨_, rfl, zv, H', I', r', q'⟩
def rOwnNeD (K : PySem.W.Frag) (C : Addr) (sp : Sp) (E : XK) : R2 := fun x y H Q => ∃ a dx fs b kvs, x = .ref a ∧ H a = some (.ins C dx fs) ∧ y = .ref b ∧ H b = some (.dK kvs) ∧ PySem.W.notFirst K C (.type "dict") = true ∧ sp [x, y] H (fun v H' => ∃ b, v = .bl b ∧ Q (.bl (!b)) H') E
theorem op_ownNeD {CX : CXT} {n : Nat} {C f : Addr} {fd : FuncData} {ps : List Str} {sp : Sp} {E : XK} (F : FnOk X.prog X.w X.K X.mg X.base CX n f fd ps sp) (o : OwnEq X C f) (hm : PySem.W.mroIn X.K C (.type "object") = some true)
    (hn : PySem.W.findIn X.K (.ref C) "__ne__" = some (some (.builtin "object.__ne__"))) (hr : Room (n + 1) X.A) (hb : Binds X.K fd ps []) (hx : Passes CX X E) :
    OpR X (compareOp .NotEq) (rOwnNeD X.K C sp E) := by
  intro pins s σ H x y v u Q I rx ry h
  obtain ⟨a, dx, fs, b, kvs, rfl, ha, rfl, hb', nf, q⟩ := h
  cases rx
  cases ry
  obtain ⟨mA, O, _⟩ := ins_get I.hok ha
  obtain ⟨od, J, _⟩ := O.look
  show wpAny _ _ (richCompare .NotEq (.ref a) (.ref b)) _ _ _
  refine cmp_left hr.units0 I.kIn J (dict_looks I hb') nf ?_
  refine ne_left hr.in1.units0 I.kIn J hm hn o.fs o.fn (wpAny_mono (run_at F ⟨hr.in1, rfl⟩ hb hx I (vs := [.ref a, .ref b]) (.cons rfl (.cons rfl .nil)) q) (fun v s' z => ?_) fun _ _ e => e)
  obtain ⟨zv, H', I', r', b, rfl, q'⟩ := z
  cases r'
  exact ⟨b, rfl, .bl (!b), H', I', rfl, q'⟩
end
end RL
/-! tuple(d) of a dict with int and text keys -/
namespace RL
open PySem PySem.Spec PyProof.Rows L2
section
variable {prog : Program} {w : World} {A : Around} {E : Value → Shared → Prop} {s : Shared} {T : String} {r d : Addr} {n : Nat} {Pk : Nat → Value → Prop} {OK : Heap → Prop}
theorem collect_kdl {Q : List Value → Shared → Prop} (Ks : PySem.W.KdlSrc prog w T r d n Pk OK) (hh : A.handled = none) (hok : OK s.heap) (hn : n ≤ sizeLine)
    (hQ : ∀ (h' : Heap) (tk : Nat) (acc : Array Value), (∀ b o, s.heap.get? b = some o → h'.get? b = some o) → ItemsOf Pk acc n → Q acc.toList { s with heap := h', toks := tk }) :
    wpAny (model prog w) A (collect (.ref r)) Q E s := by
  unfold collect
  refine wpAny_bind (wpAny_runValue
                                    (codeAny_builtin F.entry_proto_collect ?_))
  rw [Around.under_plainId F.plain_proto_collect _]
  show wpAny _ A.in1 (newList [] >>= fun l => again
                                                    (.builtin "list.__iadd__" ⟨[l, .ref r], []⟩)) _ _ s
  refine wpAny_bind (wpAny_newObj_type ?_)
  refine wpAny_pure
                    ⟨plainId_quiet F.plain_list_iadd _, codeAny_builtin F.entry_list_iadd ?_⟩
  rw [Around.under_plainId F.plain_list_iadd _]
  show wpAny _ A.in1 (Builtin.List.listExtendWith
                                                  (.ref s.heap.objs.size) (.ref r) (.ref s.heap.objs.size)) _ _ _
  have hS : (s.heap.push { cls := .type "list", data := .seq ([] : List Value).toArray }).get? s.heap.objs.size = some
                                                                                                                       { cls := .type "list", data := .seq #[] 0 } := Heap.get?_push_size _ rfl
  have th := Ks.there _ hok
  refine wpAny_mono (PySem.W.kdl_extend (A := A) (R := fun rr s' => rr = .ok (.ret (.ref s.heap.objs.size)) ∧ ∃ (h' : Heap) (tk : Nat) (acc : Array Value) (c' : Nat), s' = { s with heap := h', toks := tk } ∧
      (∀ b o, s.heap.get? b = some o → h'.get? b = some o) ∧ h'.get? s.heap.objs.size = some { cls := .type "list", dict := none, data := .seq acc c', slots := #[] } ∧ ItemsOf Pk acc n)
    (s := { s with heap := s.heap.push { cls := .type "list", data := .seq ([] : List Value).toArray } }) Ks hh (Ks.keep _ _ hok fun b _ o e => Heap.get?_push_of_some _ e) _ (Nat.ne_of_gt th.1) (Nat.ne_of_gt th.2) _ 0 hS
    (fun h' tk acc c' hk e hi => ⟨rfl, h', tk, acc, c', rfl, fun b o q => hk b o (Nat.ne_of_lt (Heap.lt_size q)) (Heap.get?_push_of_some _ q), e, hi⟩) hn) (fun fin s' h => ?_) (fun e s' h => ?_)
  · cases fin with
    | done f =>
      obtain ⟨e, h', tk, acc, c', rfl, hk, hS', hi⟩ := h
      cases e
      show wpAny _ A (load s.heap.objs.size >>= _) _ _ _
      exact wpAny_bind (wpAny_load hS'
                                       (wpAny_pure (hQ h' tk acc hk hi)))
    | again c' =>
      refine ⟨h.1, codeAny_mono h.2 fun rr s'' hr' => ?_⟩
      obtain ⟨rfl, h', tk, acc, c', rfl, hk, hS', hi⟩ := hr'
      show wpAny _ A (load s.heap.objs.size >>= _) _ _ _
      exact wpAny_bind (wpAny_load hS'
                                       (wpAny_pure (hQ h' tk acc hk hi)))
  · exact absurd h.1 (by simp)
theorem call_tuple_kdl {Q : Value → Shared → Prop} (Ks : PySem.W.KdlSrc prog w T r d n Pk OK) (hh : A.handled = none) (hok : OK s.heap) (hn : n ≤ sizeLine)
    (hQ : ∀ (h' : Heap) (tk : Nat) (acc : Array Value), (∀ b o, s.heap.get? b = some o → h'.get? b = some o) → ItemsOf Pk acc n → Q (.ref h'.objs.size) { s with heap := h'.push { cls := .type "tuple", data := .seq acc }, toks := tk }) :
    wpAny (model prog w) A (call
                                 (.type "tuple") [.ref r]) Q E s := by
  refine callType_codes (Q₁ := fun obj s₁ => s₁.TypeIs obj "tuple" ∧ Q obj s₁) F.called_tuple
                                                                                              (F.typeCall_tuple_1 _) F.entry_object_init
    ?_ fun obj s₁ h₁ => ⟨h₁.1, F.args_object_init_2 obj _, object_init_meets F.called_tuple.init.lookup F.called_tuple.made (by decide) prog w A.in1 _ s₁ ⟨h₁.1, rfl, h₁.2⟩⟩
  refine codeAny_of_tree ?_
  show wpAny _ A.in1.in1 (do checkBuiltinCall "tuple.__new__" ⟨[.type "tuple", .ref r], []⟩; again (.builtin "tuple.__new__" ⟨[.type "tuple", .ref r], []⟩)) _ _ s
  refine wpAny_bind (wpAny_of_eq (F.newCall_tuple_1 _) (wpAny_pure
                                                                   ⟨plainId_quiet F.plain_tuple_new _, codeAny_builtin F.entry_tuple_new ?_⟩))
  rw [Around.under_plainId F.plain_tuple_new _]
  have hsub := sub_tuple_self
  have hinit := init_tuple_lookup
  have hmh := madeHere_tuple
  have hTI : s.TypeIs (.ref r) T := Ks.type s hok
  have hh1 : A.in1.in1.handled = none := hh
  have hnt : (Value.type T == Value.type "tuple") = false := Ks.notTuple
  wp_walk using wpAny_typeOf hTI, collect_kdl (A := A.in1.in1) Ks hh1 hok hn
  intro h' tk acc hk hacc
  show wpAny _ _
                 (Builtin.Tuple.tupleExact acc.toList.toArray >>= fun v => ret v) _ _ _
  unfold Builtin.Tuple.tupleExact
  refine wpAny_bind (wpAny_newObj_type ?_
                                          (by show acc.toList.toArray.size ≤ sizeLine; simp only [Array.toArray_toList]; rw [hacc.1]; exact hn))
  refine wpAny_pure ?_
  have e : acc.toList.toArray = acc := by simp
  rw [e]
  exact ⟨⟨_, Heap.get?_push_size _ rfl, rfl⟩, hQ h' tk acc hk hacc⟩
end
section
variable {X : Cx}
def rTupD : List V → Hp → VK → Prop := fun xs H Q => ∃ (p : Addr) (kvs : List (Key × V)), xs = [.ref p] ∧ H p = some (.dK kvs) ∧ ∀ q, H q = none → Q (.ref q) (upd H q (.tup (kvs.map fun kv => kV kv.1)))
theorem cr_tupD (hc : X.calm = true) : CallR X (.type "tuple") rTupD := by
  intro pins s σ H xs us Q I r h
  obtain ⟨p, kvs, rfl, hk, q⟩ := h
  obtain ⟨u, rfl, rx⟩ := vals1 r
  obtain rfl : u = Value.ref p := rx
  obtain ⟨z, lo, vs, rk, hd⟩ :=
                                (show ObjOk X.prog X.w H s.heap p (.dK kvs) from I.hok p _ hk)
  obtain ⟨ep, hat⟩ := hd.dictAt
  have hl : kvs.length = vs.length := Paired.length rk
  refine call_tuple_kdl (PySem.W.kdl_dict (knd := mixKind X.prog X.w) (kvs := vs) (ep := ep) lo) (I.ok.hd hc) hat (by rw [← hl]; exact z) fun h' tk acc hkeep hacc => ?_
  have el : acc.toList.length = acc.size := by simp
  have I2 : Inv X pins σ H { s with heap := h', toks := tk } := I.kept hkeep
  refine ⟨.ref h'.objs.size, upd H h'.objs.size (.tup (kvs.map fun kv => kV kv.1)), I2.laid (t' := tk) (fun c o e => Heap.get?_push_of_some _ e) (Nat.le_refl _) (show ObjOk X.prog X.w _ _ _ (.tup (kvs.map fun kv => kV kv.1)) from ⟨by rw [List.length_map]; exact z, acc.toList, ?_, ?_⟩), rfl, q _ (I2.hok.fresh (Nat.le_refl _))⟩
  · refine vals_of_at (by rw [List.length_map, el, hacc.1, hl]) fun j x w h1 h2 => ?_
    obtain ⟨k, y, hky, hi⟩ := hacc.2 j w
                                         (by rw [← Array.getElem?_toList]; exact h2)
    have e1 : (kvs.map (·.1))[j]? = some k := by
      rw [KV.keys rk, List.getElem?_map, hky] <;> rfl
    have e2 :
              (kvs.map fun kv => kV kv.1)[j]? = some (kV k) := by
      have e3 : (kvs.map fun kv => kV kv.1) = (kvs.map
                                                       (·.1)).map kV := by rw [List.map_map] <;> rfl
      rw [e3, List.getElem?_map, e1] <;> rfl
    rw [e2] at h1
    cases h1
    exact keyIs_rel hi
  · rw [Array.toArray_toList]
    exact IsTup.new _ _
end
end RL
namespace K37
open PySem L2
open PyProof.Rows PySem.Spec
/-- a property of the class -/
structure Pp (K : PySem.W.Frag) (C : Addr) (x qual : Str) (st : Stmt) where
  p : Addr
  g : Addr
  d : FuncData
  F : FunD K x qual (defArgs st) (defBody st) (defScope st) [] [] g d
  pr : PropOf K C x p g
  b : Binds K d ["self"] []
/-- a method of the class -/
structure Mt (K : PySem.W.Frag) (C : Addr) (x qual : Str) (st : Stmt) (ps : List Str) where
  f : Addr
  d : FuncData
  F : FunD K x qual (defArgs st) (defBody st) (defScope st) [] [] f d
  m : Meth K C x f
  b : Binds K d ps []
structure UX (K : PySem.W.Frag) (mg : Str → Option Value) where
  C : Addr
  mC : mg "Spans" = some (.ref C)
  cl : Cls K C
  mo : PySem.W.mroIn K C (.type "object") = some true
  ne : PySem.W.findIn K (.ref C) "__ne__" = some (some (.builtin "object.__ne__"))
  fI : Addr
  dI : FuncData
  FI : FunD K "__init__" "Spans.__init__" (defArgs s_Spans_init) (defBody s_Spans_init) (defScope s_Spans_init) [] [] fI dI
  mkI : Mk K C fI
  bI : Binds K dI ["self", "interval", "rows"] []
  n1 : NoAttr K C "_interval"
  n2 : NoAttr K C "_rows"
  n3 : NoAttr K C "_names"
  n4 : NoAttr K C "_living"
  n5 : NoAttr K C "_crossing"
  pi : Pp K C "interval" "Spans.interval" s_Spans_interval
  pr : Pp K C "rows" "Spans.rows" s_Spans_rows
  pn : Pp K C "names" "Spans.names" s_Spans_names
  pt : Pp K C "total" "Spans.total" s_Spans_total
  pm : Pp K C "normal" "Spans.normal" s_Spans_normal
  mg : Mt K C "__getitem__" "Spans.__getitem__" s_Spans_getitem ["self", "name"]
  mc : Mt K C "__contains__" "Spans.__contains__" s_Spans_contains ["self", "value"]
  ml : Mt K C "__len__" "Spans.__len__" s_Spans_len ["self"]
  me : Mt K C "__eq__" "Spans.__eq__" s_Spans_eq ["self", "other"]
  ms : Mt K C "__str__" "Spans.__str__" s_Spans_str ["self"]
  tin : ∀ n, n ∈ ["NoneType", "bool", "int", "str", "list", "tuple", "dict"] → PySem.W.notFirst K C (.type n) = true ∧ PySem.W.kitOne K (.type n) (.ref C) = some false
  sub : PySem.W.subIn K (.ref C) (.type "str") = some false
  ks : PySem.W.kitOne K (.ref C) (.type "str") = some false
  ca : PySem.W.findIn K (.ref C) "__class__" = some
                                                    (some (.builtin "object.__class__"))
  cg : PySem.W.specialIn K (.builtin "object.__class__") "__get__" = some (some (.builtin "getset_descriptor.__get__"))
  ct : PySem.W.takesIn K
                         (.builtin "object.__class__") = some true
  fn : PySem.W.fnIn K mg.f = true
/-- what spans keep -/
def spF (t : Int) (rd nm : Addr) (lv cr : V) : List (Str × V) := putF "_crossing" cr (putF "_living" lv (putF "_names" (.ref nm) (putF "_rows" (.ref rd) (putF "_interval" (.int t) []))))
/-- spans stand at p: S is their rows in the order of names -/
def SpAt (H : Hp) (C p : Addr) (t : Int) (S : Rws) : Prop := Good t S ∧ sortedS (S.map (·.1)) = true ∧ ∃ dx rd nm lv cr L, H p = some (.ins C dx (spF t rd nm lv cr)) ∧ H rd = some (.dK (Kvs L)) ∧ Tups H L S ∧ H nm = some (.tup ((S.map (·.1)).map V.str))
theorem SpAt.same {H H' : Hp} {C p : Addr} {t : Int} {S : Rws} (s : Same H H') (h : SpAt H C p t S) : SpAt H' C p t S := by
  obtain ⟨g, so, dx, rd, nm, lv, cr, L, h1, h2, h3, h4⟩ := h
  exact ⟨g, so, dx, rd, nm, lv, cr, L, s _ _ h1, s _ _ h2, h3.keep (KT.same s), s _ _ h4⟩
theorem SpAt.only {H H' : Hp} {C p r : Addr} {t : Int} {S : Rws} (o : Only r H H') (hr : Rl H r) (h : SpAt H C p t S) : SpAt H' C p t S := by
  obtain ⟨g, so, dx, rd, nm, lv, cr, L, h1, h2, h3, h4⟩ := h
  have ne : ∀ {a : Addr} {u : HO}, H a = some u → (∀ xs, u ≠ .lst xs) → a ≠ r := fun e n w => by
    obtain ⟨x, y, z, q⟩ := hr
    rw [w, q] at e
    exact n _ (Option.some.inj e).symm
  exact ⟨g, so, dx, rd, nm, lv, cr, L, o _ _ (ne h1 (fun _ z => by cases z)) h1, o _ _ (ne h2 (fun _ z => by cases z)) h2, h3.keep (KT.only o hr), o _ _ (ne h4 (fun _ z => by cases z)) h4⟩
theorem Good.perm {t : Int} {R S : Rws} (g : Good t R) (p : S.Perm R) : Good t S :=
  ⟨(p.map (·.1)).nodup_iff.mpr g.nd, by rw [p.length_eq]; exact g.l1, by rw [p.length_eq]; exact g.l8, fun x hx => g.nm x (p.mem_iff.mp hx), fun x hx => g.sp x (p.mem_iff.mp hx), fun x hx => g.nr x (p.mem_iff.mp hx), g.t1, g.t2⟩
theorem kvs_kv (L : List (Str × Addr)) : ((Kvs L).map fun kv => kV kv.1) = (L.map (·.1)).map V.str := by
  unfold Kvs
  rw [List.map_map, List.map_map]
  rfl
section
variable {P : Program} {w : World} {K : PySem.W.Frag}
                                                      {mg : Str → Option Value} {base : Heap}
/-- all but p is kept -/
def But (p : Addr) (H H' : Hp) : Prop := ∀ b o, b ≠ p → H b = some o → H' b = some o
theorem But.trans {p : Addr} {H H1 H2 : Hp} (a : But p H H1) (b : But p H1 H2) : But p H H2 := fun c o n e => b c o n (a c o n e)
theorem But.same {p : Addr} {H H' : Hp} (s : Same H H') : But p H H' := fun b o _ e => s b o e
theorem But.upd {p : Addr} {H : Hp} {o : HO} : But p H (upd H p o) := fun b u n e => by rw [upd_ne n]; exact e
theorem But.kt {p : Addr} {H H' : Hp} (s : But p H H') (h : ∀ xs, H p ≠ some (.tup xs)) : KT H H' := fun t xs e => s t _ (fun w => h xs (w ▸ e)) e
def sp_init (K : PySem.W.Frag) (C : Addr) : Sp := fun vs H Q _ => ∃ (p d dx : Addr) (t : Int) (L : List (Str × Addr)) (R : Rws), vs = [.ref p, .int t, .ref d] ∧ H p = some (.ins C dx []) ∧ H d = some (.dK (Kvs L)) ∧ Tups H L R ∧ Good t R ∧
  ∀ S H', But p H H' → SpAt H' C p t S → Srd R S → (∀ H'', (∀ b o, (H b = none ∨ b = p) → H' b = some o → H'' b = some o) → KT H' H'' → SpAt H'' C p t S) → Q .non H'
theorem ok_init (T : T K mg) (U : UX K mg) : FnOk P w K mg base CX0 6 U.fI U.dI ["self", "interval", "rows"] (sp_init K U.C) := by
  have G_are_rows : FnOk P w K mg base CX0 3 T.f_are_rows T.d_are_rows ["interval", "value"] (sp_are_rows K) := ok_are_rows T
  have G_check_interval : FnOk P w K mg base CX0 4 T.f_check_interval T.d_check_interval ["value"] (sp_check_interval K) := ok_check_interval T
  have G_times_alive : FnOk P w K mg base CX0 5 T.f_times_alive T.d_times_alive ["begin", "end", "tick", "interval"] (sp_times_alive K) := ok_times_alive T
  refine U.FI.ok sc_Spans_init (fun vs H Q E h => ?_) (fun cdv A outer s H vs Q E hr h => ?_)
  · obtain ⟨p, d, dx, t, L, R, rfl, _⟩ := h
    rfl
  · obtain ⟨p, d, dx, t, L, R, rfl, hp, hd, ts, gd, k⟩ := h
    have hu := hu_of hr
    have hr_are_rows : Room 3 _ := hr.mono (by decide)
    have hr_check_interval : Room 4 _ := hr.mono (by decide)
    have hr_times_alive : Room 5 _ := hr.mono (by decide)
    refine ⟨_, (pss_cons (ps_expr (pe_call G_check_interval hr_check_interval rfl T.m_check_interval T.F_check_interval.kp T.b_check_interval .nil pass0 (pa_cons (pv 1) pa_nil)))
      (pss_cons (ps_if (pt_not (pt_val (pe_call G_are_rows hr_are_rows rfl T.m_are_rows T.F_are_rows.kp T.b_are_rows .nil pass0 (pa_cons (pv 1) (pa_cons (pv 2) pa_nil)))))
      (pss_one ps_never)
      pss_nil)
      (pss_cons (ps_fld (pv 0) (pv 1) rfl)
      (pss_cons (ps_fld (pv 0) (pe_dc (own := [("name", 3)]) (g := gName 3) rfl sc_Spans_init.nd (pi_list (pe_callB (call_sortedD rfl) (by rfl) T.z_sorted (by decide +kernel) (pa_cons (pv 2) pa_nil))) (blkOk_by (N := ["self", "interval", "rows", "name", "begin", "end", "slot"]) (sc := defScope s_Spans_init) (by decide +kernel)) (fun _ _ _ _ _ => (pg_name (i := 3) sc_Spans_init.nd rfl (Or.inl rfl))) (fun _ _ _ _ _ => pts_nil) (fun _ _ _ _ _ => (pv 3)) (fun _ _ _ _ _ => (pe_dget (by exact hu) (pv 2) (pv 3) (fun _ _ => rfl)))) rfl)
      (pss_cons (ps_fld (pv 0) (pe_callTy (RL.cr_tupD rfl) (by rfl) T.z_tuple (by decide +kernel) (pa_cons (pe_fld (pv 0) rfl) pa_nil)) rfl)
      (pss_cons (ps_fld (pv 0) (pe_lock (pe_dc (own := [("name", 3), ("begin", 4), ("end", 5)]) (g := gTup K 2 (gCons (gName 3) (gCons (gTup K 2 (gCons (gName 4) (gCons (gName 5) gNil))) gNil))) rfl sc_Spans_init.nd (pi_items (pe_fld (pv 0) rfl)) (blkOk_by (N := ["self", "interval", "rows", "name", "begin", "end", "slot"]) (sc := defScope s_Spans_init) (by decide +kernel)) (fun _ _ _ _ _ => (pg_tup rfl (pgs_cons (pg_name (i := 3) sc_Spans_init.nd rfl (Or.inl rfl)) (pgs_cons (pg_tup rfl (pgs_cons (pg_name (i := 4) sc_Spans_init.nd rfl (Or.inr rfl)) (pgs_cons (pg_name (i := 5) sc_Spans_init.nd rfl (Or.inr rfl)) pgs_nil))) pgs_nil)))) (fun _ _ _ _ _ => pts_nil) (fun _ _ _ _ _ => (pv 3)) (fun _ _ _ _ _ => (pe_lc (own := [("slot", 6)]) (g := gName 6) rfl sc_Spans_init.nd (pi_range1 (by rfl) T.z_range (pa_cons (pv 1) pa_nil)) (blkOk_by (N := ["self", "interval", "rows", "name", "begin", "end", "slot"]) (sc := _) (by rfl)) (fun _ _ _ _ _ => (pg_name (i := 6) sc_Spans_init.nd rfl (Or.inl rfl))) (fun _ _ _ _ _ => pts_nil) (fun _ _ _ _ _ => (pe_call G_times_alive hr_times_alive rfl T.m_times_alive T.F_times_alive.kp T.b_times_alive .nil pass0 (pa_cons (pv 4) (pa_cons (pv 5) (pa_cons (pv 6) (pa_cons (pv 1) pa_nil)))))))))) rfl)
      (pss_one (ps_fld (pv 0) (pe_lock (pe_dc (own := [("name", 3), ("begin", 4), ("end", 5)]) (g := gTup K 2 (gCons (gName 3) (gCons (gTup K 2 (gCons (gName 4) (gCons (gName 5) gNil))) gNil))) rfl sc_Spans_init.nd (pi_items (pe_fld (pv 0) rfl)) (blkOk_by (N := ["self", "interval", "rows", "name", "begin", "end", "slot"]) (sc := defScope s_Spans_init) (by decide +kernel)) (fun _ _ _ _ _ => (pg_tup rfl (pgs_cons (pg_name (i := 3) sc_Spans_init.nd rfl (Or.inl rfl)) (pgs_cons (pg_tup rfl (pgs_cons (pg_name (i := 4) sc_Spans_init.nd rfl (Or.inr rfl)) (pgs_cons (pg_name (i := 5) sc_Spans_init.nd rfl (Or.inr rfl)) pgs_nil))) pgs_nil)))) (fun _ _ _ _ _ => pts_nil) (fun _ _ _ _ _ => (pv 3)) (fun _ _ _ _ _ => (pe_lc (own := [("slot", 6)]) (g := gName 6) rfl sc_Spans_init.nd (pi_range1 (by rfl) T.z_range (pa_cons (pv 1) pa_nil)) (blkOk_by (N := ["self", "interval", "rows", "name", "begin", "end", "slot"]) (sc := _) (by rfl)) (fun _ _ _ _ _ => (pg_name (i := 6) sc_Spans_init.nd rfl (Or.inl rfl))) (fun _ _ _ _ _ => pts_nil) (fun _ _ _ _ _ => (pe_call G_times_alive hr_times_alive rfl T.m_times_alive T.F_times_alive.kp T.b_times_alive .nil pass0 (pa_cons (pe_op op_add (pv 4) pe_int) (pa_cons (pv 5) (pa_cons (pv 6) (pa_cons (pv 1) pa_nil)))))))))) rfl)))))))), ?_⟩
    refine ⟨_, rfl, t, rfl, gd.t1, gd.t2, ?_⟩
    refine ⟨_, rfl, _, rfl, t, d, L, R, rfl, hd, ts, gd, fun H1 S1 => ⟨_, rfl, iteF ?_⟩⟩
    have h1p := S1 _ _ hp
    have h1d := S1 _ _ hd
    have h1T := ts.keep (KT.same S1)
    have ndp : d ≠ p := fun z => by rw [z, hp] at hd; cases hd
    refine ⟨_, rfl, _, rfl, p, U.C, dx, _, rfl, h1p, U.cl, U.n1, (by show 0 < 1000; decide), ?_⟩
    have h2p : (upd H1 p (.ins U.C dx (putF "_interval" (.int t) []))) p = some (.ins U.C dx (putF "_interval" (.int t) [])) := upd_same
    have B2 : But p H (upd H1 p (.ins U.C dx (putF "_interval" (.int t) []))) := But.trans (But.same S1) But.upd
    have h2d : (upd H1 p (.ins U.C dx (putF "_interval" (.int t) []))) d = some (.dK (Kvs L)) := by rw [upd_ne ndp]; exact h1d
    have h2T := h1T.keep (KT.put (o := .ins U.C dx (putF "_interval" (.int t) [])) h1p (fun _ z => by cases z))
    generalize upd H1 p (.ins U.C dx (putF "_interval" (.int t) [])) = H2 at h2p B2 h2d h2T ⊢
    clear h1p h1d h1T S1
    -- _rows
    refine ⟨_, rfl, d, _, L.map (·.1), rfl, .inl h2d, kvs_keys L, by rw [List.length_map, ts.len]; have := gd.l8; omega, fun ys q pm so hq => ?_⟩
    have S3 := Same.new (o := .lst (ys.map V.str)) hq
    have eq3 : (upd H2 q (.lst (ys.map V.str))) q = some (.lst (ys.map V.str)) := upd_same
    generalize upd H2 q (.lst (ys.map V.str)) = H3 at S3 eq3 ⊢
    rw [ts.names] at pm
    refine ⟨q, rfl, ⟨_, SqL.of eq3⟩, fun D hD => ?_⟩
    have nDp : D ≠ p := fun z => by rw [z, S3 _ _ h2p] at hD; cases hD
    refine dc_it walk_list (fun i H' => Same H3 H' ∧ ∃ M, H' D = some (.dK (Kvs M)) ∧ Tups H' M (pickR R (ys.take i))) ⟨Same.new hD, [], upd_same, .nil⟩ (fun i H' _ h => SqL.of (h.1 _ _ eq3)) ?_ ?_
    · rintro i x Ha Hb hi ⟨Sa, M, eD, tm⟩ ⟨rfl, hx⟩
      refine ⟨rfl, ?_⟩
      unfold tYes
      dsimp only
      rw [if_pos rfl]
      rw [List.getElem?_map] at hx
      cases e2 : ys[i]? with
      | none => rw [e2] at hx; cases hx
      | some n =>
        rw [e2] at hx
        cases hx
        have hn : n ∈ R.map (·.1) := pm.mem_iff.mp (List.mem_of_getElem? e2)
        have Sc := Same.trans S3 Sa
        have ts2 := h2T.keep (KT.same Sc)
        obtain ⟨t', b, e, hv, ht, hm⟩ := ts2.get hn
        refine ⟨_, rfl, _, rfl, _, rfl, d, V.ref t', rfl, ?_, ?_⟩
        · have := DGet.k (k := Sum.inr n) (Sc _ _ h2d)
          rw [hv] at this
          exact this
        have nyd : ys.Nodup := pm.nodup_iff.mpr gd.nd
        have hnM : n ∉ M.map (·.1) := by
          rw [tm.names, pickR_names]
          intro hm2
          have nd2 := nyd
          rw [← List.take_append_drop i ys] at nd2
          have hd2 : n ∈ ys.drop i := by
            rw [List.mem_iff_getElem?]
            exact ⟨0, by rw [List.getElem?_drop]; exact e2⟩
          exact (List.nodup_append.mp nd2).2.2 n hm2 n hd2 rfl
        have li : i < ys.length := (List.getElem?_eq_some_iff.mp e2).1
        have l8' : ys.length ≤ 8 := by rw [pm.length_eq, List.length_map]; exact gd.l8
        have lM : M.length ≤ 8 := by
          rw [tm.len, ← List.length_map (f := (·.1)) (as := pickR R (ys.take i)), pickR_names, List.length_take]
          omega
        refine ⟨Kvs M, Sum.inr n, rfl, eD, by rw [kvs_len, sizeLine_eq]; omega, Same.at hD Sa, M ++ [(n, t')], by rw [upd_same, putK_kvs hnM], ?_⟩
        have kt : KT Hb (upd Hb D (.dK (putK (Kvs M) (.inr n) (.ref t')))) := KT.put eD (fun _ z => by cases z)
        rw [List.take_add_one, e2]
        show Tups _ _ (pickR R (ys.take i ++ [n]))
        rw [pickR_snoc R _ n (lookup_mem gd.nd hm)]
        exact (tm.keep kt).snoc (kt _ _ ht)
    rintro H4 ⟨S4, M, h4D, h4T⟩
    have hDn : H D = none := by
      cases z : H D with
      | none => rfl
      | some o =>
        have := S3 _ _ (B2 _ _ nDp z)
        rw [hD] at this
        cases this
    rw [List.length_map, List.take_length] at h4T
    have gS : Good t (pickR R ys) := gd.perm (pickR_perm gd.nd pm)
    have B4 : But p H H4 := But.trans B2 (But.same (Same.trans S3 S4))
    have h4p := S4 _ _ (S3 _ _ h2p)
    clear h2p B2 h2d h2T S3 eq3 hD hq S4
    refine ⟨_, rfl, p, U.C, dx, _, rfl, h4p, U.cl, U.n2, (by show 1 < 1000; decide), ?_⟩
    have h5p : (upd H4 p (.ins U.C dx (putF "_rows" (.ref D) (putF "_interval" (.int t) [])))) p = some (.ins U.C dx (putF "_rows" (.ref D) (putF "_interval" (.int t) []))) := upd_same
    have B5 : But p H (upd H4 p (.ins U.C dx (putF "_rows" (.ref D) (putF "_interval" (.int t) [])))) := But.trans B4 But.upd
    have h5D : (upd H4 p (.ins U.C dx (putF "_rows" (.ref D) (putF "_interval" (.int t) [])))) D = some (.dK (Kvs M)) := by rw [upd_ne nDp]; exact h4D
    have h5T := h4T.keep (KT.put (o := .ins U.C dx (putF "_rows" (.ref D) (putF "_interval" (.int t) []))) h4p (fun _ z => by cases z))
    generalize upd H4 p (.ins U.C dx (putF "_rows" (.ref D) (putF "_interval" (.int t) []))) = H5 at h5p B5 h5D h5T ⊢
    clear h4p B4 h4D h4T
    -- _names
    refine ⟨_, rfl, p, U.C, dx, _, .ref D, rfl, h5p, U.cl, U.n2, rfl, D, Kvs M, rfl, h5D, fun nm hnm => ?_⟩
    rw [kvs_kv]
    have S6 := Same.new (o := .tup ((M.map (·.1)).map V.str)) hnm
    have e6N : (upd H5 nm (.tup ((M.map (·.1)).map V.str))) nm = some (.tup ((M.map (·.1)).map V.str)) := upd_same
    generalize upd H5 nm (.tup ((M.map (·.1)).map V.str)) = H6 at S6 e6N ⊢
    have e6p := S6 _ _ h5p
    refine ⟨_, rfl, p, U.C, dx, _, rfl, e6p, U.cl, U.n3, (by show 2 < 1000; decide), ?_⟩
    have H7p : (upd H6 p (.ins U.C dx (putF "_names" (.ref nm) (putF "_rows" (.ref D) (putF "_interval" (.int t) []))))) p = some (.ins U.C dx (putF "_names" (.ref nm) (putF "_rows" (.ref D) (putF "_interval" (.int t) [])))) := upd_same
    have BH7 : But p H (upd H6 p (.ins U.C dx (putF "_names" (.ref nm) (putF "_rows" (.ref D) (putF "_interval" (.int t) []))))) := But.trans B5 (But.trans (But.same S6) But.upd)
    have H7D : (upd H6 p (.ins U.C dx (putF "_names" (.ref nm) (putF "_rows" (.ref D) (putF "_interval" (.int t) []))))) D = some (.dK (Kvs M)) := by rw [upd_ne nDp]; exact S6 _ _ h5D
    have kt7 : KT H6 (upd H6 p (.ins U.C dx (putF "_names" (.ref nm) (putF "_rows" (.ref D) (putF "_interval" (.int t) []))))) := KT.put e6p (fun _ z => by cases z)
    have H7T := (h5T.keep (KT.same S6)).keep kt7
    have H7N := kt7 _ _ e6N
    generalize upd H6 p (.ins U.C dx (putF "_names" (.ref nm) (putF "_rows" (.ref D) (putF "_interval" (.int t) [])))) = H7 at H7p BH7 H7D H7T H7N ⊢
    clear h5p B5 h5D h5T S6 e6p e6N kt7 hnm

    -- _living
    refine ⟨D, _, H7D, True.intro, fun od => ?_⟩
    have lk8 : (upd H7 D (.frz od (.dK (Kvs M)))) D = some (.frz od (.dK (Kvs M))) := upd_same
    have ktl8 : KT H7 (upd H7 D (.frz od (.dK (Kvs M)))) := KT.put H7D (fun _ z => by cases z)
    refine ⟨_, rfl, p, U.C, dx, _, .ref D, rfl, (by rw [upd_ne nDp.symm]; exact H7p), U.cl, U.n2, rfl, D, od, Kvs M, rfl, lk8, fun F8 hF => ?_⟩
    have nFD : F8 ≠ D := fun z => by rw [z, upd_same] at hF; cases hF
    have hF0 : H7 F8 = none := by rw [upd_ne nFD] at hF; exact hF
    have nFp : F8 ≠ p := fun z => by rw [z, H7p] at hF0; cases hF0
    refine dc_it walk_items (fun i H' => Same (upd H7 D (.frz od (.dK (Kvs M)))) H' ∧ ∃ kvs, H' F8 = some (.dK kvs) ∧ kvs.length ≤ i) ⟨Same.new hF, [], upd_same, Nat.le_refl _⟩ (fun i H' _ h => h.1 _ _ lk8) ?_ ?_
    · rintro i x Ha Hb hi ⟨Sa, kvs, eF, lF⟩ ⟨TT, x1, y1, rfl, hTT, rfl, ex1, ey1⟩
      obtain ⟨⟨kk, vv⟩, ekv⟩ : ∃ kv, (Kvs M)[i]? = some kv := ⟨_, List.getElem?_eq_getElem hi⟩
      dsimp only at ex1 ey1
      rw [ekv] at ex1 ey1
      obtain ⟨⟨n, a⟩, hm, e3⟩ : ∃ q ∈ M, (Sum.inr q.1, V.ref q.2) = (kk, vv) := List.mem_map.mp (List.mem_of_getElem? ekv)
      obtain ⟨e4, e5⟩ := Prod.mk.inj e3
      subst e4 e5
      obtain rfl : V.str n = x1 := Option.some.inj ex1
      obtain rfl : V.ref a = y1 := Option.some.inj ey1
      have Sb : Same (upd H7 D (.frz od (.dK (Kvs M)))) (upd Ha TT (.tup [V.str n, V.ref a])) := Same.trans Sa (Same.new hTT)
      have eTT : (upd Ha TT (.tup [V.str n, V.ref a])) TT = some (.tup [V.str n, V.ref a]) := upd_same
      have eFb : (upd Ha TT (.tup [V.str n, V.ref a])) F8 = some (.dK kvs) := (Same.new hTT) _ _ eF
      generalize upd Ha TT (.tup [V.str n, V.ref a]) = Hc at Sb eTT eFb ⊢
      have tsb := H7T.keep (KT.trans ktl8 (KT.same Sb))
      obtain ⟨b, e, hab, hS⟩ : ∃ b e, TupAt Hc a b e ∧ (n, b, e) ∈ pickR R ys := by
        have key : ∀ {M : List (Str × Addr)} {S : Rws}, Tups Hc M S → (n, a) ∈ M → ∃ b e, TupAt Hc a b e ∧ (n, b, e) ∈ S := by
          intro M S h
          induction h with
          | nil => intro h; cases h
          | cons h1 h2 ih =>
            intro h
            rcases List.mem_cons.mp h with h | h
            · cases h
              exact ⟨_, _, h1, List.mem_cons_self⟩
            · obtain ⟨b, e, q1, q2⟩ := ih h
              exact ⟨b, e, q1, List.mem_cons_of_mem _ q2⟩
        exact key tsb hm
      have g1 := gS.nr _ hS
      have g2 := gS.sp _ hS
      have g3 := gS.t2
      have g4 := gS.t1
      unfold Near at g1
      unfold SpOk at g2
      simp only at g1 g2
      refine ⟨TT, _, rfl, SqT.of eTT, rfl, _, _, rfl, _, _, rfl, a, _, rfl, SqT.of hab, rfl, _, _, rfl, _, _, rfl, rfl, rfl, ?_⟩
      refine ⟨rfl, ?_⟩
      unfold tYes
      dsimp only
      rw [if_pos rfl]
      refine ⟨_, rfl, _, rfl, _, rfl, by omega, by omega, fun G hG => ?_⟩
      dsimp only
      refine lc_range (tt := fun _ H Q => Q true H) (g := gName 6) (lo := 0) (vs := [6]) (n := t.toNat) (fun j H' => Same Hc H' ∧ ∃ zs, H' G = some (.lst zs) ∧ zs.length ≤ j) ⟨Same.new hG, [], upd_same, Nat.le_refl _⟩ ?_ ?_
      · rintro j Hd hj ⟨Sd, zs, eG, lz⟩
        refine ⟨rfl, ?_⟩
        dsimp only
        rw [if_pos rfl]
        refine ⟨_, rfl, _, rfl, _, rfl, _, rfl, _, _, _, t, rfl, ⟨by omega, by omega, by omega⟩, ⟨by omega, by omega⟩, g4, g3, ?_⟩
        refine ⟨_, eG, by rw [sizeLine_eq]; omega, Same.at hG Sd, _, upd_same, by rw [List.length_append]; show _ + 1 ≤ _; omega⟩
      · rintro Hd ⟨Sd, zs, eG, lz⟩
        have eFd := Sd _ _ eFb
        have lM : i < 8 := by rw [kvs_len, H7T.len] at hi; have := gS.l8; omega
        refine ⟨kvs, Sum.inr n, rfl, eFd, by rw [sizeLine_eq]; omega, ?_, _, upd_same, by have := length_putK kvs (Sum.inr n : Key) (V.ref G); omega⟩
        exact Same.at hF (Same.trans Sb Sd)
    rintro Ha ⟨Sa, kvs, eF, lF⟩
    refine ⟨Sa _ _ lk8, ?_⟩
    have SH8 := same_lock H7D Sa
    generalize upd Ha D (.dK (Kvs M)) = H8' at SH8 ⊢
    have H8'p := SH8 _ _ H7p
    refine ⟨_, rfl, p, U.C, dx, _, rfl, H8'p, U.cl, U.n4, (by show 3 < 1000; decide), ?_⟩
    have H8p : (upd H8' p (.ins U.C dx (putF "_living" (.ref F8) (putF "_names" (.ref nm) (putF "_rows" (.ref D) (putF "_interval" (.int t) [])))))) p = some (.ins U.C dx (putF "_living" (.ref F8) (putF "_names" (.ref nm) (putF "_rows" (.ref D) (putF "_interval" (.int t) []))))) := upd_same
    have BH8 : But p H (upd H8' p (.ins U.C dx (putF "_living" (.ref F8) (putF "_names" (.ref nm) (putF "_rows" (.ref D) (putF "_interval" (.int t) [])))))) := But.trans BH7 (But.trans (But.same SH8) But.upd)
    have KH8 : KT H7 (upd H8' p (.ins U.C dx (putF "_living" (.ref F8) (putF "_names" (.ref nm) (putF "_rows" (.ref D) (putF "_interval" (.int t) [])))))) := KT.trans (KT.same SH8) (KT.put H8'p (fun _ z => by cases z))
    have H8D : (upd H8' p (.ins U.C dx (putF "_living" (.ref F8) (putF "_names" (.ref nm) (putF "_rows" (.ref D) (putF "_interval" (.int t) [])))))) D = some (.dK (Kvs M)) := by rw [upd_ne nDp]; exact SH8 _ _ H7D
    have H8N : (upd H8' p (.ins U.C dx (putF "_living" (.ref F8) (putF "_names" (.ref nm) (putF "_rows" (.ref D) (putF "_interval" (.int t) [])))))) nm = some (.tup ((M.map (·.1)).map V.str)) := KH8 _ _ H7N
    have H8T := H7T.keep KH8
    generalize upd H8' p (.ins U.C dx (putF "_living" (.ref F8) (putF "_names" (.ref nm) (putF "_rows" (.ref D) (putF "_interval" (.int t) []))))) = H8 at H8p BH8 H8D H8N H8T ⊢
    clear SH8 H8'p KH8 Sa eF lF hF hF0 nFD

    -- _crossing
    refine ⟨D, _, H8D, True.intro, fun od => ?_⟩
    have lk9 : (upd H8 D (.frz od (.dK (Kvs M)))) D = some (.frz od (.dK (Kvs M))) := upd_same
    have ktl9 : KT H8 (upd H8 D (.frz od (.dK (Kvs M)))) := KT.put H8D (fun _ z => by cases z)
    refine ⟨_, rfl, p, U.C, dx, _, .ref D, rfl, (by rw [upd_ne nDp.symm]; exact H8p), U.cl, U.n2, rfl, D, od, Kvs M, rfl, lk9, fun F9 hF => ?_⟩
    have nFD : F9 ≠ D := fun z => by rw [z, upd_same] at hF; cases hF
    have hF0 : H8 F9 = none := by rw [upd_ne nFD] at hF; exact hF
    have nFp : F9 ≠ p := fun z => by rw [z, H8p] at hF0; cases hF0
    refine dc_it walk_items (fun i H' => Same (upd H8 D (.frz od (.dK (Kvs M)))) H' ∧ ∃ kvs, H' F9 = some (.dK kvs) ∧ kvs.length ≤ i) ⟨Same.new hF, [], upd_same, Nat.le_refl _⟩ (fun i H' _ h => h.1 _ _ lk9) ?_ ?_
    · rintro i x Ha Hb hi ⟨Sa, kvs, eF, lF⟩ ⟨TT, x1, y1, rfl, hTT, rfl, ex1, ey1⟩
      obtain ⟨⟨kk, vv⟩, ekv⟩ : ∃ kv, (Kvs M)[i]? = some kv := ⟨_, List.getElem?_eq_getElem hi⟩
      dsimp only at ex1 ey1
      rw [ekv] at ex1 ey1
      obtain ⟨⟨n, a⟩, hm, e3⟩ : ∃ q ∈ M, (Sum.inr q.1, V.ref q.2) = (kk, vv) := List.mem_map.mp (List.mem_of_getElem? ekv)
      obtain ⟨e4, e5⟩ := Prod.mk.inj e3
      subst e4 e5
      obtain rfl : V.str n = x1 := Option.some.inj ex1
      obtain rfl : V.ref a = y1 := Option.some.inj ey1
      have Sb : Same (upd H8 D (.frz od (.dK (Kvs M)))) (upd Ha TT (.tup [V.str n, V.ref a])) := Same.trans Sa (Same.new hTT)
      have eTT : (upd Ha TT (.tup [V.str n, V.ref a])) TT = some (.tup [V.str n, V.ref a]) := upd_same
      have eFb : (upd Ha TT (.tup [V.str n, V.ref a])) F9 = some (.dK kvs) := (Same.new hTT) _ _ eF
      generalize upd Ha TT (.tup [V.str n, V.ref a]) = Hc at Sb eTT eFb ⊢
      have tsb := H8T.keep (KT.trans ktl9 (KT.same Sb))
      obtain ⟨b, e, hab, hS⟩ : ∃ b e, TupAt Hc a b e ∧ (n, b, e) ∈ pickR R ys := by
        have key : ∀ {M : List (Str × Addr)} {S : Rws}, Tups Hc M S → (n, a) ∈ M → ∃ b e, TupAt Hc a b e ∧ (n, b, e) ∈ S := by
          intro M S h
          induction h with
          | nil => intro h; cases h
          | cons h1 h2 ih =>
            intro h
            rcases List.mem_cons.mp h with h | h
            · cases h
              exact ⟨_, _, h1, List.mem_cons_self⟩
            · obtain ⟨b, e, q1, q2⟩ := ih h
              exact ⟨b, e, q1, List.mem_cons_of_mem _ q2⟩
        exact key tsb hm
      have g1 := gS.nr _ hS
      have g2 := gS.sp _ hS
      have g3 := gS.t2
      have g4 := gS.t1
      unfold Near at g1
      unfold SpOk at g2
      simp only at g1 g2
      refine ⟨TT, _, rfl, SqT.of eTT, rfl, _, _, rfl, _, _, rfl, a, _, rfl, SqT.of hab, rfl, _, _, rfl, _, _, rfl, rfl, rfl, ?_⟩
      refine ⟨rfl, ?_⟩
      unfold tYes
      dsimp only
      rw [if_pos rfl]
      refine ⟨_, rfl, _, rfl, _, rfl, by omega, by omega, fun G hG => ?_⟩
      dsimp only
      refine lc_range (tt := fun _ H Q => Q true H) (g := gName 6) (lo := 0) (vs := [6]) (n := t.toNat) (fun j H' => Same Hc H' ∧ ∃ zs, H' G = some (.lst zs) ∧ zs.length ≤ j) ⟨Same.new hG, [], upd_same, Nat.le_refl _⟩ ?_ ?_
      · rintro j Hd hj ⟨Sd, zs, eG, lz⟩
        refine ⟨rfl, ?_⟩
        dsimp only
        rw [if_pos rfl]
        refine ⟨_, rfl, _, _, rfl, rfl, _, rfl, _, rfl, _, rfl, _, _, _, t, rfl, ⟨by omega, by omega, by omega⟩, ⟨by omega, by omega⟩, g4, g3, ?_⟩
        refine ⟨_, eG, by rw [sizeLine_eq]; omega, Same.at hG Sd, _, upd_same, by rw [List.length_append]; show _ + 1 ≤ _; omega⟩
      · rintro Hd ⟨Sd, zs, eG, lz⟩
        have eFd := Sd _ _ eFb
        have lM : i < 8 := by rw [kvs_len, H8T.len] at hi; have := gS.l8; omega
        refine ⟨kvs, Sum.inr n, rfl, eFd, by rw [sizeLine_eq]; omega, ?_, _, upd_same, by have := length_putK kvs (Sum.inr n : Key) (V.ref G); omega⟩
        exact Same.at hF (Same.trans Sb Sd)
    rintro Ha ⟨Sa, kvs, eF, lF⟩
    refine ⟨Sa _ _ lk9, ?_⟩
    have SH9 := same_lock H8D Sa
    generalize upd Ha D (.dK (Kvs M)) = H9' at SH9 ⊢
    have H9'p := SH9 _ _ H8p
    refine ⟨_, rfl, p, U.C, dx, _, rfl, H9'p, U.cl, U.n5, (by show 4 < 1000; decide), ?_⟩
    have H9p : (upd H9' p (.ins U.C dx (putF "_crossing" (.ref F9) (putF "_living" (.ref F8) (putF "_names" (.ref nm) (putF "_rows" (.ref D) (putF "_interval" (.int t) []))))))) p = some (.ins U.C dx (putF "_crossing" (.ref F9) (putF "_living" (.ref F8) (putF "_names" (.ref nm) (putF "_rows" (.ref D) (putF "_interval" (.int t) [])))))) := upd_same
    have BH9 : But p H (upd H9' p (.ins U.C dx (putF "_crossing" (.ref F9) (putF "_living" (.ref F8) (putF "_names" (.ref nm) (putF "_rows" (.ref D) (putF "_interval" (.int t) []))))))) := But.trans BH8 (But.trans (But.same SH9) But.upd)
    have KH9 : KT H8 (upd H9' p (.ins U.C dx (putF "_crossing" (.ref F9) (putF "_living" (.ref F8) (putF "_names" (.ref nm) (putF "_rows" (.ref D) (putF "_interval" (.int t) []))))))) := KT.trans (KT.same SH9) (KT.put H9'p (fun _ z => by cases z))
    have H9D : (upd H9' p (.ins U.C dx (putF "_crossing" (.ref F9) (putF "_living" (.ref F8) (putF "_names" (.ref nm) (putF "_rows" (.ref D) (putF "_interval" (.int t) []))))))) D = some (.dK (Kvs M)) := by rw [upd_ne nDp]; exact SH9 _ _ H8D
    have H9N : (upd H9' p (.ins U.C dx (putF "_crossing" (.ref F9) (putF "_living" (.ref F8) (putF "_names" (.ref nm) (putF "_rows" (.ref D) (putF "_interval" (.int t) []))))))) nm = some (.tup ((M.map (·.1)).map V.str)) := KH9 _ _ H8N
    have H9T := H8T.keep KH9
    generalize upd H9' p (.ins U.C dx (putF "_crossing" (.ref F9) (putF "_living" (.ref F8) (putF "_names" (.ref nm) (putF "_rows" (.ref D) (putF "_interval" (.int t) [])))))) = H9 at H9p BH9 H9D H9N H9T ⊢
    clear SH9 H9'p KH9 Sa eF lF hF hF0 nFD
    have n10 : H9 nm = some (.tup (((pickR R ys).map (·.1)).map V.str)) := by rw [← H9T.names]; exact H9N
    have so' : sortedS ((pickR R ys).map (·.1)) = true := by rw [pickR_names]; exact so
    exact k (pickR R ys) _ BH9 ⟨gS, so', dx, D, nm, .ref F8, .ref F9, M, H9p, H9D, H9T, n10⟩ ⟨pickR_perm gd.nd pm, so'⟩ fun H'' kp kt => ⟨gS, so', dx, D, nm, .ref F8, .ref F9, M, kp _ _ (.inr rfl) H9p, kp _ _ (.inl hDn) H9D, H9T.keep kt, kt _ _ n10⟩
end
end K37
namespace RL
open PySem PySem.Spec PyProof PyProof.Rows L2
section
variable {X : Cx}
theorem sw_trueD {kx vx : Expr} {gs : List Comprehension} {scope : Scope} {pos py : Pos} {y : Str} {l : Nat} {env : Env} (hk : env.scope.kind = .function) (hy : env.scope.names.lookup y = some .local) (hl : (py.line == pos.line) = true)
    (ha : (scope.names.any fun (n, k) => n == y && (k == .local || k == .cell)) = false) : swapsWith (.DictComp kx vx gs scope pos) (some (.Name y py)) l env = pure true := by
  have ky : env.kindOf y = some .local := hy
  have hb : env.blockKind = .function := by unfold Env.blockKind; rw [hk]; rfl
  unfold swapsWith
  simp only [hb, ky, ha, Expr.pos, hl]
  rfl
/-- y = {k: v for ..} -/
theorem ps_setDc {i : Nat} {y : Str} {py : Pos} {kx vx tg iter : Expr} {ifs : List Expr} {scope : Scope} {own : List (Str × Nat)} {pos spos : Pos} {wi : TI} {g : TG} {tt : TT} {tk tv : TE} (hc : X.calm = true) (hN : X.N.Nodup) (hy : X.N[i]? = some y) (hyl : X.env.scope.names.lookup y = some .local)
    (hsw : swapsWith (.DictComp kx vx [⟨tg, iter, ifs, 0⟩] scope pos) (some (.Name y py)) spos.line X.env = pure true) (hi : PI X tg iter wi) (ok : BlkOk X.N X.env.scope scope own)
    (hg : ∀ (s : Shared) (H : Hp) (C : Addr) (cl : List (Str × Addr)) (fp : List Addr), PG (X.blk s H scope (compEnvC scope cl C X.env) fp) tg g)
                                                                                                                                                  (ht : ∀ (s : Shared) (H : Hp) (C : Addr) (cl : List (Str × Addr)) (fp : List Addr), PTs (X.blk s H scope (compEnvC scope cl C X.env) fp) ifs tt)
    (hk : ∀ (s : Shared) (H : Hp) (C : Addr) (cl : List (Str × Addr))
                                                                      (fp : List Addr), PE (X.blk s H scope (compEnvC scope cl C X.env) fp) kx tk)
    (he : ∀ (s : Shared) (H : Hp) (C : Addr) (cl : List (Str × Addr)) (fp : List Addr), PE (X.blk s H scope
                                                                                                            (compEnvC scope cl C X.env) fp) vx tv) (hs : ∀ x, foldedSetIterable iter X.env x = pure x := by intro _; rfl) :
    PS X (.Assign [.Name y py] (.DictComp kx vx [⟨tg, iter, ifs, 0⟩] scope pos) spos) (tAsg (tDc wi g tt tk tv (own.map (·.2))) (gName i)) := by
  refine ⟨fun pins s σ H D I h => ?_⟩
  rw [exec_Assign_Name_used _ _ _ _ hsw]
  refine wpAny_bind (wpAny_standAt (wpAny_bind ?_))
  show wpAny _ X.A (do let _ ← comprehension (.DictComp kx vx [⟨tg, iter, ifs, 0⟩] scope pos) scope X.env (firstIterPos [⟨tg, iter, ifs, 0⟩] pos) newDict false (eval iter X.env) (some (assign (.Name y py) X.env))) _ _ s
  have h : tDc wi g tt tk tv (own.map (·.2)) σ H (fun x H1 => gName i x σ H1 D.nx) := h
  refine wpAny_bind (thn (dc_core (Qf := fun _ s' => SP X pins D .next s') hc hN I hi ok hg ht hk he hs h fun L C s' m H' I' q hn f => ?_) fun _ s' hq => wpAny_pure (wpAny_pure hq))
  show wpAny _ _ (assign (.Name y py) X.env (.ref L)) _ _ _
  refine wpAny_assign_Name (store_ok2 (v := V.ref L) I' hN hy
                                                              (.inl hyl) rfl (fun s2 I2 ⟨a, sb, ha⟩ => ?_) (.inr hyl))
  obtain ⟨f0, f1, f2, f3, f4, f5⟩ := f
  have haC : C ≠ a := by
    rcases ha with z | z
    · rw [z]; exact f1
    · exact fun e => f4 y a z e.symm
  refine ⟨m, hn.sameBut sb haC, fun h3 sb3 => ?_⟩
  exact ⟨_, H', I2.turned (t' := s2.toks)
                                          (fun b o hb e => (sb3.2 b hb).trans e) f0 f1 f3 f4 f5, q⟩
end
end RL
namespace K37
open PySem L2
open PyProof.Rows PySem.Spec
theorem SpAt.t1 {H : Hp} {C p : Addr} {t : Int} {S : Rws} (h : SpAt H C p t S) : 1 ≤ t ∧ t ≤ 32 := ⟨h.1.t1, h.1.t2⟩
theorem SpAt.off {H H' : Hp} {C p q : Addr} {t : Int} {S : Rws} (o : But q H H') (hq : H q = none) (h : SpAt H C p t S) : SpAt H' C p t S := by
  obtain ⟨g, so, dx, rd, nm, lv, cr, L, h1, h2, h3, h4⟩ := h
  have ne : ∀ {a : Addr} {u : HO}, H a = some u → a ≠ q := fun e w => by rw [w, hq] at e; cases e
  have kt : KT H H' := fun a xs e => o _ _ (ne e) e
  exact ⟨g, so, dx, rd, nm, lv, cr, L, o _ _ (ne h1) h1, o _ _ (ne h2) h2, h3.keep kt, o _ _ (ne h4) h4⟩
theorem pe_fldK {X : Cx} {K : PySem.W.Frag} {e : Expr} {f : Str} {ta : TE} {pos : Pos} (hK : X.K = K) (he : PE X e ta) (hb : attributeBase e f X.env (eval e X.env) = eval e X.env) : PE X (.Attribute e f pos) (tFld K ta f) := by
  subst hK
  exact pe_fld he hb
section
variable {P : Program} {w : World} {K : PySem.W.Frag}
                                                      {mg : Str → Option Value} {base : Heap}
theorem ok_get {x qual f : Str} {st : Stmt} {C : Addr} (c : Cls K C) (p : Pp K C x qual st) (S : FnScope ["self"] ["self"] (defScope st)) (n : NoAttr K C f)
    (hb : ∃ p1 p2 p3, defBody st = [.Return (some (.Attribute (.Name "self" p1) f p2)) p3]) : FnOk P w K mg base CX0 1 p.g p.d ["self"] (getSp C f) := by
  obtain ⟨oc, od, dV, kV, doc, pm, an, cdv, ct, osl, e, lk, hcd, _, _⟩ := p.F.ex
  obtain ⟨p1, p2, p3, hb⟩ := hb
  rw [e] at lk ⊢
  exact fn_getter lk hcd S rfl hb c n
def sp_rows (K : PySem.W.Frag) (C : Addr) : Sp := fun vs H Q _ => ∃ (p : Addr) (t : Int) (S : Rws), vs = [.ref p] ∧ SpAt H C p t S ∧ ∀ (q : Addr) (L : List (Str × Addr)), H q = none → Tups H L S → Q (.ref q) (upd H q (.dK (Kvs L)))
theorem ok_rows (T : T K mg) (U : UX K mg) : FnOk P w K mg base CX0 1 U.pr.g U.pr.d ["self"] (sp_rows K U.C) := by
  refine U.pr.F.ok sc_Spans_rows (fun vs H Q E h => ?_) (fun cdv A outer s H vs Q E hr h => ?_)
  · obtain ⟨p, t, S, rfl, _⟩ := h
    rfl
  · obtain ⟨p, t, S, rfl, ⟨g, so, dx, rd, nm, lv, cr, L, h1, h2, h3, h4⟩, k⟩ := h
    have hu := hu_of hr
    refine ⟨_, (pss_one (ps_ret (pe_callTy call_dictD (by rfl) T.z_dict (by decide +kernel) (pa_cons (pe_fld (pv 0) rfl) pa_nil)))), ?_⟩
    exact ⟨_, rfl, p, U.C, dx, _, .ref rd, rfl, h1, U.cl, U.n2, rfl, rd, Kvs L, rfl, .inl h2, fun q hq => k q L hq h3⟩
def lenR (S : Rws) : List Int := S.map fun r => r.2.2 - r.2.1
def sp_total (K : PySem.W.Frag) (C : Addr) : Sp := fun vs H Q _ => ∃ (p : Addr) (t : Int) (S : Rws), vs = [.ref p] ∧ SpAt H C p t S ∧ ∀ H', Same H H' → Q (.int (lenR S).sum) H'
theorem tups_at {H : Hp} : ∀ {L : List (Str × Addr)} {S : Rws}, Tups H L S → ∀ (i : Nat) (a : V), ((Kvs L)[i]?.map Prod.snd) = some a → ∃ n t b e, a = .ref t ∧ S[i]? = some (n, b, e) ∧ TupAt H t b e ∧ L[i]? = some (n, t)
  | _, _, .nil, i, a, h => by simp [Kvs] at h
  | _, _, .cons (n := n) (t := t) (b := b) (e := e) q ts, 0, a, h => ⟨n, t, b, e, (Option.some.inj h).symm, rfl, q, rfl⟩
  | _, _, .cons q ts, i + 1, a, h => by
    obtain ⟨n, t, b, e, h1, h2, h3, h4⟩ := tups_at ts i a (by simpa [Kvs] using h)
    exact ⟨n, t, b, e, h1, by simpa using h2, h3, by simpa using h4⟩
theorem ok_total (T : T K mg) (U : UX K mg) : FnOk P w K mg base CX0 1 U.pt.g U.pt.d ["self"] (sp_total K U.C) := by
  refine U.pt.F.ok sc_Spans_total (fun vs H Q E h => ?_) (fun cdv A outer s H vs Q E hr h => ?_)
  · obtain ⟨p, t, S, rfl, _⟩ := h
    rfl
  · obtain ⟨p, t, S, rfl, ⟨g, so, dx, rd, nm, lv, cr, L, h1, h2, h3, h4⟩, k⟩ := h
    have hu := hu_of hr
    refine ⟨_, (pss_one (ps_ret (pe_callB (cr_sum rfl) (by rfl) T.z_sum (by decide +kernel) (pa_cons (pe_lock (pe_lc (own := [("begin", 1), ("end", 2)]) (g := gTup K 2 (gCons (gName 1) (gCons (gName 2) gNil))) rfl sc_Spans_total.nd (pi_values (pe_fld (pv 0) rfl)) (blkOk_by (N := ["self", "begin", "end"]) (sc := defScope s_Spans_total) (by decide +kernel)) (fun _ _ _ _ _ => (pg_tup rfl (pgs_cons (pg_name (i := 1) sc_Spans_total.nd rfl (Or.inl rfl)) (pgs_cons (pg_name (i := 2) sc_Spans_total.nd rfl (Or.inl rfl)) pgs_nil)))) (fun _ _ _ _ _ => pts_nil) (fun _ _ _ _ _ => (pe_op op_sub (pv 2) (pv 1))))) pa_nil)))), ?_⟩
    have ndp : rd ≠ p := fun z => by rw [z, h1] at h2; cases h2
    refine ⟨rd, _, h2, True.intro, fun od => ?_⟩
    have lk : (upd H rd (.frz od (.dK (Kvs L)))) rd = some (.frz od (.dK (Kvs L))) := upd_same
    have ktl : KT H (upd H rd (.frz od (.dK (Kvs L)))) := KT.put h2 (fun _ z => by cases z)
    refine ⟨_, rfl, p, U.C, dx, _, .ref rd, rfl, (by rw [upd_ne ndp.symm]; exact h1), U.cl, U.n2, rfl, rd, od, Kvs L, rfl, lk, fun G hG => ?_⟩
    have nG : G ≠ rd := fun z => by rw [z, upd_same] at hG; cases hG
    refine lc_it walk_values (fun i H' => Same (upd H rd (.frz od (.dK (Kvs L)))) H' ∧ H' G = some (.lst ((lenR (S.take i)).map V.int))) ⟨Same.new hG, upd_same⟩ (fun i H' _ h => h.1 _ _ lk) ?_ ?_
    · rintro i x Ha Hb hi ⟨Sa, eG⟩ ⟨rfl, kk, hx⟩
      obtain ⟨n, a, b, e, rfl, e2, e3, e4⟩ := tups_at (h3.keep (KT.trans ktl (KT.same Sa))) i x (by rw [hx]; rfl)
      refine ⟨a, _, rfl, SqT.of e3, rfl, _, _, rfl, _, _, rfl, rfl, ?_⟩
      refine ⟨rfl, ?_⟩
      unfold tYes
      dsimp only
      rw [if_pos rfl]
      refine ⟨_, rfl, _, rfl, _, _, rfl, rfl, ?_⟩
      have := g.l8
      have : i < S.length := (List.getElem?_eq_some_iff.mp e2).1
      refine ⟨_, eG, by rw [List.length_map]; unfold lenR; rw [List.length_map, List.length_take, sizeLine_eq]; omega, Same.at hG Sa, ?_⟩
      rw [upd_same, List.take_add_one, e2]
      unfold lenR
      simp
    · rintro Ha ⟨Sa, eG⟩
      refine ⟨Sa _ _ lk, ?_⟩
      have SH := same_lock h2 Sa
      refine ⟨G, lenR S, rfl, ?_, k _ SH⟩
      rw [kvs_len, h3.len, List.take_length] at eG
      exact SqL.of ((upd_ne nG).trans eG)
/-- the rows of the normal spans -/
def nrmR (t : Int) (S : Rws) : Rws := S.map fun r => (r.1, r.2.1 % t, r.2.1 % t + r.2.2 - r.2.1)
theorem nrmR_names (t : Int) (S : Rws) : (nrmR t S).map (·.1) = S.map (·.1) := by
  unfold nrmR
  rw [List.map_map]
  rfl
theorem Good.nrm {t : Int} {S : Rws} (g : Good t S) : Good t (nrmR t S) := by
  have l : (nrmR t S).length = S.length := by unfold nrmR; exact List.length_map ..
  refine ⟨by rw [nrmR_names]; exact g.nd, by rw [l]; exact g.l1, by rw [l]; exact g.l8, ?_, ?_, ?_, g.t1, g.t2⟩
  · intro x hx
    obtain ⟨r, hr, rfl⟩ := List.mem_map.mp hx
    exact g.nm r hr
  · intro x hx
    obtain ⟨r, hr, rfl⟩ := List.mem_map.mp hx
    have := g.sp r hr
    unfold SpOk at this ⊢
    simp only
    omega
  · intro x hx
    obtain ⟨r, hr, rfl⟩ := List.mem_map.mp hx
    have := g.sp r hr
    have t1 := g.t1
    have t2 := g.t2
    have a := Int.emod_nonneg r.2.1 (b := t) (by omega)
    have b := Int.emod_lt_of_pos r.2.1 (b := t) (by omega)
    unfold SpOk at this
    unfold Near
    simp only
    omega
def sp_normal (K : PySem.W.Frag) (C : Addr) : Sp := fun vs H Q _ => ∃ (p : Addr) (t : Int) (S : Rws), vs = [.ref p] ∧ SpAt H C p t S ∧ ∀ (q : Addr) H', Same H H' → SpAt H' C q t (nrmR t S) → Q (.ref q) H'
theorem ok_normal (T : T K mg) (U : UX K mg) : FnOk P w K mg base CX0 8 U.pm.g U.pm.d ["self"] (sp_normal K U.C) := by
  have G_init : FnOk P w K mg base CX0 6 U.fI U.dI ["self", "interval", "rows"] (sp_init K U.C) := ok_init T U
  refine U.pm.F.ok sc_Spans_normal (fun vs H Q E h => ?_) (fun cdv A outer s H vs Q E hr h => ?_)
  · obtain ⟨p, t, S, rfl, _⟩ := h
    rfl
  · obtain ⟨p, t, S, rfl, ⟨g, so, dx, rd, nm, lv, cr, L, h1, h2, h3, h4⟩, k⟩ := h
    have hu := hu_of hr
    refine ⟨_, (pss_cons (ps_lock (RL.ps_setDc (i := 1) (own := [("name", 2), ("begin", 3), ("end", 4)]) (g := gTup K 2 (gCons (gName 2) (gCons (gTup K 2 (gCons (gName 3) (gCons (gName 4) gNil))) gNil))) rfl sc_Spans_normal.nd rfl rfl (RL.sw_trueD rfl rfl rfl (by decide +kernel)) (pi_items (pe_fld (pv 0) rfl)) (blkOk_by (N := ["self", "rows", "name", "begin", "end"]) (sc := defScope s_Spans_normal) (by decide +kernel)) (fun _ _ _ _ _ => (pg_tup rfl (pgs_cons (pg_name (i := 2) sc_Spans_normal.nd rfl (Or.inl rfl)) (pgs_cons (pg_tup rfl (pgs_cons (pg_name (i := 3) sc_Spans_normal.nd rfl (Or.inl rfl)) (pgs_cons (pg_name (i := 4) sc_Spans_normal.nd rfl (Or.inl rfl)) pgs_nil))) pgs_nil)))) (fun _ _ _ _ _ => pts_nil) (fun _ _ _ _ _ => (pv 2)) (fun _ _ _ _ _ => (pe_tup (pa_cons (pe_op op_mod (pv 3) (pe_fldK (K := K) rfl (pv 0) rfl)) (pa_cons (pe_op op_sub (pe_op op_add (pe_op op_mod (pv 3) (pe_fldK (K := K) rfl (pv 0) rfl)) (pv 4)) (pv 3)) pa_nil))))))
      (pss_one (ps_ret (pe_make U.mkI G_init (hr.mono (by decide)) rfl U.mC U.bI .nil pass0 (pa_cons (pe_fld (pv 0) rfl) (pa_cons (pv 1) pa_nil)))))), ?_⟩
    have t1 := g.t1
    have ndp : rd ≠ p := fun z => by rw [z, h1] at h2; cases h2
    refine ⟨rd, _, h2, True.intro, fun od => ?_⟩
    have lk : (upd H rd (.frz od (.dK (Kvs L)))) rd = some (.frz od (.dK (Kvs L))) := upd_same
    have lp : (upd H rd (.frz od (.dK (Kvs L)))) p = some (.ins U.C dx (spF t rd nm lv cr)) := by rw [upd_ne ndp.symm]; exact h1
    have ktl : KT H (upd H rd (.frz od (.dK (Kvs L)))) := KT.put h2 (fun _ z => by cases z)
    refine ⟨_, rfl, p, U.C, dx, _, .ref rd, rfl, lp, U.cl, U.n2, rfl, rd, od, Kvs L, rfl, lk, fun D hD => ?_⟩
    have nD : D ≠ rd := fun z => by rw [z, upd_same] at hD; cases hD
    have hD0 : H D = none := by rw [upd_ne nD] at hD; exact hD
    refine dc_it walk_items (fun i H' => Same (upd H rd (.frz od (.dK (Kvs L)))) H' ∧ ∃ M, H' D = some (.dK (Kvs M)) ∧ Tups H' M (nrmR t (S.take i))) ⟨Same.new hD, [], upd_same, .nil⟩ (fun i H' _ h => h.1 _ _ lk) ?_ ?_
    · rintro i x Ha Hb hi ⟨Sa, M, eD, tm⟩ ⟨TT, x1, y1, rfl, hTT, rfl, ex1, ey1⟩
      have Sn : Same Ha (upd Ha TT (.tup [x1, y1])) := Same.new hTT
      obtain ⟨n, a, b, e, rfl, e2, e3, e4⟩ := tups_at (h3.keep (KT.trans ktl (KT.same (Same.trans Sa Sn)))) i y1 ey1
      obtain rfl : V.str n = x1 := by
        unfold Kvs at ex1
        dsimp only at ex1
        rw [List.getElem?_map, e4] at ex1
        exact Option.some.inj ex1
      have eTT : (upd Ha TT (.tup [V.str n, V.ref a])) TT = some (.tup [V.str n, V.ref a]) := upd_same
      have eDb := Sn _ _ eD
      have tmb := tm.keep (KT.same Sn)
      have Sb := Same.trans Sa Sn
      generalize upd Ha TT (.tup [V.str n, V.ref a]) = Hc at Sb eTT eDb tmb e3 ⊢
      have pc := Sb _ _ lp
      refine ⟨TT, _, rfl, SqT.of eTT, rfl, _, _, rfl, _, _, rfl, a, _, rfl, SqT.of e3, rfl, _, _, rfl, _, _, rfl, rfl, rfl, ?_⟩
      refine ⟨rfl, ?_⟩
      unfold tYes
      dsimp only
      rw [if_pos rfl]
      refine ⟨_, rfl, ?_⟩
      refine ⟨_, rfl, _, rfl, p, U.C, dx, _, .int t, rfl, pc, U.cl, U.n1, rfl, _, _, rfl, rfl, by omega, ?_⟩
      refine ⟨_, rfl, _, rfl, p, U.C, dx, _, .int t, rfl, pc, U.cl, U.n1, rfl, _, _, rfl, rfl, by omega, ?_⟩
      refine ⟨_, rfl, _, _, rfl, rfl, _, rfl, _, _, rfl, rfl, ?_⟩
      refine ⟨by show 2 ≤ sizeLine; decide, fun q hq => ?_⟩
      have ii : i < S.length := (List.getElem?_eq_some_iff.mp e2).1
      have l8 := g.l8
      have nm' : n ∉ (nrmR t (S.take i)).map (·.1) := by
        rw [nrmR_names]
        intro hm
        have nd := g.nd
        rw [← List.take_append_drop i S, List.map_append, List.nodup_append] at nd
        refine nd.2.2 n hm n (List.mem_map.mpr ⟨(n, b, e), ?_, rfl⟩) rfl
        rw [List.mem_iff_getElem?]
        exact ⟨0, by rw [List.getElem?_drop]; exact e2⟩
      have Sq := Same.new (o := .tup [V.int (b % t), .int (b % t + e - b)]) hq
      have eq1 : (upd Hc q (.tup [V.int (b % t), .int (b % t + e - b)])) q = some (.tup [V.int (b % t), .int (b % t + e - b)]) := upd_same
      have eD2 := Sq _ _ eDb
      obtain ⟨z1, z2⟩ := tups_put eD2 (tmb.keep (KT.same Sq)) nm' (show TupAt _ q (b % t) (b % t + e - b) from eq1)
      have lM : M.length ≤ 8 := by
        rw [tmb.len]
        unfold nrmR
        rw [List.length_map, List.length_take]
        omega
      refine ⟨Kvs M, Sum.inr n, rfl, eD2, by rw [kvs_len, sizeLine_eq]; omega, Same.at hD (Same.trans Sb Sq), M ++ [(n, q)], z1, ?_⟩
      rw [List.take_add_one, e2]
      have e9 : nrmR t (S.take i ++ (some (n, b, e)).toList) = nrmR t (S.take i) ++ [(n, b % t, b % t + e - b)] := by unfold nrmR; simp
      rw [e9]
      exact z2
    rintro Ha ⟨Sa, M, eD, tm⟩
    refine ⟨Sa _ _ lk, ?_⟩
    have SH := same_lock h2 Sa
    rw [kvs_len, h3.len, List.take_length] at tm
    have ktD : KT Ha (upd Ha rd (.dK (Kvs L))) := KT.put (Sa _ _ lk) (fun _ z => by cases z)
    have eD2 : (upd Ha rd (.dK (Kvs L))) D = some (.dK (Kvs M)) := (upd_ne nD).trans eD
    have tm2 := tm.keep ktD
    generalize upd Ha rd (.dK (Kvs L)) = Hb at SH eD2 tm2 ⊢
    refine ⟨_, rfl, p, U.C, dx, _, .int t, rfl, SH _ _ h1, U.cl, U.n1, rfl, _, rfl, fun q dq hq hdq ne => ?_⟩
    have S0 : Same Hb (upd (upd Hb dq (.own q)) q (.ins U.C dq [])) := fun b o e => by
      rw [upd_ne (ne_of_none e hq), upd_ne (ne_of_none e hdq)]
      exact e
    refine ⟨q, D, dq, t, M, nrmR t S, rfl, upd_same, S0 _ _ eD2, tm2.keep (KT.same S0), g.nrm, fun S' H' B A' sr _ => ⟨rfl, ?_⟩⟩
    have e1 : S' = nrmR t S := Srd.eq (R := nrmR t S) g.nrm.nd sr ⟨List.Perm.refl _, by rw [nrmR_names]; exact so⟩
    subst e1
    refine k q H' (fun b o e => ?_) A'
    exact B _ _ (ne_of_none (SH _ _ e) hq) (S0 _ _ (SH _ _ e))
end
end K37
namespace K37
open PySem L2
open PyProof.Rows PySem.Spec
theorem opr_or {X : Cx} {f : Value → Value → Sem Value} {r1 r2 : R2} (h1 : OpR X f r1) (h2 : OpR X f r2) : OpR X f (fun x y H Q => r1 x y H Q ∨ r2 x y H Q) := fun pins s σ H x y v u Q I rx ry h => by
  rcases h with h | h
  · exact h1 pins s σ H x y v u Q I rx ry h
  · exact h2 pins s σ H x y v u Q I rx ry h
def tJ (ts : List TE) : TE := fun σ H Q => tJs ts Str.empty σ H fun out H1 => Q (.str out) H1
theorem pe_J {X : Cx} {v1 v2 : Expr} {rest : List Expr} {ts : List TE} {pos : Pos} (h : PJ X (v1 :: v2 :: rest) ts) : PE X (.JoinedStr (v1 :: v2 :: rest) pos) (tJ ts) := pe_joined h
theorem int_len {i : Int} (h0 : 0 ≤ i) (h1 : i ≤ 40) : (toString i : Str).length ≤ 3 ∧ i.natAbs.log2 < 1920 := by
  have key : ∀ k : Fin 41, (toString (k.1 : Int) : Str).length ≤ 3 ∧ (k.1 : Int).natAbs.log2 < 1920 := by decide +kernel
  have := key ⟨i.toNat, by omega⟩
  rwa [show ((i.toNat : Nat) : Int) = i from by omega] at this
theorem len_app (a b : Str) : (a ++ b).length = a.length + b.length := by
  show (a.cps ++ b.cps).size = a.cps.size + b.cps.size
  exact Array.size_append
theorem emp_app (x : Str) : Str.empty ++ x = x := by
  refine str_ext ?_
  show (Str.empty.cps ++ x.cps).toList = x.cps.toList
  rw [Array.toList_append]
  rfl
def tellS (n : Nat) (t : Int) : Str := Str.ofString "spans of " ++ toString (n : Int) ++ Str.ofString " names in " ++ toString t ++ Str.ofString " ticks"
theorem eqv_row (p q : Int × Int) : PyData.eqv (.tuple [.int p.1, .int p.2]) (.tuple [.int q.1, .int q.2]) = decide (p = q) := by
  obtain ⟨a, b⟩ := p
  obtain ⟨c, d⟩ := q
  simp [PyData.eqv, PyData.eqvAll]
  rw [Bool.eq_iff_iff]
  simp
theorem allE_rows : ∀ {S S2 : Rws}, S.map (·.1) = S2.map (·.1) → RL.allE (S.map rowD) (S2.map rowD) = decide (S = S2)
  | [], [], _ => by simp [RL.allE]
  | [], _ :: _, h => by cases h
  | _ :: _, [], h => by cases h
  | (n, p) :: S, (m, q) :: S2, h => by
    obtain ⟨h1, h2⟩ := List.cons.inj h
    obtain rfl : n = m := h1
    show (PyData.eqv (.tuple [.int p.1, .int p.2]) (.tuple [.int q.1, .int q.2]) && RL.allE (S.map rowD) (S2.map rowD)) = _
    rw [eqv_row, allE_rows h2, Bool.eq_iff_iff]
    simp
theorem plain_rows (S : Rws) : PyData.plainAll ((S.map rowD).map (·.2)) = true := by
  induction S with
  | nil => simp [PyData.plainAll]
  | cons r S ih => simpa [PyData.plainAll, PyData.plain, rowD] using ih
theorem depth_rows (S : Rws) : PyData.depthAll ((S.map rowD).map (·.2)) ≤ 1 := by
  induction S with
  | nil => simp [PyData.depthAll]
  | cons r S ih =>
    simp [PyData.depthAll, PyData.depth, rowD] at ih ⊢
    exact Nat.max_le.mpr ⟨Nat.le_refl _, ih⟩
theorem valV_self : ∀ {L : List (Str × Addr)}, (L.map (·.1)).Nodup → ∀ p ∈ Kvs L, valV (Kvs L) p.1 = some p.2
  | [], _, p, hp => by cases hp
  | (n, a) :: L, nd, p, hp => by
    rw [List.map_cons, List.nodup_cons] at nd
    rcases List.mem_cons.mp hp with rfl | hp
    · exact valV_pos (p := ((Sum.inr n : Key), V.ref a)) rfl
    · obtain ⟨⟨m, b⟩, hm, rfl⟩ := List.mem_map.mp hp
      refine (valV_neg (p := ((Sum.inr n : Key), V.ref a)) (fun z => nd.1 ?_)).trans (valV_self nd.2 _ hp)
      rw [Sum.inr.inj z]
      exact List.mem_map.mpr ⟨_, hm, rfl⟩
section
variable {P : Program} {w : World} {K : PySem.W.Frag}
                                                      {mg : Str → Option Value} {base : Heap}
def sp_len (K : PySem.W.Frag) (C : Addr) : Sp := fun vs H Q _ => ∃ (p : Addr) (t : Int) (S : Rws), vs = [.ref p] ∧ SpAt H C p t S ∧ Q (.int S.length) H
theorem ok_len (T : T K mg) (U : UX K mg) : FnOk P w K mg base CX0 1 U.ml.f U.ml.d ["self"] (sp_len K U.C) := by
  refine U.ml.F.ok sc_Spans_len (fun vs H Q E h => ?_) (fun cdv A outer s H vs Q E hr h => ?_)
  · obtain ⟨p, t, S, rfl, _⟩ := h
    rfl
  · obtain ⟨p, t, S, rfl, ⟨g, so, dx, rd, nm, lv, cr, L, h1, h2, h3, h4⟩, k⟩ := h
    have hu := hu_of hr
    refine ⟨_, (pss_one (ps_ret (pe_callB call_len (by rfl) T.z_len (by decide +kernel) (pa_cons (pe_fld (pv 0) rfl) pa_nil)))), ?_⟩
    refine ⟨_, rfl, p, U.C, dx, _, .ref nm, rfl, h1, U.cl, U.n3, rfl, _, _, rfl, .inr ⟨_, SqT.of h4, rfl⟩, ?_⟩
    rw [List.length_map, List.length_map]
    exact k
def sp_item (K : PySem.W.Frag) (C : Addr) : Sp := fun vs H Q _ => ∃ (p : Addr) (t : Int) (S : Rws) (n : Str) (b e : Int), vs = [.ref p, .str n] ∧ SpAt H C p t S ∧ (n, b, e) ∈ S ∧ ∀ a, TupAt H a b e → Q (.ref a) H
theorem ok_item (T : T K mg) (U : UX K mg) : FnOk P w K mg base CX0 1 U.mg.f U.mg.d ["self", "name"] (sp_item K U.C) := by
  refine U.mg.F.ok sc_Spans_getitem (fun vs H Q E h => ?_) (fun cdv A outer s H vs Q E hr h => ?_)
  · obtain ⟨p, t, S, n, b, e, rfl, _⟩ := h
    rfl
  · obtain ⟨p, t, S, n, b, e, rfl, ⟨g, so, dx, rd, nm, lv, cr, L, h1, h2, h3, h4⟩, hm, k⟩ := h
    have hu := hu_of hr
    refine ⟨_, (pss_cons (ps_if (pt_cmpR op_notIn_seq (pv 1) (pe_fld (pv 0) rfl) rfl)
      (pss_one ps_never)
      pss_nil)
      (pss_one (ps_ret (pe_dget (by exact hu) (pe_fld (pv 0) rfl) (pv 1) (fun _ _ => rfl))))), ?_⟩
    have hn : n ∈ S.map (·.1) := List.mem_map.mpr ⟨_, hm, rfl⟩
    refine ⟨_, rfl, _, rfl, p, U.C, dx, _, .ref nm, rfl, h1, U.cl, U.n3, rfl, nm, _, rfl, .inr (SqT.of h4), rfl, flat_strs _, _, rfl, ?_⟩
    rw [inV_strs, decide_eq_true hn]
    refine iteF ?_
    obtain ⟨a, ha, hb⟩ := h3.at g.nd hm
    refine ⟨_, rfl, p, U.C, dx, _, .ref rd, rfl, h1, U.cl, U.n2, rfl, _, rfl, rd, V.ref a, rfl, ?_, ?_⟩
    · have := DGet.k (k := Sum.inr n) h2
      rw [ha] at this
      exact this
    · exact k a hb
def sp_eq (K : PySem.W.Frag) (C : Addr) : Sp := fun vs H Q _ => ∃ (p : Addr) (t : Int) (S : Rws) (y : V), vs = [.ref p, y] ∧ SpAt H C p t S ∧
  ((∃ q t2 S2, y = .ref q ∧ SpAt H C q t2 S2 ∧ (t = t2 → S.map (·.1) = S2.map (·.1)) ∧ Q (.bl (decide (t = t2) && decide (S = S2))) H) ∨ ∃ n, n ∈ ["NoneType", "bool", "int", "str", "list", "tuple", "dict"] ∧ TyX K H y (.type n) ∧ Q (.bl false) H)
theorem ok_eq (T : T K mg) (U : UX K mg) : FnOk P w K mg base CX0 3 U.me.f U.me.d ["self", "other"] (sp_eq K U.C) := by
  refine U.me.F.ok sc_Spans_eq (fun vs H Q E h => ?_) (fun cdv A outer s H vs Q E hr h => ?_)
  · obtain ⟨p, t, S, y, rfl, _⟩ := h
    rfl
  · obtain ⟨p, t, S, y, rfl, ⟨g, so, dx, rd, nm, lv, cr, L, h1, h2, h3, h4⟩, alt⟩ := h
    have hu := hu_of hr
    refine ⟨_, (pss_one (ps_ret (pe_and (pe_callB call_isi (by rfl) T.z_isinstance (by decide +kernel) (pa_cons (pv 1) (pa_cons (pe_glob (v := V.ref U.C) rfl U.mC rfl) pa_nil))) (pe_and (pe_cmpR op_eq (pe_fld (pv 0) rfl) (pe_fld (pv 1) rfl) (nomark _)) (pe_one (pe_cmpR (RL.op_eqDic (un64 hr)) (pe_fld (pv 0) rfl) (pe_fld (pv 1) rfl) (nomark _))))))), ?_⟩
    rcases alt with ⟨q, t2, S2, rfl, ⟨g', so', dx', rd', nm', lv', cr', L', h1', h2', h3', h4'⟩, en, k⟩ | ⟨n, hn, ty, k⟩
    · refine ⟨_, rfl, _, _, _, _, true, rfl, .own _, .base (.ins h1' U.cl U.ca U.cg U.ct U.mo), by unfold PySem.W.kitOne; rw [if_pos (beq_self_eq_true _)], ?_⟩
      refine ⟨_, rfl, ?_⟩
      refine iteT ?_
      refine ⟨_, rfl, p, U.C, dx, _, .int t, rfl, h1, U.cl, U.n1, rfl, _, rfl, q, U.C, dx', _, .int t2, rfl, h1', U.cl, U.n1, rfl, rfl, _, rfl, ?_⟩
      by_cases c1 : t = t2
      · have c1' : V.int t = V.int t2 := congrArg _ c1
        rw [decide_eq_true c1']
        rw [decide_eq_true c1, Bool.true_and] at k
        refine iteT ?_
        have en := en c1
        refine ⟨_, rfl, p, U.C, dx, _, .ref rd, rfl, h1, U.cl, U.n2, rfl, _, rfl, q, U.C, dx', _, .ref rd', rfl, h1', U.cl, U.n2, rfl, rd, rd', Kvs L, Kvs L', S.map rowD, S2.map rowD, rfl, rfl, h2, h2', h3.dsk, h3'.dsk, ?_, ?_, plain_rows _, plain_rows _, Nat.le_trans (depth_rows _) (by decide), ?_⟩
        · rw [kvs_keys, kvs_keys, h3.names, h3'.names, en]
        · exact valV_self (by rw [h3'.names]; exact g'.nd)
        · rw [allE_rows en]
          exact k
      · have c1' : ¬ V.int t = V.int t2 := fun z => c1 (V.int.inj z)
        rw [decide_eq_false c1']
        rw [decide_eq_false c1, Bool.false_and] at k
        exact iteF k
    · refine ⟨_, rfl, _, _, _, _, false, rfl, .own _, ty, (U.tin n hn).2, ?_⟩
      exact ⟨_, rfl, iteF k⟩
/-- an odd value: no name, and none is asked to be equal to it but spans -/
def Odd (K : PySem.W.Frag) (H : Hp) (C : Addr) (y : V) : Prop :=
  (∃ d, RL.DS K H y d ∧ d.plain = true ∧ d.depth ≤ 60 ∧ ∀ z, PyData.eqv (.str z) d = false) ∨ (∃ a kvs, y = .ref a ∧ H a = some (.dK kvs)) ∨ ∃ a t S, y = .ref a ∧ SpAt H C a t S
def sp_in (K : PySem.W.Frag) (C : Addr) : Sp := fun vs H Q _ => ∃ (p : Addr) (t : Int) (S : Rws) (y : V), vs = [.ref p, y] ∧ SpAt H C p t S ∧
  ((∃ n, y = .str n ∧ Q (.bl (decide (n ∈ S.map (·.1)))) H) ∨ (Odd K H C y ∧ Q (.bl false) H))
theorem ok_in (T : T K mg) (U : UX K mg) : FnOk P w K mg base CX0 6 U.mc.f U.mc.d ["self", "value"] (sp_in K U.C) := by
  have G_eq : FnOk P w K mg base CX0 3 U.me.f U.me.d ["self", "other"] (sp_eq K U.C) := ok_eq T U
  refine U.mc.F.ok sc_Spans_contains (fun vs H Q E h => ?_) (fun cdv A outer s H vs Q E hr h => ?_)
  · obtain ⟨p, t, S, y, rfl, _⟩ := h
    rfl
  · obtain ⟨p, t, S, y, rfl, ⟨g, so, dx, rd, nm, lv, cr, L, h1, h2, h3, h4⟩, alt⟩ := h
    have hu := hu_of hr
    refine ⟨_, (pss_one (ps_ret (pe_cmpR (opr_or op_in_seq (RL.op_inOdd G_eq ⟨U.me.m.at_, U.me.m.fn⟩ U.sub (hr.mono (by decide)) (un64 hr) U.me.b pass0)) (pv 1) (pe_fld (pv 0) rfl) rfl))), ?_⟩
    rcases alt with ⟨n, rfl, k⟩ | ⟨o, k⟩
    · refine ⟨_, rfl, _, rfl, p, U.C, dx, _, .ref nm, rfl, h1, U.cl, U.n3, rfl, .inl ⟨nm, _, rfl, .inr (SqT.of h4), rfl, flat_strs _, ?_⟩⟩
      rw [if_neg (by decide), inV_strs]
      exact k
    · refine ⟨_, rfl, _, rfl, p, U.C, dx, _, .ref nm, rfl, h1, U.cl, U.n3, rfl, .inr ⟨nm, S.map (·.1), rfl, SqT.of h4, k, ?_⟩⟩
      rcases o with o | o | ⟨a, ta, Sa, rfl, o⟩
      · exact .inl o
      · exact .inr (.inl o)
      · have o' := o
        obtain ⟨_, _, dx', rd', nm', lv', cr', L', h1', _⟩ := o'
        refine .inr (.inr ⟨a, dx', _, rfl, h1', fun z => ?_⟩)
        exact ⟨a, ta, Sa, .str z, rfl, o, .inr ⟨"str", by decide, .base (.str z), rfl, rfl⟩⟩
def sp_str (K : PySem.W.Frag) (C : Addr) : Sp := fun vs H Q _ => ∃ (p : Addr) (t : Int) (S : Rws), vs = [.ref p] ∧ SpAt H C p t S ∧ Q (.str (tellS S.length t)) H
theorem ok_str (T : T K mg) (U : UX K mg) : FnOk P w K mg base CX0 3 U.ms.f U.ms.d ["self"] (sp_str K U.C) := by
  refine U.ms.F.ok sc_Spans_str (fun vs H Q E h => ?_) (fun cdv A outer s H vs Q E hr h => ?_)
  · obtain ⟨p, t, S, rfl, _⟩ := h
    rfl
  · obtain ⟨p, t, S, rfl, ⟨g, so, dx, rd, nm, lv, cr, L, h1, h2, h3, h4⟩, k⟩ := h
    have hu := hu_of hr
    refine ⟨_, (pss_one (ps_ret (pe_J (.cons pe_str (.cons (pe_fmt (pe_callB call_len (by rfl) T.z_len (by decide +kernel) (pa_cons (pe_fld (pv 0) rfl) pa_nil))) (.cons pe_str (.cons (pe_fmt (pe_fld (pv 0) rfl)) (.cons pe_str .nil)))))))), ?_⟩
    have il := int_len (i := (S.length : Int)) (by omega) (by have := g.l8; omega)
    have it := int_len (i := t) (by have := g.t1; omega) (by have := g.t2; omega)
    have b0 : Str.empty.length = 0 := rfl
    have b1 : (Str.ofString "spans of ").length = 9 := by decide +kernel
    have b2 : (Str.ofString " names in ").length = 10 := by decide +kernel
    have b3 : (Str.ofString " ticks").length = 6 := by decide +kernel
    refine ⟨_, rfl, by rw [len_app, b0, b1, sizeLine_eq]; omega, _, rfl, p, U.C, dx, _, .ref nm, rfl, h1, U.cl, U.n3, rfl, _, _, rfl, .inr ⟨_, SqT.of h4, rfl⟩, ?_⟩
    rw [List.length_map, List.length_map]
    refine .inr ⟨_, rfl, il.2, _, rfl, by rw [len_app, len_app, b0, b1, sizeLine_eq]; omega, _, rfl, by rw [len_app, len_app, len_app, b0, b1, b2, sizeLine_eq]; omega, ?_⟩
    refine ⟨_, rfl, p, U.C, dx, _, .int t, rfl, h1, U.cl, U.n1, rfl, .inr ⟨_, rfl, it.2, _, rfl, by rw [len_app, len_app, len_app, len_app, b0, b1, b2, sizeLine_eq]; omega, _, rfl, by rw [len_app, len_app, len_app, len_app, len_app, b0, b1, b2, b3, sizeLine_eq]; omega, ?_⟩⟩
    rw [emp_app]
    exact k
end
end K37
/-! promises kept where nothing is being told of itself, and a law called for one -/
namespace GW
open PySem PySem.Spec PyProof.Rows L2
open LamX in
/-- a def whose promise is kept where nothing is being told of itself -/
structure FnG (P : Program) (w : World) (K : PySem.W.Frag) (mg : Str → Option Value) (base : Heap) (CX : CXT) (k : Nat) (f : Addr) (fd : FuncData) (ps : List Str) (sp : Sp) : Prop where
  len : ∀ vs H Q E, sp vs H Q E → vs.length = ps.length
  run : ∀ (A : Around) (outer : List Env) (s : Shared) (H : Hp) (args : Args) (us : List Value) (vs : List V) (Q : VK) (E : XK), A.guards = some [] → Room k A → Env0 P w K mg base A outer s H → BindsTo s fd args (ps.zip us) → Vals vs us → sp vs H Q E →
    codeAny (model P w) A (.call
                                 (.ref f) args) (CR CX outer P w H s Q E) s
theorem FunG.okG {P : Program} {w : World} {K : PySem.W.Frag} {mg : Str → Option Value} {base : Heap} {x qual : Str} {st : Stmt} {f : Addr} {fd : FuncData} {N ps : List Str} {k : Nat} {sp : Sp} (F : Fun K x qual st f fd) (S : FnScope N ps (defScope st)) (len : ∀ vs H Q E, sp vs H Q E → vs.length = ps.length)
    (hbody : ∀ (cdv : Value) (A : Around) (outer : List Env) (s : Shared) (H : Hp) (vs : List V) (Q : VK) (E : XK), A.guards = some [] → Room k (A.deeper (PyProof.Rows.envOfC qual (defScope st) s.heap.objs.size f cdv)) → sp vs H Q E →
      ∃ t, PSs (cxOf CX0 P w K mg base N qual (defScope st) f cdv A outer s H E).nox (defBody st) t ∧ t { nx := fun _ H' => Q .non H', rt := Q } (L2.start N vs) H) : FnG P w K mg base CX0 (k + 1) f fd ps sp := by
  obtain ⟨oc, od, kV, doc, pm, an, cdv, ct, osl, rfl, lk, hcd⟩ := F.ex
  refine ⟨len, fun A outer s H args us vs Q E hg hr e0 hb r hsp => ?_⟩
  exact LamX.run_ofS lk hcd S hr e0 hb r (len _ _ _ _ hsp) fun hr' => by
    obtain ⟨t, h, q⟩ := hbody cdv A outer s H vs Q E hg hr' hsp
    exact ⟨t, h.nox, q⟩
section
variable {X : Cx} {CX : CXT} {k : Nat} {f : Addr} {fd : FuncData} {ps : List Str} {sp : Sp} {dvs : List V} {ds : List Value} {E : XK} {x : Str} {p pos : Pos} {e : Expr} {es : List Expr} {t : TA}
theorem pe_callG (F : FnG X.prog X.w X.K X.mg X.base CX k f fd ps sp) (hgd : X.A.guards = some []) (hr : Room k X.A) (hg : Gl X x) (hm : X.mg x = some (.ref f)) (hk : PySem.W.keepIn X.K (.ref f) = true) (hb : Binds X.K fd ps ds) (hd : Vals dvs ds) (hx : Passes CX X E)
    (ha : PA X (e :: es) t) (hdb : (x == ("__debug__" : Str)) = false := by decide) (he : starEach (e :: es) X.env =
                                                                                                                     (false, eval e X.env) :: starEach es X.env := by rfl) (hpl : (backTo pos (starEach es X.env)).any (·.1) = false := by rfl) :
    PE X (.Call (.Name x p)
                            (e :: es) [] pos) (tCall sp dvs E t) := by
  refine ⟨fun pins s σ H Q I h => wpAny_Call_Name_kw (ld_glob I hg hm ?_ hdb)⟩
  refine PySem.W.callWith_K (h₀ := X.base) I.ok.mod.kin hk (thn
                                                                (ha.run pos pins s σ H _ I h) fun us s1 ⟨vs, H1, I1, r, q⟩ => ⟨I1.kIn, ?_⟩) he hpl
  have r2 : Vals (vs ++ dvs) (us ++ ds) := r.append hd
  have hl : (us ++ ds).length = ps.length := by
    rw [← r2.length]
    exact F.len _ _ _ _ q
  have run := F.run X.A X.stack s1 H1 ⟨us, []⟩ (us ++ ds) (vs ++ dvs) Q E hgd hr I1.env0 (hb s1 us I1.kIn hl) r2 q
  refine wpAny_call (codeAny_mono run fun w' s' z => ?_)
  cases w' with
  | error er => exact hx pins σ H1 s1 er s' I1 z
  | ok fl =>
    cases fl with
    | ret u => exact I1.after z
    | next => exact False.elim z
    | brk => exact False.elim z
    | cont => exact False.elim z
end
/-! ### the law's call, of a promise that is kept where nothing is being told of itself -/
section
open PySem.Spec PyProof.Rows LamX
variable {P : Program} {w : World} {K : PySem.W.Frag} {mg mb : Str → Option Value} {CX : CXT} {k : Nat} {fa a : Addr} {cs : List (Addr × Addr)} {fd : FuncData} {x : Str} {sp : Sp} {s1 : Shared} {vs : List Value} {ns : List Int}
/-- the heap ahead of the call, with the script and the tables -/
structure Ahead (K : PySem.W.Frag) (mg mb : Str → Option Value) (cs : List (Addr × Addr)) (a : Addr) (vs : List Value) (s1 : Shared) : Prop where
  kin : K.In s1.heap
  glob : s1.heap.Ns mainGlobals mg
  blt : s1.heap.Ns builtinsNs mb
  boot : ∀ y : Str, y ≠ "__name__" → mb y = bootBuiltins y
  lim : s1.heap.NoLimit
  gens : s1.gens = #[]
  tab : ∀ p ∈ cs, s1.heap.get? p.2 = some { cls := .none, data := .fields #[] }
  offK : ∀ p ∈ cs, K.lookup p.2 = none
  code : ∀ p ∈ cs, PySem.W.CodeHd s1.heap p.1 p.2
  main : ∃ (bm : Addr) (ob : Obj), mg "__builtins__" = some (.ref bm) ∧ bm ≠ builtinsNs ∧ s1.heap.get? bm = some ob ∧ ob.cls = .type "module" ∧ ob.dict = some builtinsNs ∧ ob.data = .plain
  scr : s1.heap.get? a = some { cls := .type "list", data := .seq vs.toArray }
/-- what is tracked: the script at most, and the tables -/
structure Seen (K : PySem.W.Frag) (cs : List (Addr × Addr)) (a : Addr) (H : Hp) : Prop where
  tbl : ∀ p ∈ cs, H p.2 = some (.tbl #[])
  kind : ∀ b, H b = none ∨ (∃ p ∈ cs, p.2 = b) ∨ ∃ o xs, H b = some (.frz o (.lst xs))
  none_ : ∀ b, H b ≠ none → b = a ∨ ∃ p ∈ cs, p.2 = b
  scrK : H a ≠ none → K.lookup a = none
theorem Ahead.free {H : Hp} (h : Ahead K mg mb cs a vs s1) (z : Seen K cs a H) {b : Addr} {o : Obj} (e : s1.heap.get? b = some o) (n1 : ∀ us n, o.data ≠ .seq us n) (n2 : o.data ≠ .fields #[]) : H b = none := by
  cases q : H b with
  | none => rfl
  | some u =>
    rcases z.none_ b (by rw [q]; simp) with rfl | ⟨p, hp, rfl⟩
    · rw [h.scr] at e
      cases e
      exact absurd rfl (n1 _ _)
    · rw [h.tab p hp] at e
      cases e
      exact absurd rfl n2
theorem Ahead.dict {H : Hp} (h : Ahead K mg mb cs a vs s1) (z : Seen K cs a H) {b : Addr} {o : Obj} {es : Array DictEntry} {ep : Nat} (e : s1.heap.get? b = some o) (d : o.data = .dict es ep) : H b = none := by
  refine h.free z e (fun us n y => ?_) fun y => ?_
  · rw [d] at y
    cases y
  · rw [d] at y
    cases y
theorem Ahead.nsp {H : Hp} (h : Ahead K mg mb cs a vs s1) (z : Seen K cs a H) {b : Addr} {m : Str → Option Value} (y : s1.heap.Ns b m) : (hidT s1.heap H).Ns b m := by
  obtain ⟨o, es, ep, e, d, r⟩ := y
  exact ⟨o, es, ep, hidT_get e (h.dict z e d), d, r⟩
theorem Ahead.inK {H : Hp} (h : Ahead K mg mb cs a vs s1) (z : Seen K cs a H) : K.In (hidT s1.heap H) := fun b o e => by
  refine hidT_get (h.kin b o e) ?_
  cases q : H b with
  | none => rfl
  | some u =>
    rcases z.none_ b (by rw [q]; simp) with rfl | ⟨p, hp, rfl⟩
    · rw [z.scrK (by rw [q]; simp)] at e
      cases e
    · rw [h.offK p hp] at e
      cases e
theorem Ahead.mod {H : Hp} (h : Ahead K mg mb cs a vs s1) (z : Seen K cs a H) : L2.Mod K mg (hidT s1.heap H) := by
  obtain ⟨mc, h1, h2⟩ := h.lim
  exact ⟨h.inK z, h.nsp z h.glob, ⟨mb, h.nsp z h.blt, h.boot⟩, mc, h.nsp z h1, h2⟩
theorem Ahead.tabB {H : Hp} (h : Ahead K mg mb cs a vs s1) (z : Seen K cs a H) : ∀ p ∈ cs, TabB (hidT s1.heap H) mg p.1 p.2 := fun p hp => by
  have tp := h.tab p hp
  obtain ⟨oG, esG, epG, eG, dG, _⟩ := h.glob
  refine ⟨?_, ?_, fun y => ?_⟩
  · obtain ⟨o, us, f1, f2, g1, g2, inF, t1, t2, e1, r1, r2, r3, r4, r5, r6, r7, r8, r9⟩ := h.code p hp
    refine ⟨o, us, f1, f2, g1, g2, inF, t1, t2, hidT_get e1 (h.free z e1 (fun v n y => ?_) fun y => ?_), r1, r2, r3, r4, r5, r6, r7, r8, r9⟩
    · rw [r2] at y
      cases y
    · rw [r2] at y
      cases y
      simp at r3
  · obtain ⟨bm, ob, b1, b2, b3, b4, b5, b6⟩ := h.main
    refine ⟨bm, ob, b1, b2, fun y => ?_, fun y => ?_, hidT_get b3 (h.free z b3 (fun v n y => ?_) fun y => ?_), b4, b5, b6⟩
    · rw [y, eG] at b3
      cases b3
      rw [dG] at b6
      cases b6
    · rw [y, tp] at b3
      cases b3
      cases b6
    · rw [b6] at y
      cases y
    · rw [b6] at y
      cases y
  · rw [y, tp] at eG
    cases eG
    cases dG
theorem Ahead.run {H : Hp} (h : Ahead K mg mb cs a vs s1) (z : Seen K cs a H) (hok : HOk P w H s1.heap) (hr : Room k callerA) (F : ∀ base : Heap, K.In base → base.Ns mainGlobals mg → (∀ p ∈ cs, TabB base mg p.1 p.2) → FnG P w K mg base CX k fa fd [x] sp)
    (hbind : ∀ (s : Shared) (u : Value), BindsTo s fd ⟨[u], []⟩ [(x, u)]) (hsp : sp [.ref a] H (fun v _ => v = .bl true) fun _ _ _ => False) (hCX : ∀ e s', CX [] H s1 (fun _ _ _ => False) e s' → False) :
    codeAny (model P w) callerA (.call (.ref fa) ⟨[.ref a], []⟩) (fun r s' => r = .ok (.ret (.bool true)) ∧ OldK s1.heap s'.heap ∧ s'.os = s1.os ∧ AllBare s'.gens) s1 := by
  have e0 : Env0 P w K mg (hidT s1.heap H) callerA [] s1 H :=
    ⟨rfl, h.mod z, fun b o e => of_hidT e, Nat.le_of_eq (hidT_size _ _), trivial, fun b hb => absurd (show b ∈ ([] : List Addr) from hb) (by simp), hok, .of_eq h.gens⟩
  have go := (F _ (h.inK z) (h.nsp z h.glob) (h.tabB z)).run callerA [] s1 H ⟨[.ref a], []⟩ [.ref a] [.ref a] _ _ rfl hr e0 (hbind s1 (.ref a)) (.cons rfl .nil) hsp
  refine codeAny_mono go fun r s' y => ?_
  cases r with
  | error e => exact (hCX e s' y).elim
  | ok fl =>
    cases fl with
    | next => exact False.elim y
    | brk => exact False.elim y
    | cont => exact False.elim y
    | ret u =>
      obtain ⟨v, H', os, bare, un, hok', rv, q⟩ := y
      cases (show v = V.bl true from q)
      cases (show u = Value.bool true from rv)
      have there : ∀ p ∈ cs, ∃ more : Array Value, s'.heap.get? p.2 = some { cls := .none, data := .fields more } := fun p hp => by
        obtain ⟨more, q⟩ := un.tbls p.2 #[] (z.tbl p hp)
        exact ⟨_, hok' p.2 _ q⟩
      have same : ∀ b o, (¬ ∃ p ∈ cs, p.2 = b) → s1.heap.get? b = some o → s'.heap.get? b = some o := fun b o nb e => by
        rcases z.kind b with q | q | ⟨ob, xs, q⟩
        · exact un.keep b o e q (by intro y; exact absurd (show b ∈ ([] : List Addr) from y) (by simp)) (by simp)
        · exact absurd q nb
        · obtain ⟨e1, _⟩ := hok b _ q
          obtain ⟨e2, _⟩ := hok' b _ (un.frzs b ob _ q)
          rw [e] at e1
          cases e1
          exact e2
      refine ⟨rfl, ⟨fun b o e => ?_, fun b o e => ?_⟩, os, bare⟩
      · by_cases c : ∃ p ∈ cs, p.2 = b
        · obtain ⟨p, hp, rfl⟩ := c
          obtain ⟨more, hm⟩ := there p hp
          rw [h.tab p hp] at e
          cases e
          exact .inr (.inl ⟨((h.code p hp).tab (h.tab p hp)).isCodeTable, rfl, #[], more, rfl, by rw [Array.empty_append]; exact hm⟩)
        · exact .inl (same b o c e)
      · by_cases c : ∃ p ∈ cs, p.2 = b
        · obtain ⟨p, hp, rfl⟩ := c
          obtain ⟨more, hm⟩ := there p hp
          exact ⟨_, hm⟩
        · exact ⟨o, same b o c e⟩
/-- the two ways of tracking -/
theorem Ahead.call (h : Ahead K mg mb cs a vs s1) (hi : IntsAre vs ns) (hl : ns.length ≤ sizeLine) (hr : Room k callerA) (F : ∀ base : Heap, K.In base → base.Ns mainGlobals mg → (∀ p ∈ cs, TabB base mg p.1 p.2) → FnG P w K mg base CX k fa fd [x] sp)
    (hbind : ∀ (s : Shared) (u : Value), BindsTo s fd ⟨[u], []⟩ [(x, u)]) (hsp : ∀ H : Hp, (∀ p ∈ cs, H p.2 = some (.tbl #[])) → SqL K H a (ns.map V.int) → sp [.ref a] H (fun v _ => v = .bl true) fun _ _ _ => False)
    (hCX : ∀ H e s', CX [] H s1 (fun _ _ _ => False) e s' → False) :
    codeAny (model P w) callerA (.call (.ref fa) ⟨[.ref a], []⟩) (fun r s' => r = .ok (.ret (.bool true)) ∧ OldK s1.heap s'.heap ∧ s'.os = s1.os ∧ AllBare s'.gens) s1 := by
  classical
  have rv := vals_ints hi
  have off : ¬ ∃ p ∈ cs, p.2 = a := fun ⟨p, hp, e⟩ => by
    have q := h.tab p hp
    rw [e, h.scr] at q
    have q2 : Data.seq vs.toArray _ = Data.fields #[] := congrArg Obj.data (Option.some.inj q)
    cases q2
  let o : HO := .frz { cls := .type "list", data := .seq vs.toArray } (.lst (ns.map V.int))
  cases hk : K.lookup a with
  | some oa =>
    have e := h.kin a oa hk
    rw [h.scr] at e
    cases e
    let H : Hp := fun b => if ∃ p ∈ cs, p.2 = b then some (.tbl #[]) else none
    have Ht : ∀ p ∈ cs, H p.2 = some (.tbl #[]) := fun p hp => if_pos ⟨p, hp, rfl⟩
    have Hn : ∀ {b}, (¬ ∃ p ∈ cs, p.2 = b) → H b = none := fun c => if_neg c
    refine h.run (H := H) ⟨Ht, fun b => ?_, fun b y => ?_, fun y => absurd (Hn off) y⟩ (fun b u q => ?_) hr F hbind (hsp H Ht (.inr ⟨_, vs.toArray, _, hk, rfl, rfl, rfl, by rw [List.size_toArray, hi.length]; exact hl, by simpa using rv⟩)) fun e s' => hCX H e s'
    · by_cases c : ∃ p ∈ cs, p.2 = b
      · exact .inr (.inl c)
      · exact .inl (Hn c)
    · by_cases c : ∃ p ∈ cs, p.2 = b
      · exact .inr c
      · exact absurd (Hn c) y
    · by_cases c : ∃ p ∈ cs, p.2 = b
      · obtain ⟨p, hp, rfl⟩ := c
        rw [Ht p hp] at q
        cases q
        exact h.tab p hp
      · rw [Hn c] at q
        cases q
  | none =>
    let H : Hp := fun b => if b = a then some o else if ∃ p ∈ cs, p.2 = b then some (.tbl #[]) else none
    have Ha : H a = some o := if_pos rfl
    have Ht : ∀ p ∈ cs, H p.2 = some (.tbl #[]) := fun p hp => (if_neg (fun y => off ⟨p, hp, y⟩)).trans (if_pos ⟨p, hp, rfl⟩)
    have Hn : ∀ {b}, b ≠ a → (¬ ∃ p ∈ cs, p.2 = b) → H b = none := fun n c => (if_neg n).trans (if_neg c)
    refine h.run (H := H) ⟨Ht, fun b => ?_, fun b y => ?_, fun _ => hk⟩ (fun b u q => ?_) hr F hbind (hsp H Ht (.inl (.inr ⟨_, Ha⟩))) fun e s' => hCX H e s'
    · by_cases n : b = a
      · exact .inr (.inr ⟨_, _, by rw [n]; exact Ha⟩)
      · by_cases c : ∃ p ∈ cs, p.2 = b
        · exact .inr (.inl c)
        · exact .inl (Hn n c)
    · by_cases n : b = a
      · exact .inl n
      · by_cases c : ∃ p ∈ cs, p.2 = b
        · exact .inr c
        · exact absurd (Hn n c) y
    · by_cases n : b = a
      · rw [n, Ha] at q
        cases q
        rw [n]
        exact ⟨h.scr, by rw [List.length_map]; exact hl, vs, _, rv, h.scr⟩
      · by_cases c : ∃ p ∈ cs, p.2 = b
        · obtain ⟨p, hp, rfl⟩ := c
          rw [Ht p hp] at q
          cases q
          exact h.tab p hp
        · rw [Hn n c] at q
          cases q
/-- what is known of the law's promise at the head's heap -/
def LawG (l : PySem.W.OpenLaw) (w : World) (K : PySem.W.Frag) (CX : CXT) (k n : Nat) (x : Str) (mg : Str → Option Value) (fa : Addr) (h : Heap) : Prop :=
  ∃ (fd : FuncData) (cs : List (Addr × Addr)) (sp : Sp), (∀ p ∈ cs, h.get? p.2 = some { cls := .none, data := .fields #[] }) ∧
                                                                                                                               (∀ p ∈ cs, K.lookup p.2 = none) ∧ (∀ p ∈ cs, PySem.W.CodeHd h p.1 p.2) ∧ (∀ (s : Shared) (u : Value), BindsTo s fd ⟨[u], []⟩ [(x, u)]) ∧
    (∀ (H : Hp) (a : Addr) (ns : List Int), ns.length ≤ n → (∀ p ∈ cs, H p.2 = some (.tbl #[])) → SqL K H a (ns.map V.int) → sp [.ref a] H (fun v _ => v = .bl true) fun _ _ _ => False) ∧
    ∀ base : Heap, K.In base → base.Ns mainGlobals mg → (∀ p ∈ cs, TabB base mg p.1 p.2) → FnG l.prog w K mg base CX k fa fd [x] sp
theorem walkG {l : PySem.W.OpenLaw} {n k : Nat} {q : Program} {loose : List Str} {XP : (Str → Option Value) → Heap → Prop} {YP : World → Heap → Prop} {d : DefRec} {K : Params → PySem.W.Frag} {x : Str}
    (hn : l.most = some n) (hn2 : n ≤ sizeLine) (hdf : d.params.defaults = [])
                                                                               (hr : Room k callerA) (hY : ∀ (w : World) (h : Heap), YP w h → (K w.params).In h)
    (F : ∀ (w : World) (mg : Str → Option Value) (fa : Addr) (h : Heap), YP w h → (K w.params).In h → h.Ns mainGlobals mg → mg d.name = some (.ref fa) → LawG l w (K w.params) CX0 k n x mg fa h) :
    PySem.W.WalkO q loose XP YP l.row.toRowW d []
                                                  (fun f vs => PySem.call f vs) := by
  refine Att.attach_callB hn hdf fun w s₀ s₁ mg mb fa o pm cd doc a vs ns G Y ho hd hcd hmg hobj hints hlen hbits hg => ?_
  have KX := hY w _ Y
  obtain ⟨fd, cs, sp, hT, nT, C, hb, hsp, hF⟩ := F w mg fa _ Y KX G.T.g hmg
  exact (Ahead.mk KX G.T.g G.T.b G.T.builtins G.T.nolimit hg hT nT C G.T.bmain hobj).call hints (Nat.le_trans hlen hn2) hr hF hb (fun H hH hS => hsp H a ns hlen hH hS) fun H e s' z => z.elim
end
end GW
namespace K37
open PySem L2
open PyProof.Rows PySem.Spec
def putL (L : List (Str × Addr)) (n : Str) (q : Addr) : List (Str × Addr) := L.map fun p => if p.1 = n then (n, q) else p
def putR (R : Rws) (n : Str) (b e : Int) : Rws := R.map fun p => if p.1 = n then (n, b, e) else p
theorem putL_names (L : List (Str × Addr)) (n : Str) (q : Addr) : (putL L n q).map (·.1) = L.map (·.1) := by
  unfold putL
  rw [List.map_map]
  refine List.map_congr_left fun p _ => ?_
  show (if p.1 = n then (n, q) else p).1 = p.1
  split
  · next h => exact h.symm
  · rfl
theorem putR_names (R : Rws) (n : Str) (b e : Int) : (putR R n b e).map (·.1) = R.map (·.1) := by
  unfold putR
  rw [List.map_map]
  refine List.map_congr_left fun p _ => ?_
  show (if p.1 = n then (n, b, e) else p).1 = p.1
  split
  · next h => exact h.symm
  · rfl
theorem putR_mem {R : Rws} {n : Str} {b e : Int} {x : Str × Int × Int} (h : x ∈ putR R n b e) : x = (n, b, e) ∨ x ∈ R := by
  obtain ⟨p, hp, rfl⟩ := List.mem_map.mp h
  split
  · exact .inl rfl
  · exact .inr hp
theorem putR_in {R : Rws} {n : Str} {b e : Int} (h : n ∈ R.map (·.1)) : (n, b, e) ∈ putR R n b e := by
  obtain ⟨p, hp, q⟩ := List.mem_map.mp h
  exact List.mem_map.mpr ⟨p, hp, if_pos q⟩
theorem putK_old {L : List (Str × Addr)} {n : Str} {q : Addr} (h : n ∈ L.map (·.1)) : putK (Kvs L) (.inr n) (.ref q) = Kvs (putL L n q) := by
  unfold putK
  rw [if_pos]
  · unfold Kvs putL
    rw [List.map_map, List.map_map]
    refine List.map_congr_left fun p _ => ?_
    show (if (Sum.inr p.1 : Key) = Sum.inr n then ((Sum.inr p.1 : Key), V.ref q) else (Sum.inr p.1, V.ref p.2)) = (Sum.inr (if p.1 = n then (n, q) else p).1, V.ref (if p.1 = n then (n, q) else p).2)
    by_cases c : p.1 = n
    · rw [if_pos (congrArg _ c), if_pos c, c]
    · rw [if_neg (fun z => c (Sum.inr.inj z)), if_neg c]
  · obtain ⟨p, hp, e⟩ := List.mem_map.mp h
    refine List.any_eq_true.mpr ⟨(Sum.inr p.1, V.ref p.2), List.mem_map.mpr ⟨p, hp, rfl⟩, decide_eq_true ?_⟩
    rw [← e]
theorem Tups.put {H : Hp} {n : Str} {q : Addr} {b e : Int} (hq : TupAt H q b e) : ∀ {L : List (Str × Addr)} {R : Rws}, Tups H L R → Tups H (putL L n q) (putR R n b e)
  | _, _, .nil => .nil
  | _, _, .cons (n := m) (t := t) (b := c) (e := f) (L := L) (R := R) h ts => by
    show Tups H ((if m = n then (n, q) else (m, t)) :: putL L n q) ((if m = n then (n, b, e) else (m, c, f)) :: putR R n b e)
    split
    · exact .cons hq (Tups.put hq ts)
    · exact .cons h (Tups.put hq ts)
theorem Only.tr {r : Addr} {H H1 H2 : Hp} (a : Only r H H1) (b : Only r H1 H2) : Only r H H2 := fun c o n e => b c o n (a c o n e)
theorem ne_rl {H : Hp} {r d : Addr} {o : HO} (R : Rl H r) (hd : H d = some o) (h : ∀ xs, o ≠ .lst xs) : d ≠ r := fun z => by
  obtain ⟨x, y, t, q⟩ := R
  rw [z, q] at hd
  exact h _ (Option.some.inj hd).symm
theorem low_near {b e t : Int} {x : Str × Int × Int} (h : SpOk t x) : 1 ≤ x.2.2 - x.2.1 ∧ x.2.2 - x.2.1 ≤ 8 * t := h
section
variable {P : Program} {w : World} {K : PySem.W.Frag}
                                                      {mg : Str → Option Value} {base : Heap}
def sp_w_near (K : PySem.W.Frag) : Sp := fun vs H Q _ => ∃ (r d : Addr) (t : Int) (L : List (Str × Addr)) (R : Rws), vs = [.ref r, .ref d, .int t] ∧ Rl H r ∧ H d = some (.dK (Kvs L)) ∧ Tups H L R ∧ Good t R ∧ (∀ x ∈ R, Near 200000000000 x) ∧
  ∀ H', Rl H' r → Only r H H' → Q .non H' ∧ ∀ D L' R', H D = none → H' D = some (.dK (Kvs L')) → Tups H' L' R' → R'.map (·.1) = R.map (·.1) → Good t R' → (∃ n p q, (n, p) ∈ R ∧ (n, q) ∈ R' ∧ p ≠ q) → Q (.ref D) H'
theorem ok_w_near (T : T K mg) : FnOk P w K mg base CX0 3 T.f_w_near T.d_w_near ["tray", "rows", "interval"] (sp_w_near K) := by
  have G_w_pick : FnOk P w K mg base CX0 2 T.f_w_pick T.d_w_pick ["tray", "items"] (sp_w_pick K) := ok_w_pick T
  refine T.F_w_near.ok sc_w_near (fun vs H Q E h => ?_) (fun cdv A outer s H vs Q E hr h => ?_)
  · obtain ⟨r, d, t, L, R, rfl, _⟩ := h
    rfl
  · obtain ⟨r, d, t, L, R, rfl, R0, hd, ts, gd, nr, k⟩ := h
    have hu := hu_of hr
    have hr_w_pick : Room 2 _ := hr.mono (by decide)
    refine ⟨_, (pss_cons (ps_set (i := 3) sc_w_near.nd rfl (Or.inl rfl) (pe_call G_w_pick hr_w_pick rfl T.m_w_pick T.F_w_pick.kp T.b_w_pick .nil pass0 (pa_cons (pv 0) (pa_cons (pe_callB (call_sortedD rfl) (by rfl) T.z_sorted (by decide +kernel) (pa_cons (pv 1) pa_nil)) pa_nil))))
      (pss_cons (ps_asg (pe_dget (by exact hu) (pv 1) (pv 3) (fun _ _ => rfl)) (pg_tup rfl (pgs_cons (pg_name (i := 4) sc_w_near.nd rfl (Or.inl rfl)) (pgs_cons (pg_name (i := 5) sc_w_near.nd rfl (Or.inl rfl)) pgs_nil))))
      (pss_cons (ps_set (i := 6) sc_w_near.nd rfl (Or.inl rfl) (pe_lst (pa_cons (pe_tup (pa_cons (pe_op op_add (pv 4) (pv 2)) (pa_cons (pe_op op_add (pv 5) (pv 2)) pa_nil))) (pa_cons (pe_tup (pa_cons (pv 4) (pa_cons (pe_op op_add (pv 5) pe_int) pa_nil))) (pa_cons (pe_tup (pa_cons (pe_op op_sub (pv 4) pe_int) (pa_cons (pv 5) pa_nil))) (pa_cons (pe_tup (pa_cons (pe_op op_add (pv 4) pe_int) (pa_cons (pe_op op_add (pv 5) pe_int) pa_nil))) pa_nil))))))
      (pss_cons (ps_set (i := 7) sc_w_near.nd rfl (Or.inl rfl) (pe_callTy (call_dictP rfl) (by rfl) T.z_dict (by decide +kernel) (pa_cons (LiI.pe_listItems rfl (pv 1) (by rfl) T.z_list (by decide +kernel)) pa_nil)))
      (pss_cons (ps_dput (by exact hu) (pv 7) (pv 3) (pe_call G_w_pick hr_w_pick rfl T.m_w_pick T.F_w_pick.kp T.b_w_pick .nil pass0 (pa_cons (pv 0) (pa_cons (pv 6) pa_nil))) rfl)
      (pss_one (ps_ret (pe_ifExp (pt_cmpR op_le (pe_op op_sub (pe_ix ix_seq (pe_dget (by exact hu) (pv 7) (pv 3) (fun _ _ => rfl)) pe_int (fun _ _ => rfl)) (pe_ix ix_seq (pe_dget (by exact hu) (pv 7) (pv 3) (fun _ _ => rfl)) pe_int (fun _ _ => rfl))) (pe_op op_mul pe_int (pv 2)) (nomark _)) (pv 7) pe_non)))))))), ?_⟩
    have l8 := gd.l8
    have l1 := gd.l1
    have ndr := ne_rl R0 hd (fun _ z => by cases z)
    refine ⟨_, rfl, _, rfl, d, _, L.map (·.1), rfl, .inl hd, kvs_keys L, by rw [List.length_map, ts.len]; omega, fun ys q pm so hq => ?_⟩
    have S1 := Same.new (o := .lst (ys.map V.str)) hq
    have eq1 : (upd H q (.lst (ys.map V.str))) q = some (.lst (ys.map V.str)) := upd_same
    have R1 := Same.rl S1 R0
    have nqr : q ≠ r := fun z => by obtain ⟨x, y, u, e⟩ := R0; rw [z, e] at hq; cases hq
    generalize upd H q (.lst (ys.map V.str)) = H1 at S1 eq1 R1 ⊢
    rw [ts.names] at pm
    have ly : ys.length = R.length := by rw [pm.length_eq, List.length_map]
    refine ⟨r, .ref q, ys.map V.str, rfl, R1, .inl ⟨q, rfl, nqr, .inl (SqL.of eq1)⟩, by rw [List.length_map]; omega, by rw [List.length_map, sizeLine_eq]; omega, fun v H2 hv R2 O2 => ?_⟩
    obtain ⟨n, hn, rfl⟩ := List.mem_map.mp hv
    have hn : n ∈ R.map (·.1) := pm.mem_iff.mp hn
    have P2 : Only r H H2 := Only.tr (Same.only S1) O2
    have hd2 := P2 _ _ ndr hd
    have ts2 := ts.keep (KT.only P2 R0)
    obtain ⟨⟨n', b, e⟩, hm, rfl⟩ := List.mem_map.mp hn
    dsimp only at hn ⊢
    obtain ⟨a, va, ha⟩ := ts2.at gd.nd hm
    refine ⟨_, rfl, _, rfl, d, V.ref a, rfl, ?_, ?_⟩
    · have := DGet.k (k := Sum.inr n') hd2
      rw [va] at this
      exact this
    refine ⟨a, _, rfl, SqT.of ha, rfl, _, _, rfl, _, _, rfl, rfl, ?_⟩
    have nm : ∀ {Hx : Hp} {x : Addr}, Rl Hx r → Hx x = none → x ≠ r := fun Rx hx z => by
      obtain ⟨_, _, _, e⟩ := Rx
      rw [z, e] at hx
      cases hx
    refine ⟨_, rfl, _, rfl, _, _, rfl, rfl, _, rfl, _, rfl, _, _, rfl, rfl, by show 2 ≤ sizeLine; decide, fun q1 h1 => ?_⟩
    have A1 := Same.new (o := .tup [V.int (b + t), .int (e + t)]) h1
    have t1 : (upd H2 q1 (.tup [V.int (b + t), .int (e + t)])) q1 = some (.tup [V.int (b + t), .int (e + t)]) := upd_same
    generalize upd H2 q1 (.tup [V.int (b + t), .int (e + t)]) = Ha at A1 t1 ⊢
    refine ⟨_, rfl, _, rfl, _, _, rfl, rfl, by show 2 ≤ sizeLine; decide, fun q2 h2 => ?_⟩
    have A2 := Same.new (o := .tup [V.int b, .int (e + 1)]) h2
    have t2 : (upd Ha q2 (.tup [V.int b, .int (e + 1)])) q2 = some (.tup [V.int b, .int (e + 1)]) := upd_same
    generalize upd Ha q2 (.tup [V.int b, .int (e + 1)]) = Hb at A2 t2 ⊢
    refine ⟨_, rfl, _, _, rfl, rfl, _, rfl, by show 2 ≤ sizeLine; decide, fun q3 h3 => ?_⟩
    have A3 := Same.new (o := .tup [V.int (b - 1), .int e]) h3
    have t3 : (upd Hb q3 (.tup [V.int (b - 1), .int e])) q3 = some (.tup [V.int (b - 1), .int e]) := upd_same
    generalize upd Hb q3 (.tup [V.int (b - 1), .int e]) = Hc at A3 t3 ⊢
    refine ⟨_, rfl, _, _, rfl, rfl, _, rfl, _, _, rfl, rfl, by show 2 ≤ sizeLine; decide, fun q4 h4 => ?_⟩
    have A4 := Same.new (o := .tup [V.int (b + 1), .int (e + 1)]) h4
    have t4 : (upd Hc q4 (.tup [V.int (b + 1), .int (e + 1)])) q4 = some (.tup [V.int (b + 1), .int (e + 1)]) := upd_same
    generalize upd Hc q4 (.tup [V.int (b + 1), .int (e + 1)]) = Hd at A4 t4 ⊢
    refine ⟨by show 4 ≤ sizeLine; decide, fun l hl => ?_⟩
    have A5 := Same.new (o := .lst [V.ref q1, .ref q2, .ref q3, .ref q4]) hl
    have e5 : (upd Hd l (.lst [V.ref q1, .ref q2, .ref q3, .ref q4])) l = some (.lst [V.ref q1, .ref q2, .ref q3, .ref q4]) := upd_same
    have nlr : l ≠ r := nm (Same.rl (Same.trans A1 (Same.trans A2 (Same.trans A3 A4))) R2) hl
    generalize upd Hd l (.lst [V.ref q1, .ref q2, .ref q3, .ref q4]) = He at A5 e5 ⊢
    have S25 : Same H2 He := Same.trans A1 (Same.trans A2 (Same.trans A3 (Same.trans A4 A5)))
    have t1 := A5 _ _ (A4 _ _ (A3 _ _ (A2 _ _ t1)))
    have t2 := A5 _ _ (A4 _ _ (A3 _ _ t2))
    have t3 := A5 _ _ (A4 _ _ t3)
    have t4 := A5 _ _ t4
    clear A1 A2 A3 A4 A5
    have hd5 := S25 _ _ hd2
    refine ⟨_, rfl, d, Kvs L, rfl, hd5, fun H6 pl as S56 hpl has npl epl pas => ?_⟩
    have S56 : Same He H6 := S56
    refine ⟨pl, as, Kvs L, rfl, SqL.of epl, Paired.mapP pas (fun _ _ h => SqT.of h), fun D hD => ?_⟩
    have mk : mergeK [] (Kvs L) = Kvs L := (mergeK_kvs L [] (by rw [List.nil_append, ts.names]; exact gd.nd)).trans rfl
    rw [mk]
    have S67 := Same.new (o := .dK (Kvs L)) hD
    have e7 : (upd H6 D (.dK (Kvs L))) D = some (.dK (Kvs L)) := upd_same
    have R6 := Same.rl S56 (Same.rl S25 R2)
    have nDr : D ≠ r := nm R6 hD
    have nDH : H D = none := by
      cases q : H D with
      | none => rfl
      | some o =>
        by_cases c : D = r
        · exact absurd c nDr
        · have := S56 _ _ (S25 _ _ (P2 _ _ c q))
          rw [hD] at this
          cases this
    have R7 := Same.rl S67 R6
    have S27 : Same H2 (upd H6 D (.dK (Kvs L))) := Same.trans S25 (Same.trans S56 S67)
    have S57 : Same He (upd H6 D (.dK (Kvs L))) := Same.trans S56 S67
    generalize upd H6 D (.dK (Kvs L)) = H7 at e7 R7 S27 S57 ⊢
    have e57 := S57 _ _ e5
    refine ⟨_, rfl, _, rfl, r, .ref l, _, rfl, R7, .inl ⟨l, rfl, nlr, .inl (SqL.of e57)⟩, by show 0 < 4; decide, by show 4 ≤ sizeLine; decide, fun v H8 hv R8 O8 => ?_⟩
    have g1 := gd.sp _ hm
    have g2 := nr _ hm
    have g3 := gd.t1
    have g4 := gd.t2
    unfold SpOk at g1
    unfold Near at g2
    simp only at g1 g2
    obtain ⟨x, b', e', rfl, hx, n1, n2, n3⟩ : ∃ (x : Addr) (b' e' : Int), v = .ref x ∧ TupAt H8 x b' e' ∧ (b, e) ≠ (b', e') ∧ 1 ≤ e' - b' ∧ (-900000000000 ≤ b' ∧ e' ≤ 900000000000) := by
      have kp : ∀ {x : Addr} {b' e' : Int}, He x = some (.tup [V.int b', .int e']) → TupAt H8 x b' e' := fun q => KT.only O8 R7 _ _ (S57 _ _ q)
      simp only [List.mem_cons, List.not_mem_nil, or_false] at hv
      rcases hv with rfl | rfl | rfl | rfl
      · exact ⟨q1, _, _, rfl, kp t1, (fun z => by have := (Prod.mk.inj z).1; omega), by omega, by omega, by omega⟩
      · exact ⟨q2, _, _, rfl, kp t2, (fun z => by have := (Prod.mk.inj z).2; omega), by omega, by omega, by omega⟩
      · exact ⟨q3, _, _, rfl, kp t3, (fun z => by have := (Prod.mk.inj z).1; omega), by omega, by omega, by omega⟩
      · exact ⟨q4, _, _, rfl, kp t4, (fun z => by have := (Prod.mk.inj z).1; omega), by omega, by omega, by omega⟩
    have e8 := O8 _ _ nDr e7
    have ts8 := ((ts2.keep (KT.same S27)).keep (KT.only O8 R7))
    have nL : n' ∈ L.map (·.1) := by rw [ts.names]; exact hn
    refine ⟨_, rfl, _, rfl, D, _, rfl, DPut.k (k := Sum.inr n') e8 (by rw [kvs_len, ts.len, sizeLine_eq]; omega), ?_⟩
    rw [putK_old nL]
    have kt9 : KT H8 (upd H8 D (.dK (Kvs (putL L n' x)))) := KT.put e8 (fun _ z => by cases z)
    have e9 : (upd H8 D (.dK (Kvs (putL L n' x)))) D = some (.dK (Kvs (putL L n' x))) := upd_same
    have R9 : Rl (upd H8 D (.dK (Kvs (putL L n' x)))) r := by
      obtain ⟨x1, x2, x3, e⟩ := R8
      exact ⟨x1, x2, x3, by rw [upd_ne nDr.symm]; exact e⟩
    have ts9 := (ts8.keep kt9).put (n := n') (q := x) (kt9 _ _ hx)
    have O9 : Only r H (upd H8 D (.dK (Kvs (putL L n' x)))) := fun c o nc ec => by
      rw [upd_ne (ne_of_none ec nDH)]
      exact O8 _ _ nc (S27 _ _ (P2 _ _ nc ec))
    generalize upd H8 D (.dK (Kvs (putL L n' x))) = H9 at e9 R9 ts9 O9 ⊢
    obtain ⟨k1, k2⟩ := k H9 R9 O9
    obtain ⟨y, vy, hy⟩ := ts9.at (n := n') (b := b') (e := e') (by rw [putR_names]; exact gd.nd) (putR_in hn)
    have dg : DGet H9 D (.str n') (some (.ref y)) := by
      have := DGet.k (k := Sum.inr n') e9
      rw [vy] at this
      exact this
    refine ⟨_, rfl, _, rfl, D, V.ref y, rfl, dg, .inr (.inl ⟨y, _, _, _, rfl, rfl, SqT.of hy, rfl, _, rfl, _, rfl, D, V.ref y, rfl, dg, .inr (.inl ⟨y, _, _, _, rfl, rfl, SqT.of hy, rfl, _, _, rfl, rfl, ?_⟩)⟩)⟩
    refine ⟨_, rfl, _, _, rfl, rfl, .inl ⟨by decide, by decide⟩, _, _, rfl, rfl, _, rfl, ?_⟩
    by_cases c : e' - b' ≤ 8 * t
    · rw [decide_eq_true c]
      refine iteT ?_
      refine ⟨_, rfl, k2 D _ _ nDH e9 ts9 (putR_names ..) ⟨by rw [putR_names]; exact gd.nd, ?_, ?_, ?_, ?_, ?_, g3, g4⟩ ⟨n', (b, e), (b', e'), hm, putR_in hn, n1⟩⟩
      · unfold putR; rw [List.length_map]; exact l1
      · unfold putR; rw [List.length_map]; exact l8
      · intro z hz
        rcases putR_mem hz with rfl | hz
        · have h9 := gd.nm _ hm
          exact h9
        · exact gd.nm _ hz
      · intro z hz
        rcases putR_mem hz with rfl | hz
        · exact ⟨n2, c⟩
        · exact gd.sp _ hz
      · intro z hz
        rcases putR_mem hz with rfl | hz
        · exact n3
        · exact gd.nr _ hz
    · rw [decide_eq_false c]
      exact iteF k1
end
end K37
namespace K37
open PySem L2
open PyProof.Rows PySem.Spec
def OddO (o : HO) : Prop := (∃ ns : List Str, o = .tup (ns.map V.str)) ∨ (∃ b e : Int, o = .tup [.int b, .int e]) ∨ (∃ ns : List Str, o = .lst (ns.map V.str)) ∨ ∃ kvs : List (Key × V), o = .dK kvs
/-- values among the odd ones -/
inductive YX (C r p : Addr) (H : Hp) : V → Prop
  | str (z : Str) : YX C r p H (.str z)
  | non : YX C r p H .non
  | int (i : Int) : YX C r p H (.int i)
  | bl (b : Bool) : YX C r p H (.bl b)
  | obj {a : Addr} {o : HO} : a ≠ r → H a = some o → OddO o → YX C r p H (.ref a)
  | own {t : Int} {S : Rws} : SpAt H C p t S → YX C r p H (.ref p)
theorem YX.only {C r p : Addr} {H H' : Hp} (o : Only r H H') (R : Rl H r) {y : V} (h : YX C r p H y) : YX C r p H' y := by
  cases h with
  | str z => exact .str z
  | non => exact .non
  | int i => exact .int i
  | bl b => exact .bl b
  | obj n e q => exact .obj n (o _ _ n e) q
  | own s => exact .own (s.only o R)
theorem YX.same {C r p : Addr} {H H' : Hp} (s : Same H H') {y : V} (h : YX C r p H y) : YX C r p H' y := by
  cases h with
  | str z => exact .str z
  | non => exact .non
  | int i => exact .int i
  | bl b => exact .bl b
  | obj n e q => exact .obj n (s _ _ e) q
  | own q => exact .own (q.same s)
theorem dss_strs {K : PySem.W.Frag} {H : Hp} : ∀ ns : List Str, RL.DSs K H (ns.map V.str) (ns.map PyData.str)
  | [] => .nil
  | n :: ns => .cons (.str n) (dss_strs ns)
theorem plain_strs : ∀ ns : List Str, PyData.plainAll (ns.map PyData.str) = true ∧ PyData.depthAll (ns.map PyData.str) ≤ 1
  | [] => ⟨by simp [PyData.plainAll], by simp [PyData.depthAll]⟩
  | n :: ns => by
    obtain ⟨h1, h2⟩ := plain_strs ns
    refine ⟨by simp [PyData.plainAll, PyData.plain, h1], ?_⟩
    simp [PyData.depthAll, PyData.depth]
    exact h2
theorem OddO.odd {K : PySem.W.Frag} {H : Hp} {C a : Addr} {o : HO} (e : H a = some o) (h : OddO o) : Odd K H C (.ref a) := by
  rcases h with ⟨ns, rfl⟩ | ⟨b, c, rfl⟩ | ⟨ns, rfl⟩ | ⟨kvs, rfl⟩
  · refine .inl ⟨.tuple (ns.map PyData.str), .tup (SqT.of e) (dss_strs ns), ?_, ?_, fun z => by simp [PyData.eqv]⟩
    · simpa [PyData.plain] using (plain_strs ns).1
    · have := (plain_strs ns).2
      simp only [PyData.depth]
      omega
  · refine .inl ⟨.tuple [.int b, .int c], .tup (SqT.of e) (.cons (.int b) (.cons (.int c) .nil)), ?_, ?_, fun z => by simp [PyData.eqv]⟩
    · simp [PyData.plain, PyData.plainAll]
    · simp [PyData.depth, PyData.depthAll]
  · refine .inl ⟨.list (ns.map PyData.str), .lst (SqL.of e) (dss_strs ns), ?_, ?_, fun z => by simp [PyData.eqv]⟩
    · simpa [PyData.plain] using (plain_strs ns).1
    · have := (plain_strs ns).2
      simp only [PyData.depth]
      omega
  · exact .inr (.inl ⟨a, kvs, rfl, e⟩)
/-- what is behind the choice: a text that is no name, or an odd value -/
theorem YX.odd {K : PySem.W.Frag} {C r p : Addr} {H : Hp} {y : V} (h : YX C r p H y) : (∃ z, y = .str z) ∨ Odd K H C y := by
  cases h with
  | str z => exact .inl ⟨z, rfl⟩
  | non => exact .inr (.inl ⟨.none, .non, by simp [PyData.plain], by simp [PyData.depth], fun z => by simp [PyData.eqv]⟩)
  | int i => exact .inr (.inl ⟨.int i, .int i, by simp [PyData.plain], by simp [PyData.depth], fun z => by simp [PyData.eqv]⟩)
  | bl b => exact .inr (.inl ⟨.bool b, .bl b, by simp [PyData.plain], by simp [PyData.depth], fun z => by simp [PyData.eqv]⟩)
  | obj n e q => exact .inr (q.odd e)
  | own q => exact .inr (.inr (.inr ⟨_, _, _, rfl, q⟩))
theorem cutV_sub (xs : List V) (lo hi : Option Int) : (∀ y ∈ cutV xs lo hi, y ∈ xs) ∧ (cutV xs lo hi).length ≤ xs.length := by
  unfold cutV
  refine ⟨fun y hy => List.mem_of_mem_drop (List.mem_of_mem_take hy), ?_⟩
  rw [List.length_take, List.length_drop]
  omega
section
variable {P : Program} {w : World} {K : PySem.W.Frag}
                                                      {mg : Str → Option Value} {base : Heap}
theorem YX.ty {r p : Addr} {H : Hp} {y : V} (U : UX K mg) (h : YX U.C r p H y) : (∃ z, y = .str z) ∨ ((∀ z, y ≠ .str z) ∧ ∃ tt, TyX K H y tt ∧ PySem.W.kitOne K tt (.type "str") = some false) := by
  cases h with
  | str z => exact .inl ⟨z, rfl⟩
  | non => exact .inr ⟨(fun _ z => by cases z), _, .base .non, kit_ty (by decide +kernel)⟩
  | int i => exact .inr ⟨(fun _ z => by cases z), _, .base (.int i), kit_ty (by decide +kernel)⟩
  | bl b => exact .inr ⟨(fun _ z => by cases z), _, .base (.bl b), kit_ty (by decide +kernel)⟩
  | obj n e q =>
    rcases q with ⟨ns, rfl⟩ | ⟨b, c, rfl⟩ | ⟨ns, rfl⟩ | ⟨kvs, rfl⟩
    · exact .inr ⟨(fun _ z => by cases z), _, .base (.tup e), kit_ty (by decide +kernel)⟩
    · exact .inr ⟨(fun _ z => by cases z), _, .base (.tup e), kit_ty (by decide +kernel)⟩
    · exact .inr ⟨(fun _ z => by cases z), _, .base (.lst e), kit_ty (by decide +kernel)⟩
    · exact .inr ⟨(fun _ z => by cases z), _, .base (.dK e), kit_ty (by decide +kernel)⟩
  | own q =>
    obtain ⟨_, _, dx, rd, nm, lv, cr, L, h1, _⟩ := q
    exact .inr ⟨(fun _ z => by cases z), _, .base (.ins h1 U.cl U.ca U.cg U.ct U.mo), U.ks⟩
def sp_w_odd (K : PySem.W.Frag) (C : Addr) : Sp := fun vs H Q _ => ∃ (r d p : Addr) (t : Int) (L : List (Str × Addr)) (R S : Rws), vs = [.ref r, .ref d, .ref p] ∧ Rl H r ∧ H d = some (.dK (Kvs L)) ∧ Tups H L R ∧ Good t R ∧ SpAt H C p t S ∧
  ∀ l ys H', Rl H' r → Only r H H' → H l = none → H' l = some (.lst ys) → ys.length ≤ 40 → (∀ y ∈ ys, YX C r p H' y ∧ ∀ z, y = .str z → z ∉ R.map (·.1)) → Q (.ref l) H'
theorem ok_w_odd (T : T K mg) (U : UX K mg) : FnOk P w K mg base CX0 3 T.f_w_odd T.d_w_odd ["tray", "rows", "spans"] (sp_w_odd K U.C) := by
  have G_w_few : FnOk P w K mg base CX0 2 T.f_w_few T.d_w_few ["tray", "items", "many"] (sp_w_few K) := ok_w_few T
  refine T.F_w_odd.ok sc_w_odd (fun vs H Q E h => ?_) (fun cdv A outer s H vs Q E hr h => ?_)
  · obtain ⟨r, d, p, t, L, R, S, rfl, _⟩ := h
    rfl
  · obtain ⟨r, d, p, t, L, R, S, rfl, R0, hd, ts, gd, sp, k⟩ := h
    have hu := hu_of hr
    have hr_w_few : Room 2 _ := hr.mono (by decide)
    refine ⟨_, (pss_cons (ps_set (i := 3) sc_w_odd.nd rfl (Or.inl rfl) (pe_ix ix_seq (pe_callB (call_sortedD rfl) (by rfl) T.z_sorted (by decide +kernel) (pa_cons (pv 1) pa_nil)) pe_int (fun _ _ => rfl)))
      (pss_cons (ps_set (i := 4) sc_w_odd.nd rfl (Or.inl rfl) (pe_lst (pa_cons pe_non (pa_cons pe_int (pa_cons pe_int (pa_cons pe_bl (pa_cons pe_str (pa_cons pe_str (pa_cons (pe_tup pa_nil) (pa_cons (pe_lst pa_nil) (pa_cons pe_dnewK (pa_cons (pe_tup (pa_cons (pv 3) pa_nil)) (pa_cons (pe_lst (pa_cons (pv 3) pa_nil)) (pa_cons (pe_disp (pps_cons (pv 3) pe_int pps_nil) rfl rfl (by decide) (by decide)) (pa_cons (pe_dget (by exact hu) (pv 1) (pv 3) (fun _ _ => rfl)) (pa_cons (pv 2) (pa_cons (pe_op op_add_str (pv 3) (pv 3)) pa_nil)))))))))))))))))
      (pss_cons (ps_set (i := 4) sc_w_odd.nd rfl (Or.inl rfl) (pe_op op_cat (pv 4) (pe_lst (pa_cons (pe_upper (pv 3)) (pa_cons (pe_op op_add_str pe_str (pv 3)) (pa_cons (pe_callTy call_tuple_of (by rfl) T.z_tuple (by decide +kernel) (pa_cons (pe_callB (call_sortedD rfl) (by rfl) T.z_sorted (by decide +kernel) (pa_cons (pv 1) pa_nil)) pa_nil)) (pa_cons (pe_callTy (call_list_dK rfl) (by rfl) T.z_list (by decide +kernel) (pa_cons (pv 1) pa_nil)) pa_nil)))))))
      (pss_cons (ps_setLc (i := 5) (own := [("letter", 6)]) (g := gName 6) rfl sc_w_odd.nd rfl rfl (sw_true rfl rfl rfl (by decide +kernel)) (pi_str pe_str) (blkOk_by (N := ["tray", "rows", "spans", "name", "odd", "free", "letter", "one"]) (sc := defScope s_w_odd) (by decide +kernel)) (fun _ _ _ _ _ => (pg_name (i := 6) sc_w_odd.nd rfl (Or.inl rfl))) (fun _ _ _ _ _ => pts_one (pt_cmp (pc_dnotin (by exact hu) (pv 6) (pv 1)))) (fun _ _ _ _ _ => (pv 6)))
      (pss_cons (ps_setLc (i := 4) (own := [("one", 7)]) (g := gName 7) rfl sc_w_odd.nd rfl rfl (sw_true rfl rfl rfl (by decide +kernel)) (pi_list (pv 4)) (blkOk_by (N := ["tray", "rows", "spans", "name", "odd", "free", "letter", "one"]) (sc := defScope s_w_odd) (by decide +kernel)) (fun _ _ _ _ _ => (pg_name (i := 7) sc_w_odd.nd rfl (Or.inl rfl))) (fun _ _ _ _ _ => pts_one (PW.pt (pw_or (pt_not (pt_val (pe_callB (r := rIsi K) call_isi (by rfl) T.z_isinstance (by decide +kernel) (pa_cons (pv 7) (pa_cons (pe_bltn (v := V.ty "str") (u := Value.type "str") (by rfl) T.z_str (by decide +kernel) rfl) pa_nil))))) (pw_or1 (pt_cmp (pc_dnotin (by exact hu) (pv 7) (pv 1))))))) (fun _ _ _ _ _ => (pv 7)))
      (pss_one (ps_ret (pe_op op_cat (pe_call G_w_few hr_w_few rfl T.m_w_few T.F_w_few.kp T.b_w_few .nil pass0 (pa_cons (pv 0) (pa_cons (pv 4) (pa_cons pe_int pa_nil)))) (pe_slice sl_list (pv 5) po_none (po_some pe_int)))))))))), ?_⟩
    have l8 := gd.l8
    have l1 := gd.l1
    have ndr := ne_rl R0 hd (fun _ z => by cases z)
    have nm : ∀ {Hx : Hp} {x : Addr}, Rl Hx r → Hx x = none → x ≠ r := fun Rx hx z => by
      obtain ⟨_, _, _, e⟩ := Rx
      rw [z, e] at hx
      cases hx
    refine ⟨_, rfl, d, _, L.map (·.1), rfl, .inl hd, kvs_keys L, by rw [List.length_map, ts.len]; omega, fun ys q0 pm so hq0 => ?_⟩
    rw [ts.names] at pm
    cases ys with
    | nil => have := pm.length_eq; rw [List.length_map] at this; simp at this; omega
    | cons n ys0 =>
    have hn : n ∈ R.map (·.1) := pm.mem_iff.mp List.mem_cons_self
    have A0 := Same.new (o := .lst ((n :: ys0).map V.str)) hq0
    have e0 : (upd H q0 (.lst ((n :: ys0).map V.str))) q0 = some (.lst ((n :: ys0).map V.str)) := upd_same
    have RHa := Same.rl A0 R0
    generalize upd H q0 (.lst ((n :: ys0).map V.str)) = Ha at A0 e0 RHa ⊢
    refine .inl ⟨q0, _, _, .str n, rfl, rfl, SqL.of e0, atI_nat (j := 0) rfl, ?_⟩
    have nl := nmC_len (show nmC n = true from by obtain ⟨x, hx, rfl⟩ := List.mem_map.mp hn; exact gd.nm x hx)
    obtain ⟨⟨n', b, e⟩, hm, rfl⟩ := List.mem_map.mp hn
    dsimp only at hn nl e0 ⊢
    refine ⟨by show 0 ≤ sizeLine; decide, fun q1 hq1 => ?_⟩
    have Aq1 := Same.new (o := HO.tup ([] : List V)) hq1
    have eq1 : (upd Ha q1 (HO.tup ([] : List V))) q1 = some (HO.tup ([] : List V)) := upd_same
    have nq1 : q1 ≠ r := nm RHa hq1
    have RHb := Same.rl Aq1 RHa
    generalize upd Ha q1 (HO.tup ([] : List V)) = Hb at Aq1 eq1 RHb ⊢
    refine ⟨by show 0 ≤ sizeLine; decide, fun q2 hq2 => ?_⟩
    have Aq2 := Same.new (o := HO.lst ([] : List V)) hq2
    have eq2 : (upd Hb q2 (HO.lst ([] : List V))) q2 = some (HO.lst ([] : List V)) := upd_same
    have nq2 : q2 ≠ r := nm RHb hq2
    have RHc := Same.rl Aq2 RHb
    generalize upd Hb q2 (HO.lst ([] : List V)) = Hc at Aq2 eq2 RHc ⊢
    refine fun q3 hq3 => ?_
    have Aq3 := Same.new (o := HO.dK []) hq3
    have eq3 : (upd Hc q3 (HO.dK [])) q3 = some (HO.dK []) := upd_same
    have nq3 : q3 ≠ r := nm RHc hq3
    have RHd := Same.rl Aq3 RHc
    generalize upd Hc q3 (HO.dK []) = Hd at Aq3 eq3 RHd ⊢
    refine ⟨_, rfl, by show 1 ≤ sizeLine; decide, fun q4 hq4 => ?_⟩
    have Aq4 := Same.new (o := HO.tup [V.str n']) hq4
    have eq4 : (upd Hd q4 (HO.tup [V.str n'])) q4 = some (HO.tup [V.str n']) := upd_same
    have nq4 : q4 ≠ r := nm RHd hq4
    have RHe := Same.rl Aq4 RHd
    generalize upd Hd q4 (HO.tup [V.str n']) = He at Aq4 eq4 RHe ⊢
    refine ⟨_, rfl, by show 1 ≤ sizeLine; decide, fun q5 hq5 => ?_⟩
    have Aq5 := Same.new (o := HO.lst [V.str n']) hq5
    have eq5 : (upd He q5 (HO.lst [V.str n'])) q5 = some (HO.lst [V.str n']) := upd_same
    have nq5 : q5 ≠ r := nm RHe hq5
    have RHf := Same.rl Aq5 RHe
    generalize upd He q5 (HO.lst [V.str n']) = Hf at Aq5 eq5 RHf ⊢
    refine fun q6 hq6 => ⟨_, rfl, upd_same, [(.inr n', .int 1)], rfl, by show 1 ≤ 15; decide, ?_⟩
    have Aq6 : Same Hf (upd (upd Hf q6 (.dK [])) q6 (.dK (mergeK [] [(.inr n', .int 1)]))) := Same.at hq6 (Same.new hq6)
    have eq6 : (upd (upd Hf q6 (.dK [])) q6 (.dK (mergeK [] [(.inr n', .int 1)]))) q6 = some (.dK (mergeK [] [(.inr n', .int 1)])) := upd_same
    have nq6 : q6 ≠ r := nm RHf hq6
    have RHg := Same.rl Aq6 RHf
    generalize upd (upd Hf q6 (.dK [])) q6 (.dK (mergeK [] [(.inr n', .int 1)])) = Hg at Aq6 eq6 RHg ⊢
    have SHg : Same H Hg := Same.trans A0 (Same.trans Aq1 (Same.trans Aq2 (Same.trans Aq3 (Same.trans Aq4 (Same.trans Aq5 Aq6)))))
    obtain ⟨a, va, ha⟩ := (ts.keep (KT.same SHg)).at gd.nd hm
    have na : a ≠ r := ne_rl RHg ha (fun _ z => by cases z)
    refine ⟨_, rfl, _, rfl, d, V.ref a, rfl, ?_, ?_⟩
    · have := DGet.k (k := Sum.inr n') (SHg _ _ hd)
      rw [va] at this
      exact this
    refine ⟨_, rfl, _, rfl, _, rfl, _, _, rfl, rfl, by rw [sizeLine_eq]; omega, ?_⟩
    refine ⟨by show 15 ≤ sizeLine; decide, fun l1 hl1 => ?_⟩
    have Al1 := Same.new (o := HO.lst [V.non, .int 0, .int 1, .bl true, .str (Str.ofString ""), .str (Str.ofString "A"), .ref q1, .ref q2, .ref q3, .ref q4, .ref q5, .ref q6, .ref a, .ref p, .str (n' ++ n')]) hl1
    have el1 : (upd Hg l1 (HO.lst [V.non, .int 0, .int 1, .bl true, .str (Str.ofString ""), .str (Str.ofString "A"), .ref q1, .ref q2, .ref q3, .ref q4, .ref q5, .ref q6, .ref a, .ref p, .str (n' ++ n')])) l1 = some (HO.lst [V.non, .int 0, .int 1, .bl true, .str (Str.ofString ""), .str (Str.ofString "A"), .ref q1, .ref q2, .ref q3, .ref q4, .ref q5, .ref q6, .ref a, .ref p, .str (n' ++ n')]) := upd_same
    have nl1 : l1 ≠ r := nm RHg hl1
    have RHh := Same.rl Al1 RHg
    generalize upd Hg l1 (HO.lst [V.non, .int 0, .int 1, .bl true, .str (Str.ofString ""), .str (Str.ofString "A"), .ref q1, .ref q2, .ref q3, .ref q4, .ref q5, .ref q6, .ref a, .ref p, .str (n' ++ n')]) = Hh at Al1 el1 RHh ⊢
    have Y1 : ∀ y ∈ [V.non, .int 0, .int 1, .bl true, .str (Str.ofString ""), .str (Str.ofString "A"), .ref q1, .ref q2, .ref q3, .ref q4, .ref q5, .ref q6, .ref a, .ref p, .str (n' ++ n')], YX U.C r p Hh y := by
      have k1 := Al1 _ _ (Aq6 _ _ (Aq5 _ _ (Aq4 _ _ (Aq3 _ _ (Aq2 _ _ eq1)))))
      have k2 := Al1 _ _ (Aq6 _ _ (Aq5 _ _ (Aq4 _ _ (Aq3 _ _ eq2))))
      have k3 := Al1 _ _ (Aq6 _ _ (Aq5 _ _ (Aq4 _ _ eq3)))
      have k4 := Al1 _ _ (Aq6 _ _ (Aq5 _ _ eq4))
      have k5 := Al1 _ _ (Aq6 _ _ eq5)
      have k6 := Al1 _ _ eq6
      have k7 := Al1 _ _ ha
      intro y hy
      simp only [List.mem_cons, List.not_mem_nil, or_false] at hy
      rcases hy with rfl | rfl | rfl | rfl | rfl | rfl | rfl | rfl | rfl | rfl | rfl | rfl | rfl | rfl | rfl
      · exact .non
      · exact .int 0
      · exact .int 1
      · exact .bl true
      · exact .str _
      · exact .str _
      · exact .obj nq1 k1 (.inl ⟨[], rfl⟩)
      · exact .obj nq2 k2 (.inr (.inr (.inl ⟨[], rfl⟩)))
      · exact .obj nq3 k3 (.inr (.inr (.inr ⟨_, rfl⟩)))
      · exact .obj nq4 k4 (.inl ⟨[n'], rfl⟩)
      · exact .obj nq5 k5 (.inr (.inr (.inl ⟨[n'], rfl⟩)))
      · exact .obj nq6 k6 (.inr (.inr (.inr ⟨_, rfl⟩)))
      · exact .obj na k7 (.inr (.inl ⟨_, _, rfl⟩))
      · exact .own (sp.same (Same.trans SHg Al1))
      · exact .str _
    have SHh := Same.trans SHg Al1
    have lx1 : ([V.non, .int 0, .int 1, .bl true, .str (Str.ofString ""), .str (Str.ofString "A"), .ref q1, .ref q2, .ref q3, .ref q4, .ref q5, .ref q6, .ref a, .ref p, .str (n' ++ n')] : List V).length = 15 := rfl
    have lu : ∀ z : Str, z.length ≤ 8 → z.length ≤ 5592405 := fun z h => Nat.le_trans h (by decide)
    generalize ([V.non, .int 0, .int 1, .bl true, .str (Str.ofString ""), .str (Str.ofString "A"), .ref q1, .ref q2, .ref q3, .ref q4, .ref q5, .ref q6, .ref a, .ref p, .str (n' ++ n')] : List V) = xs1 at el1 Y1 lx1 ⊢
    clear Aq1 Aq2 Aq3 Aq4 Aq5 Aq6 eq1 eq2 eq3 eq4 eq5 eq6 A0 ha Al1
    -- odd + [..]
    refine ⟨_, rfl, _, rfl, ⟨n', rfl⟩, n', rfl, rfl, lu _ nl.2, ?_⟩
    have b1 : (Str.ofString " ").length = 1 := by decide +kernel
    refine ⟨_, rfl, _, _, rfl, rfl, by rw [b1, sizeLine_eq]; omega, ?_⟩
    refine ⟨_, rfl, d, _, L.map (·.1), rfl, .inl (SHh _ _ hd), kvs_keys L, by rw [List.length_map, ts.len]; omega, fun ys2 q7 pm2 so2 hq7 => ?_⟩
    have A7 := Same.new (o := .lst (ys2.map V.str)) hq7
    have e7 : (upd Hh q7 (.lst (ys2.map V.str))) q7 = some (.lst (ys2.map V.str)) := upd_same
    have RHi := Same.rl A7 RHh
    generalize upd Hh q7 (.lst (ys2.map V.str)) = Hi at A7 e7 RHi ⊢
    refine ⟨q7, _, rfl, .inl ⟨SqL.of e7, fun q8 hq8 => ?_⟩⟩
    have A8 := Same.new (o := .tup (ys2.map V.str)) hq8
    have e8 : (upd Hi q8 (.tup (ys2.map V.str))) q8 = some (.tup (ys2.map V.str)) := upd_same
    have n8 : q8 ≠ r := nm RHi hq8
    have RHj := Same.rl A8 RHi
    generalize upd Hi q8 (.tup (ys2.map V.str)) = Hj at A8 e8 RHj ⊢
    have hdj := A8 _ _ (A7 _ _ (SHh _ _ hd))
    refine ⟨_, rfl, d, Kvs L, rfl, hdj, fun q9 hq9 => ?_⟩
    rw [kvs_kv]
    have A9 := Same.new (o := .lst ((L.map (·.1)).map V.str)) hq9
    have e9 : (upd Hj q9 (.lst ((L.map (·.1)).map V.str))) q9 = some (.lst ((L.map (·.1)).map V.str)) := upd_same
    have n9 : q9 ≠ r := nm RHj hq9
    have RHk := Same.rl A9 RHj
    generalize upd Hj q9 (.lst ((L.map (·.1)).map V.str)) = Hk at A9 e9 RHk ⊢
    refine ⟨by show 4 ≤ sizeLine; decide, fun l2 hl2 => ?_⟩
    have Al2 := Same.new (o := HO.lst [V.str (Txt.upper n'), .str (Str.ofString " " ++ n'), .ref q8, .ref q9]) hl2
    have el2 : (upd Hk l2 (HO.lst [V.str (Txt.upper n'), .str (Str.ofString " " ++ n'), .ref q8, .ref q9])) l2 = some (HO.lst [V.str (Txt.upper n'), .str (Str.ofString " " ++ n'), .ref q8, .ref q9]) := upd_same
    have nl2 : l2 ≠ r := nm RHk hl2
    have RHl := Same.rl Al2 RHk
    generalize upd Hk l2 (HO.lst [V.str (Txt.upper n'), .str (Str.ofString " " ++ n'), .ref q8, .ref q9]) = Hl at Al2 el2 RHl ⊢
    have Shl : Same Hh Hl := Same.trans A7 (Same.trans A8 (Same.trans A9 Al2))
    have Y2 : ∀ y ∈ [V.str (Txt.upper n'), .str (Str.ofString " " ++ n'), .ref q8, .ref q9], YX U.C r p Hl y := by
      have k8 := Al2 _ _ (A9 _ _ e8)
      have k9 := Al2 _ _ e9
      intro y hy
      simp only [List.mem_cons, List.not_mem_nil, or_false] at hy
      rcases hy with rfl | rfl | rfl | rfl
      · exact .str _
      · exact .str _
      · exact .obj n8 k8 (.inl ⟨_, rfl⟩)
      · exact .obj n9 k9 (.inr (.inr (.inl ⟨_, rfl⟩)))
    have lx2 : ([V.str (Txt.upper n'), .str (Str.ofString " " ++ n'), .ref q8, .ref q9] : List V).length = 4 := rfl
    generalize ([V.str (Txt.upper n'), .str (Str.ofString " " ++ n'), .ref q8, .ref q9] : List V) = xs2 at el2 Y2 lx2 ⊢
    refine ⟨l1, l2, xs1, xs2, rfl, rfl, Shl _ _ el1, el2, by rw [lx1, lx2, sizeLine_eq]; decide, fun l3 hl3 => ?_⟩
    have A3 := Same.new (o := .lst (xs1 ++ xs2)) hl3
    have el3 : (upd Hl l3 (.lst (xs1 ++ xs2))) l3 = some (.lst (xs1 ++ xs2)) := upd_same
    have RHm := Same.rl A3 RHl
    have SHm : Same H (upd Hl l3 (.lst (xs1 ++ xs2))) := Same.trans SHh (Same.trans Shl A3)
    have Y3 : ∀ y ∈ xs1 ++ xs2, YX U.C r p (upd Hl l3 (.lst (xs1 ++ xs2))) y := fun y hy => by
      rcases List.mem_append.mp hy with hy | hy
      · exact (Y1 y hy).same (Same.trans Shl A3)
      · exact (Y2 y hy).same A3
    have lx3 : (xs1 ++ xs2).length = 19 := by rw [List.length_append, lx1, lx2]
    generalize upd Hl l3 (.lst (xs1 ++ xs2)) = Hm at el3 RHm SHm Y3 ⊢
    generalize xs1 ++ xs2 = xs at el3 Y3 lx3 ⊢
    clear Y1 Y2 el1 el2 lx1 lx2 A7 A8 A9 e7 e8 e9 hdj Al2 Shl A3 RHh RHi RHj RHk RHl
    -- free
    have dn : ∀ {Hx : Hp}, Hx d = some (.dK (Kvs L)) → ∀ z : Str, ∃ o : Option V, DGet Hx d (.str z) o ∧ (o.isSome = decide (z ∈ R.map (·.1))) := fun hx z => by
      refine ⟨_, DGet.k (k := Sum.inr z) hx, ?_⟩
      by_cases c : z ∈ R.map (·.1)
      · rw [decide_eq_true c]
        obtain ⟨x, hx, rfl⟩ := List.mem_map.mp c
        obtain ⟨t', h1, _⟩ := ts.at gd.nd (show (x.1, x.2.1, x.2.2) ∈ R from hx)
        rw [h1]
        rfl
      · rw [decide_eq_false c, valV_none (by rw [ts.names]; exact c)]
        rfl
    have hdm := SHm _ _ hd
    refine ⟨_, rfl, fun D hD => ?_⟩
    have nD : D ≠ r := nm RHm hD
    refine lc_it walk_str (fun i H' => Same Hm H' ∧ ∃ fs : List Str, H' D = some (.lst (fs.map V.str)) ∧ (∀ z ∈ fs, z ∉ R.map (·.1)) ∧ fs.length ≤ i) ⟨Same.new hD, [], upd_same, (fun _ h => by cases h), Nat.le_refl _⟩ (fun _ _ _ _ => trivial) ?_ ?_
    · rintro i y H1 H2 hi ⟨S1, fs, eD, hfs, lfs⟩ ⟨rfl, c, hc, rfl⟩
      refine ⟨rfl, ?_⟩
      obtain ⟨o, dg, ho⟩ := dn (S1 _ _ hdm) ⟨#[c]⟩
      have li : i < 26 := hi
      refine ⟨_, rfl, _, rfl, d, o, rfl, dg, _, rfl, ?_⟩
      rw [ho]
      by_cases c1 : (⟨#[c]⟩ : Str) ∈ R.map (·.1)
      · rw [decide_eq_true c1]
        exact iteF ⟨S1, fs, eD, hfs, Nat.le_succ_of_le lfs⟩
      · rw [decide_eq_false c1]
        refine iteT ⟨_, rfl, _, eD, by rw [List.length_map, sizeLine_eq]; omega, Same.at hD S1, fs ++ [⟨#[c]⟩], by rw [upd_same, List.map_append]; rfl, ?_, by rw [List.length_append]; show _ + 1 ≤ _; omega⟩
        intro z hz
        rcases List.mem_append.mp hz with hz | hz
        · exact hfs z hz
        · rw [List.mem_singleton.mp hz]
          exact c1
    rintro Hn ⟨Smn, fs, eD, hfs, lfs⟩
    have lfs : fs.length ≤ 26 := lfs
    have RHn := Same.rl Smn RHm
    have SHn := Same.trans SHm Smn
    have el3n := Smn _ _ el3
    have Y4 : ∀ y ∈ xs, YX U.C r p Hn y := fun y hy => (Y3 y hy).same Smn
    have hdn := SHn _ _ hd
    clear Y3 hdm el3
    -- odd
    refine ⟨_, rfl, l3, rfl, ⟨_, SqL.of el3n⟩, fun F hF => ?_⟩
    have nF : F ≠ r := nm RHn hF
    have nFD : D ≠ F := ne_of_none eD hF
    refine lc_list (xs := xs) (fun i H' => Same Hn H' ∧ ∃ gs : List V, H' F = some (.lst gs) ∧ (∀ y ∈ gs, y ∈ xs ∧ ∀ z, y = .str z → z ∉ R.map (·.1)) ∧ gs.length ≤ i) ⟨Same.new hF, [], upd_same, (fun _ h => by cases h), Nat.le_refl _⟩ (fun i H' _ h => SqL.of (h.1 _ _ el3n)) ?_ ?_
    · rintro i y H1 hx ⟨S1, gs, eF, hgs, lgs⟩
      have my := List.mem_of_getElem? hx
      have li : i < xs.length := (List.getElem?_eq_some_iff.mp hx).1
      have yes : (∀ z, y = .str z → z ∉ R.map (·.1)) → ∃ acc, H1 F = some (.lst acc) ∧ acc.length < sizeLine ∧ Same Hn (upd H1 F (.lst (acc ++ [y]))) ∧ ∃ gs : List V, (upd H1 F (.lst (acc ++ [y]))) F = some (.lst gs) ∧ (∀ y ∈ gs, y ∈ xs ∧ ∀ z, y = .str z → z ∉ R.map (·.1)) ∧ gs.length ≤ i + 1 := fun hy => by
        refine ⟨_, eF, by rw [sizeLine_eq]; omega, Same.at hF S1, gs ++ [y], upd_same, ?_, by rw [List.length_append]; show _ + 1 ≤ _; omega⟩
        intro u hu2
        rcases List.mem_append.mp hu2 with hu2 | hu2
        · exact hgs u hu2
        · rw [List.mem_singleton.mp hu2]
          exact ⟨my, hy⟩
      refine ⟨rfl, ?_⟩
      rcases ((Y4 y my).same S1).ty U with ⟨z, rfl⟩ | ⟨nz, tt, ht, hk⟩
      · obtain ⟨o, dg, ho⟩ := dn (S1 _ _ hdn) z
        refine ⟨_, rfl, _, _, _, _, true, rfl, .ty _, .base (.str z), kit_ty (by decide +kernel), _, rfl, iteF ?_⟩
        refine ⟨_, rfl, _, rfl, d, o, rfl, dg, _, rfl, ?_⟩
        rw [ho]
        by_cases c1 : z ∈ R.map (·.1)
        · rw [decide_eq_true c1]
          exact iteF ⟨S1, gs, eF, hgs, Nat.le_succ_of_le lgs⟩
        · rw [decide_eq_false c1]
          refine iteT ⟨_, rfl, yes fun z2 e2 => ?_⟩
          rw [← V.str.inj e2]
          exact c1
      · refine ⟨_, rfl, _, _, _, _, false, rfl, .ty _, ht, hk, _, rfl, iteT ?_⟩
        exact iteT ⟨_, rfl, yes fun z2 e2 => absurd e2 (nz z2)⟩
    rintro Ho ⟨Sno, gs, eF, hgs, lgs⟩
    have RHo := Same.rl Sno RHn
    have eDo := Sno _ _ eD
    refine ⟨_, rfl, _, rfl, r, F, gs, 9, rfl, RHo, .inl (SqL.of eF), by omega, by decide, by decide, fun l4 ys4 rest H4 R4 O4 hl4 el4 pm4 len4 => ?_⟩
    have eD4 := O4 _ _ nD eDo
    refine ⟨_, rfl, _, rfl, D, _, rfl, SqL.of eD4, fun q5 hq5 => ?_⟩
    have A5 := Same.new (o := .lst (cutV (fs.map V.str) none (some 1))) hq5
    have e5 : (upd H4 q5 (.lst (cutV (fs.map V.str) none (some 1)))) q5 = some (.lst (cutV (fs.map V.str) none (some 1))) := upd_same
    obtain ⟨mc, lc⟩ := cutV_sub (fs.map V.str) none (some 1)
    rw [List.length_map] at lc
    generalize upd H4 q5 (.lst (cutV (fs.map V.str) none (some 1))) = H5 at A5 e5 ⊢
    generalize cutV (fs.map V.str) none (some 1) = cs at e5 mc lc ⊢
    have l9 : ys4.length ≤ 9 := by split at len4 <;> omega
    refine ⟨l4, q5, ys4, cs, rfl, rfl, A5 _ _ el4, e5, by rw [sizeLine_eq]; omega, fun l5 hl5 => ?_⟩
    have A6 := Same.new (o := .lst (ys4 ++ cs)) hl5
    have R5 := Same.rl A5 R4
    have nl5 : l5 ≠ r := nm R5 hl5
    have OA : Only r H H5 := Only.tr (Same.only (Same.trans SHn Sno)) (Only.tr O4 (Same.only A5))
    refine k l5 (ys4 ++ cs) _ (Same.rl A6 R5) (Only.tr OA (Same.only A6)) ?_ upd_same (by rw [List.length_append]; omega) ?_
    · cases q : H l5 with
      | none => rfl
      | some o =>
        have := OA _ _ nl5 q
        rw [hl5] at this
        cases this
    · intro y hy
      rcases List.mem_append.mp hy with hy | hy
      · obtain ⟨g1, g2⟩ := hgs y (pm4.mem_iff.mpr (List.mem_append_left _ hy))
        exact ⟨((((Y4 y g1).same Sno).only O4 RHo).same A5).same A6, g2⟩
      · obtain ⟨z, hz, rfl⟩ := List.mem_map.mp (mc y hy)
        refine ⟨.str z, fun z2 e2 => ?_⟩
        rw [← V.str.inj e2]
        exact hfs z hz
end
end K37
namespace K37
open PySem L2
open PyProof.Rows PySem.Spec
/-- data whose text is short -/
structure TL (d : PyData) (n : Nat) : Prop where
  sh : d.showable = true
  ls : d.leavesShort 13 = true
  bk : d.bulk ≤ n
  dp : d.depth ≤ 10
structure TLs (k : Nat) (ds : List PyData) (n : Nat) : Prop where
  sh : PyData.showableAll ds = true
  ls : PyData.leavesShortAll 13 ds = true
  bk : PyData.bulkAll ds ≤ n
  dp : PyData.depthAll ds ≤ k
structure TD (k : Nat) (d : PyData) (n : Nat) : Prop where
  sh : d.showable = true
  ls : d.leavesShort 13 = true
  bk : d.bulk ≤ n
  dp : d.depth ≤ k
theorem TLs.nil {k : Nat} : TLs k [] 0 := ⟨by simp [PyData.showableAll], by simp [PyData.leavesShortAll], by simp [PyData.bulkAll], by simp [PyData.depthAll]⟩
theorem TLs.cons {k : Nat} {d : PyData} {ds : List PyData} {a b : Nat} (h : TD k d a) (t : TLs k ds b) : TLs k (d :: ds) (a + 1 + b) := by
  obtain ⟨h1, h2, h3, h4⟩ := h
  obtain ⟨t1, t2, t3, t4⟩ := t
  refine ⟨by simp [PyData.showableAll, h1, t1], by simp [PyData.leavesShortAll, h2, t2], ?_, ?_⟩
  · simp only [PyData.bulkAll]
    omega
  · simp only [PyData.depthAll]
    omega
theorem TD.list {k : Nat} {ds : List PyData} {a : Nat} (t : TLs k ds a) : TD (k + 1) (.list ds) a := by
  obtain ⟨t1, t2, t3, t4⟩ := t
  exact ⟨by simpa [PyData.showable] using t1, by simpa [PyData.leavesShort] using t2, by simpa [PyData.bulk] using t3, by simp only [PyData.depth]; omega⟩
theorem TD.tup {k : Nat} {ds : List PyData} {a : Nat} (t : TLs k ds a) : TD (k + 1) (.tuple ds) a := by
  obtain ⟨t1, t2, t3, t4⟩ := t
  exact ⟨by simpa [PyData.showable] using t1, by simpa [PyData.leavesShort] using t2, by simpa [PyData.bulk] using t3, by simp only [PyData.depth]; omega⟩
theorem TD.up {k : Nat} {d : PyData} {a : Nat} (t : TD k d a) : TD (k + 1) d a := ⟨t.sh, t.ls, t.bk, Nat.le_succ_of_le t.dp⟩
theorem TD.int {i : Int} (h1 : -999999999999 ≤ i) (h2 : i ≤ 999999999999) : TD 0 (.int i) 0 := by
  refine ⟨?_, ?_, by simp [PyData.bulk], by simp [PyData.depth]⟩
  · simp only [PyData.showable, decide_eq_true_eq]
    have : i.natAbs.log2 < 40 := by
      refine PySem.Flt.log2_lt_of (by decide) ?_
      omega
    omega
  · simp only [PyData.leavesShort, decide_eq_true_eq]
    exact PyData.shown_int_le2 h1 h2
theorem TD.name {z : Str} (h : nmC z = true) : TD 0 (.str z) 8 := by
  have nl := nmC_len h
  refine ⟨by simp [PyData.showable], ?_, ?_, by simp [PyData.depth]⟩
  · simp only [PyData.leavesShort, List.all_eq_true, decide_eq_true_eq]
    have ok := nm_ok h
    unfold PyData.strOk at ok
    rw [← Array.all_toList, List.all_eq_true] at ok
    intro c hc
    have := of_decide_eq_true (ok c hc)
    have e : (16 : Nat) ^ 8 = 4294967296 := by decide
    omega
  · simp only [PyData.bulk]
    exact nl.2
theorem TD.span {b e : Int} (h : Near 900000000000 (n, b, e)) (h2 : 1 ≤ e - b) : TD 1 (.tuple [.int b, .int e]) 2 := by
  unfold Near at h
  simp only at h
  exact TD.tup (TLs.cons (TD.int (by omega) (by omega)) (TLs.cons (TD.int (by omega) (by omega)) TLs.nil))
theorem TLs.mapd {α : Type} {k m : Nat} {f : α → PyData} : ∀ {xs : List α}, (∀ x ∈ xs, TD k (f x) m) → TLs k (xs.map f) ((m + 1) * xs.length)
  | [], _ => TLs.nil
  | x :: xs, h => by
    have t := TLs.cons (h x List.mem_cons_self) (TLs.mapd (f := f) (xs := xs) fun y hy => h y (List.mem_cons_of_mem _ hy))
    refine ⟨t.sh, t.ls, Nat.le_trans t.bk ?_, t.dp⟩
    rw [List.length_cons, Nat.mul_add]
    omega
theorem TD.rows {t : Int} {R : Rws} (g : Good t R) : TD 2 (rowsD R) 96 := by
  have key : ∀ R : Rws, (∀ x ∈ R, nmC x.1 = true) → (∀ x ∈ R, SpOk t x) → (∀ x ∈ R, Near 900000000000 x) → PyData.showableKv (R.map rowD) = true ∧ PyData.leavesShortKv 13 (R.map rowD) = true ∧ PyData.bulkKv (R.map rowD) ≤ 12 * R.length ∧ PyData.depthKv (R.map rowD) ≤ 1 := by
    intro R
    induction R with
    | nil => intro _ _ _; exact ⟨by simp [PyData.showableKv], by simp [PyData.leavesShortKv], by simp [PyData.bulkKv], by simp [PyData.depthKv]⟩
    | cons x R ih =>
      intro h1 h2 h3
      obtain ⟨i1, i2, i3, i4⟩ := ih (fun y hy => h1 y (List.mem_cons_of_mem _ hy)) (fun y hy => h2 y (List.mem_cons_of_mem _ hy)) (fun y hy => h3 y (List.mem_cons_of_mem _ hy))
      obtain ⟨n, b0, e0⟩ := x
      have a : TD 0 (.str n) 8 := TD.name (h1 (n, b0, e0) List.mem_cons_self)
      have b : TD 1 (.tuple [.int b0, .int e0]) 2 := TD.span (h3 (n, b0, e0) List.mem_cons_self) (h2 (n, b0, e0) List.mem_cons_self).1
      refine ⟨?_, ?_, ?_, ?_⟩
      · simp only [List.map_cons, rowD, PyData.showableKv, a.sh, b.sh, Bool.true_and]
        exact i1
      · simp only [List.map_cons, rowD, PyData.leavesShortKv, a.ls, b.ls, Bool.true_and]
        exact i2
      · have := a.bk
        have := b.bk
        simp only [List.map_cons, rowD, PyData.bulkKv, List.length_cons]
        omega
      · have := a.dp
        have := b.dp
        simp only [List.map_cons, rowD, PyData.depthKv]
        omega
  obtain ⟨k1, k2, k3, k4⟩ := key R g.nm g.sp g.nr
  have := g.l8
  unfold rowsD
  exact ⟨by simpa [PyData.showable] using k1, by simpa [PyData.leavesShort] using k2, by simp only [PyData.bulk]; omega, by simp only [PyData.depth]; omega⟩
theorem TD.names {ns : List Str} (h : ∀ n ∈ ns, nmC n = true) : TD 1 (.tuple (ns.map PyData.str)) (9 * ns.length) := TD.tup (TLs.mapd fun x hx => TD.name (h x hx))
theorem TD.tell {k n : Nat} {d : PyData} (t : TD k d n) (h1 : n ≤ 1000) (h2 : k ≤ 60) : d.showable = true ∧ d.shown.length ≤ sizeLine ∧ d.depth ≤ 60 :=
  ⟨t.sh, PyData.shown_fits_bulk (by decide) (by decide) t.ls (Nat.le_trans (Nat.le_trans t.bk h1) (by decide)), Nat.le_trans t.dp h2⟩
theorem dss_app1 {K : PySem.W.Frag} {H : Hp} {v : V} {d : PyData} (h : RL.DS K H v d) : ∀ {vs : List V} {ds : List PyData}, RL.DSs K H vs ds → RL.DSs K H (vs ++ [v]) (ds ++ [d])
  | _, _, .nil => .cons h .nil
  | _, _, .cons a t => .cons a (dss_app1 h t)
end K37
namespace K37
open PySem L2
open PyProof.Rows PySem.Spec
def spD (r : Str × Int × Int) : PyData := .tuple [.int r.2.1, .int r.2.2]
theorem tups_dss {K : PySem.W.Frag} {H : Hp} : ∀ {M : List (Str × Addr)} {S : Rws}, Tups H M S → RL.DSs K H (M.map fun m : Str × Addr => V.ref m.2) (S.map spD)
  | _, _, .nil => .nil
  | _, _, .cons h t => .cons (tupAt_ds h) (tups_dss t)
section
variable {P : Program} {w : World} {K : PySem.W.Frag}
                                                      {mg : Str → Option Value} {base : Heap}
def sp_w_is_told (K : PySem.W.Frag) (C : Addr) : Sp := fun vs H Q _ => ∃ (r p d : Addr) (t : Int) (L : List (Str × Addr)) (R S : Rws), vs = [.ref r, .ref p, .ref d, .int t] ∧ Rl H r ∧ SpAt H C p t S ∧ H d = some (.dK (Kvs L)) ∧ Tups H L R ∧ Good t R ∧ Srd R S ∧
  ∀ H', Rl H' r → Only r H H' → Q (.bl true) H'
theorem ok_w_is_told (T : T K mg) (U : UX K mg) : GW.FnG P w K mg base CX0 8 T.f_w_is_told T.d_w_is_told ["tray", "spans", "rows", "interval"] (sp_w_is_told K U.C) := by
  have G_w_odd : FnOk P w K mg base CX0 3 T.f_w_odd T.d_w_odd ["tray", "rows", "spans"] (sp_w_odd K U.C) := ok_w_odd T U
  have G_w_sorted : FnOk P w K mg base CX0 1 T.f_w_sorted T.d_w_sorted ["rows"] (sp_w_sorted K) := ok_w_sorted T
  have Gi : FnOk P w K mg base CX0 1 U.pi.g U.pi.d ["self"] (getSp U.C "_interval") := ok_get U.cl U.pi sc_Spans_interval U.n1 ⟨_, _, _, rfl⟩
  have Gn : FnOk P w K mg base CX0 1 U.pn.g U.pn.d ["self"] (getSp U.C "_names") := ok_get U.cl U.pn sc_Spans_names U.n3 ⟨_, _, _, rfl⟩
  have Gr : FnOk P w K mg base CX0 1 U.pr.g U.pr.d ["self"] (sp_rows K U.C) := ok_rows T U
  have Gt : FnOk P w K mg base CX0 1 U.pt.g U.pt.d ["self"] (sp_total K U.C) := ok_total T U
  have Gl' : FnOk P w K mg base CX0 1 U.ml.f U.ml.d ["self"] (sp_len K U.C) := ok_len T U
  have Gg : FnOk P w K mg base CX0 1 U.mg.f U.mg.d ["self", "name"] (sp_item K U.C) := ok_item T U
  have Gc : FnOk P w K mg base CX0 6 U.mc.f U.mc.d ["self", "value"] (sp_in K U.C) := ok_in T U
  have Gs : FnOk P w K mg base CX0 3 U.ms.f U.ms.d ["self"] (sp_str K U.C) := ok_str T U
  refine GW.FunG.okG T.F_w_is_told sc_w_is_told (fun vs H Q E h => ?_) (fun cdv A outer s H vs Q E hg hr h => ?_)
  · obtain ⟨r, p, d, t, L, R, S, rfl, _⟩ := h
    rfl
  · obtain ⟨r, p, d, t, L, R, S, rfl, R0, sp, hd, ts, gd, sr, k⟩ := h
    have hu := hu_of hr
    have hr_w_odd : Room 3 _ := hr.mono (by decide)
    have hr_w_sorted : Room 1 _ := hr.mono (by decide)
    have hgd : (cxOf CX0 P w K mg base ["tray", "spans", "rows", "interval", "due", "names", "told", "total", "odd", "name", "one"] "_law_is_told" (defScope s_w_is_told) T.f_w_is_told cdv A outer s H E).nox.A.guards = some [] := hg
    refine ⟨_, (pss_cons (ps_par (i := 4) (j := 5) (by rfl) sc_w_is_told.nd rfl rfl (by decide) rfl rfl (pa_cons (pe_call G_w_sorted hr_w_sorted rfl T.m_w_sorted T.F_w_sorted.kp T.b_w_sorted .nil pass0 (pa_cons (pv 2) pa_nil)) (pa_cons (pe_callB (call_sortedD rfl) (by rfl) T.z_sorted (by decide +kernel) (pa_cons (pv 2) pa_nil)) pa_nil)) (by rfl))
      (pss_cons (ps_if (pt_cmpR op_ne (pe_callB (RL.cr_reprD hgd (un64 hr)) (by rfl) T.z_repr (by decide +kernel) (pa_cons (pe_lst (pa_cons (pe_prop (pv 1) U.cl U.pi.pr Gi (hr.mono (by decide)) U.pi.b .nil pass0 rfl) (pa_cons (pe_prop (pv 1) U.cl U.pr.pr Gr (hr.mono (by decide)) U.pr.b .nil pass0 rfl) (pa_cons (pe_prop (pv 1) U.cl U.pn.pr Gn (hr.mono (by decide)) U.pn.b .nil pass0 rfl) pa_nil)))) pa_nil)) (pe_callB (RL.cr_reprD hgd (un64 hr)) (by rfl) T.z_repr (by decide +kernel) (pa_cons (pe_lst (pa_cons (pv 3) (pa_cons (pv 4) (pa_cons (pe_callTy call_tuple_of (by rfl) T.z_tuple (by decide +kernel) (pa_cons (pv 5) pa_nil)) pa_nil)))) pa_nil)) (nomark _))
      (pss_one (ps_ret pe_bl))
      pss_nil)
      (pss_cons (ps_set (i := 6) sc_w_is_told.nd rfl (Or.inl rfl) (pe_prop (pv 1) U.cl U.pr.pr Gr (hr.mono (by decide)) U.pr.b .nil pass0 rfl))
      (pss_cons (ps_dput (by exact hu) (pv 6) (pe_ix ix_seq (pv 5) pe_int (fun _ _ => rfl)) (pe_tup (pa_cons pe_int (pa_cons pe_int pa_nil))) rfl)
      (pss_cons (ps_dput (by exact hu) (pv 6) (pe_op RL.op_mulS pe_str pe_int) (pe_tup (pa_cons pe_int (pa_cons pe_int pa_nil))) rfl)
      (pss_cons (ps_set (i := 7) sc_w_is_told.nd rfl (Or.inl rfl) (pe_callB (cr_sum rfl) (by rfl) T.z_sum (by decide +kernel) (pa_cons (pe_lc (own := [("name", 9)]) (g := gName 9) rfl sc_w_is_told.nd (pi_list (pv 5)) (blkOk_by (N := ["tray", "spans", "rows", "interval", "due", "names", "told", "total", "odd", "name", "one"]) (sc := defScope s_w_is_told) (by decide +kernel)) (fun _ _ _ _ _ => (pg_name (i := 9) sc_w_is_told.nd rfl (Or.inl rfl))) (fun _ _ _ _ _ => pts_nil) (fun _ _ _ _ _ => (pe_op op_sub (pe_ix (r := rIx K) ix_seq (pe_dget (by exact hu) (pv 2) (pv 9) (fun _ _ => rfl)) pe_int (fun _ _ => rfl)) (pe_ix (r := rIx K) ix_seq (pe_dget (by exact hu) (pv 2) (pv 9) (fun _ _ => rfl)) pe_int (fun _ _ => rfl))))) pa_nil)))
      (pss_cons (ps_if (pt_cmpR op_ne (pe_callB (RL.cr_reprD hgd (un64 hr)) (by rfl) T.z_repr (by decide +kernel) (pa_cons (pe_lst (pa_cons (pe_prop (pv 1) U.cl U.pr.pr Gr (hr.mono (by decide)) U.pr.b .nil pass0 rfl) (pa_cons (pe_prop (pv 1) U.cl U.pt.pr Gt (hr.mono (by decide)) U.pt.b .nil pass0 rfl) (pa_cons (pe_callB (OW.cr_ownLen Gl' ⟨U.ml.m.at_, U.ml.m.fn⟩ (hr.mono (by decide)) U.ml.b pass0) (by rfl) T.z_len (by decide +kernel) (pa_cons (pv 1) pa_nil)) pa_nil)))) pa_nil)) (pe_callB (RL.cr_reprD hgd (un64 hr)) (by rfl) T.z_repr (by decide +kernel) (pa_cons (pe_lst (pa_cons (pv 4) (pa_cons (pv 7) (pa_cons (pe_callB call_lenD (by rfl) T.z_len (by decide +kernel) (pa_cons (pv 2) pa_nil)) pa_nil)))) pa_nil)) (nomark _))
      (pss_one (ps_ret pe_bl))
      pss_nil)
      (pss_cons (ps_if (pt_cmpR op_ne (pe_callB (RL.cr_reprD hgd (un64 hr)) (by rfl) T.z_repr (by decide +kernel) (pa_cons (pe_lc (own := [("name", 9)]) (g := gName 9) rfl sc_w_is_told.nd (pi_list (pv 5)) (blkOk_by (N := ["tray", "spans", "rows", "interval", "due", "names", "told", "total", "odd", "name", "one"]) (sc := defScope s_w_is_told) (by decide +kernel)) (fun _ _ _ _ _ => (pg_name (i := 9) sc_w_is_told.nd rfl (Or.inl rfl))) (fun _ _ _ _ _ => pts_nil) (fun _ _ _ _ _ => (OW.pe_ownItem (pv 1) (pv 9) Gg ⟨U.mg.m.at_, U.mg.m.fn⟩ U.fn (hr.mono (by decide)) U.mg.b pass0 (fun _ _ => rfl)))) pa_nil)) (pe_callB (RL.cr_reprD hgd (un64 hr)) (by rfl) T.z_repr (by decide +kernel) (pa_cons (pe_lc (own := [("name", 9)]) (g := gName 9) rfl sc_w_is_told.nd (pi_list (pv 5)) (blkOk_by (N := ["tray", "spans", "rows", "interval", "due", "names", "told", "total", "odd", "name", "one"]) (sc := defScope s_w_is_told) (by decide +kernel)) (fun _ _ _ _ _ => (pg_name (i := 9) sc_w_is_told.nd rfl (Or.inl rfl))) (fun _ _ _ _ _ => pts_nil) (fun _ _ _ _ _ => (pe_dget (by exact hu) (pv 2) (pv 9) (fun _ _ => rfl)))) pa_nil)) (nomark _))
      (pss_one (ps_ret pe_bl))
      pss_nil)
      (pss_cons (ps_setLc (i := 8) (own := [("one", 10)]) (g := gName 10) rfl sc_w_is_told.nd rfl rfl (sw_true rfl rfl rfl (by decide +kernel)) (pi_list (pe_call G_w_odd hr_w_odd rfl T.m_w_odd T.F_w_odd.kp T.b_w_odd .nil pass0 (pa_cons (pv 0) (pa_cons (pv 2) (pa_cons (pv 1) pa_nil))))) (blkOk_by (N := ["tray", "spans", "rows", "interval", "due", "names", "told", "total", "odd", "name", "one"]) (sc := defScope s_w_is_told) (by decide +kernel)) (fun _ _ _ _ _ => (pg_name (i := 10) sc_w_is_told.nd rfl (Or.inl rfl))) (fun _ _ _ _ _ => pts_one (pt_cmpR (OW.op_ownIn Gc ⟨U.mc.m.at_, U.mc.m.fn⟩ (hr.mono (by decide)) U.mc.b pass0) (pv 10) (pv 1) rfl)) (fun _ _ _ _ _ => (pv 10)))
      (pss_cons (ps_if (PW.pt (pw_or (pt_cmpR (op_neD (un64 hr)) (pv 8) (pe_lst pa_nil) (nomark _)) (pw_or1 (pt_cmpR (op_neD (un64 hr)) (pe_lc (own := [("name", 9)]) (g := gName 9) rfl sc_w_is_told.nd (pi_list (pv 5)) (blkOk_by (N := ["tray", "spans", "rows", "interval", "due", "names", "told", "total", "odd", "name", "one"]) (sc := defScope s_w_is_told) (by decide +kernel)) (fun _ _ _ _ _ => (pg_name (i := 9) sc_w_is_told.nd rfl (Or.inl rfl))) (fun _ _ _ _ _ => pts_one (pt_cmpR (OW.op_ownNotIn Gc ⟨U.mc.m.at_, U.mc.m.fn⟩ (hr.mono (by decide)) U.mc.b pass0) (pv 9) (pv 1) rfl)) (fun _ _ _ _ _ => (pv 9))) (pe_lst pa_nil) (nomark _)))))
      (pss_one (ps_ret pe_bl))
      pss_nil)
      (pss_one (ps_ret (pe_cmpR op_eq (pe_callTy (OW.cr_ownStr Gs ⟨U.ms.m.at_, U.ms.m.fn⟩ (hr.mono (by decide)) U.ms.b pass0) (by rfl) T.z_str (by decide +kernel) (pa_cons (pv 1) pa_nil)) (pe_op op_add_str (pe_op op_add_str (pe_op op_add_str (pe_op op_add_str pe_str (pe_callTy call_str_int (by rfl) T.z_str (by decide +kernel) (pa_cons (pe_callB call_lenD (by rfl) T.z_len (by decide +kernel) (pa_cons (pv 2) pa_nil)) pa_nil))) pe_str) (pe_callTy call_str_int (by rfl) T.z_str (by decide +kernel) (pa_cons (pv 3) pa_nil))) pe_str) (nomark _)))))))))))))), ?_⟩
    have l8 := gd.l8
    have l1 := gd.l1
    have ndr := ne_rl R0 hd (fun _ z => by cases z)
    obtain ⟨gS, soS, dx, rd, nm, lv, cr, LS, h1, h2, h3, h4⟩ := id sp
    have nm' : ∀ {Hx : Hp} {x : Addr}, Rl Hx r → Hx x = none → x ≠ r := fun Rx hx z => by
      obtain ⟨_, _, _, e⟩ := Rx
      rw [z, e] at hx
      cases hx
    have dead : ∀ {Hx : Hp} {x : Addr}, Same H Hx → Hx x = none → H x = none := fun {Hx x} Sx hx => by
      cases q : H x with
      | none => rfl
      | some o =>
        have := Sx _ _ q
        rw [hx] at this
        cases this
    -- due, names
    refine ⟨_, rfl, d, L, R, rfl, hd, ts, gd.nd, l8, fun du LD SD H1 S1 hdu edu tsd srd => ?_⟩
    obtain rfl : S = SD := Srd.eq gd.nd sr srd
    refine ⟨_, rfl, d, _, L.map (·.1), rfl, .inl (S1 _ _ hd), kvs_keys L, by rw [List.length_map, ts.len]; omega, fun ys q pm so hq => ?_⟩
    rw [ts.names] at pm
    obtain rfl : ys = S.map (·.1) := sorted_eq pm (sr.pm.map (·.1)) so sr.so
    refine ⟨_, _, rfl, ?_⟩
    have A1 := Same.new (o := .lst ((S.map (·.1)).map V.str)) hq
    have eq1 : (upd H1 q (.lst ((S.map (·.1)).map V.str))) q = some (.lst ((S.map (·.1)).map V.str)) := upd_same
    have S2 := Same.trans S1 A1
    have edu := A1 _ _ edu
    have tsd := tsd.keep (KT.same A1)
    generalize upd H1 q (.lst ((S.map (·.1)).map V.str)) = H2 at S2 eq1 edu tsd ⊢
    have hq0 := dead S1 hq
    clear A1 S1
    have lS : S.length = R.length := sr.pm.length_eq
    have nmS : ∀ n ∈ S.map (·.1), nmC n = true := fun n hn => by
      obtain ⟨x, hx, rfl⟩ := List.mem_map.mp hn
      exact gS.nm x hx
    -- the first text
    refine ⟨_, rfl, p, dx, _, rfl, S2 _ _ h1, p, dx, _, .int t, rfl, S2 _ _ h1, rfl, ?_⟩
    refine ⟨_, rfl, p, dx, _, rfl, S2 _ _ h1, p, t, S, rfl, sp.same S2, fun q1 L1 hq1 ts1 => ?_⟩
    have A1 := Same.new (o := .dK (Kvs L1)) hq1
    have e1 : (upd H2 q1 (.dK (Kvs L1))) q1 = some (.dK (Kvs L1)) := upd_same
    have ts1 := ts1.keep (KT.same A1)
    have S3 := Same.trans S2 A1
    generalize upd H2 q1 (.dK (Kvs L1)) = H3 at A1 e1 ts1 S3 ⊢
    refine ⟨_, rfl, p, dx, _, rfl, S3 _ _ h1, p, dx, _, .ref nm, rfl, S3 _ _ h1, rfl, ?_⟩
    refine ⟨by show 3 ≤ sizeLine; decide, fun l1 hl1 => ?_⟩
    have A2 := Same.new (o := .lst [V.int t, .ref q1, .ref nm]) hl1
    have e2 : (upd H3 l1 (.lst [V.int t, .ref q1, .ref nm])) l1 = some (.lst [V.int t, .ref q1, .ref nm]) := upd_same
    have S4 := Same.trans S3 A2
    have e1 := A2 _ _ e1
    have ts1 := ts1.keep (KT.same A2)
    have eq4 := A2 _ _ (A1 _ _ eq1)
    have edu4 := A2 _ _ (A1 _ _ edu)
    have tsd4 := tsd.keep (KT.same (Same.trans A1 A2))
    generalize upd H3 l1 (.lst [V.int t, .ref q1, .ref nm]) = H4 at e1 e2 ts1 S4 eq4 edu4 tsd4 ⊢
    clear A1 A2 S3 eq1 edu tsd
    have bt := gS.t1
    have bt2 := gS.t2
    have td1 : TD 3 (.list [.int t, rowsD S, .tuple ((S.map (·.1)).map PyData.str)]) (0 + 1 + (96 + 1 + (9 * (S.map (·.1)).length + 1 + 0))) :=
      TD.list (TLs.cons (TD.int (by omega) (by omega)).up.up (TLs.cons (TD.rows gS) (TLs.cons (TD.names nmS).up TLs.nil)))
    have tt1 := td1.tell (by rw [List.length_map]; have := gS.l8; omega) (by decide)
    refine ⟨l1, _, rfl, .lst (SqL.of e2) (.cons (.int t) (.cons (rows_ds e1 ts1) (.cons (.tup (SqT.of (S4 _ _ h4)) (dss_strs _)) .nil))), tt1.1, tt1.2.1, tt1.2.2, ?_⟩
    refine ⟨_, rfl, _, rfl, _, rfl, q, _, rfl, .inl ⟨SqL.of eq4, fun n2 hn2 => ?_⟩⟩
    have A3 := Same.new (o := .tup ((S.map (·.1)).map V.str)) hn2
    have e3 : (upd H4 n2 (.tup ((S.map (·.1)).map V.str))) n2 = some (.tup ((S.map (·.1)).map V.str)) := upd_same
    generalize upd H4 n2 (.tup ((S.map (·.1)).map V.str)) = H5 at A3 e3 ⊢
    refine ⟨by show 3 ≤ sizeLine; decide, fun l2 hl2 => ?_⟩
    have A4 := Same.new (o := .lst [V.int t, .ref du, .ref n2]) hl2
    have e4 : (upd H5 l2 (.lst [V.int t, .ref du, .ref n2])) l2 = some (.lst [V.int t, .ref du, .ref n2]) := upd_same
    have S6 := Same.trans S4 (Same.trans A3 A4)
    have e3 := A4 _ _ e3
    have eq6 := A4 _ _ (A3 _ _ eq4)
    have edu6 := A4 _ _ (A3 _ _ edu4)
    have tsd6 := tsd4.keep (KT.same (Same.trans A3 A4))
    generalize upd H5 l2 (.lst [V.int t, .ref du, .ref n2]) = H6 at e3 e4 S6 eq6 edu6 tsd6 ⊢
    clear A3 A4 S4 e1 e2 ts1 eq4 edu4 tsd4
    refine ⟨l2, _, rfl, .lst (SqL.of e4) (.cons (.int t) (.cons (rows_ds edu6 tsd6) (.cons (.tup (SqT.of e3) (dss_strs _)) .nil))), tt1.1, tt1.2.1, tt1.2.2, ?_⟩
    refine ⟨rfl, _, rfl, ?_⟩
    rw [decide_eq_true rfl]
    refine iteF ?_
    clear td1 tt1 e3 e4
    -- told
    refine ⟨_, rfl, p, dx, _, rfl, S6 _ _ h1, p, t, S, rfl, sp.same S6, fun to Lt hto tst => ?_⟩
    have hto0 := dead S6 hto
    have A5 := Same.new (o := .dK (Kvs Lt)) hto
    have eto : (upd H6 to (.dK (Kvs Lt))) to = some (.dK (Kvs Lt)) := upd_same
    have S7 := Same.trans S6 A5
    have lt : (Kvs Lt).length ≤ 8 := by rw [kvs_len, tst.len]; exact gS.l8
    generalize Kvs Lt = kt at eto S7 lt A5 ⊢
    have eq7 := A5 _ _ eq6
    have edu7 := A5 _ _ edu6
    have tsd7 := tsd6.keep (KT.same A5)
    have nqt : q ≠ to := ne_of_none eq6 hto
    have ndt : du ≠ to := ne_of_none edu6 hto
    generalize upd H6 to (.dK kt) = H7 at eto S7 eq7 edu7 tsd7 ⊢
    clear A5 S6 eq6 edu6 tsd6
    refine ⟨by show 2 ≤ sizeLine; decide, fun a1 ha1 => ?_⟩
    have A6 := Same.new (o := .tup [V.int 0, .int 1]) ha1
    have S8 := Same.trans S7 A6
    have eto8 := A6 _ _ eto
    have eq8 := A6 _ _ eq7
    have edu8 := A6 _ _ edu7
    have tsd8 := tsd7.keep (KT.same A6)
    generalize upd H7 a1 (.tup [V.int 0, .int 1]) = H8 at S8 eto8 eq8 edu8 tsd8 ⊢
    clear A6 S7 eto eq7 edu7 tsd7
    obtain ⟨n0, hn0⟩ : ∃ n0, (S.map (·.1))[0]? = some n0 := ⟨_, List.getElem?_eq_getElem (by rw [List.length_map]; omega)⟩
    have hn0' : ((S.map (·.1)).map V.str)[0]? = some (V.str n0) := by rw [List.getElem?_map, hn0]; rfl
    refine ⟨_, rfl, _, rfl, .inl ⟨q, _, _, .str n0, rfl, rfl, SqL.of eq8, atI_nat (j := 0) hn0', to, _, rfl, DPut.k (k := Sum.inr n0) eto8 (by rw [sizeLine_eq]; omega), ?_⟩⟩
    have lt9 := length_putK kt (Sum.inr n0 : Key) (.ref a1)
    have kt9 : KT H8 (upd H8 to (.dK (putK kt (.inr n0) (.ref a1)))) := KT.put eto8 (fun _ z => by cases z)
    have S9 : Same H (upd H8 to (.dK (putK kt (.inr n0) (.ref a1)))) := Same.at hto0 S8
    have eto9 : (upd H8 to (.dK (putK kt (.inr n0) (.ref a1)))) to = some (.dK (putK kt (.inr n0) (.ref a1))) := upd_same
    generalize putK kt (.inr n0) (.ref a1) = k2 at lt9 kt9 S9 eto9 ⊢
    have eq9 : (upd H8 to (.dK k2)) q = _ := (upd_ne nqt).trans eq8
    have edu9 : (upd H8 to (.dK k2)) du = _ := (upd_ne ndt).trans edu8
    have tsd9 := tsd8.keep kt9
    generalize upd H8 to (.dK k2) = H9 at S9 eto9 eq9 edu9 tsd9 ⊢
    clear S8 eto8 eq8 edu8 tsd8 kt9
    refine ⟨by show 2 ≤ sizeLine; decide, fun a2 ha2 => ?_⟩
    have A7 := Same.new (o := .tup [V.int 0, .int 1]) ha2
    have S10 := Same.trans S9 A7
    have eto10 := A7 _ _ eto9
    have eq10 := A7 _ _ eq9
    have edu10 := A7 _ _ edu9
    have tsd10 := tsd9.keep (KT.same A7)
    generalize upd H9 a2 (.tup [V.int 0, .int 1]) = H10 at S10 eto10 eq10 edu10 tsd10 ⊢
    clear A7 S9 eto9 eq9 edu9 tsd9
    refine ⟨_, rfl, _, _, rfl, rfl, ?_, to, _, rfl, DPut.k (k := Sum.inr _) eto10 (by rw [sizeLine_eq]; omega), ?_⟩
    · refine ⟨by decide, fun _ _ => ?_, fun _ _ => ?_⟩
      · decide +kernel
      · decide +kernel
    have kt11 : KT H10 (upd H10 to (.dK (putK k2 (.inr (Txt.mul (Str.ofString "q") 8)) (.ref a2)))) := KT.put eto10 (fun _ z => by cases z)
    have S11 : Same H (upd H10 to (.dK (putK k2 (.inr (Txt.mul (Str.ofString "q") 8)) (.ref a2)))) := Same.at hto0 S10
    generalize putK k2 (.inr (Txt.mul (Str.ofString "q") 8)) (.ref a2) = k3 at kt11 S11 ⊢
    have eq11 : (upd H10 to (.dK k3)) q = _ := (upd_ne nqt).trans eq10
    have edu11 : (upd H10 to (.dK k3)) du = _ := (upd_ne ndt).trans edu10
    have tsd11 := tsd10.keep kt11
    generalize upd H10 to (.dK k3) = H11 at S11 eq11 edu11 tsd11 ⊢
    clear S10 eto10 eq10 edu10 tsd10 kt11 nqt ndt
    -- the rows of the names
    have row : ∀ {Hx : Hp} {i : Nat} {x : V}, Same H Hx → ((S.map (·.1)).map V.str)[i]? = some x → ∃ n b e, x = .str n ∧ S[i]? = some (n, b, e) ∧ (n, b, e) ∈ S ∧ ∃ a, DGet Hx d (.str n) (some (.ref a)) ∧ TupAt Hx a b e := fun {Hx i x} Sx hx => by
      rw [List.getElem?_map, List.getElem?_map] at hx
      cases e2 : S[i]? with
      | none => rw [e2] at hx; cases hx
      | some y =>
        rw [e2] at hx
        obtain ⟨n, b, e⟩ := y
        cases hx
        have hm : (n, b, e) ∈ S := List.mem_of_getElem? e2
        obtain ⟨a, va, ha⟩ := (ts.keep (KT.same Sx)).at gd.nd (sr.pm.mem_iff.mp hm)
        refine ⟨n, b, e, rfl, rfl, hm, a, ?_, ha⟩
        have := DGet.k (k := Sum.inr n) (Sx _ _ hd)
        rw [va] at this
        exact this
    -- total
    refine ⟨_, rfl, q, rfl, ⟨_, SqL.of eq11⟩, fun D hD => ?_⟩
    refine lc_list (xs := (S.map (·.1)).map V.str) (fun i H' => Same H11 H' ∧ H' D = some (.lst ((lenR (S.take i)).map V.int))) ⟨Same.new hD, upd_same⟩ (fun i H' _ h => SqL.of (h.1 _ _ eq11)) ?_ ?_
    · rintro i x Hx hx ⟨Sx, eD⟩
      refine ⟨rfl, ?_⟩
      unfold tYes
      dsimp only
      rw [if_pos rfl]
      obtain ⟨n, b, e, rfl, e2, hm, a, dg, ha⟩ := row (Same.trans S11 Sx) hx
      have ii : i < S.length := (List.getElem?_eq_some_iff.mp e2).1
      refine ⟨_, rfl, _, rfl, d, V.ref a, rfl, dg, .inr (.inl ⟨a, _, _, _, rfl, rfl, SqT.of ha, rfl, _, rfl, _, rfl, d, V.ref a, rfl, dg, .inr (.inl ⟨a, _, _, _, rfl, rfl, SqT.of ha, rfl, ?_⟩)⟩)⟩
      refine ⟨_, _, rfl, rfl, ?_⟩
      refine ⟨_, eD, by rw [List.length_map]; unfold lenR; rw [List.length_map, List.length_take, sizeLine_eq]; omega, Same.at hD Sx, ?_⟩
      rw [upd_same, List.take_add_one, e2]
      unfold lenR
      simp
    rintro H12 ⟨Sx, eD⟩
    rw [List.length_map, List.length_map, List.take_length] at eD
    refine ⟨D, lenR S, rfl, SqL.of eD, ?_⟩
    have S12 := Same.trans S11 Sx
    have eq12 := Sx _ _ eq11
    have edu12 := Sx _ _ edu11
    have tsd12 := tsd11.keep (KT.same Sx)
    clear Sx eD S11 eq11 edu11 tsd11 hD
    -- the second text
    have tot : 0 ≤ (lenR S).sum ∧ (lenR S).sum ≤ 8 * 256 := by
      have key : ∀ X : Rws, (∀ x ∈ X, SpOk t x) → 0 ≤ (lenR X).sum ∧ (lenR X).sum ≤ X.length * 256 := by
        intro X
        induction X with
        | nil => intro _; exact ⟨by decide, by decide⟩
        | cons x X ih =>
          intro h
          obtain ⟨i1, i2⟩ := ih fun y hy => h y (List.mem_cons_of_mem _ hy)
          have h1 := h x List.mem_cons_self
          unfold SpOk at h1
          have e : (lenR (x :: X)).sum = (x.2.2 - x.2.1) + (lenR X).sum := by unfold lenR; simp
          rw [e, List.length_cons]
          omega
      obtain ⟨k1, k2⟩ := key S gS.sp
      have := gS.l8
      exact ⟨k1, by omega⟩
    refine ⟨_, rfl, p, dx, _, rfl, S12 _ _ h1, p, t, S, rfl, sp.same S12, fun q1 L1 hq1 ts1 => ?_⟩
    have A1 := Same.new (o := .dK (Kvs L1)) hq1
    have e1 : (upd H12 q1 (.dK (Kvs L1))) q1 = some (.dK (Kvs L1)) := upd_same
    have ts1 := ts1.keep (KT.same A1)
    have S13 := Same.trans S12 A1
    generalize upd H12 q1 (.dK (Kvs L1)) = H13 at A1 e1 ts1 S13 ⊢
    refine ⟨_, rfl, p, dx, _, rfl, S13 _ _ h1, p, t, S, rfl, sp.same S13, fun H14 A2 => ?_⟩
    have S14 := Same.trans S13 A2
    have e1 := A2 _ _ e1
    have ts1 := ts1.keep (KT.same A2)
    refine ⟨_, rfl, p, dx, _, rfl, S14 _ _ h1, p, t, S, rfl, sp.same S14, _, rfl, by omega, by have := gS.l8; omega, ?_⟩
    refine ⟨by show 3 ≤ sizeLine; decide, fun l1 hl1 => ?_⟩
    have A3 := Same.new (o := .lst [V.ref q1, .int (lenR S).sum, .int (S.length : Int)]) hl1
    have e2 : (upd H14 l1 (.lst [V.ref q1, .int (lenR S).sum, .int (S.length : Int)])) l1 = some (.lst [V.ref q1, .int (lenR S).sum, .int (S.length : Int)]) := upd_same
    have S15 := Same.trans S14 A3
    have e1 := A3 _ _ e1
    have ts1 := ts1.keep (KT.same A3)
    have A123 := Same.trans A1 (Same.trans A2 A3)
    have eq15 := A123 _ _ eq12
    have edu15 := A123 _ _ edu12
    have tsd15 := tsd12.keep (KT.same A123)
    generalize upd H14 l1 (.lst [V.ref q1, .int (lenR S).sum, .int (S.length : Int)]) = H15 at e1 e2 ts1 S15 eq15 edu15 tsd15 ⊢
    clear A1 A2 A3 A123 S12 S13 S14 eq12 edu12 tsd12
    have td1 : TD 3 (.list [rowsD S, .int (lenR S).sum, .int (S.length : Int)]) (96 + 1 + (0 + 1 + (0 + 1 + 0))) :=
      TD.list (TLs.cons (TD.rows gS) (TLs.cons (TD.int (by omega) (by omega)).up.up (TLs.cons (TD.int (by omega) (by have := gS.l8; omega)).up.up TLs.nil)))
    have tt1 := td1.tell (by decide) (by decide)
    refine ⟨l1, _, rfl, .lst (SqL.of e2) (.cons (rows_ds e1 ts1) (.cons (.int _) (.cons (.int _) .nil))), tt1.1, tt1.2.1, tt1.2.2, ?_⟩
    refine ⟨_, rfl, _, rfl, _, rfl, d, Kvs L, rfl, S15 _ _ hd, ?_⟩
    rw [kvs_len, ts.len, ← lS]
    refine ⟨by show 3 ≤ sizeLine; decide, fun l2 hl2 => ?_⟩
    have A4 := Same.new (o := .lst [V.ref du, .int (lenR S).sum, .int (S.length : Int)]) hl2
    have e4 : (upd H15 l2 (.lst [V.ref du, .int (lenR S).sum, .int (S.length : Int)])) l2 = some (.lst [V.ref du, .int (lenR S).sum, .int (S.length : Int)]) := upd_same
    have S16 := Same.trans S15 A4
    have eq16 := A4 _ _ eq15
    have edu16 := A4 _ _ edu15
    have tsd16 := tsd15.keep (KT.same A4)
    generalize upd H15 l2 (.lst [V.ref du, .int (lenR S).sum, .int (S.length : Int)]) = H16 at e4 S16 eq16 edu16 tsd16 ⊢
    clear A4 S15 e1 e2 ts1 eq15 edu15 tsd15
    refine ⟨l2, _, rfl, .lst (SqL.of e4) (.cons (rows_ds edu16 tsd16) (.cons (.int _) (.cons (.int _) .nil))), tt1.1, tt1.2.1, tt1.2.2, ?_⟩
    refine ⟨rfl, _, rfl, ?_⟩
    rw [decide_eq_true rfl]
    refine iteF ?_
    clear td1 tt1 e4 edu16 tsd16
    -- the items
    have td2 : TD 2 (.list (S.map spD)) ((2 + 1) * S.length) := TD.list (TLs.mapd fun x hx => by
      obtain ⟨n, b, e⟩ := x
      exact TD.span (gS.nr _ hx) (gS.sp _ hx).1)
    have tt2 := td2.tell (by have := gS.l8; omega) (by decide)
    refine ⟨_, rfl, q, rfl, ⟨_, SqL.of eq16⟩, fun D1 hD1 => ?_⟩
    refine lc_list (xs := (S.map (·.1)).map V.str) (fun i H' => Same H16 H' ∧ ∃ M, H' D1 = some (.lst (M.map fun m : Str × Addr => V.ref m.2)) ∧ Tups H' M (S.take i)) ⟨Same.new hD1, [], upd_same, .nil⟩ (fun i H' _ h => SqL.of (h.1 _ _ eq16)) ?_ ?_
    · rintro i x Hx hx ⟨Sx, M, eD, tm⟩
      refine ⟨rfl, ?_⟩
      unfold tYes
      dsimp only
      rw [if_pos rfl]
      obtain ⟨n, b, e, rfl, e2, hm, _⟩ := row (Same.trans S16 Sx) hx
      have ii : i < S.length := (List.getElem?_eq_some_iff.mp e2).1
      refine ⟨_, rfl, _, rfl, p, dx, _, rfl, (Same.trans S16 Sx) _ _ h1, p, t, S, n, b, e, rfl, sp.same (Same.trans S16 Sx), hm, fun a ha => ?_⟩
      have kt : KT Hx (upd Hx D1 (.lst (M.map (fun m : Str × Addr => V.ref m.2) ++ [V.ref a]))) := KT.put eD (fun _ z => by cases z)
      refine ⟨_, eD, by rw [List.length_map, tm.len, List.length_take, sizeLine_eq]; omega, Same.at hD1 Sx, M ++ [(n, a)], by rw [upd_same, List.map_append]; rfl, ?_⟩
      rw [List.take_add_one, e2]
      exact (tm.keep kt).snoc (kt _ _ ha)
    rintro H17 ⟨Sx, M, eD, tm⟩
    rw [List.length_map, List.length_map, List.take_length] at tm
    have S17 := Same.trans S16 Sx
    have eq17 := Sx _ _ eq16
    refine ⟨D1, _, rfl, .lst (SqL.of eD) (tups_dss tm), tt2.1, tt2.2.1, tt2.2.2, ?_⟩
    clear Sx eD tm S16 eq16 hD1
    refine ⟨_, rfl, q, rfl, ⟨_, SqL.of eq17⟩, fun D1 hD1 => ?_⟩
    refine lc_list (xs := (S.map (·.1)).map V.str) (fun i H' => Same H17 H' ∧ ∃ M, H' D1 = some (.lst (M.map fun m : Str × Addr => V.ref m.2)) ∧ Tups H' M (S.take i)) ⟨Same.new hD1, [], upd_same, .nil⟩ (fun i H' _ h => SqL.of (h.1 _ _ eq17)) ?_ ?_
    · rintro i x Hx hx ⟨Sx, M, eD, tm⟩
      refine ⟨rfl, ?_⟩
      unfold tYes
      dsimp only
      rw [if_pos rfl]
      obtain ⟨n, b, e, rfl, e2, hm, a, dg, ha⟩ := row (Same.trans S17 Sx) hx
      have ii : i < S.length := (List.getElem?_eq_some_iff.mp e2).1
      refine ⟨_, rfl, _, rfl, d, V.ref a, rfl, dg, ?_⟩
      have kt : KT Hx (upd Hx D1 (.lst (M.map (fun m : Str × Addr => V.ref m.2) ++ [V.ref a]))) := KT.put eD (fun _ z => by cases z)
      refine ⟨_, eD, by rw [List.length_map, tm.len, List.length_take, sizeLine_eq]; omega, Same.at hD1 Sx, M ++ [(n, a)], by rw [upd_same, List.map_append]; rfl, ?_⟩
      rw [List.take_add_one, e2]
      exact (tm.keep kt).snoc (kt _ _ ha)
    rintro H18 ⟨Sx, M, eD, tm⟩
    rw [List.length_map, List.length_map, List.take_length] at tm
    have S18 := Same.trans S17 Sx
    have eq18 := Sx _ _ eq17
    refine ⟨D1, _, rfl, .lst (SqL.of eD) (tups_dss tm), tt2.1, tt2.2.1, tt2.2.2, ?_⟩
    refine ⟨rfl, _, rfl, ?_⟩
    rw [decide_eq_true rfl]
    refine iteF ?_
    clear Sx eD tm S17 eq17 hD1 td2 tt2
    -- odd values
    have R18 := Same.rl S18 R0
    refine ⟨_, rfl, _, rfl, _, rfl, r, d, p, t, L, R, S, rfl, R18, S18 _ _ hd, ts.keep (KT.same S18), gd, sp.same S18, fun lo ys Ho Ro Oo hlo elo lys yok => ?_⟩
    have nq : q ≠ r := nm' R0 hq0
    have So : Only r H Ho := Only.tr (Same.only S18) Oo
    have np : p ≠ r := ne_rl R0 h1 (fun _ z => by cases z)
    have eqo := Oo _ _ nq eq18
    have spo := (sp.same S18).only Oo R18
    have h1o := So _ _ np h1
    have hdo := So _ _ ndr hd
    clear S18 eq18
    refine ⟨lo, rfl, ⟨_, SqL.of elo⟩, fun D hD => ?_⟩
    have nD : q ≠ D := ne_of_none eqo hD
    refine lc_list (xs := ys) (fun i H' => Same Ho H' ∧ H' D = some (.lst [])) ⟨Same.new hD, upd_same⟩ (fun i H' _ h => SqL.of (h.1 _ _ elo)) ?_ ?_
    · rintro i y Hx hx ⟨Sx, eD⟩
      refine ⟨rfl, ?_⟩
      obtain ⟨yx, yn⟩ := yok y (List.mem_of_getElem? hx)
      refine ⟨_, rfl, _, rfl, p, dx, _, rfl, Sx _ _ h1o, p, t, S, y, rfl, spo.same Sx, ?_⟩
      rcases (yx.same Sx).odd (K := K) with ⟨z, rfl⟩ | od
      · refine .inl ⟨z, rfl, _, rfl, _, rfl, ?_⟩
        have hz : z ∉ S.map (·.1) := fun h => yn z rfl ((sr.pm.map (·.1)).mem_iff.mp h)
        rw [decide_eq_false hz]
        exact ⟨Sx, eD⟩
      · exact .inr ⟨od, _, rfl, _, rfl, ⟨Sx, eD⟩⟩
    rintro H19 ⟨Sx, eD⟩
    have R19 := Same.rl Sx Ro
    have eq19 := Sx _ _ eqo
    have h119 := Sx _ _ h1o
    have hd19 := Sx _ _ hdo
    have sp19 := spo.same Sx
    have S19 := Only.tr So (Same.only Sx)
    clear Sx eqo h1o hdo spo So elo yok
    have nnil : ∀ {Hx : Hp} {a b : Addr}, Hx a = some (.lst []) → Hx b = some (.lst []) → Dp K Hx (.ref a) (.list []) ∧ Dp K Hx (.ref b) (.list []) := fun ha hb => ⟨.lst (SqL.of ha) .nil, .lst (SqL.of hb) .nil⟩
    have shp : SeqAt.shaped (.list []) = true := by decide +kernel
    have eqv : PyData.eqv (.list []) (.list []) = true := by decide +kernel
    refine ⟨_, rfl, by show 0 ≤ sizeLine; decide, fun e1 he1 => ?_⟩
    have A1 := Same.new (o := .lst ([] : List V)) he1
    have ee1 : (upd H19 e1 (.lst [])) e1 = some (.lst []) := upd_same
    have R20 := Same.rl A1 R19
    have eq20 := A1 _ _ eq19
    have h120 := A1 _ _ h119
    have hd20 := A1 _ _ hd19
    have sp20 := sp19.same A1
    have S20 := Only.tr S19 (Same.only A1)
    have eD20 := A1 _ _ eD
    generalize upd H19 e1 (.lst []) = H20 at ee1 R20 eq20 h120 hd20 sp20 S20 eD20 ⊢
    clear A1 R19 eq19 h119 hd19 sp19 S19 eD
    refine ⟨.list [], .list [], .lst (SqL.of eD20) .nil, .lst (SqL.of ee1) .nil, shp, shp, _, rfl, ?_⟩
    rw [eqv]
    refine iteF ?_
    refine ⟨_, rfl, q, rfl, ⟨_, SqL.of eq20⟩, fun D2 hD2 => ?_⟩
    refine lc_list (xs := (S.map (·.1)).map V.str) (fun i H' => Same H20 H' ∧ H' D2 = some (.lst [])) ⟨Same.new hD2, upd_same⟩ (fun i H' _ h => SqL.of (h.1 _ _ eq20)) ?_ ?_
    · rintro i y Hx hx ⟨Sx, eD⟩
      refine ⟨rfl, ?_⟩
      rw [List.getElem?_map] at hx
      cases e2 : (S.map (·.1))[i]? with
      | none => rw [e2] at hx; cases hx
      | some n =>
        rw [e2] at hx
        cases hx
        have hn : n ∈ S.map (·.1) := List.mem_of_getElem? e2
        refine ⟨_, rfl, _, rfl, p, dx, _, rfl, Sx _ _ h120, p, t, S, .str n, rfl, sp20.same Sx, .inl ⟨n, rfl, _, rfl, _, rfl, ?_⟩⟩
        rw [decide_eq_true hn]
        exact ⟨Sx, eD⟩
    rintro H21 ⟨Sx, eD⟩
    refine ⟨by show 0 ≤ sizeLine; decide, fun e2 he2 => ?_⟩
    have A1 := Same.new (o := .lst ([] : List V)) he2
    have ee2 : (upd H21 e2 (.lst [])) e2 = some (.lst []) := upd_same
    have B := Same.trans Sx A1
    have R22 := Same.rl B R20
    have h122 := B _ _ h120
    have hd22 := B _ _ hd20
    have sp22 := sp20.same B
    have S22 := Only.tr S20 (Same.only B)
    have eD22 := A1 _ _ eD
    generalize upd H21 e2 (.lst []) = H22 at ee2 R22 h122 hd22 sp22 S22 eD22 ⊢
    clear A1 B R20 eq20 h120 hd20 sp20 S20 eD Sx
    refine ⟨.list [], .list [], .lst (SqL.of eD22) .nil, .lst (SqL.of ee2) .nil, shp, shp, _, rfl, ?_⟩
    rw [eqv]
    refine iteF ?_
    -- the text of the spans
    refine ⟨_, rfl, p, dx, _, rfl, h122, p, t, S, rfl, sp22, _, rfl, ?_⟩
    have il := int_len (i := (S.length : Int)) (by omega) (by have := gS.l8; omega)
    have it := int_len (i := t) (by omega) (by omega)
    have b1 : (Str.ofString "spans of ").length = 9 := by decide +kernel
    have b2 : (Str.ofString " names in ").length = 10 := by decide +kernel
    have b3 : (Str.ofString " ticks").length = 6 := by decide +kernel
    refine ⟨_, rfl, d, Kvs L, rfl, hd22, ?_⟩
    rw [kvs_len, ts.len, ← lS]
    refine ⟨_, rfl, il.2, _, _, rfl, rfl, by rw [b1, sizeLine_eq]; omega, ?_⟩
    refine ⟨_, _, rfl, rfl, by rw [len_app, b1, b2, sizeLine_eq]; omega, ?_⟩
    refine ⟨_, rfl, _, rfl, it.2, _, _, rfl, rfl, by rw [len_app, len_app, b1, b2, sizeLine_eq]; omega, ?_⟩
    refine ⟨_, _, rfl, rfl, by rw [len_app, len_app, len_app, b1, b2, b3, sizeLine_eq]; omega, ?_⟩
    refine ⟨rfl, ?_⟩
    exact bl_to (decide_eq_true rfl) (k H22 R22 S22)
end
end K37
namespace K37
open PySem L2
open PyProof.Rows PySem.Spec
section
variable {P : Program} {w : World} {K : PySem.W.Frag}
                                                      {mg : Str → Option Value} {base : Heap}
theorem self_nf {C : Addr} : PySem.W.notFirst K C (.ref C) = true := by
  unfold PySem.W.notFirst
  simp
theorem SpAt.ins {H : Hp} {C p : Addr} {t : Int} {S : Rws} (h : SpAt H C p t S) : ∃ dx fs, H p = some (.ins C dx fs) := by
  obtain ⟨g, so, dx, rd, nm, lv, cr, L, h1, _⟩ := h
  exact ⟨dx, _, h1⟩
theorem SpAt.tyd {H : Hp} {C p : Addr} {t : Int} {S : Rws} (h : SpAt H C p t S) : OW.Tyd K H (.ref p) (.ref C) := by
  obtain ⟨dx, fs, e⟩ := h.ins
  exact .inr (.inr ⟨C, dx, fs, e, rfl⟩)
/-- rows moved by so much -/
def farR (f : Int) (R : Rws) : Rws := R.map fun r => (r.1, r.2.1 + f, r.2.2 + f)
theorem farR_names (f : Int) (R : Rws) : (farR f R).map (·.1) = R.map (·.1) := by
  unfold farR
  rw [List.map_map]
  rfl
def sp_w_right (K : PySem.W.Frag) : Sp := fun vs H Q _ => ∃ (r : Addr), vs = [.ref r] ∧ Rl H r ∧ ∀ H', Rl H' r → Only r H H' → Q (.bl true) H'
theorem ok_w_right (T : T K mg) (U : UX K mg) : GW.FnG P w K mg base CX0 10 T.f_w_right T.d_w_right ["tray"] (sp_w_right K) := by
  have G_w_few : FnOk P w K mg base CX0 2 T.f_w_few T.d_w_few ["tray", "items", "many"] (sp_w_few K) := ok_w_few T
  have G_w_is_told : GW.FnG P w K mg base CX0 8 T.f_w_is_told T.d_w_is_told ["tray", "spans", "rows", "interval"] (sp_w_is_told K U.C) := ok_w_is_told T U
  have G_w_names : FnOk P w K mg base CX0 3 T.f_w_names T.d_w_names ["tray", "many"] (sp_w_names K) := ok_w_names T
  have G_w_near : FnOk P w K mg base CX0 3 T.f_w_near T.d_w_near ["tray", "rows", "interval"] (sp_w_near K) := ok_w_near T
  have G_w_pick : FnOk P w K mg base CX0 2 T.f_w_pick T.d_w_pick ["tray", "items"] (sp_w_pick K) := ok_w_pick T
  have G_w_roll : FnOk P w K mg base CX0 1 T.f_w_roll T.d_w_roll ["tray", "total"] (sp_w_roll K) := ok_w_roll T
  have G_w_rows : FnOk P w K mg base CX0 4 T.f_w_rows T.d_w_rows ["tray", "interval", "names"] (sp_w_rows K) := ok_w_rows T (ok_w_rings T)
  have G_w_sorted : FnOk P w K mg base CX0 1 T.f_w_sorted T.d_w_sorted ["rows"] (sp_w_sorted K) := ok_w_sorted T
  have G_init : FnOk P w K mg base CX0 6 U.fI U.dI ["self", "interval", "rows"] (sp_init K U.C) := ok_init T U
  have G_eq : FnOk P w K mg base CX0 3 U.me.f U.me.d ["self", "other"] (sp_eq K U.C) := ok_eq T U
  have Gi : FnOk P w K mg base CX0 1 U.pi.g U.pi.d ["self"] (getSp U.C "_interval") := ok_get U.cl U.pi sc_Spans_interval U.n1 ⟨_, _, _, rfl⟩
  have Gr : FnOk P w K mg base CX0 1 U.pr.g U.pr.d ["self"] (sp_rows K U.C) := ok_rows T U
  have Gm : FnOk P w K mg base CX0 8 U.pm.g U.pm.d ["self"] (sp_normal K U.C) := ok_normal T U
  refine GW.FunG.okG T.F_w_right sc_w_right (fun vs H Q E h => ?_) (fun cdv A outer s H vs Q E hg hr h => ?_)
  · obtain ⟨r, rfl, _⟩ := h
    rfl
  · obtain ⟨r, rfl, R0, k⟩ := h
    have hu := hu_of hr
    have hgd : (cxOf CX0 P w K mg base ["tray", "interval", "rows", "far", "passed", "spans", "other", "moved", "name", "first", "normal", "near"] "_law_right" (defScope s_w_right) T.f_w_right cdv A outer s H E).nox.A.guards = some [] := hg
    have hr_w_few : Room 2 _ := hr.mono (by decide)
    have hr_w_is_told : Room 8 _ := hr.mono (by decide)
    have hr_w_names : Room 3 _ := hr.mono (by decide)
    have hr_w_near : Room 3 _ := hr.mono (by decide)
    have hr_w_pick : Room 2 _ := hr.mono (by decide)
    have hr_w_roll : Room 1 _ := hr.mono (by decide)
    have hr_w_rows : Room 4 _ := hr.mono (by decide)
    have hr_w_sorted : Room 1 _ := hr.mono (by decide)
    refine ⟨_, (pss_cons (ps_set (i := 1) sc_w_right.nd rfl (Or.inl rfl) (pe_call G_w_pick hr_w_pick rfl T.m_w_pick T.F_w_pick.kp T.b_w_pick .nil pass0 (pa_cons (pv 0) (pa_cons (pe_lst (pa_cons pe_int (pa_cons pe_int (pa_cons pe_int (pa_cons pe_int (pa_cons pe_int (pa_cons pe_int (pa_cons pe_int (pa_cons pe_int pa_nil))))))))) pa_nil))))
      (pss_cons (ps_set (i := 2) sc_w_right.nd rfl (Or.inr rfl) (pe_call G_w_rows hr_w_rows rfl T.m_w_rows T.F_w_rows.kp T.b_w_rows .nil pass0 (pa_cons (pv 0) (pa_cons (pv 1) (pa_cons (pe_call G_w_names hr_w_names rfl T.m_w_names T.F_w_names.kp T.b_w_names .nil pass0 (pa_cons (pv 0) (pa_cons (pe_op op_add pe_int (pe_call G_w_roll hr_w_roll rfl T.m_w_roll T.F_w_roll.kp T.b_w_roll .nil pass0 (pa_cons (pv 0) (pa_cons pe_int pa_nil)))) pa_nil))) pa_nil)))))
      (pss_cons (ps_set (i := 3) sc_w_right.nd rfl (Or.inr rfl) (pe_call G_w_pick hr_w_pick rfl T.m_w_pick T.F_w_pick.kp T.b_w_pick .nil pass0 (pa_cons (pv 0) (pa_cons (pe_lst (pa_cons pe_int (pa_cons pe_int (pa_cons pe_int (pa_cons (pe_un un_neg (pe_op op_pow pe_int pe_int)) (pa_cons (pe_op op_add (pe_op op_pow pe_int pe_int) pe_int) pa_nil)))))) pa_nil))))
      (pss_cons (ps_set (i := 2) sc_w_right.nd rfl (Or.inr rfl) (pe_callTy (call_dictP rfl) (by rfl) T.z_dict (by decide +kernel) (pa_cons (pe_lock (pe_lc (own := [("name", 8)]) (g := gName 8) rfl sc_w_right.nd (pi_keys (pv 2)) (blkOk_by (N := ["tray", "interval", "rows", "far", "passed", "spans", "other", "moved", "name", "first", "normal", "near"]) (sc := defScope s_w_right) (by decide +kernel)) (fun _ _ _ _ _ => (pg_name (i := 8) sc_w_right.nd rfl (Or.inl rfl))) (fun _ _ _ _ _ => pts_nil) (fun _ _ _ _ _ => (pe_tup (pa_cons (pv 8) (pa_cons (pe_tup (pa_cons (pe_op op_add (pe_ix (r := rIx K) ix_seq (pe_dget (by exact hu) (pv 2) (pv 8) (fun _ _ => rfl)) pe_int (fun _ _ => rfl)) (pv 3)) (pa_cons (pe_op op_add (pe_ix (r := rIx K) ix_seq (pe_dget (by exact hu) (pv 2) (pv 8) (fun _ _ => rfl)) pe_int (fun _ _ => rfl)) (pv 3)) pa_nil))) pa_nil)))))) pa_nil)))
      (pss_cons (ps_set (i := 4) sc_w_right.nd rfl (Or.inl rfl) (pe_callTy (call_dictP rfl) (by rfl) T.z_dict (by decide +kernel) (pa_cons (pe_lc (own := [("name", 8)]) (g := gName 8) rfl sc_w_right.nd (pi_list (pe_call G_w_few hr_w_few rfl T.m_w_few T.F_w_few.kp T.b_w_few .nil pass0 (pa_cons (pv 0) (pa_cons (pe_callB (call_sortedD rfl) (by rfl) T.z_sorted (by decide +kernel) (pa_cons (pv 2) pa_nil)) (pa_cons pe_int pa_nil))))) (blkOk_by (N := ["tray", "interval", "rows", "far", "passed", "spans", "other", "moved", "name", "first", "normal", "near"]) (sc := defScope s_w_right) (by decide +kernel)) (fun _ _ _ _ _ => (pg_name (i := 8) sc_w_right.nd rfl (Or.inl rfl))) (fun _ _ _ _ _ => pts_nil) (fun _ _ _ _ _ => (pe_tup (pa_cons (pv 8) (pa_cons (pe_dget (by exact hu) (pv 2) (pv 8) (fun _ _ => rfl)) pa_nil))))) pa_nil)))
      (pss_cons (ps_par (i := 5) (j := 6) (by rfl) sc_w_right.nd rfl rfl (by decide) rfl rfl (pa_cons (pe_make U.mkI G_init (hr.mono (by decide)) rfl U.mC U.bI .nil pass0 (pa_cons (pv 1) (pa_cons (pv 4) pa_nil))) (pa_cons (pe_make U.mkI G_init (hr.mono (by decide)) rfl U.mC U.bI .nil pass0 (pa_cons (pv 1) (pa_cons (pe_call G_w_sorted hr_w_sorted rfl T.m_w_sorted T.F_w_sorted.kp T.b_w_sorted .nil pass0 (pa_cons (pv 2) pa_nil)) pa_nil))) pa_nil)) (by rfl))
      (pss_cons (ps_expr (pe_dclear (pv 4)))
      (pss_cons (ps_if (pt_not (pt_val (GW.pe_callG G_w_is_told hgd hr_w_is_told rfl T.m_w_is_told T.F_w_is_told.kp T.b_w_is_told .nil pass0 (pa_cons (pv 0) (pa_cons (pv 5) (pa_cons (pv 2) (pa_cons (pv 1) pa_nil)))))))
      (pss_one (ps_ret pe_bl))
      pss_nil)
      (pss_cons (ps_if (PW.pt (pw_or (pt_not (pt_cmpR (OW.op_ownEq G_eq ⟨U.me.m.at_, U.me.m.fn⟩ (hr.mono (by decide)) U.me.b pass0) (pv 5) (pv 6) (nomark _))) (pw_or (pt_cmpR (OW.op_ownNe G_eq ⟨U.me.m.at_, U.me.m.fn⟩ U.mo U.ne (hr.mono (by decide)) U.me.b pass0) (pv 5) (pv 6) (nomark _)) (pw_or (pt_cmpR (RL.op_ownEqD G_eq ⟨U.me.m.at_, U.me.m.fn⟩ (hr.mono (by decide)) U.me.b pass0) (pv 5) (pe_call G_w_sorted hr_w_sorted rfl T.m_w_sorted T.F_w_sorted.kp T.b_w_sorted .nil pass0 (pa_cons (pv 2) pa_nil)) (nomark _)) (pw_or1 (pt_not (pt_cmpR (RL.op_ownNeD G_eq ⟨U.me.m.at_, U.me.m.fn⟩ U.mo U.ne (hr.mono (by decide)) U.me.b pass0) (pv 5) (pv 2) (nomark _))))))))
      (pss_one (ps_ret pe_bl))
      pss_nil)
      (pss_cons (ps_set (i := 7) sc_w_right.nd rfl (Or.inl rfl) pe_dnewK)
      (pss_cons (ps_for PassesOwn.never rfl (pi_list (pe_callB (call_sortedD rfl) (by rfl) T.z_sorted (by decide +kernel) (pa_cons (pv 2) pa_nil))) (pg_name (i := 8) sc_w_right.nd rfl (Or.inl rfl))
      (pss_cons (ps_set (i := 9) sc_w_right.nd rfl (Or.inl rfl) (pe_op op_mod (pe_callTy call_int1 (by rfl) T.z_int (by decide +kernel) (pa_cons (pe_ix ix_seq (pe_dget (by exact hu) (pv 2) (pv 8) (fun _ _ => rfl)) pe_int (fun _ _ => rfl)) pa_nil)) (pv 1)))
      (pss_one (ps_dput (by exact hu) (pv 7) (pv 8) (pe_tup (pa_cons (pv 9) (pa_cons (pe_op op_sub (pe_op op_add (pv 9) (pe_ix ix_seq (pe_dget (by exact hu) (pv 2) (pv 8) (fun _ _ => rfl)) pe_int (fun _ _ => rfl))) (pe_ix ix_seq (pe_dget (by exact hu) (pv 2) (pv 8) (fun _ _ => rfl)) pe_int (fun _ _ => rfl))) pa_nil))) rfl))))
      (pss_cons (ps_set (i := 10) sc_w_right.nd rfl (Or.inl rfl) (pe_prop (pv 5) U.cl U.pm.pr Gm (hr.mono (by decide)) U.pm.b .nil pass0 rfl))
      (pss_cons (ps_if (pt_cmpR op_ne (pe_callB (RL.cr_reprD hgd (un64 hr)) (by rfl) T.z_repr (by decide +kernel) (pa_cons (pe_lst (pa_cons (pe_prop (pv 10) U.cl U.pi.pr Gi (hr.mono (by decide)) U.pi.b .nil pass0 rfl) (pa_cons (pe_prop (pv 10) U.cl U.pr.pr Gr (hr.mono (by decide)) U.pr.b .nil pass0 rfl) pa_nil))) pa_nil)) (pe_callB (RL.cr_reprD hgd (un64 hr)) (by rfl) T.z_repr (by decide +kernel) (pa_cons (pe_lst (pa_cons (pv 1) (pa_cons (pv 7) pa_nil))) pa_nil)) (nomark _))
      (pss_one (ps_ret pe_bl))
      pss_nil)
      (pss_cons (ps_if (PW.pt (pw_or (pt_cmpR (OW.op_ownNe G_eq ⟨U.me.m.at_, U.me.m.fn⟩ U.mo U.ne (hr.mono (by decide)) U.me.b pass0) (pe_prop (pv 10) U.cl U.pm.pr Gm (hr.mono (by decide)) U.pm.b .nil pass0 rfl) (pv 10) (nomark _)) (pw_or1 (pt_cmpR op_ne (pe_cmpR (OW.op_ownEq G_eq ⟨U.me.m.at_, U.me.m.fn⟩ (hr.mono (by decide)) U.me.b pass0) (pv 10) (pv 5) (nomark _)) (pe_cmpR (RL.op_eqDic (un64 hr)) (pv 7) (pe_call G_w_sorted hr_w_sorted rfl T.m_w_sorted T.F_w_sorted.kp T.b_w_sorted .nil pass0 (pa_cons (pv 2) pa_nil)) (nomark _)) (nomark _)))))
      (pss_one (ps_ret pe_bl))
      pss_nil)
      (pss_cons (ps_set (i := 11) sc_w_right.nd rfl (Or.inl rfl) (pe_call G_w_near hr_w_near rfl T.m_w_near T.F_w_near.kp T.b_w_near .nil pass0 (pa_cons (pv 0) (pa_cons (pv 2) (pa_cons (pv 1) pa_nil)))))
      (pss_cons (ps_if (pt_cmpR op_notN (pv 11) pe_non (nomark _))
      (pss_cons (ps_set (i := 3) sc_w_right.nd rfl (Or.inr rfl) (pe_make U.mkI G_init (hr.mono (by decide)) rfl U.mC U.bI .nil pass0 (pa_cons (pv 1) (pa_cons (pv 11) pa_nil))))
      (pss_one (ps_if (PW.pt (pw_or (pt_cmpR (OW.op_ownEq G_eq ⟨U.me.m.at_, U.me.m.fn⟩ (hr.mono (by decide)) U.me.b pass0) (pv 3) (pv 5) (nomark _)) (pw_or1 (pt_not (pt_cmpR (OW.op_ownNe G_eq ⟨U.me.m.at_, U.me.m.fn⟩ U.mo U.ne (hr.mono (by decide)) U.me.b pass0) (pv 3) (pv 5) (nomark _))))))
      (pss_one (ps_ret pe_bl))
      pss_nil)))
      pss_nil)
      (pss_one (ps_ret (pe_or (pe_cmpR op_eq (pv 1) pe_int (nomark _)) (pe_one (pe_cmpR (OW.op_ownNe G_eq ⟨U.me.m.at_, U.me.m.fn⟩ U.mo U.ne (hr.mono (by decide)) U.me.b pass0) (pe_make U.mkI G_init (hr.mono (by decide)) rfl U.mC U.bI .nil pass0 (pa_cons (pe_op op_add (pv 1) pe_int) (pa_cons (pv 2) pa_nil))) (pv 5) (nomark _)))))))))))))))))))))), ?_⟩
    have nm' : ∀ {Hx : Hp} {x : Addr}, Rl Hx r → Hx x = none → x ≠ r := fun Rx hx z => by
      obtain ⟨_, _, _, e⟩ := Rx
      rw [z, e] at hx
      cases hx
    have dead : ∀ {Hx : Hp} {x : Addr}, Only r H Hx → Rl Hx r → Hx x = none → H x = none := fun {Hx x} Sx Rx hx => by
      cases q : H x with
      | none => rfl
      | some o =>
        have := Sx _ _ (nm' Rx hx) q
        rw [hx] at this
        cases this
    -- the interval
    refine ⟨_, rfl, by show 8 ≤ sizeLine; decide, fun l1 hl1 => ?_⟩
    have A1 := Same.new (o := .lst [V.int 1, .int 2, .int 3, .int 4, .int 5, .int 6, .int 7, .int 32]) hl1
    have e1 : (upd H l1 (.lst [V.int 1, .int 2, .int 3, .int 4, .int 5, .int 6, .int 7, .int 32])) l1 = some (.lst [V.int 1, .int 2, .int 3, .int 4, .int 5, .int 6, .int 7, .int 32]) := upd_same
    have R1 := Same.rl A1 R0
    have n1 := nm' R0 hl1
    generalize upd H l1 (.lst [V.int 1, .int 2, .int 3, .int 4, .int 5, .int 6, .int 7, .int 32]) = H1 at A1 e1 R1 ⊢
    refine ⟨r, .ref l1, _, rfl, R1, .inl ⟨l1, rfl, n1, .inl (SqL.of e1)⟩, by decide, by show 8 ≤ sizeLine; decide, fun v H2 hv R2 O2 => ?_⟩
    obtain ⟨t, rfl, t1, t2⟩ : ∃ t, v = .int t ∧ 1 ≤ t ∧ t ≤ 32 := by
      simp only [List.mem_cons, List.not_mem_nil, or_false] at hv
      rcases hv with rfl | rfl | rfl | rfl | rfl | rfl | rfl | rfl <;> exact ⟨_, rfl, by decide, by decide⟩
    have P2 : Only r H H2 := Only.tr (Same.only A1) O2
    clear A1 e1 R1 O2 hv hl1 n1
    -- the rows
    refine ⟨_, rfl, _, rfl, _, rfl, _, rfl, r, 8, rfl, R2, by decide, by decide +kernel, fun u H3 u0 u1 R3 O3 => ⟨_, _, rfl, rfl, ?_⟩⟩
    refine ⟨r, (1 + u).toNat, by rw [Int.toNat_of_nonneg (by omega)]; rfl, R3, by omega, by omega, fun ln ns H4 R4 O4 hln eln nd nlen nok => ?_⟩
    refine ⟨r, ln, t, ns, rfl, R4, nm' R3 hln, SqL.of eln, t1, t2, nd, by omega, nok, fun d0 L0 Ra H5 R5 O5 hd0 ed0 ts0 pm0 hR0 => ?_⟩
    have P5 : Only r H H5 := Only.tr P2 (Only.tr O3 (Only.tr O4 O5))
    clear eln O3 O4 O5 P2 R2 R3 hln
    have n0 := ne_rl R5 ed0 (fun _ z => by cases z)
    -- far
    refine ⟨_, rfl, _, _, rfl, rfl, ⟨by decide, by decide, by decide⟩, _, rfl, _, _, rfl, rfl, ⟨by decide, by decide, by decide⟩, _, _, rfl, rfl, by show 5 ≤ sizeLine; decide, fun l2 hl2 => ?_⟩
    have A2 := Same.new (o := .lst [V.int 0, .int 0, .int 0, .int (-(10 ^ Int.toNat 11)), .int (10 ^ Int.toNat 11 + 7)]) hl2
    have e2 : (upd H5 l2 (.lst [V.int 0, .int 0, .int 0, .int (-(10 ^ Int.toNat 11)), .int (10 ^ Int.toNat 11 + 7)])) l2 = some (.lst [V.int 0, .int 0, .int 0, .int (-(10 ^ Int.toNat 11)), .int (10 ^ Int.toNat 11 + 7)]) := upd_same
    have R6 := Same.rl A2 R5
    have n2 := nm' R5 hl2
    generalize upd H5 l2 (.lst [V.int 0, .int 0, .int 0, .int (-(10 ^ Int.toNat 11)), .int (10 ^ Int.toNat 11 + 7)]) = H6 at A2 e2 R6 ⊢
    refine ⟨r, .ref l2, _, rfl, R6, .inl ⟨l2, rfl, n2, .inl (SqL.of e2)⟩, by decide, by show 5 ≤ sizeLine; decide, fun v H7 hv R7 O7 => ?_⟩
    obtain ⟨f, rfl, f1, f2⟩ : ∃ f, v = .int f ∧ -100000000000 ≤ f ∧ f ≤ 100000000007 := by
      simp only [List.mem_cons, List.not_mem_nil, or_false] at hv
      rcases hv with rfl | rfl | rfl | rfl | rfl <;> exact ⟨_, rfl, by decide, by decide⟩
    have P7 : Only r H5 H7 := Only.tr (Same.only A2) O7
    have ed7 := P7 _ _ n0 ed0
    have ts7 := ts0.keep (KT.only P7 R5)
    have Q7 : Only r H H7 := Only.tr P5 P7
    clear A2 e2 hv O7 P7 R6 R5 P5 ed0 ts0 hl2 n2
    have l0 : Ra.length = ns.length := by have := pm0.length_eq; rw [List.length_map] at this; exact this
    -- the moved rows
    refine ⟨d0, _, ed7, True.intro, fun od => ⟨_, rfl, d0, od, rfl, .inl ⟨Kvs L0, upd_same, fun D hD => ?_⟩⟩⟩
    have lk : (upd H7 d0 (.frz od (.dK (Kvs L0)))) d0 = some (.frz od (.dK (Kvs L0))) := upd_same
    have ktl : KT H7 (upd H7 d0 (.frz od (.dK (Kvs L0)))) := KT.put ed7 (fun _ z => by cases z)
    have nD : D ≠ d0 := fun z => by rw [z, upd_same] at hD; cases hD
    refine lc_it walk_keys (fun i H' => Same (upd H7 d0 (.frz od (.dK (Kvs L0)))) H' ∧ ∃ (ps : List Addr) (M : List (Str × Addr)), H' D = some (.lst (ps.map V.ref)) ∧ PairsAt H' ps M ∧ Tups H' M (farR f (Ra.take i)) ∧ ps.length = i) ⟨Same.new hD, [], [], upd_same, .nil, .nil, rfl⟩ (fun i H' _ h => h.1 _ _ lk) ?_ ?_
    · rintro i x Hx0 Hx hi ⟨Sx, ps, M, eD, pa, tm, lp⟩ ⟨rfl, kk, vv, ek, rfl⟩
      refine ⟨rfl, ?_⟩
      unfold tYes
      dsimp only
      rw [if_pos rfl]
      obtain ⟨n, a, b, e, ea, e2, ha, e4⟩ := tups_at (ts7.keep (KT.trans ktl (KT.same Sx))) i vv (by rw [ek]; rfl)
      have ek2 : (Kvs L0)[i]? = some (Sum.inr n, V.ref a) := by unfold Kvs; rw [List.getElem?_map, e4]; rfl
      rw [ek2] at ek
      obtain ⟨ek3, ek4⟩ := Prod.mk.inj (Option.some.inj ek)
      subst ek3 ek4
      have ii : i < Ra.length := (List.getElem?_eq_some_iff.mp e2).1
      have dg : DGet Hx d0 (.str n) (some (.ref a)) := by
        refine .inl ⟨Kvs L0, Sum.inr n, .inr ⟨od, Sx _ _ lk⟩, rfl, ?_⟩
        have := valV_self (L := L0) (by rw [ts7.names]; exact pm0.nodup_iff.mpr nd) _ (List.mem_of_getElem? ek2)
        exact this.symm
      refine ⟨_, rfl, _, rfl, _, rfl, d0, V.ref a, rfl, dg, .inr (.inl ⟨a, _, _, _, rfl, rfl, SqT.of ha, rfl, _, rfl, _, _, rfl, rfl, ?_⟩)⟩
      refine ⟨_, rfl, _, rfl, d0, V.ref a, rfl, dg, .inr (.inl ⟨a, _, _, _, rfl, rfl, SqT.of ha, rfl, _, rfl, _, _, rfl, rfl, ?_⟩)⟩
      refine ⟨by show 2 ≤ sizeLine; decide, fun q1 hq1 => ?_⟩
      have B1 := Same.new (o := .tup [V.int (b + f), .int (e + f)]) hq1
      have x1 : (upd Hx q1 (.tup [V.int (b + f), .int (e + f)])) q1 = some (.tup [V.int (b + f), .int (e + f)]) := upd_same
      generalize upd Hx q1 (.tup [V.int (b + f), .int (e + f)]) = Hy at B1 x1 ⊢
      refine ⟨by show 2 ≤ sizeLine; decide, fun q2 hq2 => ?_⟩
      have B2 := Same.new (o := .tup [kV (Sum.inr n), .ref q1]) hq2
      have x2 : (upd Hy q2 (.tup [kV (Sum.inr n), .ref q1])) q2 = some (.tup [V.str n, .ref q1]) := upd_same
      have x1 := B2 _ _ x1
      have B := Same.trans B1 B2
      generalize upd Hy q2 (.tup [kV (Sum.inr n), .ref q1]) = Hz at B x1 x2 ⊢
      have eDz := B _ _ eD
      have kt : KT Hz (upd Hz D (.lst (ps.map V.ref ++ [V.ref q2]))) := KT.put eDz (fun _ z => by cases z)
      refine ⟨_, eDz, by rw [List.length_map, lp, sizeLine_eq]; omega, Same.at hD (Same.trans Sx B), ps ++ [q2], M ++ [(n, q1)], by rw [upd_same, List.map_append]; rfl, ?_, ?_, by rw [List.length_append, lp]; rfl⟩
      · exact (pa.keep (KT.trans (KT.same B) kt)).snoc (kt _ _ x2)
      · rw [List.take_add_one, e2]
        have e9 : farR f (Ra.take i ++ (some (n, b, e)).toList) = farR f (Ra.take i) ++ [(n, b + f, e + f)] := by unfold farR; simp
        rw [e9]
        exact (tm.keep (KT.trans (KT.same B) kt)).snoc (kt _ _ x1)
    rintro H8 ⟨Sx, ps, M, eD, pa, tm, lp⟩
    refine ⟨Sx _ _ lk, ?_⟩
    rw [kvs_len, ts7.len, List.take_length] at tm
    have SH := same_lock ed7 Sx
    have kt8 : KT H8 (upd H8 d0 (.dK (Kvs L0))) := KT.put (Sx _ _ lk) (fun _ z => by cases z)
    have eD8 : (upd H8 d0 (.dK (Kvs L0))) D = some (.lst (ps.map V.ref)) := (upd_ne nD).trans eD
    have pa8 := pa.keep kt8
    have tm8 := tm.keep kt8
    generalize upd H8 d0 (.dK (Kvs L0)) = H9 at SH eD8 pa8 tm8 ⊢
    clear Sx eD pa tm kt8 lk ktl hD
    have Q9 : Only r H H9 := Only.tr Q7 (Same.only SH)
    have R9 := Same.rl SH R7
    generalize hR : farR f Ra = R at tm8
    have nR : R.map (·.1) = Ra.map (·.1) := by rw [← hR]; exact farR_names f Ra
    have lR : R.length = Ra.length := by rw [← hR]; unfold farR; exact List.length_map ..
    have ndR : (R.map (·.1)).Nodup := by rw [nR]; exact pm0.nodup_iff.mpr nd
    have inR : ∀ x ∈ R, SpOk t x ∧ Near 200000000000 x := fun x hx => by
      rw [← hR] at hx
      obtain ⟨y, hy, rfl⟩ := List.mem_map.mp hx
      obtain ⟨g1, g2⟩ := hR0 y hy
      unfold SpOk Near at *
      simp only
      omega
    have gd : Good t R := by
      refine ⟨ndR, by omega, by omega, fun x hx => ?_, fun x hx => (inR x hx).1, fun x hx => ?_, t1, t2⟩
      · refine nok x.1 (pm0.mem_iff.mp ?_)
        rw [← nR]
        exact List.mem_map.mpr ⟨x, hx, rfl⟩
      · have g := (inR x hx).2
        unfold Near at *
        omega
    clear hR nR lR ndR nd nok nlen l0 pm0 hR0 ed7 ts7 SH Q7 R7
    refine ⟨D, ps, Kvs M, rfl, SqL.of eD8, pa8.pd, fun d hd0' => ?_⟩
    have mk : mergeK [] (Kvs M) = Kvs M := (mergeK_kvs M [] (by rw [List.nil_append, tm8.names]; exact gd.nd)).trans rfl
    rw [mk]
    have B1 := Same.new (o := .dK (Kvs M)) hd0'
    have ed : (upd H9 d (.dK (Kvs M))) d = some (.dK (Kvs M)) := upd_same
    have ts := tm8.keep (KT.same B1)
    have Qa : Only r H (upd H9 d (.dK (Kvs M))) := Only.tr Q9 (Same.only B1)
    have Ra' := Same.rl B1 R9
    have ndr := nm' R9 hd0'
    generalize upd H9 d (.dK (Kvs M)) = Ha at ed ts Qa Ra' ⊢
    clear B1 Q9 R9 eD8 pa8 tm8 mk hd0'
    have l8 := gd.l8
    have l1' := gd.l1
    -- passed
    refine ⟨_, rfl, _, rfl, d, _, M.map (·.1), rfl, .inl ed, kvs_keys M, by rw [List.length_map, ts.len]; omega, fun ys q pm so hq => ?_⟩
    rw [ts.names] at pm
    have ly : ys.length = R.length := by rw [pm.length_eq, List.length_map]
    have B1 := Same.new (o := .lst (ys.map V.str)) hq
    have eq1 : (upd Ha q (.lst (ys.map V.str))) q = some (.lst (ys.map V.str)) := upd_same
    have Rb := Same.rl B1 Ra'
    have nq := nm' Ra' hq
    generalize upd Ha q (.lst (ys.map V.str)) = Hb at B1 eq1 Rb ⊢
    refine ⟨r, q, ys.map V.str, 8, rfl, Rb, .inl (SqL.of eq1), by rw [List.length_map]; omega, by decide, by decide, fun lf zs rest Hc Rc Oc hlf elf pmf lenf => ?_⟩
    have ndy : ys.Nodup := pm.nodup_iff.mpr gd.nd
    obtain ⟨cs, rfl, mcs, ndcs⟩ := few_of (f := V.str) (xs := ys) (fun a _ b _ h => V.str.inj h) ndy pmf
    rw [List.length_map, List.length_map] at lenf
    have lcs : cs.length = ys.length := by split at lenf <;> omega
    have pcs : cs.Perm (R.map (·.1)) := by
      have fp := filter_perm ndy ndcs mcs
      have fl := fp.length_eq
      rw [List.length_append] at fl
      have : (ys.filter fun n => !decide (n ∈ cs)) = [] := List.length_eq_zero_iff.mp (by omega)
      rw [this, List.append_nil] at fp
      exact fp.trans pm
    have Oac : Only r Ha Hc := Only.tr (Same.only B1) Oc
    have edc := Oac _ _ ndr ed
    have tsc := ts.keep (KT.only Oac Ra')
    have Qc := Only.tr Qa Oac
    have nlf := nm' Rb hlf
    clear B1 eq1 Rb Oc Oac ed ts Qa Ra' pmf lenf hq
    refine ⟨lf, rfl, ⟨_, SqL.of elf⟩, fun D hD => ?_⟩
    refine lc_list (xs := cs.map V.str) (fun i H' => Same Hc H' ∧ ∃ (ps : List Addr) (N : List (Str × Addr)), H' D = some (.lst (ps.map V.ref)) ∧ PairsAt H' ps N ∧ Tups H' N (pickR R (cs.take i)) ∧ ps.length = i) ⟨Same.new hD, [], [], upd_same, .nil, .nil, rfl⟩ (fun i H' _ h => SqL.of (h.1 _ _ elf)) ?_ ?_
    · rintro i x H2 hx ⟨S2, ps, N, eD, pa, tm, lp⟩
      refine ⟨rfl, ?_⟩
      unfold tYes
      dsimp only
      rw [if_pos rfl]
      rw [List.getElem?_map] at hx
      cases e2 : cs[i]? with
      | none => rw [e2] at hx; cases hx
      | some n =>
        rw [e2] at hx
        cases hx
        have hn : n ∈ R.map (·.1) := pcs.mem_iff.mp (List.mem_of_getElem? e2)
        have ts2 := tsc.keep (KT.same S2)
        obtain ⟨a, b, e, hv, ht, hm⟩ := ts2.get hn
        refine ⟨_, rfl, _, rfl, _, rfl, d, V.ref a, rfl, ?_, by show 2 ≤ sizeLine; decide, fun q hq => ?_⟩
        · have := DGet.k (k := Sum.inr n) (S2 _ _ edc)
          rw [hv] at this
          exact this
        have B1 := Same.new (o := .tup [V.str n, .ref a]) hq
        have x1 : (upd H2 q (.tup [V.str n, .ref a])) q = some (.tup [V.str n, .ref a]) := upd_same
        have li : i < cs.length := (List.getElem?_eq_some_iff.mp e2).1
        have eD2 := B1 _ _ eD
        generalize upd H2 q (.tup [V.str n, .ref a]) = H3 at B1 x1 eD2 ⊢
        have kt : KT H3 (upd H3 D (.lst (ps.map V.ref ++ [V.ref q]))) := KT.put eD2 (fun _ z => by cases z)
        refine ⟨_, eD2, by rw [List.length_map, lp, sizeLine_eq]; omega, Same.at hD (Same.trans S2 B1), ps ++ [q], N ++ [(n, a)], by rw [upd_same, List.map_append]; rfl, ?_, ?_, by rw [List.length_append, lp]; rfl⟩
        · exact (pa.keep (KT.trans (KT.same B1) kt)).snoc (kt _ _ x1)
        · rw [List.take_add_one, e2]
          show Tups _ _ (pickR R (cs.take i ++ [n]))
          rw [pickR_snoc R _ n (lookup_mem gd.nd hm)]
          exact (tm.keep (KT.trans (KT.same B1) kt)).snoc (kt _ _ ((KT.same B1) _ _ ht))
    rintro Hd ⟨Sx, ps, N, eD, pa, tm, lp⟩
    rw [List.length_map, List.take_length] at tm
    have edd := Sx _ _ edc
    have tsd := tsc.keep (KT.same Sx)
    have Qd := Only.tr Qc (Same.only Sx)
    have Rd' := Same.rl Sx Rc
    clear Sx elf edc tsc Qc Rc hlf nlf hD
    have pR := pickR_perm gd.nd pcs
    have gP : Good t (pickR R cs) := gd.perm pR
    generalize pickR R cs = R2 at tm pR gP
    refine ⟨D, ps, Kvs N, rfl, SqL.of eD, pa.pd, fun pd hpd => ?_⟩
    have mk : mergeK [] (Kvs N) = Kvs N := (mergeK_kvs N [] (by rw [List.nil_append, tm.names]; exact gP.nd)).trans rfl
    rw [mk]
    have B1 := Same.new (o := .dK (Kvs N)) hpd
    have epd : (upd Hd pd (.dK (Kvs N))) pd = some (.dK (Kvs N)) := upd_same
    have hpd0 := dead Qd Rd' hpd
    have npd := nm' Rd' hpd
    have ndp : d ≠ pd := ne_of_none edd hpd
    have tp := tm.keep (KT.same B1)
    have ed := B1 _ _ edd
    have ts := tsd.keep (KT.same B1)
    have Qe : Only r H (upd Hd pd (.dK (Kvs N))) := Only.tr Qd (Same.only B1)
    have Re := Same.rl B1 Rd'
    generalize upd Hd pd (.dK (Kvs N)) = He at epd tp ed ts Qe Re ⊢
    clear B1 mk tm edd tsd Qd Rd' eD pa hpd pcs mcs lcs ndcs lp
    -- spans
    refine ⟨_, rfl, _, rfl, fun p1 dq hq hdq ne => ?_⟩
    have S0 : Same He (upd (upd He dq (.own p1)) p1 (.ins U.C dq [])) := fun b o e => by
      rw [upd_ne (ne_of_none e hq), upd_ne (ne_of_none e hdq)]
      exact e
    have gone : ∀ b, (upd (upd He dq (.own p1)) p1 (.ins U.C dq [])) b = none → He b = none := fun b e => by
      cases z : He b with
      | none => rfl
      | some o => rw [S0 _ _ z] at e; cases e
    refine ⟨p1, pd, dq, t, N, R2, rfl, upd_same, S0 _ _ epd, tp.keep (KT.same S0), gP, fun S1 Hf B1 sp1 sr1 fr1 => ⟨rfl, ?_⟩⟩
    have np1 := nm' Re hq
    have npp : p1 ≠ pd := fun z => by rw [z, epd] at hq; cases hq
    have Sef : Same He Hf := fun b o e => B1 _ _ (ne_of_none e hq) (S0 _ _ e)
    have fr1' : ∀ H'', (∀ b o, b ≠ pd → Hf b = some o → H'' b = some o) → KT Hf H'' → SpAt H'' U.C p1 t S1 := fun H'' kp kt => by
      refine fr1 H'' (fun b o hb e => kp b o ?_ e) kt
      rcases hb with hb | hb
      · intro z
        have := gone b hb
        rw [z, epd] at this
        cases this
      · rw [hb]
        exact npp
    clear B1 S0 gone fr1 ne hdq
    have epdf := Sef _ _ epd
    have edf := Sef _ _ ed
    have tsf := ts.keep (KT.same Sef)
    have Qf := Only.tr Qe (Same.only Sef)
    have Rf := Same.rl Sef Re
    clear epd ed ts Qe Re tp hq Sef
    -- other
    refine ⟨_, rfl, _, rfl, d, M, R, rfl, edf, tsf, gd.nd, l8, fun du LD S Hg Sg hdu edu tsd srS => fun p2 dq2 hq hdq ne => ?_⟩
    have S0 : Same Hg (upd (upd Hg dq2 (.own p2)) p2 (.ins U.C dq2 [])) := fun b o e => by
      rw [upd_ne (ne_of_none e hq), upd_ne (ne_of_none e hdq)]
      exact e
    have epdg := Sg _ _ epdf
    have gone : ∀ b, (upd (upd Hg dq2 (.own p2)) p2 (.ins U.C dq2 [])) b = none → Hg b = none := fun b e => by
      cases z : Hg b with
      | none => rfl
      | some o => rw [S0 _ _ z] at e; cases e
    refine ⟨p2, du, dq2, t, LD, S, rfl, upd_same, S0 _ _ edu, tsd.keep (KT.same S0), gd.perm srS.pm, fun S2 Hh B1 sp2 sr2 fr2 => ⟨rfl, ?_⟩⟩
    obtain rfl : S = S2 := Srd.eq gd.nd srS ⟨sr2.pm.trans srS.pm, sr2.so⟩
    obtain rfl : S1 = S := Srd.eq gd.nd ⟨sr1.pm.trans pR, sr1.so⟩ srS
    have npp2 : p2 ≠ pd := fun z => by rw [z, epdg] at hq; cases hq
    have Sgh : Same Hg Hh := fun b o e => B1 _ _ (ne_of_none e hq) (S0 _ _ e)
    have Sfh : Same Hf Hh := Same.trans Sg Sgh
    have fr2' : ∀ H'', (∀ b o, b ≠ pd → Hh b = some o → H'' b = some o) → KT Hh H'' → SpAt H'' U.C p2 t S1 := fun H'' kp kt => by
      refine fr2 H'' (fun b o hb e => kp b o ?_ e) kt
      rcases hb with hb | hb
      · intro z
        have := gone b hb
        rw [z, epdg] at this
        cases this
      · rw [hb]
        exact npp2
    refine ⟨_, _, rfl, ?_⟩
    have epdh := Sfh _ _ epdf
    have edh := Sfh _ _ edf
    have tsh := tsf.keep (KT.same Sfh)
    have Qh := Only.tr Qf (Same.only Sfh)
    have Rh := Same.rl Sfh Rf
    clear B1 S0 gone fr2 ne hdq sr1 sr2 edu tsd hdu epdg Sgh Sg sp1 sp2 epdf edf tsf Qf Rf hq
    -- clear
    refine ⟨_, rfl, .inr (.inr (.inl ⟨rfl, .inl ⟨_, epdh⟩⟩)), pd, _, rfl, rfl, epdh, ?_⟩
    have kt : KT Hh (upd Hh pd (.dK [])) := KT.put epdh (fun _ z => by cases z)
    have kp : ∀ b o, b ≠ pd → Hh b = some o → (upd Hh pd (.dK [])) b = some o := fun b o n e => by rw [upd_ne n]; exact e
    have sp1 := fr1' _ (fun b o n e => kp b o n (Sfh _ _ e)) (KT.trans (KT.same Sfh) kt)
    have sp2 := fr2' _ kp kt
    have ed := kp _ _ ndp edh
    have ts := tsh.keep kt
    have Qi : Only r H (upd Hh pd (.dK [])) := fun b o n e => kp _ _ (ne_of_none e hpd0) (Qh _ _ n e)
    have Ri : Rl (upd Hh pd (.dK [])) r := by
      obtain ⟨x1, x2, x3, e⟩ := Rh
      exact ⟨x1, x2, x3, kp _ _ npd.symm e⟩
    generalize upd Hh pd (.dK []) = Hi at sp1 sp2 ed ts Qi Ri ⊢
    clear kt kp fr1' fr2' epdh edh tsh Qh Rh Sfh npp npp2 ndp npd hpd0 gP pR
    -- told
    refine ⟨_, rfl, _, rfl, _, rfl, _, rfl, r, p1, d, t, M, R, S1, rfl, Ri, sp1, ed, ts, gd, srS, fun Hj Rj Oj => ⟨_, rfl, iteF ?_⟩⟩
    have sp1 := sp1.only Oj Ri
    have sp2 := sp2.only Oj Ri
    have ed := Oj _ _ ndr ed
    have ts := ts.keep (KT.only Oj Ri)
    have Qj := Only.tr Qi Oj
    clear Oj Qi Ri
    obtain ⟨dx1, fs1, ep1⟩ := sp1.ins
    obtain ⟨dx2, fs2, ep2⟩ := sp2.ins
    have dt : (decide (t = t) && decide (S1 = S1)) = true := by simp
    -- equal
    refine ⟨_, rfl, _, rfl, p1, dx1, fs1, _, rfl, ep1, sp2.tyd, self_nf, p1, t, S1, .ref p2, rfl, sp1, .inl ⟨p2, t, S1, rfl, sp2, fun _ => rfl, ?_⟩⟩
    rw [dt]
    refine ⟨_, rfl, iteF ?_⟩
    refine ⟨_, rfl, _, rfl, p1, dx1, fs1, _, rfl, ep1, sp2.tyd, self_nf, p1, t, S1, .ref p2, rfl, sp1, .inl ⟨p2, t, S1, rfl, sp2, fun _ => rfl, ?_⟩⟩
    rw [dt]
    refine ⟨_, rfl, _, rfl, iteF ?_⟩
    refine ⟨_, rfl, _, rfl, d, M, R, rfl, ed, ts, gd.nd, l8, fun du LD SD Hk Sk hdu edu tsd srd => ?_⟩
    obtain rfl : S1 = SD := Srd.eq gd.nd srS srd
    refine ⟨p1, dx1, fs1, du, _, rfl, Sk _ _ ep1, rfl, edu, (U.tin "dict" (by decide)).1, p1, t, S1, .ref du, rfl, sp1.same Sk, .inr ⟨"dict", by decide, .base (.dK edu), _, rfl, iteF ?_⟩⟩
    have ep1 := Sk _ _ ep1
    have sp1 := sp1.same Sk
    have ed := Sk _ _ ed
    have ts := ts.keep (KT.same Sk)
    have Qk := Only.tr Qj (Same.only Sk)
    have Rk := Same.rl Sk Rj
    clear Sk Qj Rj sp2 ep2 edu tsd srd hdu
    refine ⟨_, rfl, _, rfl, p1, dx1, fs1, d, _, rfl, ep1, rfl, ed, (U.tin "dict" (by decide)).1, p1, t, S1, .ref d, rfl, sp1, .inr ⟨"dict", by decide, .base (.dK ed), _, rfl, _, rfl, iteF ?_⟩⟩
    -- moved
    refine fun mo hmo => ?_
    have hmo0 := dead Qk Rk hmo
    have nmd : d ≠ mo := ne_of_none ed hmo
    have nmr := nm' Rk hmo
    have B0 : But mo Hk (upd Hk mo (.dK [])) := But.upd
    have emo : (upd Hk mo (.dK [])) mo = some (.dK (Kvs [])) := upd_same
    generalize upd Hk mo (.dK []) = Hl at B0 emo ⊢
    have ktB : ∀ {Hx : Hp}, But mo Hk Hx → KT Hk Hx := fun B a xs e => B _ _ (ne_of_none e hmo) e
    have rlB : ∀ {Hx : Hp}, But mo Hk Hx → Rl Hx r := fun B => by
      obtain ⟨x1, x2, x3, e⟩ := Rk
      exact ⟨x1, x2, x3, B _ _ nmr.symm e⟩
    have onB : ∀ {Hx : Hp}, But mo Hk Hx → Only r H Hx := fun B b o n e => B _ _ (ne_of_none e hmo0) (Qk _ _ n e)
    refine ⟨_, rfl, d, _, M.map (·.1), rfl, .inl (B0 _ _ nmd ed), kvs_keys M, by rw [List.length_map, ts.len]; omega, fun ys3 q3 pm3 so3 hq3 => ?_⟩
    rw [ts.names] at pm3
    obtain rfl : ys3 = S1.map (·.1) := sorted_eq pm3 (srS.pm.map (·.1)) so3 srS.so
    have C1 := Same.new (o := .lst ((S1.map (·.1)).map V.str)) hq3
    have e3 : (upd Hl q3 (.lst ((S1.map (·.1)).map V.str))) q3 = some (.lst ((S1.map (·.1)).map V.str)) := upd_same
    have B1 : But mo Hk (upd Hl q3 (.lst ((S1.map (·.1)).map V.str))) := But.trans B0 (But.same C1)
    have nq3 : q3 ≠ mo := (ne_of_none emo hq3).symm
    have emo := C1 _ _ emo
    generalize upd Hl q3 (.lst ((S1.map (·.1)).map V.str)) = Hm at e3 emo B1 ⊢
    clear C1 B0 hq3
    have gS := sp1.1
    refine ⟨q3, rfl, ⟨_, SqL.of e3⟩, for_list (xs := (S1.map (·.1)).map V.str) (fun i σ H' => (∃ v8 v9, σ = [some (.ref r), some (.int t), some (.ref d), some (.int f), some (.ref pd), some (.ref p1), some (.ref p2), some (.ref mo), v8, v9, none, none]) ∧ But mo Hk H' ∧ H' q3 = some (.lst ((S1.map (·.1)).map V.str)) ∧ ∃ N, H' mo = some (.dK (Kvs N)) ∧ Tups H' N (nrmR t (S1.take i)))
      ⟨⟨none, none, rfl⟩, B1, e3, [], emo, .nil⟩ (fun i σ H' _ h => SqL.of h.2.2.1) ?_ ?_⟩
    · rintro i x σ' H' hx ⟨⟨v8, v9, rfl⟩, B, e3', N, eN, tN⟩
      rw [List.getElem?_map, List.getElem?_map] at hx
      cases e2 : S1[i]? with
      | none => rw [e2] at hx; cases hx
      | some y =>
        rw [e2] at hx
        obtain ⟨n, b, e⟩ := y
        cases hx
        have ii : i < S1.length := (List.getElem?_eq_some_iff.mp e2).1
        have hm : (n, b, e) ∈ S1 := List.mem_of_getElem? e2
        obtain ⟨a, va, ha⟩ := (ts.keep (ktB B)).at gd.nd (srS.pm.mem_iff.mp hm)
        have dg : DGet H' d (.str n) (some (.ref a)) := by
          have := DGet.k (k := Sum.inr n) (B _ _ nmd ed)
          rw [va] at this
          exact this
        refine ⟨_, rfl, _, rfl, d, V.ref a, rfl, dg, .inr (.inl ⟨a, _, _, _, rfl, rfl, SqT.of ha, rfl, .inl ⟨_, rfl, _, rfl, _, _, rfl, rfl, by omega, ?_⟩⟩)⟩
        refine ⟨_, rfl, _, rfl, _, rfl, _, rfl, d, V.ref a, rfl, dg, .inr (.inl ⟨a, _, _, _, rfl, rfl, SqT.of ha, rfl, _, _, rfl, rfl, _, rfl, _, rfl, d, V.ref a, rfl, dg, .inr (.inl ⟨a, _, _, _, rfl, rfl, SqT.of ha, rfl, _, _, rfl, rfl, ?_⟩)⟩)⟩
        refine ⟨by show 2 ≤ sizeLine; decide, fun q hq => ?_⟩
        have C := Same.new (o := .tup [V.int (b % t), .int (b % t + e - b)]) hq
        have eq1 : (upd H' q (.tup [V.int (b % t), .int (b % t + e - b)])) q = some (.tup [V.int (b % t), .int (b % t + e - b)]) := upd_same
        have B2 : But mo Hk (upd H' q (.tup [V.int (b % t), .int (b % t + e - b)])) := But.trans B (But.same C)
        have eN2 := C _ _ eN
        have tN2 := tN.keep (KT.same C)
        have e32 := C _ _ e3'
        generalize upd H' q (.tup [V.int (b % t), .int (b % t + e - b)]) = H2 at eq1 B2 eN2 tN2 e32 ⊢
        have nn : n ∉ (nrmR t (S1.take i)).map (·.1) := by
          rw [nrmR_names]
          intro hm2
          have nd := gS.nd
          rw [← List.take_append_drop i S1, List.map_append, List.nodup_append] at nd
          refine nd.2.2 n hm2 n (List.mem_map.mpr ⟨(n, b, e), ?_, rfl⟩) rfl
          rw [List.mem_iff_getElem?]
          exact ⟨0, by rw [List.getElem?_drop]; exact e2⟩
        obtain ⟨z1, z2⟩ := tups_put eN2 tN2 nn (show TupAt H2 q (b % t) (b % t + e - b) from eq1)
        have gl8 := gS.l8
        refine ⟨_, rfl, _, rfl, mo, _, rfl, DPut.k (k := Sum.inr n) eN2 (by rw [kvs_len, tN2.len]; unfold nrmR; rw [List.length_map, List.length_take, sizeLine_eq]; omega), ?_⟩
        refine ⟨⟨_, _, rfl⟩, But.trans B2 But.upd, by rw [upd_ne nq3]; exact e32, N ++ [(n, q)], z1, ?_⟩
        rw [List.take_add_one, e2]
        have e9 : nrmR t (S1.take i ++ (some (n, b, e)).toList) = nrmR t (S1.take i) ++ [(n, b % t, b % t + e - b)] := by unfold nrmR; simp
        rw [e9]
        exact z2
    rintro σ' Hn ⟨⟨v8, v9, rfl⟩, B, _, N, eN, tN⟩
    rw [List.length_map, List.length_map, List.take_length] at tN
    have sp1 : SpAt Hn U.C p1 t S1 := SpAt.off B hmo sp1
    have ed := B _ _ nmd ed
    have ts := ts.keep (ktB B)
    have Rn := rlB B
    have Qn := onB B
    clear B B1 e3 emo ktB rlB onB Rk Qk hmo ep1
    -- normal
    obtain ⟨dx1, fs1, ep1⟩ := sp1.ins
    refine ⟨_, rfl, p1, dx1, fs1, rfl, ep1, p1, t, S1, rfl, sp1, fun pn Ho So spn => ?_⟩
    have fp1 := So _ _ ep1
    have sp1 := sp1.same So
    have ed := So _ _ ed
    have ts := ts.keep (KT.same So)
    have eN := So _ _ eN
    have tN := tN.keep (KT.same So)
    have Qo := Only.tr Qn (Same.only So)
    have Ro := Same.rl So Rn
    clear So Qn Rn ep1
    have gN : Good t (nrmR t S1) := gS.nrm
    obtain ⟨_, soN, dxn, rdn, nmn, lvn, crn, LN, hn1, hn2, hn3, hn4⟩ := id spn
    refine ⟨_, rfl, pn, dxn, _, rfl, hn1, pn, dxn, _, .int t, rfl, hn1, rfl, ?_⟩
    refine ⟨_, rfl, pn, dxn, _, rfl, hn1, pn, t, _, rfl, spn, fun q1 L1 hq1 ts1 => ?_⟩
    have C1 := Same.new (o := .dK (Kvs L1)) hq1
    have e1 : (upd Ho q1 (.dK (Kvs L1))) q1 = some (.dK (Kvs L1)) := upd_same
    have ts1 := ts1.keep (KT.same C1)
    generalize upd Ho q1 (.dK (Kvs L1)) = Hp' at C1 e1 ts1 ⊢
    refine ⟨by show 2 ≤ sizeLine; decide, fun l1 hl1 => ?_⟩
    have C2 := Same.new (o := .lst [V.int t, .ref q1]) hl1
    have e2 : (upd Hp' l1 (.lst [V.int t, .ref q1])) l1 = some (.lst [V.int t, .ref q1]) := upd_same
    have e1 := C2 _ _ e1
    have ts1 := ts1.keep (KT.same C2)
    have C := Same.trans C1 C2
    generalize upd Hp' l1 (.lst [V.int t, .ref q1]) = Hq at C e1 e2 ts1 ⊢
    have td1 : TD 3 (.list [.int t, rowsD (nrmR t S1)]) (0 + 1 + (96 + 1 + 0)) := TD.list (TLs.cons (TD.int (by omega) (by omega)).up.up (TLs.cons (TD.rows gN) TLs.nil))
    have tt1 := td1.tell (by decide) (by decide)
    refine ⟨l1, _, rfl, .lst (SqL.of e2) (.cons (.int t) (.cons (rows_ds e1 ts1) .nil)), tt1.1, tt1.2.1, tt1.2.2, ?_⟩
    have eN := C _ _ eN
    have tN := tN.keep (KT.same C)
    clear e1 e2 ts1 C1 C2
    refine ⟨_, rfl, _, rfl, by show 2 ≤ sizeLine; decide, fun l2 hl2 => ?_⟩
    have C3 := Same.new (o := .lst [V.int t, .ref mo]) hl2
    have e4 : (upd Hq l2 (.lst [V.int t, .ref mo])) l2 = some (.lst [V.int t, .ref mo]) := upd_same
    have eN := C3 _ _ eN
    have tN := tN.keep (KT.same C3)
    have C := Same.trans C C3
    generalize upd Hq l2 (.lst [V.int t, .ref mo]) = Hr at C e4 eN tN ⊢
    refine ⟨l2, _, rfl, .lst (SqL.of e4) (.cons (.int t) (.cons (rows_ds eN tN) .nil)), tt1.1, tt1.2.1, tt1.2.2, ?_⟩
    refine ⟨rfl, _, rfl, ?_⟩
    rw [decide_eq_true rfl]
    refine iteF ?_
    have fp1 := C _ _ fp1
    have sp1 := sp1.same C
    have spn := spn.same C
    have hn1 := C _ _ hn1
    have ed := C _ _ ed
    have ts := ts.keep (KT.same C)
    have Qr := Only.tr Qo (Same.only C)
    have Rr := Same.rl C Ro
    clear C C3 e4 td1 tt1 Qo Ro hn2 hn3 hn4
    -- the normal of the normal
    have nn : nrmR t (nrmR t S1) = nrmR t S1 := by
      unfold nrmR
      rw [List.map_map]
      refine List.map_congr_left fun x hx => ?_
      have e1 : x.2.1 % t % t = x.2.1 % t := Int.emod_emod_of_dvd _ (Int.dvd_refl t)
      show (x.1, x.2.1 % t % t, x.2.1 % t % t + (x.2.1 % t + x.2.2 - x.2.1) - x.2.1 % t) = (x.1, x.2.1 % t, x.2.1 % t + x.2.2 - x.2.1)
      rw [e1]
      refine Prod.ext rfl (Prod.ext rfl ?_)
      show x.2.1 % t + (x.2.1 % t + x.2.2 - x.2.1) - x.2.1 % t = x.2.1 % t + x.2.2 - x.2.1
      omega
    refine ⟨_, rfl, pn, dxn, _, rfl, hn1, pn, t, _, rfl, spn, fun pm Hs Ss spm => ?_⟩
    rw [nn] at spm
    obtain ⟨dxm, fsm, epm⟩ := spm.ins
    have spn := spn.same Ss
    refine ⟨_, rfl, pm, dxm, fsm, _, rfl, epm, spn.tyd, self_nf, pm, t, _, .ref pn, rfl, spm, .inl ⟨pn, t, _, rfl, spn, fun _ => rfl, ?_⟩⟩
    have dn : (decide (t = t) && decide (nrmR t S1 = nrmR t S1)) = true := by simp
    rw [dn]
    refine ⟨_, rfl, _, rfl, iteF ?_⟩
    have hn1 := Ss _ _ hn1
    have fp1 := Ss _ _ fp1
    have sp1 := sp1.same Ss
    have ed := Ss _ _ ed
    have ts := ts.keep (KT.same Ss)
    have Qs := Only.tr Qr (Same.only Ss)
    have Rs := Same.rl Ss Rr
    have eN := Ss _ _ eN
    have tN := tN.keep (KT.same Ss)
    clear Ss Qr Rr spm epm
    refine ⟨_, rfl, _, rfl, pn, dxn, _, _, rfl, hn1, sp1.tyd, self_nf, pn, t, _, .ref p1, rfl, spn, .inl ⟨p1, t, S1, rfl, sp1, fun _ => nrmR_names t S1, ?_⟩⟩
    refine ⟨_, rfl, _, rfl, d, M, R, rfl, ed, ts, gd.nd, l8, fun du LD SD Ht St hdu edu tsd srd => ?_⟩
    obtain rfl : S1 = SD := Srd.eq gd.nd srS srd
    have eNt := St _ _ eN
    have tNt := tN.keep (KT.same St)
    refine ⟨mo, du, Kvs N, Kvs LD, (nrmR t S1).map rowD, S1.map rowD, rfl, rfl, eNt, edu, tNt.dsk, tsd.dsk, ?_, ?_, plain_rows _, plain_rows _, Nat.le_trans (depth_rows _) (by decide), ?_⟩
    · rw [kvs_keys, kvs_keys, tNt.names, tsd.names, nrmR_names]
    · exact valV_self (by rw [tsd.names]; exact gS.nd)
    rw [allE_rows (nrmR_names t S1)]
    have db : (decide (t = t) && decide (nrmR t S1 = S1)) = decide (nrmR t S1 = S1) := by simp
    rw [db]
    refine ⟨rfl, _, rfl, ?_⟩
    rw [decide_eq_true rfl]
    refine iteF ?_
    have fp1 := St _ _ fp1
    have sp1 := sp1.same St
    have ed := St _ _ ed
    have ts := ts.keep (KT.same St)
    have Qt := Only.tr Qs (Same.only St)
    have Rt := Same.rl St Rs
    clear St Qs Rs eN tN eNt tNt edu tsd hdu srd spn hn1 nn dn db
    -- near
    refine ⟨_, rfl, _, rfl, _, rfl, r, d, t, M, R, rfl, Rt, ed, ts, gd, fun x hx => (inR x hx).2, fun Hu Ru Ou => ?_⟩
    have np1 := ne_rl Rt fp1 (fun _ z => by cases z)
    have fp1 := Ou _ _ np1 fp1
    have sp1 := sp1.only Ou Rt
    have ed := Ou _ _ ndr ed
    have ts := ts.keep (KT.only Ou Rt)
    have Qu := Only.tr Qt Ou
    clear Ou Qt Rt
    refine ⟨?_, fun D2 L2 R2' hD2 eD2 tD2 enD gD dif => ?_⟩
    · refine ⟨_, rfl, rfl, _, rfl, ?_⟩
      rw [decide_eq_true rfl]
      refine iteF ?_
      refine ⟨_, rfl, rfl, _, rfl, ?_⟩
      by_cases c32 : t = 32
      · have c' : V.int t = V.int 32 := congrArg _ c32
        rw [decide_eq_true c']
        exact iteT (k Hu Ru Qu)
      · rw [decide_eq_false (fun z => c32 (V.int.inj z))]
        refine iteF ?_
        refine ⟨_, rfl, _, _, rfl, rfl, _, rfl, fun p4 dq hq hdq ne => ?_⟩
        have S0 : Same Hu (upd (upd Hu dq (.own p4)) p4 (.ins U.C dq [])) := fun b o e => by
          rw [upd_ne (ne_of_none e hq), upd_ne (ne_of_none e hdq)]
          exact e
        have gd4 : Good (t + 1) R := ⟨gd.nd, gd.l1, gd.l8, gd.nm, (fun x hx => by have := gd.sp x hx; unfold SpOk at this ⊢; omega), gd.nr, by omega, by omega⟩
        refine ⟨p4, d, dq, t + 1, M, R, rfl, upd_same, S0 _ _ ed, ts.keep (KT.same S0), gd4, fun S4 Hv B1 sp4 sr4 _ => ⟨rfl, ?_⟩⟩
        have Suv : Same Hu Hv := fun b o e => B1 _ _ (ne_of_none e hq) (S0 _ _ e)
        obtain ⟨dx4, fs4, ep4⟩ := sp4.ins
        have sp1 := sp1.same Suv
        refine ⟨_, rfl, p4, dx4, fs4, _, rfl, ep4, sp1.tyd, self_nf, p4, t + 1, S4, .ref p1, rfl, sp4, .inl ⟨p1, t, S1, rfl, sp1, fun e => absurd e (by omega), ?_⟩⟩
        rw [decide_eq_false (show ¬ t + 1 = t by omega), Bool.false_and]
        exact ⟨_, rfl, k Hv (Same.rl Suv Ru) (Only.tr Qu (Same.only Suv))⟩
    · refine ⟨_, rfl, rfl, _, rfl, ?_⟩
      rw [decide_eq_false (show ¬ V.ref D2 = V.non from fun z => by cases z)]
      refine iteT ⟨_, rfl, _, rfl, fun p3 dq hq hdq ne => ?_⟩
      have S0 : Same Hu (upd (upd Hu dq (.own p3)) p3 (.ins U.C dq [])) := fun b o e => by
        rw [upd_ne (ne_of_none e hq), upd_ne (ne_of_none e hdq)]
        exact e
      refine ⟨p3, D2, dq, t, L2, R2', rfl, upd_same, S0 _ _ eD2, tD2.keep (KT.same S0), gD, fun S3 Hw B1 sp3 sr3 _ => ⟨rfl, ?_⟩⟩
      have Suw : Same Hu Hw := fun b o e => B1 _ _ (ne_of_none e hq) (S0 _ _ e)
      obtain ⟨dx3, fs3, ep3⟩ := sp3.ins
      have sp1 := sp1.same Suw
      have ed := Suw _ _ ed
      have ts := ts.keep (KT.same Suw)
      have Qw := Only.tr Qu (Same.only Suw)
      have Rw := Same.rl Suw Ru
      have en3 : S3.map (·.1) = S1.map (·.1) := sorted_eq (xs := R.map (·.1)) (by rw [← enD]; exact sr3.pm.map (·.1)) (srS.pm.map (·.1)) sr3.so srS.so
      have nS : ¬ S3 = S1 := fun z => by
        obtain ⟨n, pp, qq, m1, m2, m3⟩ := dif
        have a1 : (n, pp) ∈ S1 := srS.pm.mem_iff.mpr m1
        have a2 : (n, qq) ∈ S1 := by rw [← z]; exact sr3.pm.mem_iff.mpr m2
        exact m3 (nodup_uniq gS.nd a1 a2)
      have df : (decide (t = t) && decide (S3 = S1)) = false := by rw [decide_eq_false nS, Bool.and_false]
      refine ⟨_, rfl, _, rfl, p3, dx3, fs3, _, rfl, ep3, sp1.tyd, self_nf, p3, t, S3, .ref p1, rfl, sp3, .inl ⟨p1, t, S1, rfl, sp1, fun _ => en3, ?_⟩⟩
      rw [df]
      refine ⟨_, rfl, iteF ?_⟩
      refine ⟨_, rfl, _, rfl, p3, dx3, fs3, _, rfl, ep3, sp1.tyd, self_nf, p3, t, S3, .ref p1, rfl, sp3, .inl ⟨p1, t, S1, rfl, sp1, fun _ => en3, ?_⟩⟩
      rw [df]
      refine ⟨_, rfl, _, rfl, iteF ?_⟩
      refine ⟨_, rfl, rfl, _, rfl, ?_⟩
      by_cases c32 : t = 32
      · have c' : V.int t = V.int 32 := congrArg _ c32
        rw [decide_eq_true c']
        exact iteT (k Hw Rw Qw)
      · rw [decide_eq_false (fun z => c32 (V.int.inj z))]
        refine iteF ?_
        refine ⟨_, rfl, _, _, rfl, rfl, _, rfl, fun p4 dq hq hdq ne => ?_⟩
        have S0 : Same Hw (upd (upd Hw dq (.own p4)) p4 (.ins U.C dq [])) := fun b o e => by
          rw [upd_ne (ne_of_none e hq), upd_ne (ne_of_none e hdq)]
          exact e
        have gd4 : Good (t + 1) R := ⟨gd.nd, gd.l1, gd.l8, gd.nm, (fun x hx => by have := gd.sp x hx; unfold SpOk at this ⊢; omega), gd.nr, by omega, by omega⟩
        refine ⟨p4, d, dq, t + 1, M, R, rfl, upd_same, S0 _ _ ed, ts.keep (KT.same S0), gd4, fun S4 Hv B1 sp4 sr4 _ => ⟨rfl, ?_⟩⟩
        have Suv : Same Hw Hv := fun b o e => B1 _ _ (ne_of_none e hq) (S0 _ _ e)
        obtain ⟨dx4, fs4, ep4⟩ := sp4.ins
        have sp1 := sp1.same Suv
        refine ⟨_, rfl, p4, dx4, fs4, _, rfl, ep4, sp1.tyd, self_nf, p4, t + 1, S4, .ref p1, rfl, sp4, .inl ⟨p1, t, S1, rfl, sp1, fun e => absurd e (by omega), ?_⟩⟩
        rw [decide_eq_false (show ¬ t + 1 = t by omega), Bool.false_and]
        exact ⟨_, rfl, k Hv (Same.rl Suv Rw) (Only.tr Qw (Same.only Suv))⟩
end
end K37
namespace K37
open PySem L2
open PyProof.Rows PySem.Spec
def exR : Rws := [(Str.ofString "b", -3, 5), (Str.ofString "a", 7, 8)]
def exS : Rws := [(Str.ofString "a", 7, 8), (Str.ofString "b", -3, 5)]
theorem ex_srd : Srd exR exS := ⟨List.Perm.swap _ _ _, by decide +kernel⟩
theorem ex_good : Good 1 exR := by
  refine ⟨by decide +kernel, by decide, by decide, ?_, ?_, ?_, by decide, by decide⟩
  · intro x hx
    simp only [exR, List.mem_cons, List.not_mem_nil, or_false] at hx
    rcases hx with rfl | rfl <;> decide +kernel
  · intro x hx
    simp only [exR, List.mem_cons, List.not_mem_nil, or_false] at hx
    rcases hx with rfl | rfl <;> exact ⟨by decide, by decide⟩
  · intro x hx
    simp only [exR, List.mem_cons, List.not_mem_nil, or_false] at hx
    rcases hx with rfl | rfl <;> exact ⟨by decide, by decide⟩
theorem ex_nrm : nrmR 1 exS = [(Str.ofString "a", 0, 1), (Str.ofString "b", 0, 8)] := by rfl
def exD : PyData := .list [.tuple [.str (Str.ofString "a"), .str (Str.ofString "b")], rowsD exS, .int 9, .int 2, .bool true, .bool false, .tuple [.int (-3), .int 5], rowsD (nrmR 1 exS)]
theorem ex_tell : exD.showable = true ∧ exD.shown.length ≤ sizeLine ∧ exD.depth ≤ 60 := by
  refine ⟨by decide +kernel, ?_, by decide +kernel⟩
  rw [sizeLine_eq]
  decide +kernel
section
variable {P : Program} {w : World} {K : PySem.W.Frag}
                                                      {mg : Str → Option Value} {base : Heap}
def sp_law (K : PySem.W.Frag) : Sp := fun vs H Q _ => ∃ (a : Addr) (ns : List Int), vs = [.ref a] ∧ SqL K H a (ns.map V.int) ∧ ns.length ≤ 63 ∧ ∀ H', Q (.bl true) H'
theorem ok_law (T : T K mg) (U : UX K mg) : GW.FnG P w K mg base CX0 12 T.f_law T.d_law ["script"] (sp_law K) := by
  have G_w_right : GW.FnG P w K mg base CX0 10 T.f_w_right T.d_w_right ["tray"] (sp_w_right K) := ok_w_right T U
  have G_w_tray : FnOk P w K mg base CX0 1 T.f_w_tray T.d_w_tray ["script", "spot"] (sp_w_tray K) := ok_w_tray T
  have G_init : FnOk P w K mg base CX0 6 U.fI U.dI ["self", "interval", "rows"] (sp_init K U.C) := ok_init T U
  have Gn : FnOk P w K mg base CX0 1 U.pn.g U.pn.d ["self"] (getSp U.C "_names") := ok_get U.cl U.pn sc_Spans_names U.n3 ⟨_, _, _, rfl⟩
  have Gr : FnOk P w K mg base CX0 1 U.pr.g U.pr.d ["self"] (sp_rows K U.C) := ok_rows T U
  have Gt : FnOk P w K mg base CX0 1 U.pt.g U.pt.d ["self"] (sp_total K U.C) := ok_total T U
  have Gl' : FnOk P w K mg base CX0 1 U.ml.f U.ml.d ["self"] (sp_len K U.C) := ok_len T U
  have Gg : FnOk P w K mg base CX0 1 U.mg.f U.mg.d ["self", "name"] (sp_item K U.C) := ok_item T U
  have Gc : FnOk P w K mg base CX0 6 U.mc.f U.mc.d ["self", "value"] (sp_in K U.C) := ok_in T U
  have Gm : FnOk P w K mg base CX0 8 U.pm.g U.pm.d ["self"] (sp_normal K U.C) := ok_normal T U
  refine GW.FunG.okG T.F_law sc_law (fun vs H Q E h => ?_) (fun cdv A outer s H vs Q E hg hr h => ?_)
  · obtain ⟨a, ns, rfl, _⟩ := h
    rfl
  · obtain ⟨a, ns, rfl, hS, hlen, k⟩ := h
    have hu := hu_of hr
    have hgd : (cxOf CX0 P w K mg base ["script", "spot", "one", "told", "due"] "law" (defScope s_law) T.f_law cdv A outer s H E).nox.A.guards = some [] := hg
    have hr_w_right : Room 10 _ := hr.mono (by decide)
    have hr_w_tray : Room 1 _ := hr.mono (by decide)
    obtain ⟨_, c_MAX_LIFE⟩ := T.c_MAX_LIFE
    obtain ⟨_, c_MAX_VALUES⟩ := T.c_MAX_VALUES
    refine ⟨_, (pss_cons (ps_for PassesOwn.never rfl (pi_range1 (by rfl) T.z_range (pa_cons (pe_callB (call_max2 rfl) (by rfl) T.z_max (by decide +kernel) (pa_cons pe_int (pa_cons (pe_callB (call_min2 rfl) (by rfl) T.z_min (by decide +kernel) (pa_cons pe_int (pa_cons (pe_callB call_len (by rfl) T.z_len (by decide +kernel) (pa_cons (pv 0) pa_nil)) pa_nil))) pa_nil))) pa_nil)) (pg_name (i := 1) sc_law.nd rfl (Or.inl rfl))
      (pss_one (ps_if (pt_not (pt_val (GW.pe_callG G_w_right hgd hr_w_right rfl T.m_w_right T.F_w_right.kp T.b_w_right .nil pass0 (pa_cons (pe_call G_w_tray hr_w_tray rfl T.m_w_tray T.F_w_tray.kp T.b_w_tray .nil pass0 (pa_cons (pv 0) (pa_cons (pv 1) pa_nil))) pa_nil))))
      (pss_one (ps_ret pe_bl))
      pss_nil)))
      (pss_cons (ps_set (i := 2) sc_law.nd rfl (Or.inl rfl) (pe_make U.mkI G_init (hr.mono (by decide)) rfl U.mC U.bI .nil pass0 (pa_cons pe_int (pa_cons (pe_disp (pps_cons pe_str (pe_tup (pa_cons (pe_un un_neg pe_int) (pa_cons pe_int pa_nil))) (pps_cons pe_str (pe_tup (pa_cons pe_int (pa_cons pe_int pa_nil))) pps_nil)) rfl rfl (by decide) (by decide)) pa_nil))))
      (pss_cons (ps_set (i := 3) sc_law.nd rfl (Or.inl rfl) (pe_lst (pa_cons (pe_prop (pv 2) U.cl U.pn.pr Gn (hr.mono (by decide)) U.pn.b .nil pass0 rfl) (pa_cons (pe_prop (pv 2) U.cl U.pr.pr Gr (hr.mono (by decide)) U.pr.b .nil pass0 rfl) (pa_cons (pe_prop (pv 2) U.cl U.pt.pr Gt (hr.mono (by decide)) U.pt.b .nil pass0 rfl) (pa_cons (pe_callB (OW.cr_ownLen Gl' ⟨U.ml.m.at_, U.ml.m.fn⟩ (hr.mono (by decide)) U.ml.b pass0) (by rfl) T.z_len (by decide +kernel) (pa_cons (pv 2) pa_nil)) pa_nil))))))
      (pss_cons (ps_set (i := 3) sc_law.nd rfl (Or.inl rfl) (pe_op op_cat (pv 3) (pe_lst (pa_cons (pe_cmpR (OW.op_ownIn Gc ⟨U.mc.m.at_, U.mc.m.fn⟩ (hr.mono (by decide)) U.mc.b pass0) pe_str (pv 2) rfl) (pa_cons (pe_cmpR (OW.op_ownIn Gc ⟨U.mc.m.at_, U.mc.m.fn⟩ (hr.mono (by decide)) U.mc.b pass0) pe_str (pv 2) rfl) (pa_cons (OW.pe_ownItem (pv 2) pe_str Gg ⟨U.mg.m.at_, U.mg.m.fn⟩ U.fn (hr.mono (by decide)) U.mg.b pass0 (fun _ _ => rfl)) (pa_cons (pe_prop (pe_prop (pv 2) U.cl U.pm.pr Gm (hr.mono (by decide)) U.pm.b .nil pass0 rfl) U.cl U.pr.pr Gr (hr.mono (by decide)) U.pr.b .nil pass0 rfl) pa_nil)))))))
      (pss_cons (ps_set (i := 4) sc_law.nd rfl (Or.inl rfl) (pe_lst (pa_cons (pe_tup (pa_cons pe_str (pa_cons pe_str pa_nil))) (pa_cons (pe_disp (pps_cons pe_str (pe_tup (pa_cons pe_int (pa_cons pe_int pa_nil))) (pps_cons pe_str (pe_tup (pa_cons (pe_un un_neg pe_int) (pa_cons pe_int pa_nil))) pps_nil)) rfl rfl (by decide) (by decide)) (pa_cons pe_int (pa_cons pe_int (pa_cons pe_bl (pa_cons pe_bl (pa_cons (pe_tup (pa_cons (pe_un un_neg pe_int) (pa_cons pe_int pa_nil))) (pa_cons (pe_disp (pps_cons pe_str (pe_tup (pa_cons pe_int (pa_cons pe_int pa_nil))) (pps_cons pe_str (pe_tup (pa_cons pe_int (pa_cons pe_int pa_nil))) pps_nil)) rfl rfl (by decide) (by decide)) pa_nil))))))))))
      (pss_one (ps_ret (pe_and (pe_cmpR op_eq (pe_callB (RL.cr_reprD hgd (un64 hr)) (by rfl) T.z_repr (by decide +kernel) (pa_cons (pv 3) pa_nil)) (pe_callB (RL.cr_reprD hgd (un64 hr)) (by rfl) T.z_repr (by decide +kernel) (pa_cons (pv 4) pa_nil)) (nomark _)) (pe_one (pe_cmpR (op_eqD (un64 hr)) (pe_lst (pa_cons (pe_glob (v := V.int 8) rfl c_MAX_LIFE ⟨_, rfl⟩) (pa_cons (pe_glob (v := V.int 8) rfl c_MAX_VALUES ⟨_, rfl⟩) pa_nil))) (pe_lst (pa_cons pe_int (pa_cons pe_int pa_nil))) (nomark _))))))))))), ?_⟩
    refine ⟨_, rfl, _, _, rfl, .inl ⟨_, hS, rfl⟩, _, _, rfl, _, _, rfl, ?_⟩
    have hb := cells_n (ns.map V.int).length 8
    refine ⟨_, rfl, Int.le_trans (by decide) hb.2, Int.lt_of_le_of_lt hb.1 (by decide), ?_⟩
    refine for_range (fun i σ H' => ∃ v, σ = [some (.ref a), v, none, none, none] ∧ SqL K H' a (ns.map V.int)) ⟨none, rfl, hS⟩ ?_ ?_
    · rintro i σ H' hi ⟨v, rfl, hS'⟩
      refine ⟨_, rfl, _, rfl, a, ns, i, congrArg (fun z => [V.ref a, V.int z]) (Int.zero_add _), hS', fun p x y z hp => ?_⟩
      refine ⟨p, rfl, ⟨x, y, z, upd_same⟩, fun H2 _ O2 => ⟨_, rfl, iteF ?_⟩⟩
      refine ⟨_, rfl, ?_⟩
      rcases hS' with (h | ⟨u, h⟩) | h
      · exact .inl (.inl (O2 _ _ (ne_of_none h hp) ((upd_ne (ne_of_none h hp)).trans h)))
      · exact .inl (.inr ⟨u, O2 _ _ (ne_of_none h hp) ((upd_ne (ne_of_none h hp)).trans h)⟩)
      · exact .inr h
    · rintro σ H0 ⟨v, rfl, hS'⟩
      -- one
      refine fun pd hpd => ?_
      have C0 := Same.new (o := .dK []) hpd
      have e0 : (upd H0 pd (.dK [])) pd = some (.dK []) := upd_same
      generalize upd H0 pd (.dK []) = H1 at C0 e0 ⊢
      refine ⟨_, rfl, by show 2 ≤ sizeLine; decide, fun a1 ha1 => ?_⟩
      have C1 := Same.new (o := .tup [V.int (-3), .int 5]) ha1
      have x1 : (upd H1 a1 (.tup [V.int (-3), .int 5])) a1 = some (.tup [V.int (-3), .int 5]) := upd_same
      generalize upd H1 a1 (.tup [V.int (-3), .int 5]) = H2 at C1 x1 ⊢
      refine ⟨by show 2 ≤ sizeLine; decide, fun a2 ha2 => ?_⟩
      have C2 := Same.new (o := .tup [V.int 7, .int 8]) ha2
      have x2 : (upd H2 a2 (.tup [V.int 7, .int 8])) a2 = some (.tup [V.int 7, .int 8]) := upd_same
      have x1 := C2 _ _ x1
      have e2 := C2 _ _ (C1 _ _ e0)
      generalize upd H2 a2 (.tup [V.int 7, .int 8]) = H3 at x1 x2 e2 ⊢
      refine ⟨e2, Kvs [(Str.ofString "b", a1), (Str.ofString "a", a2)], rfl, by show 2 ≤ 15; decide, ?_⟩
      have mk : mergeK [] (Kvs [(Str.ofString "b", a1), (Str.ofString "a", a2)]) = Kvs [(Str.ofString "b", a1), (Str.ofString "a", a2)] := (mergeK_kvs _ [] (by show [Str.ofString "b", Str.ofString "a"].Nodup; decide +kernel)).trans rfl
      rw [mk]
      have kt : KT H3 (upd H3 pd (.dK (Kvs [(Str.ofString "b", a1), (Str.ofString "a", a2)]))) := KT.put e2 (fun _ z => by cases z)
      have ep : (upd H3 pd (.dK (Kvs [(Str.ofString "b", a1), (Str.ofString "a", a2)]))) pd = some (.dK (Kvs [(Str.ofString "b", a1), (Str.ofString "a", a2)])) := upd_same
      have tp : Tups (upd H3 pd (.dK (Kvs [(Str.ofString "b", a1), (Str.ofString "a", a2)]))) [(Str.ofString "b", a1), (Str.ofString "a", a2)] exR := .cons (kt _ _ x1) (.cons (kt _ _ x2) .nil)
      generalize upd H3 pd (.dK (Kvs [(Str.ofString "b", a1), (Str.ofString "a", a2)])) = H4 at ep tp ⊢
      refine fun p dq hq hdq ne => ?_
      have S0 : Same H4 (upd (upd H4 dq (.own p)) p (.ins U.C dq [])) := fun b o e => by
        rw [upd_ne (ne_of_none e hq), upd_ne (ne_of_none e hdq)]
        exact e
      refine ⟨p, pd, dq, 1, _, exR, rfl, upd_same, S0 _ _ ep, tp.keep (KT.same S0), ex_good, fun S' H5 _ sp sr _ => ⟨rfl, ?_⟩⟩
      obtain rfl : S' = exS := Srd.eq ex_good.nd sr ex_srd
      clear S0 ep tp kt mk x1 x2 e2 C0 C1 C2 e0 hq hdq ne
      obtain ⟨_, _, dx, rd, nm, lv, cr, L, h1, h2, h3, h4⟩ := id sp
      -- told
      refine ⟨_, rfl, p, dx, _, rfl, h1, p, dx, _, .ref nm, rfl, h1, rfl, ?_⟩
      refine ⟨_, rfl, p, dx, _, rfl, h1, p, 1, exS, rfl, sp, fun q1 L1 hq1 ts1 => ?_⟩
      have C1 := Same.new (o := .dK (Kvs L1)) hq1
      have e1 : (upd H5 q1 (.dK (Kvs L1))) q1 = some (.dK (Kvs L1)) := upd_same
      have ts1 := ts1.keep (KT.same C1)
      generalize upd H5 q1 (.dK (Kvs L1)) = H6 at C1 e1 ts1 ⊢
      refine ⟨_, rfl, p, dx, _, rfl, C1 _ _ h1, p, 1, exS, rfl, sp.same C1, fun H7 C2 => ?_⟩
      have C := Same.trans C1 C2
      have e1 := C2 _ _ e1
      have ts1 := ts1.keep (KT.same C2)
      refine ⟨_, rfl, p, dx, _, rfl, C _ _ h1, p, 1, exS, rfl, sp.same C, _, rfl, by decide, by decide, ?_⟩
      have sm : (lenR exS).sum = 9 := by decide +kernel
      rw [sm]
      refine ⟨by show 4 ≤ sizeLine; decide, fun l1 hl1 => ?_⟩
      have D1 := Same.new (o := .lst [V.ref nm, .ref q1, .int 9, .int (exS.length : Int)]) hl1
      have el1 : (upd H7 l1 (.lst [V.ref nm, .ref q1, .int 9, .int (exS.length : Int)])) l1 = some (.lst [V.ref nm, .ref q1, .int 9, .int (exS.length : Int)]) := upd_same
      have C := Same.trans C D1
      have e1 := D1 _ _ e1
      have ts1 := ts1.keep (KT.same D1)
      generalize upd H7 l1 (.lst [V.ref nm, .ref q1, .int 9, .int (exS.length : Int)]) = H8 at C el1 e1 ts1 ⊢
      clear C1 C2 D1
      have sp := sp.same C
      have h1 := C _ _ h1
      have h4 := C _ _ h4
      refine ⟨_, rfl, _, rfl, p, dx, _, rfl, h1, p, 1, exS, _, rfl, sp, .inl ⟨_, rfl, _, rfl, ?_⟩⟩
      refine ⟨_, rfl, p, dx, _, rfl, h1, p, 1, exS, _, rfl, sp, .inl ⟨_, rfl, _, rfl, ?_⟩⟩
      refine ⟨_, rfl, p, dx, _, rfl, h1, p, 1, exS, Str.ofString "b", -3, 5, rfl, sp, by simp [exS], fun ab hab => ?_⟩
      refine ⟨_, rfl, p, dx, _, rfl, h1, p, 1, exS, rfl, sp, fun pn H9 C3 spn => ?_⟩
      obtain ⟨dxn, fsn, hn1⟩ := spn.ins
      refine ⟨pn, dxn, fsn, rfl, hn1, pn, 1, _, rfl, spn, fun q2 L2 hq2 ts2 => ?_⟩
      have b1 : decide (Str.ofString "a" ∈ exS.map (·.1)) = true := by decide +kernel
      have b2 : decide (Str.ofString "c" ∈ exS.map (·.1)) = false := by decide +kernel
      rw [b1, b2]
      simp only [Bool.false_eq_true, if_false]
      have C4 := Same.new (o := .dK (Kvs L2)) hq2
      have e2 : (upd H9 q2 (.dK (Kvs L2))) q2 = some (.dK (Kvs L2)) := upd_same
      have ts2 := ts2.keep (KT.same C4)
      have C5 := Same.trans C3 C4
      generalize upd H9 q2 (.dK (Kvs L2)) = Ha at C5 e2 ts2 ⊢
      refine ⟨by show 4 ≤ sizeLine; decide, fun l2 hl2 => ?_⟩
      have D2 := Same.new (o := .lst [V.bl true, .bl false, .ref ab, .ref q2]) hl2
      have el2 : (upd Ha l2 (.lst [V.bl true, .bl false, .ref ab, .ref q2])) l2 = some (.lst [V.bl true, .bl false, .ref ab, .ref q2]) := upd_same
      have C6 := Same.trans C5 D2
      have e2 := D2 _ _ e2
      have ts2 := ts2.keep (KT.same D2)
      generalize upd Ha l2 (.lst [V.bl true, .bl false, .ref ab, .ref q2]) = Hb at C6 el2 e2 ts2 ⊢
      have el1 := C6 _ _ el1
      refine ⟨l1, l2, _, _, rfl, rfl, el1, el2, by show 4 + 4 ≤ sizeLine; decide, fun l3 hl3 => ?_⟩
      have D3 := Same.new (o := .lst ([V.ref nm, .ref q1, .int 9, .int (exS.length : Int)] ++ [V.bl true, .bl false, .ref ab, .ref q2])) hl3
      have el3 : (upd Hb l3 (.lst ([V.ref nm, .ref q1, .int 9, .int (exS.length : Int)] ++ [V.bl true, .bl false, .ref ab, .ref q2]))) l3 = some (.lst [V.ref nm, .ref q1, .int 9, .int 2, .bl true, .bl false, .ref ab, .ref q2]) := upd_same
      generalize upd Hb l3 (.lst ([V.ref nm, .ref q1, .int 9, .int (exS.length : Int)] ++ [V.bl true, .bl false, .ref ab, .ref q2])) = Hc at D3 el3 ⊢
      have Cc := Same.trans C6 D3
      have dsT : ∀ {Hx : Hp}, Same Hc Hx → RL.DS K Hx (.ref l3) exD := fun Sx => by
        have Cc := Same.trans C6 (Same.trans D3 Sx)
        exact .lst (SqL.of (Sx _ _ el3)) (.cons (.tup (SqT.of (Cc _ _ h4)) (dss_strs _)) (.cons (rows_ds (Cc _ _ e1) (ts1.keep (KT.same Cc))) (.cons (.int 9) (.cons (.int 2) (.cons (.bl true) (.cons (.bl false) (.cons (tupAt_ds ((KT.same Cc) _ _ hab)) (.cons (rows_ds (Sx _ _ (D3 _ _ e2)) (ts2.keep (KT.same (Same.trans D3 Sx)))) .nil))))))))
      clear e1 ts1 C el1 hl1 sp h1 h4 C3 C4 C5 C6 spn hn1 el2 D2 D3 e2 ts2 el3 hl2 hl3 hq1 hq2 h2 h3 hab
      -- due
      refine ⟨by show 2 ≤ sizeLine; decide, fun u1 hu1 => ?_⟩
      have E1 := Same.new (o := .tup [V.str (Str.ofString "a"), .str (Str.ofString "b")]) hu1
      have y1 : (upd Hc u1 (.tup [V.str (Str.ofString "a"), .str (Str.ofString "b")])) u1 = some (.tup ([Str.ofString "a", Str.ofString "b"].map V.str)) := upd_same
      generalize upd Hc u1 (.tup [V.str (Str.ofString "a"), .str (Str.ofString "b")]) = K1 at E1 y1 ⊢
      refine fun u2 hu2 => ?_
      have E2 := Same.new (o := .dK []) hu2
      have z0 : (upd K1 u2 (.dK [])) u2 = some (.dK []) := upd_same
      generalize upd K1 u2 (.dK []) = K2 at E2 z0 ⊢
      refine ⟨by show 2 ≤ sizeLine; decide, fun c1 hc1 => ?_⟩
      have E3 := Same.new (o := .tup [V.int 7, .int 8]) hc1
      have w1 : (upd K2 c1 (.tup [V.int 7, .int 8])) c1 = some (.tup [V.int 7, .int 8]) := upd_same
      generalize upd K2 c1 (.tup [V.int 7, .int 8]) = K3 at E3 w1 ⊢
      refine ⟨_, rfl, by show 2 ≤ sizeLine; decide, fun c2 hc2 => ?_⟩
      have E4 := Same.new (o := .tup [V.int (-3), .int 5]) hc2
      have w2 : (upd K3 c2 (.tup [V.int (-3), .int 5])) c2 = some (.tup [V.int (-3), .int 5]) := upd_same
      have w1 := E4 _ _ w1
      have z0 := E4 _ _ (E3 _ _ z0)
      generalize upd K3 c2 (.tup [V.int (-3), .int 5]) = K4 at E4 w1 w2 z0 ⊢
      refine ⟨z0, Kvs [(Str.ofString "a", c1), (Str.ofString "b", c2)], rfl, by show 2 ≤ 15; decide, ?_⟩
      have mk : ∀ x y : Addr, mergeK [] (Kvs [(Str.ofString "a", x), (Str.ofString "b", y)]) = Kvs [(Str.ofString "a", x), (Str.ofString "b", y)] := fun x y => (mergeK_kvs _ [] (by show [Str.ofString "a", Str.ofString "b"].Nodup; decide +kernel)).trans rfl
      rw [mk]
      have kt : KT K4 (upd K4 u2 (.dK (Kvs [(Str.ofString "a", c1), (Str.ofString "b", c2)]))) := KT.put z0 (fun _ z => by cases z)
      have E6 : Same K1 (upd K4 u2 (.dK (Kvs [(Str.ofString "a", c1), (Str.ofString "b", c2)]))) := Same.at hu2 (Same.trans E2 (Same.trans E3 E4))
      have y2 : (upd K4 u2 (.dK (Kvs [(Str.ofString "a", c1), (Str.ofString "b", c2)]))) u2 = some (.dK (Kvs [(Str.ofString "a", c1), (Str.ofString "b", c2)])) := upd_same
      have t2 : Tups (upd K4 u2 (.dK (Kvs [(Str.ofString "a", c1), (Str.ofString "b", c2)]))) [(Str.ofString "a", c1), (Str.ofString "b", c2)] exS := .cons (kt _ _ w1) (.cons (kt _ _ w2) .nil)
      generalize upd K4 u2 (.dK (Kvs [(Str.ofString "a", c1), (Str.ofString "b", c2)])) = K5 at E6 y2 t2 ⊢
      have E7 := Same.trans E1 E6
      have y1 := E6 _ _ y1
      clear E1 E2 E3 E4 E6 kt w1 w2 z0 hu1 hu2 hc1 hc2
      refine ⟨_, rfl, by show 2 ≤ sizeLine; decide, fun u3 hu3 => ?_⟩
      have E1 := Same.new (o := .tup [V.int (-3), .int 5]) hu3
      have y3 : (upd K5 u3 (.tup [V.int (-3), .int 5])) u3 = some (.tup [V.int (-3), .int 5]) := upd_same
      have E7 := Same.trans E7 E1
      have y1 := E1 _ _ y1
      have y2 := E1 _ _ y2
      have t2 := t2.keep (KT.same E1)
      generalize upd K5 u3 (.tup [V.int (-3), .int 5]) = K6 at E7 y1 y2 y3 t2 ⊢
      refine fun u4 hu4 => ?_
      have E2 := Same.new (o := .dK []) hu4
      have z0 : (upd K6 u4 (.dK [])) u4 = some (.dK []) := upd_same
      generalize upd K6 u4 (.dK []) = K7 at E2 z0 ⊢
      refine ⟨by show 2 ≤ sizeLine; decide, fun c3 hc3 => ?_⟩
      have E3 := Same.new (o := .tup [V.int 0, .int 1]) hc3
      have w1 : (upd K7 c3 (.tup [V.int 0, .int 1])) c3 = some (.tup [V.int 0, .int 1]) := upd_same
      generalize upd K7 c3 (.tup [V.int 0, .int 1]) = K8 at E3 w1 ⊢
      refine ⟨by show 2 ≤ sizeLine; decide, fun c4 hc4 => ?_⟩
      have E4 := Same.new (o := .tup [V.int 0, .int 8]) hc4
      have w2 : (upd K8 c4 (.tup [V.int 0, .int 8])) c4 = some (.tup [V.int 0, .int 8]) := upd_same
      have w1 := E4 _ _ w1
      have z0 := E4 _ _ (E3 _ _ z0)
      generalize upd K8 c4 (.tup [V.int 0, .int 8]) = K9 at E4 w1 w2 z0 ⊢
      refine ⟨z0, Kvs [(Str.ofString "a", c3), (Str.ofString "b", c4)], rfl, by show 2 ≤ 15; decide, ?_⟩
      rw [mk]
      have kt : KT K9 (upd K9 u4 (.dK (Kvs [(Str.ofString "a", c3), (Str.ofString "b", c4)]))) := KT.put z0 (fun _ z => by cases z)
      have E6 : Same K6 (upd K9 u4 (.dK (Kvs [(Str.ofString "a", c3), (Str.ofString "b", c4)]))) := Same.at hu4 (Same.trans E2 (Same.trans E3 E4))
      have y4 : (upd K9 u4 (.dK (Kvs [(Str.ofString "a", c3), (Str.ofString "b", c4)]))) u4 = some (.dK (Kvs [(Str.ofString "a", c3), (Str.ofString "b", c4)])) := upd_same
      have t4 : Tups (upd K9 u4 (.dK (Kvs [(Str.ofString "a", c3), (Str.ofString "b", c4)]))) [(Str.ofString "a", c3), (Str.ofString "b", c4)] (nrmR 1 exS) := .cons (kt _ _ w1) (.cons (kt _ _ w2) .nil)
      generalize upd K9 u4 (.dK (Kvs [(Str.ofString "a", c3), (Str.ofString "b", c4)])) = Ka at E6 y4 t4 ⊢
      have E7 := Same.trans E7 E6
      have y1 := E6 _ _ y1
      have y2 := E6 _ _ y2
      have y3 := E6 _ _ y3
      have t2 := t2.keep (KT.same E6)
      clear E1 E2 E3 E4 E6 kt w1 w2 z0 hu3 hu4 hc3 hc4
      refine ⟨by show 8 ≤ sizeLine; decide, fun l4 hl4 => ?_⟩
      have E1 := Same.new (o := .lst [V.ref u1, .ref u2, .int 9, .int 2, .bl true, .bl false, .ref u3, .ref u4]) hl4
      have e4 : (upd Ka l4 (.lst [V.ref u1, .ref u2, .int 9, .int 2, .bl true, .bl false, .ref u3, .ref u4])) l4 = some (.lst [V.ref u1, .ref u2, .int 9, .int 2, .bl true, .bl false, .ref u3, .ref u4]) := upd_same
      generalize upd Ka l4 (.lst [V.ref u1, .ref u2, .int 9, .int 2, .bl true, .bl false, .ref u3, .ref u4]) = Kb at E1 e4 ⊢
      have d3 := dsT (Same.trans E7 E1)
      have d4 : RL.DS K Kb (.ref l4) exD := .lst (SqL.of e4) (.cons (.tup (SqT.of (E1 _ _ y1)) (dss_strs _)) (.cons (rows_ds (E1 _ _ y2) (t2.keep (KT.same E1))) (.cons (.int 9) (.cons (.int 2) (.cons (.bl true) (.cons (.bl false) (.cons (tupAt_ds (E1 _ _ y3)) (.cons (rows_ds (E1 _ _ y4) (t4.keep (KT.same E1))) .nil))))))))
      refine ⟨_, rfl, l3, exD, rfl, d3, ex_tell.1, ex_tell.2.1, ex_tell.2.2, ?_⟩
      refine ⟨_, rfl, l4, exD, rfl, d4, ex_tell.1, ex_tell.2.1, ex_tell.2.2, ?_⟩
      refine ⟨rfl, _, rfl, ?_⟩
      rw [decide_eq_true rfl]
      refine iteT ?_
      refine ⟨by show 2 ≤ sizeLine; decide, fun m1 hm1 => ?_⟩
      refine ⟨by show 2 ≤ sizeLine; decide, fun m2 hm2 => ?_⟩
      have F1 := Same.new (o := .lst [V.int 8, .int 8]) hm2
      have g1 := F1 _ _ (upd_same (H := Kb) (a := m1) (o := .lst [V.int 8, .int 8]))
      refine ⟨.list [.int 8, .int 8], .list [.int 8, .int 8], .lst (SqL.of g1) (.cons (.int 8) (.cons (.int 8) .nil)), .lst (SqL.of upd_same) (.cons (.int 8) (.cons (.int 8) .nil)), by decide +kernel, by decide +kernel, ?_⟩
      rw [show PyData.eqv (.list [.int 8, .int 8]) (.list [.int 8, .int 8]) = true from by decide +kernel]
      exact k _
end
end K37
namespace K37
open PySem L2
theorem sub_NoneType {K : PySem.W.Frag} {C : Addr} : PySem.W.subIn K (.type "NoneType") (.ref C) = some false := by
  have e : PySem.fastBuiltinMro "NoneType" = some [.type "NoneType", .type "object"] := by decide +kernel
  show (PySem.fastBuiltinMro "NoneType").map (·.contains (.ref C)) = some false
  rw [e]
  first
    | rfl
    | simp
theorem sub_bool {K : PySem.W.Frag} {C : Addr} : PySem.W.subIn K (.type "bool") (.ref C) = some false := by
  have e : PySem.fastBuiltinMro "bool" = some [.type "bool", .type "int", .type "object"] := by decide +kernel
  show (PySem.fastBuiltinMro "bool").map (·.contains (.ref C)) = some false
  rw [e]
  first
    | rfl
    | simp
theorem sub_int {K : PySem.W.Frag} {C : Addr} : PySem.W.subIn K (.type "int") (.ref C) = some false := by
  have e : PySem.fastBuiltinMro "int" = some [.type "int", .type "object"] := by decide +kernel
  show (PySem.fastBuiltinMro "int").map (·.contains (.ref C)) = some false
  rw [e]
  first
    | rfl
    | simp
theorem sub_str {K : PySem.W.Frag} {C : Addr} : PySem.W.subIn K (.type "str") (.ref C) = some false := by
  have e : PySem.fastBuiltinMro "str" = some [.type "str", .type "object"] := by decide +kernel
  show (PySem.fastBuiltinMro "str").map (·.contains (.ref C)) = some false
  rw [e]
  first
    | rfl
    | simp
theorem sub_list {K : PySem.W.Frag} {C : Addr} : PySem.W.subIn K (.type "list") (.ref C) = some false := by
  have e : PySem.fastBuiltinMro "list" = some [.type "list", .type "object"] := by decide +kernel
  show (PySem.fastBuiltinMro "list").map (·.contains (.ref C)) = some false
  rw [e]
  first
    | rfl
    | simp
theorem sub_tuple {K : PySem.W.Frag} {C : Addr} : PySem.W.subIn K (.type "tuple") (.ref C) = some false := by
  have e : PySem.fastBuiltinMro "tuple" = some [.type "tuple", .type "object"] := by decide +kernel
  show (PySem.fastBuiltinMro "tuple").map (·.contains (.ref C)) = some false
  rw [e]
  first
    | rfl
    | simp
theorem sub_dict {K : PySem.W.Frag} {C : Addr} : PySem.W.subIn K (.type "dict") (.ref C) = some false := by
  have e : PySem.fastBuiltinMro "dict" = some [.type "dict", .type "object"] := by decide +kernel
  show (PySem.fastBuiltinMro "dict").map (·.contains (.ref C)) = some false
  rw [e]
  first
    | rfl
    | simp
theorem tin_of {K : PySem.W.Frag} {C : Addr} {v : Value} (s : PySem.W.subIn K v (.ref C) = some false) (hv : (v == .ref C) = false) (g : PySem.W.isClsIn K C = true) (t : PySem.W.typeIn K (.ref C) = some (.type "type")) : PySem.W.notFirst K C v = true ∧ PySem.W.kitOne K v (.ref C) = some false := by
  refine ⟨?_, ?_⟩
  · unfold PySem.W.notFirst
    rw [s, hv]
    rfl
  · have h5 : (PySem.W.clsIn K C).isSome = true := g
    unfold PySem.W.kitOne PySem.W.kitCls
    rw [hv]
    dsimp only
    rw [h5, t, s]
    rfl
theorem mk_U {K : PySem.W.Frag} {h : Heap} {mg : Str → Option Value} (X : K.In h) (G : h.Ns mainGlobals mg)
    {C fI : Addr} {ocI kVI dcI pmI cdI ctI : Value} {odI anI : Option Addr} {slI : Array (Option Value)} {pP1a fP1 : Addr} {restP1 : List Value} {ocP1 kVP1 dcP1 pmP1 cdP1 ctP1 : Value} {odP1 anP1 : Option Addr} {slP1 : Array (Option Value)} {pP2a fP2 : Addr} {restP2 : List Value} {ocP2 kVP2 dcP2 pmP2 cdP2 ctP2 : Value} {odP2 anP2 : Option Addr} {slP2 : Array (Option Value)} {pP3a fP3 : Addr} {restP3 : List Value} {ocP3 kVP3 dcP3 pmP3 cdP3 ctP3 : Value} {odP3 anP3 : Option Addr} {slP3 : Array (Option Value)} {pP4a fP4 : Addr} {restP4 : List Value} {ocP4 kVP4 dcP4 pmP4 cdP4 ctP4 : Value} {odP4 anP4 : Option Addr} {slP4 : Array (Option Value)} {pP5a fP5 : Addr} {restP5 : List Value} {ocP5 kVP5 dcP5 pmP5 cdP5 ctP5 : Value} {odP5 anP5 : Option Addr} {slP5 : Array (Option Value)} {fG : Addr} {ocG kVG dcG pmG cdG ctG : Value} {odG anG : Option Addr} {slG : Array (Option Value)} {fM : Addr} {ocM kVM dcM pmM cdM ctM : Value} {odM anM : Option Addr} {slM : Array (Option Value)} {fL : Addr} {ocL kVL dcL pmL cdL ctL : Value} {odL anL : Option Addr} {slL : Array (Option Value)} {fQ : Addr} {ocQ kVQ dcQ pmQ cdQ ctQ : Value} {odQ anQ : Option Addr} {slQ : Array (Option Value)} {fS : Addr} {ocS kVS dcS pmS cdS ctS : Value} {odS anS : Option Addr} {slS : Array (Option Value)}
    (aC : PySem.W.nsIn K mainGlobals "Spans" = some (some (.ref C)))
    (c1 : PySem.W.plainGet K C Str.empty = true)
    (c2 : PySem.W.hasDictIn K C = true)
    (c3 : PySem.W.plainOver K C = true)
    (c4 : PySem.W.findIn K (.ref C) "__setattr__" = some (some (.builtin "object.__setattr__")))
    (c5 : PySem.W.makesIn K C = true)
    (c6 : PySem.W.findIn K (.ref C) "__init__" = some (some (.ref fI)))
    (c7 : PySem.W.isFn K (.ref fI) = true)
    (c8 : PySem.W.keepIn K (.ref C) = true)
    (lI : K.lookup fI = some ⟨ocI, odI, .func (PySem.W.fnOf "__init__" "Spans.__init__" (defArgs s_Spans_init) (defBody s_Spans_init) (defScope s_Spans_init) .none kVI dcI pmI anI cdI ctI), slI⟩)
    (kI : PySem.W.codeIn K cdI "Spans.__init__" = true)
    (pI : PySem.W.keepIn K (.ref fI) = true)
    (n1 : PySem.W.findIn K (.ref C) "_interval" = some none)
    (n2 : PySem.W.findIn K (.ref C) "_rows" = some none)
    (n3 : PySem.W.findIn K (.ref C) "_names" = some none)
    (n4 : PySem.W.findIn K (.ref C) "_living" = some none)
    (n5 : PySem.W.findIn K (.ref C) "_crossing" = some none)
    (mo : PySem.W.mroIn K C (.type "object") = some true)
    (ne : PySem.W.findIn K (.ref C) "__ne__" = some (some (.builtin "object.__ne__")))
    (ca : PySem.W.findIn K (.ref C) "__class__" = some (some (.builtin "object.__class__")))
    (cg : PySem.W.specialIn K (.builtin "object.__class__") "__get__" = some (some (.builtin "getset_descriptor.__get__")))
    (ct : PySem.W.takesIn K (.builtin "object.__class__") = some true)
    (gC : PySem.W.isClsIn K C = true)
    (tC : PySem.W.typeIn K (.ref C) = some (.type "type"))
    (aP1 : PySem.W.findIn K (.ref C) "interval" = some (some (.ref pP1a)))
    (bP1 : PySem.W.specialIn K (.ref pP1a) "__get__" = some (some (.builtin "property.__get__")))
    (tP1 : PySem.W.takesIn K (.ref pP1a) = some true)
    (rP1 : PySem.W.recIn K pP1a "property" = some (.ref fP1 :: restP1))
    (lP1 : K.lookup fP1 = some ⟨ocP1, odP1, .func (PySem.W.fnOf "interval" "Spans.interval" (defArgs s_Spans_interval) (defBody s_Spans_interval) (defScope s_Spans_interval) .none kVP1 dcP1 pmP1 anP1 cdP1 ctP1), slP1⟩)
    (kP1 : PySem.W.codeIn K cdP1 "Spans.interval" = true)
    (pP1 : PySem.W.keepIn K (.ref fP1) = true)
    (aP2 : PySem.W.findIn K (.ref C) "rows" = some (some (.ref pP2a)))
    (bP2 : PySem.W.specialIn K (.ref pP2a) "__get__" = some (some (.builtin "property.__get__")))
    (tP2 : PySem.W.takesIn K (.ref pP2a) = some true)
    (rP2 : PySem.W.recIn K pP2a "property" = some (.ref fP2 :: restP2))
    (lP2 : K.lookup fP2 = some ⟨ocP2, odP2, .func (PySem.W.fnOf "rows" "Spans.rows" (defArgs s_Spans_rows) (defBody s_Spans_rows) (defScope s_Spans_rows) .none kVP2 dcP2 pmP2 anP2 cdP2 ctP2), slP2⟩)
    (kP2 : PySem.W.codeIn K cdP2 "Spans.rows" = true)
    (pP2 : PySem.W.keepIn K (.ref fP2) = true)
    (aP3 : PySem.W.findIn K (.ref C) "names" = some (some (.ref pP3a)))
    (bP3 : PySem.W.specialIn K (.ref pP3a) "__get__" = some (some (.builtin "property.__get__")))
    (tP3 : PySem.W.takesIn K (.ref pP3a) = some true)
    (rP3 : PySem.W.recIn K pP3a "property" = some (.ref fP3 :: restP3))
    (lP3 : K.lookup fP3 = some ⟨ocP3, odP3, .func (PySem.W.fnOf "names" "Spans.names" (defArgs s_Spans_names) (defBody s_Spans_names) (defScope s_Spans_names) .none kVP3 dcP3 pmP3 anP3 cdP3 ctP3), slP3⟩)
    (kP3 : PySem.W.codeIn K cdP3 "Spans.names" = true)
    (pP3 : PySem.W.keepIn K (.ref fP3) = true)
    (aP4 : PySem.W.findIn K (.ref C) "total" = some (some (.ref pP4a)))
    (bP4 : PySem.W.specialIn K (.ref pP4a) "__get__" = some (some (.builtin "property.__get__")))
    (tP4 : PySem.W.takesIn K (.ref pP4a) = some true)
    (rP4 : PySem.W.recIn K pP4a "property" = some (.ref fP4 :: restP4))
    (lP4 : K.lookup fP4 = some ⟨ocP4, odP4, .func (PySem.W.fnOf "total" "Spans.total" (defArgs s_Spans_total) (defBody s_Spans_total) (defScope s_Spans_total) .none kVP4 dcP4 pmP4 anP4 cdP4 ctP4), slP4⟩)
    (kP4 : PySem.W.codeIn K cdP4 "Spans.total" = true)
    (pP4 : PySem.W.keepIn K (.ref fP4) = true)
    (aP5 : PySem.W.findIn K (.ref C) "normal" = some (some (.ref pP5a)))
    (bP5 : PySem.W.specialIn K (.ref pP5a) "__get__" = some (some (.builtin "property.__get__")))
    (tP5 : PySem.W.takesIn K (.ref pP5a) = some true)
    (rP5 : PySem.W.recIn K pP5a "property" = some (.ref fP5 :: restP5))
    (lP5 : K.lookup fP5 = some ⟨ocP5, odP5, .func (PySem.W.fnOf "normal" "Spans.normal" (defArgs s_Spans_normal) (defBody s_Spans_normal) (defScope s_Spans_normal) .none kVP5 dcP5 pmP5 anP5 cdP5 ctP5), slP5⟩)
    (kP5 : PySem.W.codeIn K cdP5 "Spans.normal" = true)
    (pP5 : PySem.W.keepIn K (.ref fP5) = true)
    (iG : PySem.W.findIn K (.ref C) "__getitem__" = some (some (.ref fG)))
    (yG : PySem.W.isFn K (.ref fG) = true)
    (lG : K.lookup fG = some ⟨ocG, odG, .func (PySem.W.fnOf "__getitem__" "Spans.__getitem__" (defArgs s_Spans_getitem) (defBody s_Spans_getitem) (defScope s_Spans_getitem) .none kVG dcG pmG anG cdG ctG), slG⟩)
    (kG : PySem.W.codeIn K cdG "Spans.__getitem__" = true)
    (pG : PySem.W.keepIn K (.ref fG) = true)
    (iM : PySem.W.findIn K (.ref C) "__contains__" = some (some (.ref fM)))
    (yM : PySem.W.isFn K (.ref fM) = true)
    (lM : K.lookup fM = some ⟨ocM, odM, .func (PySem.W.fnOf "__contains__" "Spans.__contains__" (defArgs s_Spans_contains) (defBody s_Spans_contains) (defScope s_Spans_contains) .none kVM dcM pmM anM cdM ctM), slM⟩)
    (kM : PySem.W.codeIn K cdM "Spans.__contains__" = true)
    (pM : PySem.W.keepIn K (.ref fM) = true)
    (iL : PySem.W.findIn K (.ref C) "__len__" = some (some (.ref fL)))
    (yL : PySem.W.isFn K (.ref fL) = true)
    (lL : K.lookup fL = some ⟨ocL, odL, .func (PySem.W.fnOf "__len__" "Spans.__len__" (defArgs s_Spans_len) (defBody s_Spans_len) (defScope s_Spans_len) .none kVL dcL pmL anL cdL ctL), slL⟩)
    (kL : PySem.W.codeIn K cdL "Spans.__len__" = true)
    (pL : PySem.W.keepIn K (.ref fL) = true)
    (iQ : PySem.W.findIn K (.ref C) "__eq__" = some (some (.ref fQ)))
    (yQ : PySem.W.isFn K (.ref fQ) = true)
    (lQ : K.lookup fQ = some ⟨ocQ, odQ, .func (PySem.W.fnOf "__eq__" "Spans.__eq__" (defArgs s_Spans_eq) (defBody s_Spans_eq) (defScope s_Spans_eq) .none kVQ dcQ pmQ anQ cdQ ctQ), slQ⟩)
    (kQ : PySem.W.codeIn K cdQ "Spans.__eq__" = true)
    (pQ : PySem.W.keepIn K (.ref fQ) = true)
    (iS : PySem.W.findIn K (.ref C) "__str__" = some (some (.ref fS)))
    (yS : PySem.W.isFn K (.ref fS) = true)
    (lS : K.lookup fS = some ⟨ocS, odS, .func (PySem.W.fnOf "__str__" "Spans.__str__" (defArgs s_Spans_str) (defBody s_Spans_str) (defScope s_Spans_str) .none kVS dcS pmS anS cdS ctS), slS⟩)
    (kS : PySem.W.codeIn K cdS "Spans.__str__" = true)
    (pS : PySem.W.keepIn K (.ref fS) = true)
    (sb : PySem.W.subIn K (.ref C) (.type "str") = some false)
    (fnG : PySem.W.fnIn K fG = true)
    : Nonempty (UX K mg) := by
  have ks : PySem.W.kitOne K (.ref C) (.type "str") = some false := by
    unfold PySem.W.kitOne PySem.W.kitCls
    rw [show ((Value.ref C) == Value.type "str") = false from rfl]
    dsimp only
    rw [show PySem.W.kitMeta "str" = true from by decide +kernel, sb]
    rfl
  have tin : ∀ n, n ∈ ["NoneType", "bool", "int", "str", "list", "tuple", "dict"] → PySem.W.notFirst K C (.type n) = true ∧ PySem.W.kitOne K (.type n) (.ref C) = some false := by
    intro n hn
    simp only [List.mem_cons, List.mem_nil_iff, or_false] at hn
    rcases hn with rfl | rfl | rfl | rfl | rfl | rfl | rfl
    · exact tin_of sub_NoneType rfl gC tC
    · exact tin_of sub_bool rfl gC tC
    · exact tin_of sub_int rfl gC tC
    · exact tin_of sub_str rfl gC tC
    · exact tin_of sub_list rfl gC tC
    · exact tin_of sub_tuple rfl gC tC
    · exact tin_of sub_dict rfl gC tC
  exact ⟨⟨C, PySem.W.mg_of X G aC, ⟨c1, c2, c3, c4⟩, mo, ne, fI, _, ⟨⟨_, _, _, _, _, _, _, _, _, _, rfl, lI, kI, .inl ⟨rfl, rfl⟩, .inl rfl⟩, pI⟩, ⟨c5, c6, c7, c8⟩, .all fun us hl => match us, hl with | [_, _, _], _ => rfl, n1, n2, n3, n4, n5, ⟨pP1a, fP1, _, ⟨⟨_, _, _, _, _, _, _, _, _, _, rfl, lP1, kP1, .inl ⟨rfl, rfl⟩, .inl rfl⟩, pP1⟩, ⟨aP1, bP1, tP1, ⟨_, rP1⟩⟩, .all fun us hl => match us, hl with | [_], _ => rfl⟩, ⟨pP2a, fP2, _, ⟨⟨_, _, _, _, _, _, _, _, _, _, rfl, lP2, kP2, .inl ⟨rfl, rfl⟩, .inl rfl⟩, pP2⟩, ⟨aP2, bP2, tP2, ⟨_, rP2⟩⟩, .all fun us hl => match us, hl with | [_], _ => rfl⟩, ⟨pP3a, fP3, _, ⟨⟨_, _, _, _, _, _, _, _, _, _, rfl, lP3, kP3, .inl ⟨rfl, rfl⟩, .inl rfl⟩, pP3⟩, ⟨aP3, bP3, tP3, ⟨_, rP3⟩⟩, .all fun us hl => match us, hl with | [_], _ => rfl⟩, ⟨pP4a, fP4, _, ⟨⟨_, _, _, _, _, _, _, _, _, _, rfl, lP4, kP4, .inl ⟨rfl, rfl⟩, .inl rfl⟩, pP4⟩, ⟨aP4, bP4, tP4, ⟨_, rP4⟩⟩, .all fun us hl => match us, hl with | [_], _ => rfl⟩, ⟨pP5a, fP5, _, ⟨⟨_, _, _, _, _, _, _, _, _, _, rfl, lP5, kP5, .inl ⟨rfl, rfl⟩, .inl rfl⟩, pP5⟩, ⟨aP5, bP5, tP5, ⟨_, rP5⟩⟩, .all fun us hl => match us, hl with | [_], _ => rfl⟩, ⟨fG, _, ⟨⟨_, _, _, _, _, _, _, _, _, _, rfl, lG, kG, .inl ⟨rfl, rfl⟩, .inl rfl⟩, pG⟩, ⟨iG, yG, pG⟩, .all fun us hl => match us, hl with | [_, _], _ => rfl⟩, ⟨fM, _, ⟨⟨_, _, _, _, _, _, _, _, _, _, rfl, lM, kM, .inl ⟨rfl, rfl⟩, .inl rfl⟩, pM⟩, ⟨iM, yM, pM⟩, .all fun us hl => match us, hl with | [_, _], _ => rfl⟩, ⟨fL, _, ⟨⟨_, _, _, _, _, _, _, _, _, _, rfl, lL, kL, .inl ⟨rfl, rfl⟩, .inl rfl⟩, pL⟩, ⟨iL, yL, pL⟩, .all fun us hl => match us, hl with | [_], _ => rfl⟩, ⟨fQ, _, ⟨⟨_, _, _, _, _, _, _, _, _, _, rfl, lQ, kQ, .inl ⟨rfl, rfl⟩, .inl rfl⟩, pQ⟩, ⟨iQ, yQ, pQ⟩, .all fun us hl => match us, hl with | [_, _], _ => rfl⟩, ⟨fS, _, ⟨⟨_, _, _, _, _, _, _, _, _, _, rfl, lS, kS, .inl ⟨rfl, rfl⟩, .inl rfl⟩, pS⟩, ⟨iS, yS, pS⟩, .all fun us hl => match us, hl with | [_], _ => rfl⟩, tin, sb, ks, ca, cg, ct, fnG⟩⟩
theorem all_mk {l : PySem.W.OpenLaw} {w : World} {K : PySem.W.Frag} {h : Heap} {mg : Str → Option Value} {fa f_wall f_is_name f_is_integer f_is_between f_check_integer f_check_between f_check_interval f_times_alive f_ascends f_is_span f_are_rows f_w_tray f_w_roll f_w_pick f_w_few f_w_names f_w_rings f_w_rows f_w_sorted f_w_near f_w_odd f_w_is_told f_w_right f_law : Addr} (X : K.In h) (G : h.Ns mainGlobals mg) (hfa : mg "law" = some (.ref fa))
    {od_wall an_wall od_is_name an_is_name od_is_integer an_is_integer od_is_between an_is_between od_check_integer an_check_integer od_check_between an_check_between od_check_interval an_check_interval od_times_alive an_times_alive od_ascends an_ascends od_is_span an_is_span od_are_rows an_are_rows od_w_tray an_w_tray od_w_roll an_w_roll od_w_pick an_w_pick od_w_few an_w_few od_w_names an_w_names od_w_rings an_w_rings od_w_rows an_w_rows od_w_sorted an_w_sorted od_w_near an_w_near od_w_odd an_w_odd od_w_is_told an_w_is_told od_w_right an_w_right od_law an_law : Option Addr} {sl_wall sl_is_name sl_is_integer sl_is_between sl_check_integer sl_check_between sl_check_interval sl_times_alive sl_ascends sl_is_span sl_are_rows sl_w_tray sl_w_roll sl_w_pick sl_w_few sl_w_names sl_w_rings sl_w_rows sl_w_sorted sl_w_near sl_w_odd sl_w_is_told sl_w_right sl_law : Array (Option Value)} {oc_wall kV_wall dc_wall pm_wall cd_wall ct_wall oc_is_name kV_is_name dc_is_name pm_is_name cd_is_name ct_is_name oc_is_integer kV_is_integer dc_is_integer pm_is_integer cd_is_integer ct_is_integer oc_is_between kV_is_between dc_is_between pm_is_between cd_is_between ct_is_between oc_check_integer kV_check_integer dc_check_integer pm_check_integer cd_check_integer ct_check_integer oc_check_between kV_check_between dc_check_between pm_check_between cd_check_between ct_check_between oc_check_interval kV_check_interval dc_check_interval pm_check_interval cd_check_interval ct_check_interval oc_times_alive kV_times_alive dc_times_alive pm_times_alive cd_times_alive ct_times_alive oc_ascends kV_ascends dc_ascends pm_ascends cd_ascends ct_ascends oc_is_span kV_is_span dc_is_span pm_is_span cd_is_span ct_is_span oc_are_rows kV_are_rows dc_are_rows pm_are_rows cd_are_rows ct_are_rows oc_w_tray kV_w_tray dc_w_tray pm_w_tray cd_w_tray ct_w_tray oc_w_roll kV_w_roll dc_w_roll pm_w_roll cd_w_roll ct_w_roll oc_w_pick kV_w_pick dc_w_pick pm_w_pick cd_w_pick ct_w_pick oc_w_few kV_w_few dc_w_few pm_w_few cd_w_few ct_w_few oc_w_names kV_w_names dc_w_names pm_w_names cd_w_names ct_w_names oc_w_rings kV_w_rings dc_w_rings pm_w_rings cd_w_rings ct_w_rings oc_w_rows kV_w_rows dc_w_rows pm_w_rows cd_w_rows ct_w_rows oc_w_sorted kV_w_sorted dc_w_sorted pm_w_sorted cd_w_sorted ct_w_sorted oc_w_near kV_w_near dc_w_near pm_w_near cd_w_near ct_w_near oc_w_odd kV_w_odd dc_w_odd pm_w_odd cd_w_odd ct_w_odd oc_w_is_told kV_w_is_told dc_w_is_told pm_w_is_told cd_w_is_told ct_w_is_told oc_w_right kV_w_right dc_w_right pm_w_right cd_w_right ct_w_right oc_law kV_law dc_law pm_law cd_law ct_law : Value} {t_MAX_INTERVAL t_MAX_LETTERS t_MAX_VALUES t_MAX_LIFE : Tok}
    (a_wall : PySem.W.nsIn K mainGlobals "_wall" = some (some (.ref f_wall))) (l_wall : K.lookup f_wall = some ⟨oc_wall, od_wall, .func (PySem.W.fnOf "_wall" "_wall" (defArgs s_wall) (defBody s_wall) (defScope s_wall) .none kV_wall dc_wall pm_wall an_wall cd_wall ct_wall), sl_wall⟩) (k_wall : PySem.W.codeIn K cd_wall "_wall" = true) (p_wall : PySem.W.keepIn K (.ref f_wall) = true)
    (a_is_name : PySem.W.nsIn K mainGlobals "is_name" = some (some (.ref f_is_name))) (l_is_name : K.lookup f_is_name = some ⟨oc_is_name, od_is_name, .func (PySem.W.fnOf "is_name" "is_name" (defArgs s_is_name) (defBody s_is_name) (defScope s_is_name) .none kV_is_name dc_is_name pm_is_name an_is_name cd_is_name ct_is_name), sl_is_name⟩) (k_is_name : PySem.W.codeIn K cd_is_name "is_name" = true) (p_is_name : PySem.W.keepIn K (.ref f_is_name) = true)
    (a_is_integer : PySem.W.nsIn K mainGlobals "is_integer" = some (some (.ref f_is_integer))) (l_is_integer : K.lookup f_is_integer = some ⟨oc_is_integer, od_is_integer, .func (PySem.W.fnOf "is_integer" "is_integer" (defArgs s_is_integer) (defBody s_is_integer) (defScope s_is_integer) .none kV_is_integer dc_is_integer pm_is_integer an_is_integer cd_is_integer ct_is_integer), sl_is_integer⟩) (k_is_integer : PySem.W.codeIn K cd_is_integer "is_integer" = true) (p_is_integer : PySem.W.keepIn K (.ref f_is_integer) = true)
    (a_is_between : PySem.W.nsIn K mainGlobals "is_between" = some (some (.ref f_is_between))) (l_is_between : K.lookup f_is_between = some ⟨oc_is_between, od_is_between, .func (PySem.W.fnOf "is_between" "is_between" (defArgs s_is_between) (defBody s_is_between) (defScope s_is_between) .none kV_is_between dc_is_between pm_is_between an_is_between cd_is_between ct_is_between), sl_is_between⟩) (k_is_between : PySem.W.codeIn K cd_is_between "is_between" = true) (p_is_between : PySem.W.keepIn K (.ref f_is_between) = true)
    (a_check_integer : PySem.W.nsIn K mainGlobals "check_integer" = some (some (.ref f_check_integer))) (l_check_integer : K.lookup f_check_integer = some ⟨oc_check_integer, od_check_integer, .func (PySem.W.fnOf "check_integer" "check_integer" (defArgs s_check_integer) (defBody s_check_integer) (defScope s_check_integer) .none kV_check_integer dc_check_integer pm_check_integer an_check_integer cd_check_integer ct_check_integer), sl_check_integer⟩) (k_check_integer : PySem.W.codeIn K cd_check_integer "check_integer" = true) (p_check_integer : PySem.W.keepIn K (.ref f_check_integer) = true)
    (a_check_between : PySem.W.nsIn K mainGlobals "check_between" = some (some (.ref f_check_between))) (l_check_between : K.lookup f_check_between = some ⟨oc_check_between, od_check_between, .func (PySem.W.fnOf "check_between" "check_between" (defArgs s_check_between) (defBody s_check_between) (defScope s_check_between) .none kV_check_between dc_check_between pm_check_between an_check_between cd_check_between ct_check_between), sl_check_between⟩) (k_check_between : PySem.W.codeIn K cd_check_between "check_between" = true) (p_check_between : PySem.W.keepIn K (.ref f_check_between) = true)
    (a_check_interval : PySem.W.nsIn K mainGlobals "check_interval" = some (some (.ref f_check_interval))) (l_check_interval : K.lookup f_check_interval = some ⟨oc_check_interval, od_check_interval, .func (PySem.W.fnOf "check_interval" "check_interval" (defArgs s_check_interval) (defBody s_check_interval) (defScope s_check_interval) .none kV_check_interval dc_check_interval pm_check_interval an_check_interval cd_check_interval ct_check_interval), sl_check_interval⟩) (k_check_interval : PySem.W.codeIn K cd_check_interval "check_interval" = true) (p_check_interval : PySem.W.keepIn K (.ref f_check_interval) = true)
    (a_times_alive : PySem.W.nsIn K mainGlobals "times_alive" = some (some (.ref f_times_alive))) (l_times_alive : K.lookup f_times_alive = some ⟨oc_times_alive, od_times_alive, .func (PySem.W.fnOf "times_alive" "times_alive" (defArgs s_times_alive) (defBody s_times_alive) (defScope s_times_alive) .none kV_times_alive dc_times_alive pm_times_alive an_times_alive cd_times_alive ct_times_alive), sl_times_alive⟩) (k_times_alive : PySem.W.codeIn K cd_times_alive "times_alive" = true) (p_times_alive : PySem.W.keepIn K (.ref f_times_alive) = true)
    (a_ascends : PySem.W.nsIn K mainGlobals "ascends" = some (some (.ref f_ascends))) (l_ascends : K.lookup f_ascends = some ⟨oc_ascends, od_ascends, .func (PySem.W.fnOf "ascends" "ascends" (defArgs s_ascends) (defBody s_ascends) (defScope s_ascends) .none kV_ascends dc_ascends pm_ascends an_ascends cd_ascends ct_ascends), sl_ascends⟩) (k_ascends : PySem.W.codeIn K cd_ascends "ascends" = true) (p_ascends : PySem.W.keepIn K (.ref f_ascends) = true)
    (a_is_span : PySem.W.nsIn K mainGlobals "_is_span" = some (some (.ref f_is_span))) (l_is_span : K.lookup f_is_span = some ⟨oc_is_span, od_is_span, .func (PySem.W.fnOf "_is_span" "_is_span" (defArgs s_is_span) (defBody s_is_span) (defScope s_is_span) .none kV_is_span dc_is_span pm_is_span an_is_span cd_is_span ct_is_span), sl_is_span⟩) (k_is_span : PySem.W.codeIn K cd_is_span "_is_span" = true) (p_is_span : PySem.W.keepIn K (.ref f_is_span) = true)
    (a_are_rows : PySem.W.nsIn K mainGlobals "_are_rows" = some (some (.ref f_are_rows))) (l_are_rows : K.lookup f_are_rows = some ⟨oc_are_rows, od_are_rows, .func (PySem.W.fnOf "_are_rows" "_are_rows" (defArgs s_are_rows) (defBody s_are_rows) (defScope s_are_rows) .none kV_are_rows dc_are_rows pm_are_rows an_are_rows cd_are_rows ct_are_rows), sl_are_rows⟩) (k_are_rows : PySem.W.codeIn K cd_are_rows "_are_rows" = true) (p_are_rows : PySem.W.keepIn K (.ref f_are_rows) = true)
    (a_w_tray : PySem.W.nsIn K mainGlobals "_law_tray" = some (some (.ref f_w_tray))) (l_w_tray : K.lookup f_w_tray = some ⟨oc_w_tray, od_w_tray, .func (PySem.W.fnOf "_law_tray" "_law_tray" (defArgs s_w_tray) (defBody s_w_tray) (defScope s_w_tray) .none kV_w_tray dc_w_tray pm_w_tray an_w_tray cd_w_tray ct_w_tray), sl_w_tray⟩) (k_w_tray : PySem.W.codeIn K cd_w_tray "_law_tray" = true) (p_w_tray : PySem.W.keepIn K (.ref f_w_tray) = true)
    (a_w_roll : PySem.W.nsIn K mainGlobals "_law_roll" = some (some (.ref f_w_roll))) (l_w_roll : K.lookup f_w_roll = some ⟨oc_w_roll, od_w_roll, .func (PySem.W.fnOf "_law_roll" "_law_roll" (defArgs s_w_roll) (defBody s_w_roll) (defScope s_w_roll) .none kV_w_roll dc_w_roll pm_w_roll an_w_roll cd_w_roll ct_w_roll), sl_w_roll⟩) (k_w_roll : PySem.W.codeIn K cd_w_roll "_law_roll" = true) (p_w_roll : PySem.W.keepIn K (.ref f_w_roll) = true)
    (a_w_pick : PySem.W.nsIn K mainGlobals "_law_pick" = some (some (.ref f_w_pick))) (l_w_pick : K.lookup f_w_pick = some ⟨oc_w_pick, od_w_pick, .func (PySem.W.fnOf "_law_pick" "_law_pick" (defArgs s_w_pick) (defBody s_w_pick) (defScope s_w_pick) .none kV_w_pick dc_w_pick pm_w_pick an_w_pick cd_w_pick ct_w_pick), sl_w_pick⟩) (k_w_pick : PySem.W.codeIn K cd_w_pick "_law_pick" = true) (p_w_pick : PySem.W.keepIn K (.ref f_w_pick) = true)
    (a_w_few : PySem.W.nsIn K mainGlobals "_law_few" = some (some (.ref f_w_few))) (l_w_few : K.lookup f_w_few = some ⟨oc_w_few, od_w_few, .func (PySem.W.fnOf "_law_few" "_law_few" (defArgs s_w_few) (defBody s_w_few) (defScope s_w_few) .none kV_w_few dc_w_few pm_w_few an_w_few cd_w_few ct_w_few), sl_w_few⟩) (k_w_few : PySem.W.codeIn K cd_w_few "_law_few" = true) (p_w_few : PySem.W.keepIn K (.ref f_w_few) = true)
    (a_w_names : PySem.W.nsIn K mainGlobals "_law_names" = some (some (.ref f_w_names))) (l_w_names : K.lookup f_w_names = some ⟨oc_w_names, od_w_names, .func (PySem.W.fnOf "_law_names" "_law_names" (defArgs s_w_names) (defBody s_w_names) (defScope s_w_names) .none kV_w_names dc_w_names pm_w_names an_w_names cd_w_names ct_w_names), sl_w_names⟩) (k_w_names : PySem.W.codeIn K cd_w_names "_law_names" = true) (p_w_names : PySem.W.keepIn K (.ref f_w_names) = true)
    (a_w_rings : PySem.W.nsIn K mainGlobals "_law_rings" = some (some (.ref f_w_rings))) (l_w_rings : K.lookup f_w_rings = some ⟨oc_w_rings, od_w_rings, .func (PySem.W.fnOf "_law_rings" "_law_rings" (defArgs s_w_rings) (defBody s_w_rings) (defScope s_w_rings) .none kV_w_rings dc_w_rings pm_w_rings an_w_rings cd_w_rings ct_w_rings), sl_w_rings⟩) (k_w_rings : PySem.W.codeIn K cd_w_rings "_law_rings" = true) (p_w_rings : PySem.W.keepIn K (.ref f_w_rings) = true)
    (a_w_rows : PySem.W.nsIn K mainGlobals "_law_rows" = some (some (.ref f_w_rows))) (l_w_rows : K.lookup f_w_rows = some ⟨oc_w_rows, od_w_rows, .func (PySem.W.fnOf "_law_rows" "_law_rows" (defArgs s_w_rows) (defBody s_w_rows) (defScope s_w_rows) .none kV_w_rows dc_w_rows pm_w_rows an_w_rows cd_w_rows ct_w_rows), sl_w_rows⟩) (k_w_rows : PySem.W.codeIn K cd_w_rows "_law_rows" = true) (p_w_rows : PySem.W.keepIn K (.ref f_w_rows) = true)
    (a_w_sorted : PySem.W.nsIn K mainGlobals "_law_sorted" = some (some (.ref f_w_sorted))) (l_w_sorted : K.lookup f_w_sorted = some ⟨oc_w_sorted, od_w_sorted, .func (PySem.W.fnOf "_law_sorted" "_law_sorted" (defArgs s_w_sorted) (defBody s_w_sorted) (defScope s_w_sorted) .none kV_w_sorted dc_w_sorted pm_w_sorted an_w_sorted cd_w_sorted ct_w_sorted), sl_w_sorted⟩) (k_w_sorted : PySem.W.codeIn K cd_w_sorted "_law_sorted" = true) (p_w_sorted : PySem.W.keepIn K (.ref f_w_sorted) = true)
    (a_w_near : PySem.W.nsIn K mainGlobals "_law_near" = some (some (.ref f_w_near))) (l_w_near : K.lookup f_w_near = some ⟨oc_w_near, od_w_near, .func (PySem.W.fnOf "_law_near" "_law_near" (defArgs s_w_near) (defBody s_w_near) (defScope s_w_near) .none kV_w_near dc_w_near pm_w_near an_w_near cd_w_near ct_w_near), sl_w_near⟩) (k_w_near : PySem.W.codeIn K cd_w_near "_law_near" = true) (p_w_near : PySem.W.keepIn K (.ref f_w_near) = true)
    (a_w_odd : PySem.W.nsIn K mainGlobals "_law_odd" = some (some (.ref f_w_odd))) (l_w_odd : K.lookup f_w_odd = some ⟨oc_w_odd, od_w_odd, .func (PySem.W.fnOf "_law_odd" "_law_odd" (defArgs s_w_odd) (defBody s_w_odd) (defScope s_w_odd) .none kV_w_odd dc_w_odd pm_w_odd an_w_odd cd_w_odd ct_w_odd), sl_w_odd⟩) (k_w_odd : PySem.W.codeIn K cd_w_odd "_law_odd" = true) (p_w_odd : PySem.W.keepIn K (.ref f_w_odd) = true)
    (a_w_is_told : PySem.W.nsIn K mainGlobals "_law_is_told" = some (some (.ref f_w_is_told))) (l_w_is_told : K.lookup f_w_is_told = some ⟨oc_w_is_told, od_w_is_told, .func (PySem.W.fnOf "_law_is_told" "_law_is_told" (defArgs s_w_is_told) (defBody s_w_is_told) (defScope s_w_is_told) .none kV_w_is_told dc_w_is_told pm_w_is_told an_w_is_told cd_w_is_told ct_w_is_told), sl_w_is_told⟩) (k_w_is_told : PySem.W.codeIn K cd_w_is_told "_law_is_told" = true) (p_w_is_told : PySem.W.keepIn K (.ref f_w_is_told) = true)
    (a_w_right : PySem.W.nsIn K mainGlobals "_law_right" = some (some (.ref f_w_right))) (l_w_right : K.lookup f_w_right = some ⟨oc_w_right, od_w_right, .func (PySem.W.fnOf "_law_right" "_law_right" (defArgs s_w_right) (defBody s_w_right) (defScope s_w_right) .none kV_w_right dc_w_right pm_w_right an_w_right cd_w_right ct_w_right), sl_w_right⟩) (k_w_right : PySem.W.codeIn K cd_w_right "_law_right" = true) (p_w_right : PySem.W.keepIn K (.ref f_w_right) = true)
    (a_law : PySem.W.nsIn K mainGlobals "law" = some (some (.ref f_law))) (l_law : K.lookup f_law = some ⟨oc_law, od_law, .func (PySem.W.fnOf "law" "law" (defArgs s_law) (defBody s_law) (defScope s_law) .none kV_law dc_law pm_law an_law cd_law ct_law), sl_law⟩) (k_law : PySem.W.codeIn K cd_law "law" = true) (p_law : PySem.W.keepIn K (.ref f_law) = true)
    (e_MAX_INTERVAL : PySem.W.nsIn K mainGlobals "MAX_INTERVAL" = some (some (.int 32 t_MAX_INTERVAL)))
    (e_MAX_LETTERS : PySem.W.nsIn K mainGlobals "MAX_LETTERS" = some (some (.int 8 t_MAX_LETTERS)))
    (e_MAX_VALUES : PySem.W.nsIn K mainGlobals "MAX_VALUES" = some (some (.int 8 t_MAX_VALUES)))
    (e_MAX_LIFE : PySem.W.nsIn K mainGlobals "MAX_LIFE" = some (some (.int 8 t_MAX_LIFE)))
    (y_int : PySem.W.nsIn K mainGlobals "int" = some none)
    (y_abs : PySem.W.nsIn K mainGlobals "abs" = some none)
    (y_len : PySem.W.nsIn K mainGlobals "len" = some none)
    (y_max : PySem.W.nsIn K mainGlobals "max" = some none)
    (y_min : PySem.W.nsIn K mainGlobals "min" = some none)
    (y_range : PySem.W.nsIn K mainGlobals "range" = some none)
    (y_sum : PySem.W.nsIn K mainGlobals "sum" = some none)
    (y_isinstance : PySem.W.nsIn K mainGlobals "isinstance" = some none)
    (y_repr : PySem.W.nsIn K mainGlobals "repr" = some none)
    (y_str : PySem.W.nsIn K mainGlobals "str" = some none)
    (y_all : PySem.W.nsIn K mainGlobals "all" = some none)
    (y_any : PySem.W.nsIn K mainGlobals "any" = some none)
    (y_sorted : PySem.W.nsIn K mainGlobals "sorted" = some none)
    (y_tuple : PySem.W.nsIn K mainGlobals "tuple" = some none)
    (y_list : PySem.W.nsIn K mainGlobals "list" = some none)
    (y_dict : PySem.W.nsIn K mainGlobals "dict" = some none)
    (y_set : PySem.W.nsIn K mainGlobals "set" = some none)
    (y_bool : PySem.W.nsIn K mainGlobals "bool" = some none)
    (uu : Nonempty (UX K mg))
    : ∃ fd : FuncData, (∀ (s : Shared) (v : Value), BindsTo s fd ⟨[v], []⟩ [("script", v)]) ∧ ∀ base : Heap, K.In base → base.Ns mainGlobals mg → GW.FnG l.prog w K mg base CX0 12 fa fd ["script"] (sp_law K) := by
  have e := hfa.symm.trans (PySem.W.mg_of X G a_law)
  cases e
  have F_wall := fun_mk (st := s_wall) l_wall k_wall p_wall
  have b_wall := F_wall.binds (ps := ["k"]) fun _ _ _ _ _ _ us hl => match us, hl with | [_], _ => rfl
  have F_is_name := fun_mk (st := s_is_name) l_is_name k_is_name p_is_name
  have b_is_name := F_is_name.binds (ps := ["value"]) fun _ _ _ _ _ _ us hl => match us, hl with | [_], _ => rfl
  have F_is_integer := fun_mk (st := s_is_integer) l_is_integer k_is_integer p_is_integer
  have b_is_integer := F_is_integer.binds (ps := ["value"]) fun _ _ _ _ _ _ us hl => match us, hl with | [_], _ => rfl
  have F_is_between := fun_mk (st := s_is_between) l_is_between k_is_between p_is_between
  have b_is_between := F_is_between.binds (ps := ["value", "low", "high"]) fun _ _ _ _ _ _ us hl => match us, hl with | [_, _, _], _ => rfl
  have F_check_integer := fun_mk (st := s_check_integer) l_check_integer k_check_integer p_check_integer
  have b_check_integer := F_check_integer.binds (ps := ["value"]) fun _ _ _ _ _ _ us hl => match us, hl with | [_], _ => rfl
  have F_check_between := fun_mk (st := s_check_between) l_check_between k_check_between p_check_between
  have b_check_between := F_check_between.binds (ps := ["value", "low", "high"]) fun _ _ _ _ _ _ us hl => match us, hl with | [_, _, _], _ => rfl
  have F_check_interval := fun_mk (st := s_check_interval) l_check_interval k_check_interval p_check_interval
  have b_check_interval := F_check_interval.binds (ps := ["value"]) fun _ _ _ _ _ _ us hl => match us, hl with | [_], _ => rfl
  have F_times_alive := fun_mk (st := s_times_alive) l_times_alive k_times_alive p_times_alive
  have b_times_alive := F_times_alive.binds (ps := ["begin", "end", "tick", "interval"]) fun _ _ _ _ _ _ us hl => match us, hl with | [_, _, _, _], _ => rfl
  have F_ascends := fun_mk (st := s_ascends) l_ascends k_ascends p_ascends
  have b_ascends := F_ascends.binds (ps := ["row"]) fun _ _ _ _ _ _ us hl => match us, hl with | [_], _ => rfl
  have F_is_span := fun_mk (st := s_is_span) l_is_span k_is_span p_is_span
  have b_is_span := F_is_span.binds (ps := ["interval", "value"]) fun _ _ _ _ _ _ us hl => match us, hl with | [_, _], _ => rfl
  have F_are_rows := fun_mk (st := s_are_rows) l_are_rows k_are_rows p_are_rows
  have b_are_rows := F_are_rows.binds (ps := ["interval", "value"]) fun _ _ _ _ _ _ us hl => match us, hl with | [_, _], _ => rfl
  have F_w_tray := fun_mk (st := s_w_tray) l_w_tray k_w_tray p_w_tray
  have b_w_tray := F_w_tray.binds (ps := ["script", "spot"]) fun _ _ _ _ _ _ us hl => match us, hl with | [_, _], _ => rfl
  have F_w_roll := fun_mk (st := s_w_roll) l_w_roll k_w_roll p_w_roll
  have b_w_roll := F_w_roll.binds (ps := ["tray", "total"]) fun _ _ _ _ _ _ us hl => match us, hl with | [_, _], _ => rfl
  have F_w_pick := fun_mk (st := s_w_pick) l_w_pick k_w_pick p_w_pick
  have b_w_pick := F_w_pick.binds (ps := ["tray", "items"]) fun _ _ _ _ _ _ us hl => match us, hl with | [_, _], _ => rfl
  have F_w_few := fun_mk (st := s_w_few) l_w_few k_w_few p_w_few
  have b_w_few := F_w_few.binds (ps := ["tray", "items", "many"]) fun _ _ _ _ _ _ us hl => match us, hl with | [_, _, _], _ => rfl
  have F_w_names := fun_mk (st := s_w_names) l_w_names k_w_names p_w_names
  have b_w_names := F_w_names.binds (ps := ["tray", "many"]) fun _ _ _ _ _ _ us hl => match us, hl with | [_, _], _ => rfl
  have F_w_rings := fun_mk (st := s_w_rings) l_w_rings k_w_rings p_w_rings
  have b_w_rings := F_w_rings.binds (ps := ["tray", "interval", "names"]) fun _ _ _ _ _ _ us hl => match us, hl with | [_, _, _], _ => rfl
  have F_w_rows := fun_mk (st := s_w_rows) l_w_rows k_w_rows p_w_rows
  have b_w_rows := F_w_rows.binds (ps := ["tray", "interval", "names"]) fun _ _ _ _ _ _ us hl => match us, hl with | [_, _, _], _ => rfl
  have F_w_sorted := fun_mk (st := s_w_sorted) l_w_sorted k_w_sorted p_w_sorted
  have b_w_sorted := F_w_sorted.binds (ps := ["rows"]) fun _ _ _ _ _ _ us hl => match us, hl with | [_], _ => rfl
  have F_w_near := fun_mk (st := s_w_near) l_w_near k_w_near p_w_near
  have b_w_near := F_w_near.binds (ps := ["tray", "rows", "interval"]) fun _ _ _ _ _ _ us hl => match us, hl with | [_, _, _], _ => rfl
  have F_w_odd := fun_mk (st := s_w_odd) l_w_odd k_w_odd p_w_odd
  have b_w_odd := F_w_odd.binds (ps := ["tray", "rows", "spans"]) fun _ _ _ _ _ _ us hl => match us, hl with | [_, _, _], _ => rfl
  have F_w_is_told := fun_mk (st := s_w_is_told) l_w_is_told k_w_is_told p_w_is_told
  have b_w_is_told := F_w_is_told.binds (ps := ["tray", "spans", "rows", "interval"]) fun _ _ _ _ _ _ us hl => match us, hl with | [_, _, _, _], _ => rfl
  have F_w_right := fun_mk (st := s_w_right) l_w_right k_w_right p_w_right
  have b_w_right := F_w_right.binds (ps := ["tray"]) fun _ _ _ _ _ _ us hl => match us, hl with | [_], _ => rfl
  have F_law := fun_mk (st := s_law) l_law k_law p_law
  have b_law := F_law.binds (ps := ["script"]) fun _ _ _ _ _ _ us hl => match us, hl with | [_], _ => rfl
  obtain ⟨U⟩ := uu
  exact ⟨PySem.W.fnOf "law" "law" (defArgs s_law) (defBody s_law) (defScope s_law) .none kV_law dc_law pm_law an_law cd_law ct_law, fun s v => .of_eq rfl, fun base _ _ => ok_law (⟨_, _, F_wall, PySem.W.mg_of X G a_wall, b_wall, _, _, F_is_name, PySem.W.mg_of X G a_is_name, b_is_name, _, _, F_is_integer, PySem.W.mg_of X G a_is_integer, b_is_integer, _, _, F_is_between, PySem.W.mg_of X G a_is_between, b_is_between, _, _, F_check_integer, PySem.W.mg_of X G a_check_integer, b_check_integer, _, _, F_check_between, PySem.W.mg_of X G a_check_between, b_check_between, _, _, F_check_interval, PySem.W.mg_of X G a_check_interval, b_check_interval, _, _, F_times_alive, PySem.W.mg_of X G a_times_alive, b_times_alive, _, _, F_ascends, PySem.W.mg_of X G a_ascends, b_ascends, _, _, F_is_span, PySem.W.mg_of X G a_is_span, b_is_span, _, _, F_are_rows, PySem.W.mg_of X G a_are_rows, b_are_rows, _, _, F_w_tray, PySem.W.mg_of X G a_w_tray, b_w_tray, _, _, F_w_roll, PySem.W.mg_of X G a_w_roll, b_w_roll, _, _, F_w_pick, PySem.W.mg_of X G a_w_pick, b_w_pick, _, _, F_w_few, PySem.W.mg_of X G a_w_few, b_w_few, _, _, F_w_names, PySem.W.mg_of X G a_w_names, b_w_names, _, _, F_w_rings, PySem.W.mg_of X G a_w_rings, b_w_rings, _, _, F_w_rows, PySem.W.mg_of X G a_w_rows, b_w_rows, _, _, F_w_sorted, PySem.W.mg_of X G a_w_sorted, b_w_sorted, _, _, F_w_near, PySem.W.mg_of X G a_w_near, b_w_near, _, _, F_w_odd, PySem.W.mg_of X G a_w_odd, b_w_odd, _, _, F_w_is_told, PySem.W.mg_of X G a_w_is_told, b_w_is_told, _, _, F_w_right, PySem.W.mg_of X G a_w_right, b_w_right, _, _, F_law, PySem.W.mg_of X G a_law, b_law, ⟨t_MAX_INTERVAL, PySem.W.mg_of X G e_MAX_INTERVAL⟩, ⟨t_MAX_LETTERS, PySem.W.mg_of X G e_MAX_LETTERS⟩, ⟨t_MAX_VALUES, PySem.W.mg_of X G e_MAX_VALUES⟩, ⟨t_MAX_LIFE, PySem.W.mg_of X G e_MAX_LIFE⟩, PySem.W.mg_none_of X G y_int, PySem.W.mg_none_of X G y_abs, PySem.W.mg_none_of X G y_len, PySem.W.mg_none_of X G y_max, PySem.W.mg_none_of X G y_min, PySem.W.mg_none_of X G y_range, PySem.W.mg_none_of X G y_sum, PySem.W.mg_none_of X G y_isinstance, PySem.W.mg_none_of X G y_repr, PySem.W.mg_none_of X G y_str, PySem.W.mg_none_of X G y_all, PySem.W.mg_none_of X G y_any, PySem.W.mg_none_of X G y_sorted, PySem.W.mg_none_of X G y_tuple, PySem.W.mg_none_of X G y_list, PySem.W.mg_none_of X G y_dict, PySem.W.mg_none_of X G y_set, PySem.W.mg_none_of X G y_bool⟩ : T K mg) U⟩
theorem walk {l : PySem.W.OpenLaw} {q : Program} {loose : List Str} {XP : (Str → Option Value) → Heap → Prop}
                                                                                                              {YP : World → Heap → Prop} {d : DefRec} {K : Params → PySem.W.Frag} (hn : l.most = some 63) (hdf : d.params.defaults = [])
    (hY : ∀ (w : World) (h : Heap), YP w h → (K w.params).In h)
    (F : ∀ (w : World) (mg : Str → Option Value) (fa : Addr) (h : Heap),
                                                                         (K w.params).In h → h.Ns mainGlobals mg → mg d.name = some (.ref fa) →
      ∃ fd : FuncData, (∀ (s : Shared) (u : Value), BindsTo s fd ⟨[u], []⟩ [("script", u)]) ∧ ∀ base : Heap, (K w.params).In base → base.Ns mainGlobals mg → GW.FnG l.prog w (K w.params) mg base CX0 12 fa fd ["script"] (sp_law (K w.params))) :
    PySem.W.WalkO q loose XP YP l.row.toRowW d []
                                                  (fun f vs => PySem.call f vs) :=
  GW.walkG (n := 63) (k := 12) (x := "script") hn (by decide) hdf ⟨rfl, by decide, by decide⟩ hY fun w mg fa h _ KX G hmg => by
    obtain ⟨fd, hb, hF⟩ := F w mg fa h KX G hmg
    exact ⟨fd, [], sp_law _, (fun _ h => by cases h), (fun _ h => by cases h), (fun _ h => by cases h), hb, (fun H a ns hl _ hS => ⟨a, ns, rfl, hS, hl, fun _ => rfl⟩), fun base kin hns _ => hF base kin hns⟩
end K37
open PySem PySem.W PyProof.Rows
set_option maxRecDepth 100000 in
set_option maxHeartbeats 0 in
theorem PySem.Challenge.cw_overrounds_k37_spans_told_holds : PySem.Challenge.rw_overrounds_k37_spans_told.Holds := by
  w_on; o_law; k_head; (case hw => w_witness2)
  k_fill
  refine K37.walk (l := PySem.Challenge.rw_overrounds_k37_spans_told) rfl rfl (fun w h Y => PySem.W.kIn_of Y) ?F
  case F =>
    intro w mg fa h KX G hmg
    refine' K37.all_mk KX G hmg ?a_wall ?l_wall ?k_wall ?p_wall ?a_is_name ?l_is_name ?k_is_name ?p_is_name ?a_is_integer ?l_is_integer ?k_is_integer ?p_is_integer ?a_is_between ?l_is_between ?k_is_between ?p_is_between ?a_check_integer ?l_check_integer ?k_check_integer ?p_check_integer ?a_check_between ?l_check_between ?k_check_between ?p_check_between ?a_check_interval ?l_check_interval ?k_check_interval ?p_check_interval ?a_times_alive ?l_times_alive ?k_times_alive ?p_times_alive ?a_ascends ?l_ascends ?k_ascends ?p_ascends ?a_is_span ?l_is_span ?k_is_span ?p_is_span ?a_are_rows ?l_are_rows ?k_are_rows ?p_are_rows ?a_w_tray ?l_w_tray ?k_w_tray ?p_w_tray ?a_w_roll ?l_w_roll ?k_w_roll ?p_w_roll ?a_w_pick ?l_w_pick ?k_w_pick ?p_w_pick ?a_w_few ?l_w_few ?k_w_few ?p_w_few ?a_w_names ?l_w_names ?k_w_names ?p_w_names ?a_w_rings ?l_w_rings ?k_w_rings ?p_w_rings ?a_w_rows ?l_w_rows ?k_w_rows ?p_w_rows ?a_w_sorted ?l_w_sorted ?k_w_sorted ?p_w_sorted ?a_w_near ?l_w_near ?k_w_near ?p_w_near ?a_w_odd ?l_w_odd ?k_w_odd ?p_w_odd ?a_w_is_told ?l_w_is_told ?k_w_is_told ?p_w_is_told ?a_w_right ?l_w_right ?k_w_right ?p_w_right ?a_law ?l_law ?k_law ?p_law ?e_MAX_INTERVAL ?e_MAX_LETTERS ?e_MAX_VALUES ?e_MAX_LIFE ?y_int ?y_abs ?y_len ?y_max ?y_min ?y_range ?y_sum ?y_isinstance ?y_repr ?y_str ?y_all ?y_any ?y_sorted ?y_tuple ?y_list ?y_dict ?y_set ?y_bool ?uu
    (case a_wall => k_is)
    (case l_wall => k_is)
    (case k_wall => k_is)
    (case p_wall => k_is)
    (case a_is_name => k_is)
    (case l_is_name => k_is)
    (case k_is_name => k_is)
    (case p_is_name => k_is)
    (case a_is_integer => k_is)
    (case l_is_integer => k_is)
    (case k_is_integer => k_is)
    (case p_is_integer => k_is)
    (case a_is_between => k_is)
    (case l_is_between => k_is)
    (case k_is_between => k_is)
    (case p_is_between => k_is)
    (case a_check_integer => k_is)
    (case l_check_integer => k_is)
    (case k_check_integer => k_is)
    (case p_check_integer => k_is)
    (case a_check_between => k_is)
    (case l_check_between => k_is)
    (case k_check_between => k_is)
    (case p_check_between => k_is)
    (case a_check_interval => k_is)
    (case l_check_interval => k_is)
    (case k_check_interval => k_is)
    (case p_check_interval => k_is)
    (case a_times_alive => k_is)
    (case l_times_alive => k_is)
    (case k_times_alive => k_is)
    (case p_times_alive => k_is)
    (case a_ascends => k_is)
    (case l_ascends => k_is)
    (case k_ascends => k_is)
    (case p_ascends => k_is)
    (case a_is_span => k_is)
    (case l_is_span => k_is)
    (case k_is_span => k_is)
    (case p_is_span => k_is)
    (case a_are_rows => k_is)
    (case l_are_rows => k_is)
    (case k_are_rows => k_is)
    (case p_are_rows => k_is)
    (case a_w_tray => k_is)
    (case l_w_tray => k_is)
    (case k_w_tray => k_is)
    (case p_w_tray => k_is)
    (case a_w_roll => k_is)
    (case l_w_roll => k_is)
    (case k_w_roll => k_is)
    (case p_w_roll => k_is)
    (case a_w_pick => k_is)
    (case l_w_pick => k_is)
    (case k_w_pick => k_is)
    (case p_w_pick => k_is)
    (case a_w_few => k_is)
    (case l_w_few => k_is)
    (case k_w_few => k_is)
    (case p_w_few => k_is)
    (case a_w_names => k_is)
    (case l_w_names => k_is)
    (case k_w_names => k_is)
    (case p_w_names => k_is)
    (case a_w_rings => k_is)
    (case l_w_rings => k_is)
    (case k_w_rings => k_is)
    (case p_w_rings => k_is)
    (case a_w_rows => k_is)
    (case l_w_rows => k_is)
    (case k_w_rows => k_is)
    (case p_w_rows => k_is)
    (case a_w_sorted => k_is)
    (case l_w_sorted => k_is)
    (case k_w_sorted => k_is)
    (case p_w_sorted => k_is)
    (case a_w_near => k_is)
    (case l_w_near => k_is)
    (case k_w_near => k_is)
    (case p_w_near => k_is)
    (case a_w_odd => k_is)
    (case l_w_odd => k_is)
    (case k_w_odd => k_is)
    (case p_w_odd => k_is)
    (case a_w_is_told => k_is)
    (case l_w_is_told => k_is)
    (case k_w_is_told => k_is)
    (case p_w_is_told => k_is)
    (case a_w_right => k_is)
    (case l_w_right => k_is)
    (case k_w_right => k_is)
    (case p_w_right => k_is)
    (case a_law => k_is)
    (case l_law => k_is)
    (case k_law => k_is)
    (case p_law => k_is)
    (case e_MAX_INTERVAL => k_is)
    (case e_MAX_LETTERS => k_is)
    (case e_MAX_VALUES => k_is)
    (case e_MAX_LIFE => k_is)
    (case y_int => k_is)
    (case y_abs => k_is)
    (case y_len => k_is)
    (case y_max => k_is)
    (case y_min => k_is)
    (case y_range => k_is)
    (case y_sum => k_is)
    (case y_isinstance => k_is)
    (case y_repr => k_is)
    (case y_str => k_is)
    (case y_all => k_is)
    (case y_any => k_is)
    (case y_sorted => k_is)
    (case y_tuple => k_is)
    (case y_list => k_is)
    (case y_dict => k_is)
    (case y_set => k_is)
    (case y_bool => k_is)
    case uu =>
      refine' K37.mk_U KX G ?aC ?c1 ?c2 ?c3 ?c4 ?c5 ?c6 ?c7 ?c8 ?lI ?kI ?pI ?n1 ?n2 ?n3 ?n4 ?n5 ?mo ?ne ?ca ?cg ?ct ?gC ?tC ?aP1 ?bP1 ?tP1 ?rP1 ?lP1 ?kP1 ?pP1 ?aP2 ?bP2 ?tP2 ?rP2 ?lP2 ?kP2 ?pP2 ?aP3 ?bP3 ?tP3 ?rP3 ?lP3 ?kP3 ?pP3 ?aP4 ?bP4 ?tP4 ?rP4 ?lP4 ?kP4 ?pP4 ?aP5 ?bP5 ?tP5 ?rP5 ?lP5 ?kP5 ?pP5 ?iG ?yG ?lG ?kG ?pG ?iM ?yM ?lM ?kM ?pM ?iL ?yL ?lL ?kL ?pL ?iQ ?yQ ?lQ ?kQ ?pQ ?iS ?yS ?lS ?kS ?pS ?sb ?fnG
      (case aC => k_is)
      (case c1 => k_is)
      (case c2 => k_is)
      (case c3 => k_is)
      (case c4 => k_is)
      (case c5 => k_is)
      (case c6 => k_is)
      (case c7 => k_is)
      (case c8 => k_is)
      (case lI => k_is)
      (case kI => k_is)
      (case pI => k_is)
      (case n1 => k_is)
      (case n2 => k_is)
      (case n3 => k_is)
      (case n4 => k_is)
      (case n5 => k_is)
      (case mo => k_is)
      (case ne => k_is)
      (case ca => k_is)
      (case cg => k_is)
      (case ct => k_is)
      (case gC => k_is)
      (case tC => k_is)
      (case aP1 => k_is)
      (case bP1 => k_is)
      (case tP1 => k_is)
      (case rP1 => k_is)
      (case lP1 => k_is)
      (case kP1 => k_is)
      (case pP1 => k_is)
      (case aP2 => k_is)
      (case bP2 => k_is)
      (case tP2 => k_is)
      (case rP2 => k_is)
      (case lP2 => k_is)
      (case kP2 => k_is)
      (case pP2 => k_is)
      (case aP3 => k_is)
      (case bP3 => k_is)
      (case tP3 => k_is)
      (case rP3 => k_is)
      (case lP3 => k_is)
      (case kP3 => k_is)
      (case pP3 => k_is)
      (case aP4 => k_is)
      (case bP4 => k_is)
      (case tP4 => k_is)
      (case rP4 => k_is)
      (case lP4 => k_is)
      (case kP4 => k_is)
      (case pP4 => k_is)
      (case aP5 => k_is)
      (case bP5 => k_is)
      (case tP5 => k_is)
      (case rP5 => k_is)
      (case lP5 => k_is)
      (case kP5 => k_is)
      (case pP5 => k_is)
      (case iG => k_is)
      (case yG => k_is)
      (case lG => k_is)
      (case kG => k_is)
      (case pG => k_is)
      (case iM => k_is)
      (case yM => k_is)
      (case lM => k_is)
      (case kM => k_is)
      (case pM => k_is)
      (case iL => k_is)
      (case yL => k_is)
      (case lL => k_is)
      (case kL => k_is)
      (case pL => k_is)
      (case iQ => k_is)
      (case yQ => k_is)
      (case lQ => k_is)
      (case kQ => k_is)
      (case pQ => k_is)
      (case iS => k_is)
      (case yS => k_is)
      (case lS => k_is)
      (case kS => k_is)
      (case pS => k_is)
      (case sb => k_is)
      (case fnG => k_is)
