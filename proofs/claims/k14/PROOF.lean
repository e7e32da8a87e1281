import PyProof.Rows.All
import Wide.All
import OpenK.AllK
import Wide.FinOn
import HandS.ForMost
import HandS.Wide
import HandS.IsInst
import HandS.Walk
import HandS.Style
import HandS.ForExc
import HandS.ExcInit
import HandS.Lambda
import HandS.Defaults
import HandS.MakeKwOnly
import HandS.TryMany
import KE.DataCmp
import HandS.EndTab
import KE.KNestM
import HandS.Set
import HandS.Keys
import HandS.Dict
import HandS.TupSets
import HandS.SetBool
import KE.SortData
import HandS.Comp
import HandS.FStr
import HandS.Text
import KE.KFmtOwn
import HandS.OwnEq
import HandS.More
import HandS.RaiseMore
import PyProof.InstNe
import OpenK.KMeth
import OpenK.KOps
import HandS.Property
import HandS.Star
import HandS.ClsMeth
import HandS.CallLocal
import HandS.WordsDict
import HandS.DictComp
import HandS.Iter
import PyProof.ReprRoads
import PyProof.ListStr
import PyProof.StrBlock2
import HandS.Conv
import HandS.DeepEq
import KE.KDictList
import HandS.ExcField
import KE.KExcInit
import HandS.ExcIs
import HandS.WordsExc
import PyProof.EqKinds
import KE.DataEq
import HandS.TupLe
import KE.RegKIsAll
import PySem.Challenge.RW_overrounds_k14_starts_and_the_arcs_they
set_option Elab.async false
set_option linter.all false
set_option maxRecDepth 100000
set_option maxHeartbeats 2000000
namespace K14
open PySem L2
def top (i : Nat) : Stmt := PySem.Challenge.pw_overrounds_k14_starts_and_the_arcs_they.main.body.getD i (.Pass ⟨0, 0, 0, 0⟩)
abbrev s_wall : Stmt := top 0
abbrev s_is_name : Stmt := top 13
abbrev s_is_integer : Stmt := top 14
abbrev s_is_between : Stmt := top 15
abbrev s_check_between : Stmt := top 16
abbrev s_check_interval : Stmt := top 17
abbrev s_ascends : Stmt := top 19
abbrev s_is_pair : Stmt := top 20
abbrev s_is_row_of_pairs : Stmt := top 21
abbrev s_is_table : Stmt := top 22
abbrev s_first_items : Stmt := top 23
abbrev s_order_of_round : Stmt := top 24
abbrev s_told : Stmt := top 33
abbrev s_table_of : Stmt := top 35
abbrev s_readings_of : Stmt := top 36
abbrev s_arcs_of : Stmt := top 37
abbrev s_is_order : Stmt := top 38
abbrev s_check_orders : Stmt := top 39
abbrev s_check_loop : Stmt := top 41
abbrev s_is_starts : Stmt := top 44
abbrev s_check_starts : Stmt := top 45
abbrev s_is_fitting : Stmt := top 46
abbrev s_leeway : Stmt := top 47
abbrev s_w_dice : Stmt := top 49
abbrev s_w_next : Stmt := top 50
abbrev s_w_words : Stmt := top 51
abbrev s_w_reads : Stmt := top 52
abbrev s_w_uses : Stmt := top 53
abbrev s_w_rows : Stmt := top 54
abbrev s_w_rules : Stmt := top 55
abbrev s_w_loop : Stmt := top 56
abbrev s_w_readings : Stmt := top 57
abbrev s_w_arcs : Stmt := top 58
abbrev s_w_spares : Stmt := top 59
abbrev s_w_fitting : Stmt := top 60
abbrev s_w_cells : Stmt := top 61
abbrev s_w_is_count : Stmt := top 62
abbrev s_w_is_truth : Stmt := top 63
abbrev s_w_are_counts : Stmt := top 64
abbrev s_w_turned : Stmt := top 65
abbrev s_w_word : Stmt := top 66
abbrev s_w_is_met : Stmt := top 67
abbrev s_w_is_refused : Stmt := top 68
abbrev s_w_is_spoilt : Stmt := top 69
abbrev s_w_case : Stmt := top 70
abbrev s_law : Stmt := top 71
abbrev s_RoundError_init : Stmt := inClass (top 2) 0
abbrev s_UnknownName_init : Stmt := inClass (top 7) 0
abbrev s_InvalidNumber_init : Stmt := inClass (top 8) 0
abbrev s_Operation_init : Stmt := inClass (top 34) 0
abbrev s_Operation_name : Stmt := inClass (top 34) 1
abbrev s_Operation_ticks : Stmt := inClass (top 34) 2
abbrev s_Operation_reads : Stmt := inClass (top 34) 3
abbrev s_Operation_uses : Stmt := inClass (top 34) 4
abbrev s_Operation_read_names : Stmt := inClass (top 34) 5
abbrev s_Operation_units : Stmt := inClass (top 34) 6
abbrev s_Operation_renamed : Stmt := inClass (top 34) 7
abbrev s_Operation_with_ticks : Stmt := inClass (top 34) 8
abbrev s_Operation_eq : Stmt := inClass (top 34) 9
abbrev s_Operation_str : Stmt := inClass (top 34) 10
abbrev s_Loop_init : Stmt := inClass (top 40) 0
abbrev s_Loop_take_orders : Stmt := inClass (top 40) 1
abbrev s_Loop_of : Stmt := inClass (top 40) 2
abbrev s_Loop_operations : Stmt := inClass (top 40) 3
abbrev s_Loop_orders : Stmt := inClass (top 40) 4
abbrev s_Loop_names : Stmt := inClass (top 40) 5
abbrev s_Loop_arcs : Stmt := inClass (top 40) 6
abbrev s_Loop_readings : Stmt := inClass (top 40) 7
abbrev s_Loop_units : Stmt := inClass (top 40) 8
abbrev s_Loop_asking : Stmt := inClass (top 40) 9
abbrev s_Loop_getitem : Stmt := inClass (top 40) 10
abbrev s_Loop_contains : Stmt := inClass (top 40) 11
abbrev s_Loop_len : Stmt := inClass (top 40) 12
abbrev s_Loop_iter : Stmt := inClass (top 40) 13
abbrev s_Loop_eq : Stmt := inClass (top 40) 14
abbrev s_Loop_str : Stmt := inClass (top 40) 15
abbrev s_Loop_rings : Stmt := inClass (top 40) 16
abbrev s_Loop_ring_sum : Stmt := inClass (top 40) 17
abbrev s_Loop_renamed : Stmt := inClass (top 40) 18
abbrev s_Loop_is_renaming : Stmt := inClass (top 40) 19
abbrev s_Loop_played : Stmt := inClass (top 40) 20
theorem sc_RoundError_init : FnScope ["self", "told"] ["self", "told"] (defScope s_RoundError_init) := ⟨rfl, rfl, rfl, by decide +kernel, rfl, by decide +kernel, by decide +kernel⟩
theorem sc_UnknownName_init : FnScope ["self", "wanted"] ["self", "wanted"] (defScope s_UnknownName_init) := ⟨rfl, rfl, rfl, by decide +kernel, rfl, by decide +kernel, by decide +kernel⟩
theorem sc_InvalidNumber_init : FnScope ["self", "value"] ["self", "value"] (defScope s_InvalidNumber_init) := ⟨rfl, rfl, rfl, by decide +kernel, rfl, by decide +kernel, by decide +kernel⟩
theorem sc_Operation_init : FnScope ["self", "name", "ticks", "reads", "uses"] ["self", "name", "ticks", "reads", "uses"] (defScope s_Operation_init) := ⟨rfl, rfl, rfl, by decide +kernel, rfl, by decide +kernel, by decide +kernel⟩
theorem sc_Operation_name : FnScope ["self"] ["self"] (defScope s_Operation_name) := ⟨rfl, rfl, rfl, by decide +kernel, rfl, by decide +kernel, by decide +kernel⟩
theorem sc_Operation_ticks : FnScope ["self"] ["self"] (defScope s_Operation_ticks) := ⟨rfl, rfl, rfl, by decide +kernel, rfl, by decide +kernel, by decide +kernel⟩
theorem sc_Operation_reads : FnScope ["self"] ["self"] (defScope s_Operation_reads) := ⟨rfl, rfl, rfl, by decide +kernel, rfl, by decide +kernel, by decide +kernel⟩
theorem sc_Operation_uses : FnScope ["self"] ["self"] (defScope s_Operation_uses) := ⟨rfl, rfl, rfl, by decide +kernel, rfl, by decide +kernel, by decide +kernel⟩
theorem sc_Operation_read_names : FnScope ["self"] ["self"] (defScope s_Operation_read_names) := ⟨rfl, rfl, rfl, by decide +kernel, rfl, by decide +kernel, by decide +kernel⟩
theorem sc_Operation_units : FnScope ["self"] ["self"] (defScope s_Operation_units) := ⟨rfl, rfl, rfl, by decide +kernel, rfl, by decide +kernel, by decide +kernel⟩
theorem sc_Operation_renamed : FnScope ["self", "names"] ["self", "names"] (defScope s_Operation_renamed) := ⟨rfl, rfl, rfl, by decide +kernel, rfl, by decide +kernel, by decide +kernel⟩
theorem sc_Operation_with_ticks : FnScope ["self", "ticks"] ["self", "ticks"] (defScope s_Operation_with_ticks) := ⟨rfl, rfl, rfl, by decide +kernel, rfl, by decide +kernel, by decide +kernel⟩
theorem sc_Operation_eq : FnScope ["self", "other"] ["self", "other"] (defScope s_Operation_eq) := ⟨rfl, rfl, rfl, by decide +kernel, rfl, by decide +kernel, by decide +kernel⟩
theorem sc_Operation_str : FnScope ["self"] ["self"] (defScope s_Operation_str) := ⟨rfl, rfl, rfl, by decide +kernel, rfl, by decide +kernel, by decide +kernel⟩
theorem sc_Loop_init : FnScope ["self", "operations", "orders", "one", "pair"] ["self", "operations", "orders"] (defScope s_Loop_init) := ⟨rfl, rfl, rfl, by decide +kernel, rfl, by decide +kernel, by decide +kernel⟩
theorem sc_Loop_take_orders : FnScope ["self", "orders"] ["self", "orders"] (defScope s_Loop_take_orders) := ⟨rfl, rfl, rfl, by decide +kernel, rfl, by decide +kernel, by decide +kernel⟩
theorem sc_Loop_of : FnScope ["cls", "operations", "orders"] ["cls", "operations", "orders"] (defScope s_Loop_of) := ⟨rfl, rfl, rfl, by decide +kernel, rfl, by decide +kernel, by decide +kernel⟩
theorem sc_Loop_operations : FnScope ["self"] ["self"] (defScope s_Loop_operations) := ⟨rfl, rfl, rfl, by decide +kernel, rfl, by decide +kernel, by decide +kernel⟩
theorem sc_Loop_orders : FnScope ["self"] ["self"] (defScope s_Loop_orders) := ⟨rfl, rfl, rfl, by decide +kernel, rfl, by decide +kernel, by decide +kernel⟩
theorem sc_Loop_names : FnScope ["self"] ["self"] (defScope s_Loop_names) := ⟨rfl, rfl, rfl, by decide +kernel, rfl, by decide +kernel, by decide +kernel⟩
theorem sc_Loop_arcs : FnScope ["self"] ["self"] (defScope s_Loop_arcs) := ⟨rfl, rfl, rfl, by decide +kernel, rfl, by decide +kernel, by decide +kernel⟩
theorem sc_Loop_readings : FnScope ["self"] ["self"] (defScope s_Loop_readings) := ⟨rfl, rfl, rfl, by decide +kernel, rfl, by decide +kernel, by decide +kernel⟩
theorem sc_Loop_units : FnScope ["self"] ["self"] (defScope s_Loop_units) := ⟨rfl, rfl, rfl, by decide +kernel, rfl, by decide +kernel, by decide +kernel⟩
theorem sc_Loop_asking : FnScope ["self"] ["self"] (defScope s_Loop_asking) := ⟨rfl, rfl, rfl, by decide +kernel, rfl, by decide +kernel, by decide +kernel⟩
theorem sc_Loop_getitem : FnScope ["self", "name"] ["self", "name"] (defScope s_Loop_getitem) := ⟨rfl, rfl, rfl, by decide +kernel, rfl, by decide +kernel, by decide +kernel⟩
theorem sc_Loop_contains : FnScope ["self", "value"] ["self", "value"] (defScope s_Loop_contains) := ⟨rfl, rfl, rfl, by decide +kernel, rfl, by decide +kernel, by decide +kernel⟩
theorem sc_Loop_len : FnScope ["self"] ["self"] (defScope s_Loop_len) := ⟨rfl, rfl, rfl, by decide +kernel, rfl, by decide +kernel, by decide +kernel⟩
theorem sc_Loop_iter : FnScope ["self"] ["self"] (defScope s_Loop_iter) := ⟨rfl, rfl, rfl, by decide +kernel, rfl, by decide +kernel, by decide +kernel⟩
theorem sc_Loop_eq : FnScope ["self", "other"] ["self", "other"] (defScope s_Loop_eq) := ⟨rfl, rfl, rfl, by decide +kernel, rfl, by decide +kernel, by decide +kernel⟩
theorem sc_Loop_str : FnScope ["self"] ["self"] (defScope s_Loop_str) := ⟨rfl, rfl, rfl, by decide +kernel, rfl, by decide +kernel, by decide +kernel⟩
theorem sc_Loop_rings : FnScope ["self"] ["self"] (defScope s_Loop_rings) := ⟨rfl, rfl, rfl, by decide +kernel, rfl, by decide +kernel, by decide +kernel⟩
theorem sc_Loop_ring_sum : FnScope ["self", "ring"] ["self", "ring"] (defScope s_Loop_ring_sum) := ⟨rfl, rfl, rfl, by decide +kernel, rfl, by decide +kernel, by decide +kernel⟩
theorem sc_Loop_renamed : FnScope ["self", "names"] ["self", "names"] (defScope s_Loop_renamed) := ⟨rfl, rfl, rfl, by decide +kernel, rfl, by decide +kernel, by decide +kernel⟩
theorem sc_Loop_is_renaming : FnScope ["self", "value"] ["self", "value"] (defScope s_Loop_is_renaming) := ⟨rfl, rfl, rfl, by decide +kernel, rfl, by decide +kernel, by decide +kernel⟩
theorem sc_Loop_played : FnScope ["self", "rounds", "meaning"] ["self", "rounds", "meaning"] (defScope s_Loop_played) := ⟨rfl, rfl, rfl, by decide +kernel, rfl, by decide +kernel, by decide +kernel⟩
theorem sc_wall : FnScope ["k"] ["k"] (defScope s_wall) := ⟨rfl, rfl, rfl, by decide +kernel, rfl, by decide +kernel, by decide +kernel⟩
theorem sc_is_name : FnScope ["value", "letter"] ["value"] (defScope s_is_name) := ⟨rfl, rfl, rfl, by decide +kernel, rfl, by decide +kernel, by decide +kernel⟩
theorem sc_is_integer : FnScope ["value"] ["value"] (defScope s_is_integer) := ⟨rfl, rfl, rfl, by decide +kernel, rfl, by decide +kernel, by decide +kernel⟩
theorem sc_is_between : FnScope ["value", "low", "high"] ["value", "low", "high"] (defScope s_is_between) := ⟨rfl, rfl, rfl, by decide +kernel, rfl, by decide +kernel, by decide +kernel⟩
theorem sc_check_between : FnScope ["value", "low", "high"] ["value", "low", "high"] (defScope s_check_between) := ⟨rfl, rfl, rfl, by decide +kernel, rfl, by decide +kernel, by decide +kernel⟩
theorem sc_check_interval : FnScope ["value"] ["value"] (defScope s_check_interval) := ⟨rfl, rfl, rfl, by decide +kernel, rfl, by decide +kernel, by decide +kernel⟩
theorem sc_ascends : FnScope ["row", "at"] ["row"] (defScope s_ascends) := ⟨rfl, rfl, rfl, by decide +kernel, rfl, by decide +kernel, by decide +kernel⟩
theorem sc_is_pair : FnScope ["value", "highest"] ["value", "highest"] (defScope s_is_pair) := ⟨rfl, rfl, rfl, by decide +kernel, rfl, by decide +kernel, by decide +kernel⟩
theorem sc_is_row_of_pairs : FnScope ["value", "most", "highest", "item"] ["value", "most", "highest"] (defScope s_is_row_of_pairs) := ⟨rfl, rfl, rfl, by decide +kernel, rfl, by decide +kernel, by decide +kernel⟩
theorem sc_is_table : FnScope ["names", "value", "low", "high", "name"] ["names", "value", "low", "high"] (defScope s_is_table) := ⟨rfl, rfl, rfl, by decide +kernel, rfl, by decide +kernel, by decide +kernel⟩
theorem sc_first_items : FnScope ["rows", "row"] ["rows"] (defScope s_first_items) := ⟨rfl, rfl, rfl, by decide +kernel, rfl, by decide +kernel, by decide +kernel⟩
theorem sc_order_of_round : FnScope ["names", "arcs", "pairs", "order", "left", "waiting", "free", "arc", "source", "target", "name"] ["names", "arcs"] (defScope s_order_of_round) := ⟨rfl, rfl, rfl, by decide +kernel, rfl, by decide +kernel, by decide +kernel⟩
theorem sc_told : FnScope ["word", "pairs", "told", "name", "number"] ["word", "pairs"] (defScope s_told) := ⟨rfl, rfl, rfl, by decide +kernel, rfl, by decide +kernel, by decide +kernel⟩
theorem sc_table_of : FnScope ["operations", "table", "one", "name"] ["operations"] (defScope s_table_of) := ⟨rfl, rfl, rfl, by decide +kernel, rfl, by decide +kernel, by decide +kernel⟩
theorem sc_readings_of : FnScope ["operations", "one", "name", "distance"] ["operations"] (defScope s_readings_of) := ⟨rfl, rfl, rfl, by decide +kernel, rfl, by decide +kernel, by decide +kernel⟩
theorem sc_arcs_of : FnScope ["table", "orders", "reads", "reader", "name", "distance"] ["table", "orders"] (defScope s_arcs_of) := ⟨rfl, rfl, rfl, by decide +kernel, rfl, by decide +kernel, by decide +kernel⟩
theorem sc_is_order : FnScope ["names", "value", "source", "target", "delay", "distance"] ["names", "value"] (defScope s_is_order) := ⟨rfl, rfl, rfl, by decide +kernel, rfl, by decide +kernel, by decide +kernel⟩
theorem sc_check_orders : FnScope ["names", "orders", "order"] ["names", "orders"] (defScope s_check_orders) := ⟨rfl, rfl, rfl, by decide +kernel, rfl, by decide +kernel, by decide +kernel⟩
theorem sc_check_loop : FnScope ["value"] ["value"] (defScope s_check_loop) := ⟨rfl, rfl, rfl, by decide +kernel, rfl, by decide +kernel, by decide +kernel⟩
theorem sc_is_starts : FnScope ["loop", "value"] ["loop", "value"] (defScope s_is_starts) := ⟨rfl, rfl, rfl, by decide +kernel, rfl, by decide +kernel, by decide +kernel⟩
theorem sc_check_starts : FnScope ["loop", "value"] ["loop", "value"] (defScope s_check_starts) := ⟨rfl, rfl, rfl, by decide +kernel, rfl, by decide +kernel, by decide +kernel⟩
theorem sc_is_fitting : FnScope ["loop", "interval", "value", "ticks"] ["loop", "interval", "value"] (defScope s_is_fitting) := ⟨rfl, rfl, rfl, by decide +kernel, rfl, by decide +kernel, by decide +kernel⟩
theorem sc_leeway : FnScope ["loop", "interval", "starts", "source", "target", "delay", "distance"] ["loop", "interval", "starts"] (defScope s_leeway) := ⟨rfl, rfl, rfl, by decide +kernel, rfl, by decide +kernel, by decide +kernel⟩
theorem sc_w_dice : FnScope ["cell", "number"] ["cell"] (defScope s_w_dice) := ⟨rfl, rfl, rfl, by decide +kernel, rfl, by decide +kernel, by decide +kernel⟩
theorem sc_w_next : FnScope ["dice", "many", "found", "mixed"] ["dice", "many"] (defScope s_w_next) := ⟨rfl, rfl, rfl, by decide +kernel, rfl, by decide +kernel, by decide +kernel⟩
theorem sc_w_words : FnScope ["dice", "many", "letters", "found", "turn", "word", "at", "letter"] ["dice", "many"] (defScope s_w_words) := ⟨rfl, rfl, rfl, by decide +kernel, rfl, by decide +kernel, by decide +kernel⟩
theorem sc_w_reads : FnScope ["dice", "names", "at", "found", "turn", "index", "far"] ["dice", "names", "at"] (defScope s_w_reads) := ⟨rfl, rfl, rfl, by decide +kernel, rfl, by decide +kernel, by decide +kernel⟩
theorem sc_w_uses : FnScope ["dice", "units", "found", "turn"] ["dice", "units"] (defScope s_w_uses) := ⟨rfl, rfl, rfl, by decide +kernel, rfl, by decide +kernel, by decide +kernel⟩
theorem sc_w_rows : FnScope ["dice", "names", "units", "rows", "at", "name", "lasting"] ["dice", "names", "units"] (defScope s_w_rows) := ⟨rfl, rfl, rfl, by decide +kernel, rfl, by decide +kernel, by decide +kernel⟩
theorem sc_w_rules : FnScope ["dice", "names", "most", "found", "turn", "one", "other", "far"] ["dice", "names", "most"] (defScope s_w_rules) := ⟨rfl, rfl, rfl, by decide +kernel, rfl, by decide +kernel, by decide +kernel⟩
theorem sc_w_loop : FnScope ["rows", "rules", "made", "row"] ["rows", "rules"] (defScope s_w_loop) := ⟨rfl, rfl, rfl, by decide +kernel, rfl, by decide +kernel, by decide +kernel⟩
theorem sc_w_readings : FnScope ["rows", "found", "row", "name", "far"] ["rows"] (defScope s_w_readings) := ⟨rfl, rfl, rfl, by decide +kernel, rfl, by decide +kernel, by decide +kernel⟩
theorem sc_w_arcs : FnScope ["rows", "rules", "lasting", "found", "row", "name", "reader", "far"] ["rows", "rules"] (defScope s_w_arcs) := ⟨rfl, rfl, rfl, by decide +kernel, rfl, by decide +kernel, by decide +kernel⟩
theorem sc_w_spares : FnScope ["arcs", "interval", "begins", "source", "target", "delay", "far"] ["arcs", "interval", "begins"] (defScope s_w_spares) := ⟨rfl, rfl, rfl, by decide +kernel, rfl, by decide +kernel, by decide +kernel⟩
theorem sc_w_fitting : FnScope ["arcs", "interval", "floors", "found", "turn", "before", "source", "target", "delay", "far"] ["arcs", "interval", "floors"] (defScope s_w_fitting) := ⟨rfl, rfl, rfl, by decide +kernel, rfl, by decide +kernel, by decide +kernel⟩
theorem sc_w_cells : FnScope ["script", "most"] ["script", "most"] (defScope s_w_cells) := ⟨rfl, rfl, rfl, by decide +kernel, rfl, by decide +kernel, by decide +kernel⟩
theorem sc_w_is_count : FnScope ["value"] ["value"] (defScope s_w_is_count) := ⟨rfl, rfl, rfl, by decide +kernel, rfl, by decide +kernel, by decide +kernel⟩
theorem sc_w_is_truth : FnScope ["value", "due"] ["value", "due"] (defScope s_w_is_truth) := ⟨rfl, rfl, rfl, by decide +kernel, rfl, by decide +kernel, by decide +kernel⟩
theorem sc_w_are_counts : FnScope ["value", "due", "one"] ["value", "due"] (defScope s_w_are_counts) := ⟨rfl, rfl, rfl, by decide +kernel, rfl, by decide +kernel, by decide +kernel⟩
theorem sc_w_turned : FnScope ["table", "key"] ["table"] (defScope s_w_turned) := ⟨rfl, rfl, rfl, by decide +kernel, rfl, by decide +kernel, by decide +kernel⟩
theorem sc_w_word : FnScope ["call", "error"] ["call"] (defScope s_w_word) := ⟨rfl, rfl, rfl, by decide +kernel, rfl, by decide +kernel, by decide +kernel⟩
theorem sc_w_is_met : FnScope ["loop", "arcs", "interval", "begins", "due", "handed", "spare"] ["loop", "arcs", "interval", "begins"] (defScope s_w_is_met) := ⟨rfl, rfl, rfl, by decide +kernel, rfl, by decide +kernel, by decide +kernel⟩
theorem sc_w_is_refused : FnScope ["loop", "interval", "value"] ["loop", "interval", "value"] (defScope s_w_is_refused) := ⟨rfl, rfl, rfl, by decide +kernel, rfl, by decide +kernel, by decide +kernel⟩
theorem sc_w_is_spoilt : FnScope ["loop", "interval", "begins", "name", "spare", "odd", "value", "wrong", "less", "more", "other", "key"] ["loop", "interval", "begins", "name", "spare"] (defScope s_w_is_spoilt) := ⟨rfl, rfl, rfl, by decide +kernel, rfl, by decide +kernel, by decide +kernel⟩
theorem sc_w_case : FnScope ["dice", "many", "pool", "names", "interval", "rows", "rules", "loop", "arcs", "near", "wide", "fit", "name", "by", "moved"] ["dice"] (defScope s_w_case) := ⟨rfl, rfl, rfl, by decide +kernel, rfl, by decide +kernel, by decide +kernel⟩
theorem sc_law : FnScope ["script", "one", "cell"] ["script"] (defScope s_law) := ⟨rfl, rfl, rfl, by decide +kernel, rfl, by decide +kernel, by decide +kernel⟩
/-- where the defs stand, and what the names hold -/
structure T (K : PySem.W.Frag) (mg : Str → Option Value) where
  f_wall : Addr
  d_wall : FuncData
  F_wall : Fun K "_wall" "_wall" s_wall f_wall d_wall
  m_wall : mg "_wall" = some (.ref f_wall)
  b_wall : Binds K d_wall ["k"] []
  f_is_name : Addr
  d_is_name : FuncData
  F_is_name : Fun K "is_name" "is_name" s_is_name f_is_name d_is_name
  m_is_name : mg "is_name" = some (.ref f_is_name)
  b_is_name : Binds K d_is_name ["value"] []
  f_is_integer : Addr
  d_is_integer : FuncData
  F_is_integer : Fun K "is_integer" "is_integer" s_is_integer f_is_integer d_is_integer
  m_is_integer : mg "is_integer" = some (.ref f_is_integer)
  b_is_integer : Binds K d_is_integer ["value"] []
  f_is_between : Addr
  d_is_between : FuncData
  F_is_between : Fun K "is_between" "is_between" s_is_between f_is_between d_is_between
  m_is_between : mg "is_between" = some (.ref f_is_between)
  b_is_between : Binds K d_is_between ["value", "low", "high"] []
  f_check_between : Addr
  d_check_between : FuncData
  F_check_between : Fun K "check_between" "check_between" s_check_between f_check_between d_check_between
  m_check_between : mg "check_between" = some (.ref f_check_between)
  b_check_between : Binds K d_check_between ["value", "low", "high"] []
  f_check_interval : Addr
  d_check_interval : FuncData
  F_check_interval : Fun K "check_interval" "check_interval" s_check_interval f_check_interval d_check_interval
  m_check_interval : mg "check_interval" = some (.ref f_check_interval)
  b_check_interval : Binds K d_check_interval ["value"] []
  f_ascends : Addr
  d_ascends : FuncData
  F_ascends : Fun K "ascends" "ascends" s_ascends f_ascends d_ascends
  m_ascends : mg "ascends" = some (.ref f_ascends)
  b_ascends : Binds K d_ascends ["row"] []
  f_is_pair : Addr
  d_is_pair : FuncData
  F_is_pair : Fun K "is_pair" "is_pair" s_is_pair f_is_pair d_is_pair
  m_is_pair : mg "is_pair" = some (.ref f_is_pair)
  b_is_pair : Binds K d_is_pair ["value", "highest"] []
  f_is_row_of_pairs : Addr
  d_is_row_of_pairs : FuncData
  F_is_row_of_pairs : Fun K "is_row_of_pairs" "is_row_of_pairs" s_is_row_of_pairs f_is_row_of_pairs d_is_row_of_pairs
  m_is_row_of_pairs : mg "is_row_of_pairs" = some (.ref f_is_row_of_pairs)
  b_is_row_of_pairs : Binds K d_is_row_of_pairs ["value", "most", "highest"] []
  f_is_table : Addr
  d_is_table : FuncData
  F_is_table : Fun K "is_table" "is_table" s_is_table f_is_table d_is_table
  m_is_table : mg "is_table" = some (.ref f_is_table)
  b_is_table : Binds K d_is_table ["names", "value", "low", "high"] []
  f_first_items : Addr
  d_first_items : FuncData
  F_first_items : Fun K "first_items" "first_items" s_first_items f_first_items d_first_items
  m_first_items : mg "first_items" = some (.ref f_first_items)
  b_first_items : Binds K d_first_items ["rows"] []
  f_order_of_round : Addr
  d_order_of_round : FuncData
  F_order_of_round : Fun K "order_of_round" "order_of_round" s_order_of_round f_order_of_round d_order_of_round
  m_order_of_round : mg "order_of_round" = some (.ref f_order_of_round)
  b_order_of_round : Binds K d_order_of_round ["names", "arcs"] []
  f_told : Addr
  d_told : FuncData
  F_told : Fun K "_told" "_told" s_told f_told d_told
  m_told : mg "_told" = some (.ref f_told)
  b_told : Binds K d_told ["word", "pairs"] []
  f_table_of : Addr
  d_table_of : FuncData
  F_table_of : Fun K "_table_of" "_table_of" s_table_of f_table_of d_table_of
  m_table_of : mg "_table_of" = some (.ref f_table_of)
  b_table_of : Binds K d_table_of ["operations"] []
  f_readings_of : Addr
  d_readings_of : FuncData
  F_readings_of : Fun K "_readings_of" "_readings_of" s_readings_of f_readings_of d_readings_of
  m_readings_of : mg "_readings_of" = some (.ref f_readings_of)
  b_readings_of : Binds K d_readings_of ["operations"] []
  f_arcs_of : Addr
  d_arcs_of : FuncData
  F_arcs_of : Fun K "_arcs_of" "_arcs_of" s_arcs_of f_arcs_of d_arcs_of
  m_arcs_of : mg "_arcs_of" = some (.ref f_arcs_of)
  b_arcs_of : Binds K d_arcs_of ["table", "orders"] []
  f_is_order : Addr
  d_is_order : FuncData
  F_is_order : Fun K "is_order" "is_order" s_is_order f_is_order d_is_order
  m_is_order : mg "is_order" = some (.ref f_is_order)
  b_is_order : Binds K d_is_order ["names", "value"] []
  f_check_orders : Addr
  d_check_orders : FuncData
  F_check_orders : Fun K "_check_orders" "_check_orders" s_check_orders f_check_orders d_check_orders
  m_check_orders : mg "_check_orders" = some (.ref f_check_orders)
  b_check_orders : Binds K d_check_orders ["names", "orders"] []
  f_check_loop : Addr
  d_check_loop : FuncData
  F_check_loop : Fun K "check_loop" "check_loop" s_check_loop f_check_loop d_check_loop
  m_check_loop : mg "check_loop" = some (.ref f_check_loop)
  b_check_loop : Binds K d_check_loop ["value"] []
  f_is_starts : Addr
  d_is_starts : FuncData
  F_is_starts : Fun K "is_starts" "is_starts" s_is_starts f_is_starts d_is_starts
  m_is_starts : mg "is_starts" = some (.ref f_is_starts)
  b_is_starts : Binds K d_is_starts ["loop", "value"] []
  f_check_starts : Addr
  d_check_starts : FuncData
  F_check_starts : Fun K "check_starts" "check_starts" s_check_starts f_check_starts d_check_starts
  m_check_starts : mg "check_starts" = some (.ref f_check_starts)
  b_check_starts : Binds K d_check_starts ["loop", "value"] []
  f_is_fitting : Addr
  d_is_fitting : FuncData
  F_is_fitting : Fun K "is_fitting" "is_fitting" s_is_fitting f_is_fitting d_is_fitting
  m_is_fitting : mg "is_fitting" = some (.ref f_is_fitting)
  b_is_fitting : Binds K d_is_fitting ["loop", "interval", "value"] []
  f_leeway : Addr
  d_leeway : FuncData
  F_leeway : Fun K "leeway" "leeway" s_leeway f_leeway d_leeway
  m_leeway : mg "leeway" = some (.ref f_leeway)
  b_leeway : Binds K d_leeway ["loop", "interval", "starts"] []
  f_w_dice : Addr
  d_w_dice : FuncData
  F_w_dice : Fun K "_law_dice" "_law_dice" s_w_dice f_w_dice d_w_dice
  m_w_dice : mg "_law_dice" = some (.ref f_w_dice)
  b_w_dice : Binds K d_w_dice ["cell"] []
  f_w_next : Addr
  d_w_next : FuncData
  F_w_next : Fun K "_law_next" "_law_next" s_w_next f_w_next d_w_next
  m_w_next : mg "_law_next" = some (.ref f_w_next)
  b_w_next : Binds K d_w_next ["dice", "many"] []
  f_w_words : Addr
  d_w_words : FuncData
  F_w_words : Fun K "_law_words" "_law_words" s_w_words f_w_words d_w_words
  m_w_words : mg "_law_words" = some (.ref f_w_words)
  b_w_words : Binds K d_w_words ["dice", "many"] []
  f_w_reads : Addr
  d_w_reads : FuncData
  F_w_reads : Fun K "_law_reads" "_law_reads" s_w_reads f_w_reads d_w_reads
  m_w_reads : mg "_law_reads" = some (.ref f_w_reads)
  b_w_reads : Binds K d_w_reads ["dice", "names", "at"] []
  f_w_uses : Addr
  d_w_uses : FuncData
  F_w_uses : Fun K "_law_uses" "_law_uses" s_w_uses f_w_uses d_w_uses
  m_w_uses : mg "_law_uses" = some (.ref f_w_uses)
  b_w_uses : Binds K d_w_uses ["dice", "units"] []
  f_w_rows : Addr
  d_w_rows : FuncData
  F_w_rows : Fun K "_law_rows" "_law_rows" s_w_rows f_w_rows d_w_rows
  m_w_rows : mg "_law_rows" = some (.ref f_w_rows)
  b_w_rows : Binds K d_w_rows ["dice", "names", "units"] []
  f_w_rules : Addr
  d_w_rules : FuncData
  F_w_rules : Fun K "_law_rules" "_law_rules" s_w_rules f_w_rules d_w_rules
  m_w_rules : mg "_law_rules" = some (.ref f_w_rules)
  b_w_rules : Binds K d_w_rules ["dice", "names", "most"] []
  f_w_loop : Addr
  d_w_loop : FuncData
  F_w_loop : Fun K "_law_loop" "_law_loop" s_w_loop f_w_loop d_w_loop
  m_w_loop : mg "_law_loop" = some (.ref f_w_loop)
  b_w_loop : Binds K d_w_loop ["rows", "rules"] []
  f_w_readings : Addr
  d_w_readings : FuncData
  F_w_readings : Fun K "_law_readings" "_law_readings" s_w_readings f_w_readings d_w_readings
  m_w_readings : mg "_law_readings" = some (.ref f_w_readings)
  b_w_readings : Binds K d_w_readings ["rows"] []
  f_w_arcs : Addr
  d_w_arcs : FuncData
  F_w_arcs : Fun K "_law_arcs" "_law_arcs" s_w_arcs f_w_arcs d_w_arcs
  m_w_arcs : mg "_law_arcs" = some (.ref f_w_arcs)
  b_w_arcs : Binds K d_w_arcs ["rows", "rules"] []
  f_w_spares : Addr
  d_w_spares : FuncData
  F_w_spares : Fun K "_law_spares" "_law_spares" s_w_spares f_w_spares d_w_spares
  m_w_spares : mg "_law_spares" = some (.ref f_w_spares)
  b_w_spares : Binds K d_w_spares ["arcs", "interval", "begins"] []
  f_w_fitting : Addr
  d_w_fitting : FuncData
  F_w_fitting : Fun K "_law_fitting" "_law_fitting" s_w_fitting f_w_fitting d_w_fitting
  m_w_fitting : mg "_law_fitting" = some (.ref f_w_fitting)
  b_w_fitting : Binds K d_w_fitting ["arcs", "interval", "floors"] []
  f_w_cells : Addr
  d_w_cells : FuncData
  F_w_cells : Fun K "_law_cells" "_law_cells" s_w_cells f_w_cells d_w_cells
  m_w_cells : mg "_law_cells" = some (.ref f_w_cells)
  b_w_cells : Binds K d_w_cells ["script", "most"] []
  f_w_is_count : Addr
  d_w_is_count : FuncData
  F_w_is_count : Fun K "_law_is_count" "_law_is_count" s_w_is_count f_w_is_count d_w_is_count
  m_w_is_count : mg "_law_is_count" = some (.ref f_w_is_count)
  b_w_is_count : Binds K d_w_is_count ["value"] []
  f_w_is_truth : Addr
  d_w_is_truth : FuncData
  F_w_is_truth : Fun K "_law_is_truth" "_law_is_truth" s_w_is_truth f_w_is_truth d_w_is_truth
  m_w_is_truth : mg "_law_is_truth" = some (.ref f_w_is_truth)
  b_w_is_truth : Binds K d_w_is_truth ["value", "due"] []
  f_w_are_counts : Addr
  d_w_are_counts : FuncData
  F_w_are_counts : Fun K "_law_are_counts" "_law_are_counts" s_w_are_counts f_w_are_counts d_w_are_counts
  m_w_are_counts : mg "_law_are_counts" = some (.ref f_w_are_counts)
  b_w_are_counts : Binds K d_w_are_counts ["value", "due"] []
  f_w_turned : Addr
  d_w_turned : FuncData
  F_w_turned : Fun K "_law_turned" "_law_turned" s_w_turned f_w_turned d_w_turned
  m_w_turned : mg "_law_turned" = some (.ref f_w_turned)
  b_w_turned : Binds K d_w_turned ["table"] []
  f_w_word : Addr
  d_w_word : FuncData
  F_w_word : Fun K "_law_word" "_law_word" s_w_word f_w_word d_w_word
  m_w_word : mg "_law_word" = some (.ref f_w_word)
  b_w_word : Binds K d_w_word ["call"] []
  f_w_is_met : Addr
  d_w_is_met : FuncData
  F_w_is_met : Fun K "_law_is_met" "_law_is_met" s_w_is_met f_w_is_met d_w_is_met
  m_w_is_met : mg "_law_is_met" = some (.ref f_w_is_met)
  b_w_is_met : Binds K d_w_is_met ["loop", "arcs", "interval", "begins"] []
  f_w_is_refused : Addr
  d_w_is_refused : FuncData
  F_w_is_refused : Fun K "_law_is_refused" "_law_is_refused" s_w_is_refused f_w_is_refused d_w_is_refused
  m_w_is_refused : mg "_law_is_refused" = some (.ref f_w_is_refused)
  b_w_is_refused : Binds K d_w_is_refused ["loop", "interval", "value"] []
  f_w_is_spoilt : Addr
  d_w_is_spoilt : FuncData
  F_w_is_spoilt : Fun K "_law_is_spoilt" "_law_is_spoilt" s_w_is_spoilt f_w_is_spoilt d_w_is_spoilt
  m_w_is_spoilt : mg "_law_is_spoilt" = some (.ref f_w_is_spoilt)
  b_w_is_spoilt : Binds K d_w_is_spoilt ["loop", "interval", "begins", "name", "spare"] []
  f_w_case : Addr
  d_w_case : FuncData
  F_w_case : Fun K "_law_case" "_law_case" s_w_case f_w_case d_w_case
  m_w_case : mg "_law_case" = some (.ref f_w_case)
  b_w_case : Binds K d_w_case ["dice"] []
  f_law : Addr
  d_law : FuncData
  F_law : Fun K "law" "law" s_law f_law d_law
  m_law : mg "law" = some (.ref f_law)
  b_law : Binds K d_law ["script"] []
  c_MAX_INTERVAL : ∃ t, mg "MAX_INTERVAL" = some (.int 32 t)
  c_MAX_TICKS : ∃ t, mg "MAX_TICKS" = some (.int 4 t)
  c_MAX_LETTERS : ∃ t, mg "MAX_LETTERS" = some (.int 8 t)
  c_MAX_OPERATIONS : ∃ t, mg "MAX_OPERATIONS" = some (.int 8 t)
  c_MAX_DISTANCE : ∃ t, mg "MAX_DISTANCE" = some (.int 3 t)
  c_MAX_READS : ∃ t, mg "MAX_READS" = some (.int 3 t)
  c_MAX_USES : ∃ t, mg "MAX_USES" = some (.int 4 t)
  c_MAX_OFFSET : ∃ t, mg "MAX_OFFSET" = some (.int 3 t)
  c_MAX_ORDERS : ∃ t, mg "MAX_ORDERS" = some (.int 8 t)
  c_MAX_DELAY : ∃ t, mg "MAX_DELAY" = some (.int 4 t)
  c_MAX_START : ∃ t, mg "MAX_START" = some (.int 1000000 t)
  z_int : mg "int" = none
  z_abs : mg "abs" = none
  z_len : mg "len" = none
  z_max : mg "max" = none
  z_range : mg "range" = none
  z_isinstance : mg "isinstance" = none
  z_str : mg "str" = none
  z_all : mg "all" = none
  z_sorted : mg "sorted" = none
  z_tuple : mg "tuple" = none
  z_list : mg "list" = none
  z_dict : mg "dict" = none
  z_set : mg "set" = none
  z_bool : mg "bool" = none
  z_enumerate : mg "enumerate" = none
/-- a list of three ints stands at r -/
def Rl (H : Hp) (r : Addr) : Prop := ∃ a b c : Int, H r = some (.lst [.int a, .int b, .int c])
/-- what the heap held, but for what stands at r -/
def Only (r : Addr) (H H' : Hp) : Prop := ∀ b o, b ≠ r → H b = some o → H' b = some o
theorem Only.refl {r : Addr} {H : Hp} : Only r H H := fun _ _ _ e => e
theorem Only.trans {r : Addr} {H H1 H2 : Hp} (a : Only r H H1) (b : Only r H1 H2) : Only r H H2 := fun c o n e => b c o n (a c o n e)
theorem Only.upd {r : Addr} {H : Hp} {o : HO} : Only r H (upd H r o) := fun b _ n e => by rw [upd_ne n]; exact e
theorem Only.new {r p : Addr} {H : Hp} {o : HO} (n : H p = none) : Only r H (L2.upd H p o) := fun b _ _ e => by rw [upd_ne (ne_of_none e n)]; exact e
theorem Rl.new {r p : Addr} {H : Hp} {o : HO} (h : Rl H r) (n : H p = none) : Rl (upd H p o) r := by
  obtain ⟨a, b, c, e⟩ := h
  exact ⟨a, b, c, by rw [upd_ne (ne_of_none e n)]; exact e⟩
theorem Rl.ne {r p : Addr} {H : Hp} (h : Rl H r) (n : H p = none) : p ≠ r := by
  obtain ⟨a, b, c, e⟩ := h
  exact (ne_of_none e n).symm
theorem Only.seqL {K : PySem.W.Frag} {r l : Addr} {H H' : Hp} {xs : List V} (o : Only r H H') (n : l ≠ r) (h : SqL K H l xs) : SqL K H' l xs := by
  rcases h with (h | ⟨u, h⟩) | h
  · exact .inl (.inl (o _ _ n h))
  · exact .inl (.inr ⟨u, o _ _ n h⟩)
  · exact .inr h
theorem Only.seqT {K : PySem.W.Frag} {r l : Addr} {H H' : Hp} {xs : List V} (o : Only r H H') (n : l ≠ r) (h : SqT K H l xs) : SqT K H' l xs := by
  rcases h with (h | ⟨u, h⟩) | h
  · exact .inl (.inl (o _ _ n h))
  · exact .inl (.inr ⟨u, o _ _ n h⟩)
  · exact .inr h
theorem ix_at {α : Type} {xs : List α} {i : Int} (h0 : 0 ≤ i) (h1 : i < xs.length) : ∃ v, v ∈ xs ∧ atI xs i = some v := by
  have h2 : i.toNat < xs.length := by omega
  refine ⟨xs[i.toNat], List.getElem_mem h2, ?_⟩
  have h3 : ((i.toNat : Nat) : Int) = i := Int.toNat_of_nonneg h0
  have := atI_nat (xs := xs) (j := i.toNat) (List.getElem?_eq_getElem h2)
  rw [h3] at this
  exact this
/-- what a draw is made from: a list, a tuple, a text -/
def SeqV (K : PySem.W.Frag) (H : Hp) (r : Addr) (x : V) (xs : List V) : Prop :=
  (∃ l, x = .ref l ∧ l ≠ r ∧ (SqL K H l xs ∨ SqT K H l xs)) ∨ (∃ z : Str, x = .str z ∧ z.length ≤ sizeLine ∧ xs = z.cps.toList.map fun c => V.str ⟨#[c]⟩)
theorem lg {i : Int} {b : Nat} (h0 : 0 ≤ i) (h : i < 2 ^ b) (hb : 0 < b) : i.natAbs.log2 < b := by
  refine PySem.Flt.log2_lt_of hb ?_
  have : (i.natAbs : Int) = i := Int.natAbs_of_nonneg h0
  have h2 : ((i.natAbs : Nat) : Int) < ((2 ^ b : Nat) : Int) := by rw [this, Int.natCast_pow]; exact h
  exact Int.ofNat_lt.mp h2
section
variable {X : Cx}
theorem op_powW : OpR X (binaryOp .Pow) (rI (fun i j => 0 ≤ j ∧ (Builtin.Int.intBits i : Int) * j ≤ 2 ^ 27) fun i j => .int (i ^ j.toNat)) := opI fun _ _ _ _ _ _ _ hc q => PyProof.Rows.pow_int hc.1 hc.2 q
end
theorem ite_join {c : Bool} {ta tb : TE} {σ : St} {H : Hp} {Q : VK} (R : V → Hp → Prop) (ha : c = true → ∀ Q' : VK, (∀ v H', R v H' → Q' v H') → ta σ H Q') (hb : c = false → ∀ Q' : VK, (∀ v H', R v H' → Q' v H') → tb σ H Q')
    (h : ∀ v H', R v H' → Q v H') : if c = true then ta σ H Q else tb σ H Q := by
  cases c with
  | true => exact iteT (ha rfl Q h)
  | false => exact iteF (hb rfl Q h)
theorem at_ns {ns : List Int} {i : Nat} (h : i < ns.length) : ∃ z, atI (ns.map V.int) (i : Int) = some (.int z) :=
  ⟨ns[i], atI_nat (by rw [List.getElem?_map, List.getElem?_eq_getElem h]; rfl)⟩
theorem bl_t {Q : VK} {b : Bool} {H : Hp} (e : b = true) (k : Q (.bl true) H) : Q (.bl b) H := e ▸ k
theorem int_to {Q : VK} {i j : Int} {H : Hp} (e : i = j) (k : Q (.int j) H) : Q (.int i) H := e ▸ k
theorem if_ne {x y : V} {A B : Prop} (h : x ≠ y) (a : A) : if (!decide (x = y)) = true then A else B := by
  rw [decide_eq_false h]
  exact iteT a
theorem if_dec_t {x y : V} {A B : Prop} (h : x = y) (a : A) : if decide (x = y) = true then A else B := by
  rw [decide_eq_true h]
  exact iteT a
theorem if_dec_f {x y : V} {A B : Prop} (h : x ≠ y) (b : B) : if decide (x = y) = true then A else B := by
  rw [decide_eq_false h]
  exact iteF b
theorem dp_all {K : PySem.W.Frag} {H : Hp} : ∀ ns : List Int, DpAll K H (ns.map V.int) (ns.map PyData.int)
  | [] => .nil
  | n :: r => .cons (.int n) (dp_all r)
theorem dp_ints {K : PySem.W.Frag} {H : Hp} {a : Addr} (ns : List Int) (h : SqL K H a (ns.map V.int)) : Dp K H (.ref a) (.list (ns.map PyData.int)) := .lst h (dp_all ns)
theorem cells_n (n m : Nat) : ((if (if ((n : Nat) : Int) < (m : Int) then ((n : Nat) : Int) else (m : Int)) > 1 then (if ((n : Nat) : Int) < (m : Int) then ((n : Nat) : Int) else (m : Int)) else 1) : Int) ≤ (m : Int) + 1 ∧ 1 ≤ ((if (if ((n : Nat) : Int) < (m : Int) then ((n : Nat) : Int) else (m : Int)) > 1 then (if ((n : Nat) : Int) < (m : Int) then ((n : Nat) : Int) else (m : Int)) else 1) : Int) := by
  split <;> split <;> omega
def nmC (z : Str) : Bool := decide (1 ≤ z.length ∧ z.length ≤ 8) && z.cps.toList.all fun c => decide (97 ≤ c) && decide (c ≤ 122)
def nmD : PyData → Bool
  | .str z => nmC z
  | _ => false
def inD (lo hi : Int) : PyData → Bool
  | .int n => (decide (-1000000000000 < n) && decide (n < 1000000000000)) && (decide (lo ≤ n) && decide (n ≤ hi))
  | _ => false
def isInD : PyData → Bool
  | .int n => decide (-1000000000000 < n) && decide (n < 1000000000000)
  | _ => false
def prD (hi : Int) : PyData → Bool
  | .tuple [a, b] => nmD a && inD 0 hi b
  | _ => false
def rwD (most : Nat) (hi : Int) : PyData → Bool
  | .tuple ds => decide (ds.length ≤ most) && ds.all (prD hi)
  | _ => false
/-- every text in it is short -/
def okD (d : PyData) : Prop := d.weight ≤ 1000000
/-- a value that is the datum d, or a dict -/
def DD (K : PySem.W.Frag) (H : Hp) (x : V) (d : PyData) : Prop := Dp K H x d ∨ ∃ a kvs, x = .ref a ∧ H a = some (.dK kvs) ∧ d = .dict []
theorem Same.seqT {K : PySem.W.Frag} {H H' : Hp} {a : Addr} {xs : List V} (e : Same H H') (h : SqT K H a xs) : SqT K H' a xs := by
  rcases h with (h | ⟨o, h⟩) | h
  · exact .inl (.inl (e _ _ h))
  · exact .inl (.inr ⟨o, e _ _ h⟩)
  · exact .inr h
mutual
theorem dp_same {K : PySem.W.Frag} {H H' : Hp} (s : Same H H') : ∀ (d : PyData) (x : V), Dp K H x d → Dp K H' x d
  | .none, _, h => by cases h; exact .non
  | .bool b, _, h => by cases h; exact .bl b
  | .int i, _, h => by cases h; exact .int i
  | .str z, _, h => by cases h; exact .str z
  | .list ds, _, h => by
    cases h with
    | lst h1 h2 => exact .lst (Same.seq s h1) (dpa_same s ds _ h2)
  | .tuple ds, _, h => by
    cases h with
    | tup h1 h2 => exact .tup (Same.seqT s h1) (dpa_same s ds _ h2)
  | .dict _, _, h => by cases h
theorem dpa_same {K : PySem.W.Frag} {H H' : Hp} (s : Same H H') : ∀ (ds : List PyData) (xs : List V), DpAll K H xs ds → DpAll K H' xs ds
  | [], _, h => by cases h; exact .nil
  | d :: ds, _, h => by
    cases h with
    | cons h1 h2 => exact .cons (dp_same s d _ h1) (dpa_same s ds _ h2)
end
theorem DD.same {K : PySem.W.Frag} {H H' : Hp} {x : V} {d : PyData} (s : Same H H') (h : DD K H x d) : DD K H' x d := by
  rcases h with h | ⟨a, kvs, e1, e2, e3⟩
  · exact .inl (dp_same s d x h)
  · exact .inr ⟨a, kvs, e1, s _ _ e2, e3⟩
theorem dpa_len {K : PySem.W.Frag} {H : Hp} : ∀ {ds : List PyData} {xs : List V}, DpAll K H xs ds → ds.length = xs.length
  | [], _, h => by cases h; rfl
  | d :: ds, _, h => by
    cases h with
    | cons h1 h2 => rw [List.length_cons, List.length_cons, dpa_len h2]
theorem dpa_get {K : PySem.W.Frag} {H : Hp} : ∀ {ds : List PyData} {xs : List V} {i : Nat} {x : V}, DpAll K H xs ds → xs[i]? = some x → ∃ d, ds[i]? = some d ∧ Dp K H x d
  | [], _, i, x, h, e => by cases h; simp at e
  | d :: ds, _, 0, x, h, e => by
    cases h with
    | cons h1 h2 =>
      obtain rfl := Option.some.inj e
      exact ⟨d, rfl, h1⟩
  | d :: ds, _, i + 1, x, h, e => by
    cases h with
    | cons h1 h2 => exact dpa_get (i := i) h2 e
def tyD : PyData → String
  | .none => "NoneType" | .bool _ => "bool" | .int _ => "int" | .str _ => "str" | .list _ => "list" | .tuple _ => "tuple" | .dict _ => "dict"
theorem DD.ty {K : PySem.W.Frag} {H : Hp} {x : V} {d : PyData} (h : DD K H x d) : TyX K H x (.type (tyD d)) := by
  rcases h with h | ⟨a, kvs, rfl, e, rfl⟩
  · cases h with
    | non => exact .base .non
    | bl b => exact .base (.bl b)
    | int i => exact .base (.int i)
    | str z => exact .base (.str z)
    | lst h1 h2 =>
      rcases h1 with (h | ⟨o, h⟩) | ⟨o, its, n, e1, e2, _⟩
      · exact .base (.lst h)
      · exact .base (.frz h)
      · exact .kList e1 e2
    | tup h1 h2 =>
      rcases h1 with (h | ⟨o, h⟩) | ⟨o, its, n, e1, e2, _⟩
      · exact .base (.tup h)
      · exact .fTuple h
      · exact .kTuple e1 e2
  · exact .base (.dK e)
theorem weight_mem : ∀ {ds : List PyData} {d : PyData}, d ∈ ds → d.weight ≤ PyData.weightAll ds
  | a :: r, d, h => by
    rw [PyData.weightAll]
    rcases List.mem_cons.mp h with rfl | h
    · omega
    · have := weight_mem h
      omega
theorem okD_tup {ds : List PyData} (h : okD (.tuple ds)) {d : PyData} (hd : d ∈ ds) : okD d := by
  have h1 := weight_mem hd
  have h2 : PyData.weightAll ds ≤ 1000000 := by
    have h3 : (PyData.tuple ds).weight ≤ 1000000 := h
    rw [PyData.weight] at h3
    exact h3
  exact Nat.le_trans h1 h2
theorem okD_str {z : Str} (h : okD (.str z)) : z.length ≤ 1000000 := by
  have h3 : (PyData.str z).weight ≤ 1000000 := h
  rw [PyData.weight] at h3
  exact h3
theorem bl_to {Q : VK} {b c : Bool} {H : Hp} (e : b = c) (k : Q (.bl c) H) : Q (.bl b) H := e ▸ k
theorem Same.rl {H H' : Hp} {r : Addr} (s : Same H H') (h : Rl H r) : Rl H' r := by
  obtain ⟨a, b, c, e⟩ := h
  exact ⟨a, b, c, s _ _ e⟩
theorem Same.only {H H' : Hp} {r : Addr} (s : Same H H') : Only r H H' := fun b o _ e => s b o e
theorem Same.new {H : Hp} {p : Addr} {o : HO} (n : H p = none) : Same H (upd H p o) := fun b u e => by rw [upd_ne (ne_of_none e n)]; exact e
theorem Same.at {H0 H : Hp} {D : Addr} {o : HO} (n : H0 D = none) (s : Same H0 H) : Same H0 (upd H D o) := fun b u e => by rw [upd_ne (ne_of_none e n)]; exact s b u e
theorem lt_sign (c d : Nat) : (([c] : List Nat) < [d]) ↔ c < d := by
  constructor
  · intro h
    rcases List.cons_lt_cons_iff.mp h with h | ⟨_, h⟩
    · exact h
    · exact absurd h (by simp)
  · intro h
    exact List.cons_lt_cons_iff.mpr (.inl h)
theorem tk_succ {z : Str} {i c : Nat} (h : z.cps[i]? = some c) : z.cps.toList.take (i + 1) = z.cps.toList.take i ++ [c] := by
  have h2 : z.cps.toList[i]? = some c := by rw [Array.getElem?_toList]; exact h
  rw [List.take_add_one, h2]
  rfl
theorem tk_all (z : Str) : z.cps.toList.take z.cps.size = z.cps.toList := List.take_of_length_le (by rw [Array.length_toList]; exact Nat.le_refl _)
theorem not_str {d : PyData} (h : ∀ z, d ≠ .str z) : kitB (tyD d) "str" = some false ∧ nmD d = false := by
  cases d with
  | str z => exact absurd rfl (h z)
  | _ => exact ⟨by simp only [tyD]; decide +kernel, rfl⟩
theorem not_int {d : PyData} (h1 : ∀ n, d ≠ .int n) (h2 : ∀ b, d ≠ .bool b) : kitB (tyD d) "int" = some false ∧ isInD d = false := by
  cases d with
  | int n => exact absurd rfl (h1 n)
  | bool b => exact absurd rfl (h2 b)
  | _ => exact ⟨by simp only [tyD]; decide +kernel, rfl⟩
theorem not_tup {d : PyData} (h : ∀ ds, d ≠ .tuple ds) : kitB (tyD d) "tuple" = some false := by
  cases d with
  | tuple z => exact absurd rfl (h z)
  | _ => simp only [tyD]; decide +kernel
/-- its items ascend -/
def ascD (ds : List PyData) : Bool := (List.range (ds.length - 1)).all fun i => PySem.W.dataLt (ds.getD i .none) (ds.getD (i + 1) .none)
theorem depth_in {hi : Int} {d : PyData} (h : prD hi d = true) : ∃ z n, d = .tuple [.str z, .int n] := by
  unfold prD at h
  split at h
  · rename_i a b
    have h1 := (Bool.and_eq_true_iff.mp h).1
    have h2 := (Bool.and_eq_true_iff.mp h).2
    cases a with
    | str z =>
      cases b with
      | int n => exact ⟨z, n, rfl⟩
      | _ => cases h2
    | _ => cases h1
  · cases h
section
variable {X : Cx}
def rLtD (K : PySem.W.Frag) : R2 := fun x y H Q => ∃ d e, Dp K H x d ∧ Dp K H y e ∧ PySem.W.alike d e = true ∧ d ≠ .none ∧ d.depth ≤ 60 ∧ Q (.bl (PySem.W.dataLt d e)) H
theorem op_ltD (hu : X.A.units + 64 < cLine) : OpR X (compareOp .Lt) (rLtD X.K) := by
  intro pins s σ H x y v u Q I rx ry h
  obtain ⟨d, e, h1, h2, h3, h4, h5, q⟩ := h
  obtain ⟨as, r1⟩ := Dp.reads I d x v h1 rx
  obtain ⟨bs, r2⟩ := Dp.reads I e y u h2 ry
  exact PySem.W.lt_data r1 r2 h3 h4 (by have := Nat.min_le_left d.depth e.depth; omega) ⟨.bl _, H, I, rfl, q⟩
end

section
variable {P : Program} {w : World} {K : PySem.W.Frag}
                                                      {mg : Str → Option Value} {base : Heap}
def sp_is_name (K : PySem.W.Frag) : Sp := fun vs H Q _ => ∃ (x : V) (d : PyData), vs = [x] ∧ DD K H x d ∧ okD d ∧ ∀ H', Same H H' → Q (.bl (nmD d)) H'
theorem ok_is_name (T : T K mg) : FnOk P w K mg base CX0 1 T.f_is_name T.d_is_name ["value"] (sp_is_name K) := by
  refine T.F_is_name.ok sc_is_name (fun vs H Q E h => ?_) (fun cdv A outer s H vs Q E hr h => ?_)
  · obtain ⟨x, d, rfl, _⟩ := h
    rfl
  · obtain ⟨x, d, rfl, hx, hw, k⟩ := h
    have hu := hu_of hr
    obtain ⟨_, c_MAX_LETTERS⟩ := T.c_MAX_LETTERS
    refine ⟨_, (pss_cons (ps_if (PW.pt (pw_or (pt_not (pt_val (pe_callB call_isi (by rfl) T.z_isinstance (by decide +kernel) (pa_cons (pv 0) (pa_cons (pe_bltn (v := V.ty "str") (u := Value.type "str") (by rfl) T.z_str (by decide +kernel) rfl) pa_nil))))) (pw_or1 (pt_not (pt_chain op_le op_le pe_int (pe_callB call_len (by rfl) T.z_len (by decide +kernel) (pa_cons (pv 0) pa_nil)) (pe_glob (v := V.int 8) rfl c_MAX_LETTERS ⟨_, rfl⟩))))))
      (pss_one (ps_ret pe_bl))
      pss_nil)
      (pss_one (ps_ret (pe_callB (cr_all rfl) (by rfl) T.z_all (by decide +kernel) (pa_cons (pe_lc (own := [("letter", 1)]) (g := gName 1) rfl sc_is_name.nd (pi_str (pv 0)) (blkOk_by (N := ["value", "letter"]) (sc := defScope s_is_name) (by decide +kernel)) (fun _ _ _ _ _ => (pg_name (i := 1) sc_is_name.nd rfl (Or.inl rfl))) (fun _ _ _ _ _ => pts_nil) (fun _ _ _ _ _ => (pe_chain op_le_str op_le_str pe_str (pv 1) pe_str))) pa_nil))))), ?_⟩
    by_cases hs : ∃ z, d = .str z
    · obtain ⟨z, rfl⟩ := hs
      have hz := okD_str hw
      obtain rfl : x = .str z := by
        rcases hx with h | ⟨_, _, _, _, h⟩
        · cases h
          rfl
        · cases h
      refine ⟨_, rfl, _, _, _, _, true, rfl, .ty _, .base (.str _), kit_ty (by decide +kernel), _, rfl, iteF ?_⟩
      refine ⟨_, rfl, _, _, rfl, ⟨Nat.le_trans hz (by decide), rfl⟩, _, _, rfl, rfl, _, rfl, ?_⟩
      refine ite2 (fun c1 => ?_) (fun c1 => ?_)
      · have h1 := of_decide_eq_true c1
        refine ⟨_, _, rfl, rfl, _, rfl, ?_⟩
        by_cases h2 : (z.length : Int) ≤ 8
        · rw [decide_eq_true h2]
          refine iteF ?_
          refine ⟨_, rfl, _, rfl, fun D hD => ?_⟩
          refine lc_it walk_str (fun i H' => H' D = some (.lst (((z.cps.toList.take i).map fun c => decide (97 ≤ c) && decide (c ≤ 122)).map V.bl)) ∧ Same H H') ⟨upd_same, Same.new hD⟩ (fun _ _ _ _ => trivial) ?_ ?_
          · rintro i y H1 H2 hi ⟨eD, S⟩ ⟨rfl, c, hc, rfl⟩
            refine ⟨rfl, ?_⟩
            unfold tYes
            dsimp only
            rw [if_pos rfl]
            refine ⟨_, rfl, _, _, rfl, rfl, _, rfl, ?_⟩
            have done : ∀ b : Bool, b = (decide (97 ≤ c) && decide (c ≤ 122)) → ∃ acc, H2 D = some (.lst acc) ∧ acc.length < sizeLine ∧ (upd H2 D (.lst (acc ++ [V.bl b]))) D = some (.lst (((z.cps.toList.take (i + 1)).map fun c => decide (97 ≤ c) && decide (c ≤ 122)).map V.bl)) ∧ Same H (upd H2 D (.lst (acc ++ [V.bl b]))) := by
              rintro b rfl
              refine ⟨_, eD, ?_, ?_, Same.at hD S⟩
              · rw [List.length_map, List.length_map, List.length_take]
                have : z.cps.toList.length = z.length := by simp [Str.length]
                exact Nat.lt_of_le_of_lt (Nat.le_trans (Nat.min_le_right _ _) (by omega : z.cps.toList.length ≤ 100)) (by decide)
              · rw [upd_same, tk_succ hc, List.map_append, List.map_append]
                rfl
            refine ite2 (fun c2 => ?_) (fun c2 => ?_)
            · have h3 : 97 ≤ c := by
                rw [Bool.not_eq_true', decide_eq_false_iff_not] at c2
                have c3 : ¬ (([c] : List Nat) < [97]) := c2
                rw [lt_sign] at c3
                omega
              refine ⟨_, _, rfl, rfl, done _ ?_⟩
              rw [decide_eq_true h3, Bool.true_and]
              by_cases h4 : c ≤ 122
              · rw [decide_eq_true h4]
                show (!decide (([122] : List Nat) < [c])) = true
                rw [decide_eq_false (by rw [lt_sign]; omega)]
                rfl
              · rw [decide_eq_false h4]
                show (!decide (([122] : List Nat) < [c])) = false
                rw [decide_eq_true (by rw [lt_sign]; omega)]
                rfl
            · have h3 : ¬ 97 ≤ c := by
                rw [Bool.not_eq_true', decide_eq_false_iff_not] at c2
                have c3 := Classical.not_not.mp c2
                have c4 : ([c] : List Nat) < [97] := c3
                rw [lt_sign] at c4
                omega
              refine done _ ?_
              rw [decide_eq_false h3, Bool.false_and]
          · rintro H9 ⟨eD, S⟩
            refine ⟨_, _, rfl, SqL.of eD, ?_⟩
            refine bl_to ?_ (k _ S)
            rw [tk_all]
            show _ = (decide (1 ≤ z.length ∧ z.length ≤ 8) && _)
            rw [decide_eq_true (show 1 ≤ z.length ∧ z.length ≤ 8 by omega), Bool.true_and, List.all_map]
            rfl
        · rw [decide_eq_false h2]
          refine iteT ?_
          refine bl_to ?_ (k _ (Same.refl _))
          show false = (decide (1 ≤ z.length ∧ z.length ≤ 8) && _)
          rw [decide_eq_false (show ¬ (1 ≤ z.length ∧ z.length ≤ 8) by omega), Bool.false_and]
      · have h1 : ¬ (1 : Int) ≤ (z.length : Int) := fun q => c1 (decide_eq_true q)
        refine ⟨_, rfl, iteT ?_⟩
        refine bl_to ?_ (k _ (Same.refl _))
        show false = (decide (1 ≤ z.length ∧ z.length ≤ 8) && _)
        rw [decide_eq_false (show ¬ (1 ≤ z.length ∧ z.length ≤ 8) by omega), Bool.false_and]
    · have hn := not_str fun z e => hs ⟨z, e⟩
      refine ⟨_, rfl, _, _, _, _, false, rfl, .ty _, hx.ty, kit_ty hn.1, _, rfl, iteT ?_⟩
      exact iteT (bl_to hn.2.symm (k _ (Same.refl _)))
def sp_is_integer (K : PySem.W.Frag) : Sp := fun vs H Q _ => ∃ (x : V) (d : PyData), vs = [x] ∧ DD K H x d ∧ Q (.bl (isInD d)) H
theorem ok_is_integer (T : T K mg) : FnOk P w K mg base CX0 1 T.f_is_integer T.d_is_integer ["value"] (sp_is_integer K) := by
  refine T.F_is_integer.ok sc_is_integer (fun vs H Q E h => ?_) (fun cdv A outer s H vs Q E hr h => ?_)
  · obtain ⟨x, d, rfl, _⟩ := h
    rfl
  · obtain ⟨x, d, rfl, hx, k⟩ := h
    have hu := hu_of hr
    refine ⟨_, (pss_cons (ps_if (PW.pt (pw_or (pt_not (pt_val (pe_callB call_isi (by rfl) T.z_isinstance (by decide +kernel) (pa_cons (pv 0) (pa_cons (pe_bltn (v := V.ty "int") (u := Value.type "int") (by rfl) T.z_int (by decide +kernel) rfl) pa_nil))))) (pw_or1 (pt_val (pe_callB call_isi (by rfl) T.z_isinstance (by decide +kernel) (pa_cons (pv 0) (pa_cons (pe_bltn (v := V.ty "bool") (u := Value.type "bool") (by rfl) T.z_bool (by decide +kernel) rfl) pa_nil)))))))
      (pss_one (ps_ret pe_bl))
      pss_nil)
      (pss_one (ps_ret (pe_chain op_lt op_lt (pe_un un_neg (pe_op op_pow pe_int pe_int)) (pv 0) (pe_op op_pow pe_int pe_int))))), ?_⟩
    by_cases h1 : ∃ n, d = .int n
    · obtain ⟨n, rfl⟩ := h1
      obtain rfl : x = .int n := by
        rcases hx with h | ⟨_, _, _, _, h⟩
        · cases h
          rfl
        · cases h
      refine ⟨_, rfl, _, _, _, _, true, rfl, .ty _, .base (.int _), kit_ty (by decide +kernel), _, rfl, iteF ?_⟩
      refine ⟨_, rfl, _, _, _, _, false, rfl, .ty _, .base (.int _), kit_ty (by decide +kernel), _, rfl, iteF ?_⟩
      refine ⟨_, _, rfl, rfl, ⟨by decide, by decide, by decide⟩, _, rfl, _, rfl, _, _, rfl, rfl, _, rfl, ?_⟩
      have e1 : decide (-(10 ^ Int.toNat 12) < n) = decide (-1000000000000 < n) := rfl
      refine ite2 (fun c => ?_) (fun c => ?_)
      · refine ⟨_, _, rfl, rfl, ⟨by decide, by decide, by decide⟩, _, _, rfl, rfl, ?_⟩
        refine bl_to ?_ k
        show _ = (decide (-1000000000000 < n) && decide (n < 1000000000000))
        rw [← e1, c, Bool.true_and]
        rfl
      · refine bl_to ?_ k
        show _ = (decide (-1000000000000 < n) && decide (n < 1000000000000))
        rw [← e1, Bool.eq_false_iff.mpr c, Bool.false_and]
    · by_cases h2 : ∃ b, d = .bool b
      · obtain ⟨b, rfl⟩ := h2
        refine ⟨_, rfl, _, _, _, _, true, rfl, .ty _, hx.ty, kit_ty (a := "bool") (b := "int") (by decide +kernel), _, rfl, iteF ?_⟩
        refine ⟨_, rfl, _, _, _, _, true, rfl, .ty _, hx.ty, kit_ty (a := "bool") (b := "bool") (by decide +kernel), _, rfl, iteT ?_⟩
        exact k
      · have hn := not_int (fun n e => h1 ⟨n, e⟩) fun b e => h2 ⟨b, e⟩
        refine ⟨_, rfl, _, _, _, _, false, rfl, .ty _, hx.ty, kit_ty hn.1, _, rfl, iteT ?_⟩
        exact iteT (bl_to hn.2.symm k)
def sp_is_between (K : PySem.W.Frag) : Sp := fun vs H Q _ => ∃ (x : V) (d : PyData) (lo hi : Int), vs = [x, .int lo, .int hi] ∧ DD K H x d ∧ Q (.bl (inD lo hi d)) H
theorem ok_is_between (T : T K mg) : FnOk P w K mg base CX0 2 T.f_is_between T.d_is_between ["value", "low", "high"] (sp_is_between K) := by
  have G_is_integer : FnOk P w K mg base CX0 1 T.f_is_integer T.d_is_integer ["value"] (sp_is_integer K) := ok_is_integer T
  refine T.F_is_between.ok sc_is_between (fun vs H Q E h => ?_) (fun cdv A outer s H vs Q E hr h => ?_)
  · obtain ⟨x, d, lo, hi, rfl, _⟩ := h
    rfl
  · obtain ⟨x, d, lo, hi, rfl, hx, k⟩ := h
    have hu := hu_of hr
    have hr_is_integer : Room 1 _ := hr.mono (by decide)
    refine ⟨_, (pss_one (ps_ret (pe_and (pe_call G_is_integer hr_is_integer rfl T.m_is_integer T.F_is_integer.kp T.b_is_integer .nil pass0 (pa_cons (pv 0) pa_nil)) (pe_one (pe_chain op_le op_le (pv 1) (pv 0) (pv 2)))))), ?_⟩
    refine ⟨_, rfl, x, d, rfl, hx, _, rfl, ?_⟩
    by_cases h : isInD d = true
    · rw [h]
      refine iteT ?_
      obtain ⟨n, rfl⟩ : ∃ n, d = .int n := by
        cases d with
        | int n => exact ⟨n, rfl⟩
        | _ => cases h
      obtain rfl : x = .int n := by
        rcases hx with h | ⟨_, _, _, _, h⟩
        · cases h
          rfl
        · cases h
      have hi2 : (decide (-1000000000000 < n) && decide (n < 1000000000000)) = true := h
      have k2 : Q (.bl (decide (lo ≤ n) && decide (n ≤ hi))) H := bl_to (by show _ = ((decide (-1000000000000 < n) && decide (n < 1000000000000)) && _); rw [hi2, Bool.true_and]) k
      refine ⟨_, rfl, _, rfl, _, _, rfl, rfl, _, rfl, ?_⟩
      refine ite2 (fun c => ?_) (fun c => ?_)
      · exact ⟨_, rfl, _, _, rfl, rfl, bl_to (by rw [c, Bool.true_and]) k2⟩
      · exact bl_to (by rw [Bool.eq_false_iff.mpr c, Bool.false_and]) k2
    · rw [Bool.eq_false_iff.mpr h]
      refine iteF (bl_to ?_ k)
      cases d with
      | int n =>
        show false = ((decide (-1000000000000 < n) && decide (n < 1000000000000)) && _)
        have h3 : ¬ (decide (-1000000000000 < n) && decide (n < 1000000000000)) = true := h
        rw [Bool.eq_false_iff.mpr h3, Bool.false_and]
      | _ => rfl
def sp_ascends (K : PySem.W.Frag) : Sp := fun vs H Q _ => ∃ (x : V) (ds : List PyData) (hi : Int), vs = [x] ∧ Dp K H x (.tuple ds) ∧ ds.all (prD hi) = true ∧ ds.length ≤ 1000 ∧ ∀ H', Same H H' → Q (.bl (ascD ds)) H'
theorem ok_ascends (T : T K mg) : FnOk P w K mg base CX0 1 T.f_ascends T.d_ascends ["row"] (sp_ascends K) := by
  refine T.F_ascends.ok sc_ascends (fun vs H Q E h => ?_) (fun cdv A outer s H vs Q E hr h => ?_)
  · obtain ⟨x, ds, hi, rfl, _⟩ := h
    rfl
  · obtain ⟨x, ds, hi, rfl, hx, hp, hl, k⟩ := h
    have hu := hu_of hr
    refine ⟨_, (pss_one (ps_ret (pe_callB (cr_all rfl) (by rfl) T.z_all (by decide +kernel) (pa_cons (pe_lc (own := [("at", 1)]) (g := gName 1) rfl sc_ascends.nd (pi_range2 (by rfl) T.z_range (pa_cons pe_int (pa_cons (pe_callB call_len (by rfl) T.z_len (by decide +kernel) (pa_cons (pv 0) pa_nil)) pa_nil))) (blkOk_by (N := ["row", "at"]) (sc := defScope s_ascends) (by decide +kernel)) (fun _ _ _ _ _ => (pg_name (i := 1) sc_ascends.nd rfl (Or.inl rfl))) (fun _ _ _ _ _ => pts_nil) (fun _ _ _ _ _ => (pe_cmpR (r := rLtD K) (op_ltD hr.units) (pe_ix (r := rIx K) ix_seq (pv 0) (pe_op op_sub (pv 1) pe_int) (fun _ _ => rfl)) (pe_ix (r := rIx K) ix_seq (pv 0) (pv 1) (fun _ _ => rfl)) (nomark _)))) pa_nil)))), ?_⟩
    obtain ⟨a, xs, rfl, hS, hd⟩ : ∃ a xs, x = .ref a ∧ SqT K H a xs ∧ DpAll K H xs ds := by
      cases hx with
      | tup h1 h2 => exact ⟨_, _, rfl, h1, h2⟩
    have hn := dpa_len hd
    refine ⟨_, rfl, _, _, rfl, .inr ⟨_, hS, rfl⟩, 1, (xs.length : Int), rfl, ⟨by decide, by decide, by omega, by omega⟩, fun D hD => ?_⟩
    have en : ((xs.length : Int) - 1).toNat = ds.length - 1 := by omega
    rw [en]
    refine lc_range (lo := 1) (n := ds.length - 1) (fun i H' => H' D = some (.lst (((List.range i).map fun j => PySem.W.dataLt (ds.getD j .none) (ds.getD (j + 1) .none)).map V.bl)) ∧ Same H H') ⟨upd_same, Same.new hD⟩ ?_ ?_
    · rintro i H1 hi2 ⟨eD, S⟩
      refine ⟨rfl, ?_⟩
      unfold tYes
      dsimp only
      rw [if_pos rfl]
      have hS1 := Same.seqT S hS
      have hd1 := dpa_same S ds xs hd
      have l0 : i < xs.length := by omega
      have l1 : i + 1 < xs.length := by omega
      obtain ⟨d0, e0, p0⟩ := dpa_get hd1 (List.getElem?_eq_getElem l0)
      obtain ⟨d1, e1, p1⟩ := dpa_get hd1 (List.getElem?_eq_getElem l1)
      obtain ⟨z0, n0, rfl⟩ := depth_in (List.all_eq_true.mp hp d0 (List.mem_of_getElem? e0))
      obtain ⟨z1, n1, rfl⟩ := depth_in (List.all_eq_true.mp hp d1 (List.mem_of_getElem? e1))
      refine ⟨_, rfl, _, rfl, _, _, rfl, rfl, .inr (.inl ⟨_, _, _, xs[i], rfl, rfl, hS1, at_of (j := i) (by omega) (List.getElem?_eq_getElem l0), ?_⟩)⟩
      refine ⟨_, rfl, _, rfl, .inr (.inl ⟨_, _, _, xs[i + 1], rfl, rfl, hS1, at_of (j := i + 1) (by omega) (List.getElem?_eq_getElem l1), ?_⟩)⟩
      refine ⟨_, _, p0, p1, rfl, (by intro z; cases z), (by simp only [PyData.depth, PyData.depthAll]; decide), ?_⟩
      refine ⟨_, eD, ?_, ?_, Same.at hD S⟩
      · rw [List.length_map, List.length_map, List.length_range]
        exact Nat.lt_of_lt_of_le (show i < 1000 by omega) (by decide)
      · rw [upd_same, List.range_succ, List.map_append, List.map_append, List.map_singleton]
        rw [List.getD_eq_getElem?_getD, e0, List.getD_eq_getElem?_getD, e1]
        rfl
    · rintro H9 ⟨eD, S⟩
      refine ⟨_, _, rfl, SqL.of eD, ?_⟩
      refine bl_to ?_ (k _ S)
      unfold ascD
      rw [List.all_map]
      rfl
def sp_is_pair (K : PySem.W.Frag) : Sp := fun vs H Q _ => ∃ (x : V) (d : PyData) (hi : Int), vs = [x, .int hi] ∧ DD K H x d ∧ okD d ∧ ∀ H', Same H H' → Q (.bl (prD hi d)) H'
theorem ok_is_pair (T : T K mg) : FnOk P w K mg base CX0 3 T.f_is_pair T.d_is_pair ["value", "highest"] (sp_is_pair K) := by
  have G_is_between : FnOk P w K mg base CX0 2 T.f_is_between T.d_is_between ["value", "low", "high"] (sp_is_between K) := ok_is_between T
  have G_is_name : FnOk P w K mg base CX0 1 T.f_is_name T.d_is_name ["value"] (sp_is_name K) := ok_is_name T
  refine T.F_is_pair.ok sc_is_pair (fun vs H Q E h => ?_) (fun cdv A outer s H vs Q E hr h => ?_)
  · obtain ⟨x, d, hi, rfl, _⟩ := h
    rfl
  · obtain ⟨x, d, hi, rfl, hx, hw, k⟩ := h
    have hu := hu_of hr
    have hr_is_between : Room 2 _ := hr.mono (by decide)
    have hr_is_name : Room 1 _ := hr.mono (by decide)
    refine ⟨_, (pss_cons (ps_if (PW.pt (pw_or (pt_not (pt_val (pe_callB call_isi (by rfl) T.z_isinstance (by decide +kernel) (pa_cons (pv 0) (pa_cons (pe_bltn (v := V.ty "tuple") (u := Value.type "tuple") (by rfl) T.z_tuple (by decide +kernel) rfl) pa_nil))))) (pw_or1 (pt_cmpR op_ne (pe_callB call_len (by rfl) T.z_len (by decide +kernel) (pa_cons (pv 0) pa_nil)) pe_int (nomark _)))))
      (pss_one (ps_ret pe_bl))
      pss_nil)
      (pss_one (ps_ret (pe_and (pe_call G_is_name hr_is_name rfl T.m_is_name T.F_is_name.kp T.b_is_name .nil pass0 (pa_cons (pe_ix ix_seq (pv 0) pe_int (fun _ _ => rfl)) pa_nil)) (pe_one (pe_call G_is_between hr_is_between rfl T.m_is_between T.F_is_between.kp T.b_is_between .nil pass0 (pa_cons (pe_ix ix_seq (pv 0) pe_int (fun _ _ => rfl)) (pa_cons pe_int (pa_cons (pv 1) pa_nil))))))))), ?_⟩
    by_cases ht : ∃ ds, d = .tuple ds
    · obtain ⟨ds, rfl⟩ := ht
      obtain ⟨a, xs, rfl, hS, hd⟩ : ∃ a xs, x = .ref a ∧ SqT K H a xs ∧ DpAll K H xs ds := by
        rcases hx with h | ⟨_, _, _, _, h⟩
        · cases h with
          | tup h1 h2 => exact ⟨_, _, rfl, h1, h2⟩
        · cases h
      have hn := dpa_len hd
      refine ⟨_, rfl, _, _, _, _, true, rfl, .ty _, hx.ty, kit_ty (a := "tuple") (b := "tuple") (by decide +kernel), _, rfl, iteF ?_⟩
      refine ⟨_, rfl, _, _, rfl, .inr ⟨_, hS, rfl⟩, rfl, _, rfl, ?_⟩
      match ds, xs, hn, hd, hS, hw, k with
      | [d0, d1], [x0, x1], _, hd, hS, hw, k =>
        obtain ⟨e0, q0, p0⟩ := dpa_get (i := 0) hd rfl
        obtain rfl := Option.some.inj q0
        obtain ⟨e1, q1, p1⟩ := dpa_get (i := 1) hd rfl
        obtain rfl := Option.some.inj q1
        refine iteNS rfl ?_
        refine ⟨_, rfl, .inr (.inl ⟨_, _, _, _, rfl, rfl, hS, rfl, x0, d0, rfl, .inl p0, okD_tup hw List.mem_cons_self, fun H1 S1 => ?_⟩)⟩
        refine ⟨_, rfl, ?_⟩
        by_cases c : nmD d0 = true
        · rw [c]
          refine iteT ?_
          refine ⟨_, rfl, .inr (.inl ⟨_, _, _, _, rfl, rfl, Same.seqT S1 hS, rfl, _, rfl, x1, d1, 0, hi, rfl, .inl (dp_same S1 _ _ p1), ?_⟩)⟩
          exact bl_to (by show _ = (nmD d0 && inD 0 hi d1); rw [c, Bool.true_and]) (k _ S1)
        · rw [Bool.eq_false_iff.mpr c]
          exact iteF (bl_to (by show _ = (nmD d0 && inD 0 hi d1); rw [Bool.eq_false_iff.mpr c, Bool.false_and]) (k _ S1))
      | [], [], _, hd, hS, hw, k => exact if_ne (by show V.int ((0 : Nat) : Int) ≠ V.int 2; decide) (k _ (Same.refl _))
      | [d0], [x0], _, hd, hS, hw, k => exact if_ne (by show V.int ((1 : Nat) : Int) ≠ V.int 2; decide) (k _ (Same.refl _))
      | d0 :: d1 :: d2 :: r, x0 :: x1 :: x2 :: r2, _, hd, hS, hw, k => exact if_ne (by intro z; have := V.int.inj z; simp only [List.length_cons] at this; omega) (k _ (Same.refl _))
    · have hn := not_tup fun ds e => ht ⟨ds, e⟩
      refine ⟨_, rfl, _, _, _, _, false, rfl, .ty _, hx.ty, kit_ty hn, _, rfl, iteT ?_⟩
      refine iteT (bl_to ?_ (k _ (Same.refl _)))
      cases d with
      | tuple ds => exact absurd ⟨ds, rfl⟩ ht
      | _ => rfl
def sp_is_row_of_pairs (K : PySem.W.Frag) : Sp := fun vs H Q _ => ∃ (x : V) (d : PyData) (most : Nat) (hi : Int), vs = [x, .int (most : Int), .int hi] ∧ DD K H x d ∧ okD d ∧ most ≤ 100 ∧ ∀ H', Same H H' → Q (.bl (rwD most hi d)) H'
theorem ok_is_row_of_pairs (T : T K mg) : FnOk P w K mg base CX0 4 T.f_is_row_of_pairs T.d_is_row_of_pairs ["value", "most", "highest"] (sp_is_row_of_pairs K) := by
  have G_is_pair : FnOk P w K mg base CX0 3 T.f_is_pair T.d_is_pair ["value", "highest"] (sp_is_pair K) := ok_is_pair T
  refine T.F_is_row_of_pairs.ok sc_is_row_of_pairs (fun vs H Q E h => ?_) (fun cdv A outer s H vs Q E hr h => ?_)
  · obtain ⟨x, d, most, hi, rfl, _⟩ := h
    rfl
  · obtain ⟨x, d, most, hi, rfl, hx, hw, hm, k⟩ := h
    have hu := hu_of hr
    have hr_is_pair : Room 3 _ := hr.mono (by decide)
    refine ⟨_, (pss_cons (ps_if (PW.pt (pw_or (pt_not (pt_val (pe_callB call_isi (by rfl) T.z_isinstance (by decide +kernel) (pa_cons (pv 0) (pa_cons (pe_bltn (v := V.ty "tuple") (u := Value.type "tuple") (by rfl) T.z_tuple (by decide +kernel) rfl) pa_nil))))) (pw_or1 (pt_cmpR op_gt (pe_callB call_len (by rfl) T.z_len (by decide +kernel) (pa_cons (pv 0) pa_nil)) (pv 1) (nomark _)))))
      (pss_one (ps_ret pe_bl))
      pss_nil)
      (pss_one (ps_ret (pe_callB (cr_all rfl) (by rfl) T.z_all (by decide +kernel) (pa_cons (pe_lc (own := [("item", 3)]) (g := gName 3) rfl sc_is_row_of_pairs.nd (pi_tup (pv 0)) (blkOk_by (N := ["value", "most", "highest", "item"]) (sc := defScope s_is_row_of_pairs) (by decide +kernel)) (fun _ _ _ _ _ => (pg_name (i := 3) sc_is_row_of_pairs.nd rfl (Or.inl rfl))) (fun _ _ _ _ _ => pts_nil) (fun _ _ _ _ _ => (pe_call G_is_pair hr_is_pair rfl T.m_is_pair T.F_is_pair.kp T.b_is_pair .nil pass0 (pa_cons (pv 3) (pa_cons (pv 2) pa_nil))))) pa_nil))))), ?_⟩
    by_cases ht : ∃ ds, d = .tuple ds
    · obtain ⟨ds, rfl⟩ := ht
      obtain ⟨a, xs, rfl, hS, hd⟩ : ∃ a xs, x = .ref a ∧ SqT K H a xs ∧ DpAll K H xs ds := by
        rcases hx with h | ⟨_, _, _, _, h⟩
        · cases h with
          | tup h1 h2 => exact ⟨_, _, rfl, h1, h2⟩
        · cases h
      have hn := dpa_len hd
      refine ⟨_, rfl, _, _, _, _, true, rfl, .ty _, hx.ty, kit_ty (a := "tuple") (b := "tuple") (by decide +kernel), _, rfl, iteF ?_⟩
      refine ⟨_, rfl, _, _, rfl, .inr ⟨_, hS, rfl⟩, _, rfl, _, _, rfl, rfl, _, rfl, ?_⟩
      refine ite2 (fun c => ?_) (fun c => ?_)
      · have h1 := of_decide_eq_true c
        refine bl_to ?_ (k _ (Same.refl _))
        show false = (decide (ds.length ≤ most) && _)
        rw [decide_eq_false (by omega), Bool.false_and]
      · have h1 : ¬ (most : Int) < (xs.length : Int) := fun q => c (decide_eq_true q)
        refine ⟨_, rfl, a, rfl, ⟨_, hS⟩, fun D hD => ?_⟩
        refine lc_tup (K := K) (a := a) (xs := xs) (fun i H' => H' D = some (.lst (((ds.take i).map (prD hi)).map V.bl)) ∧ Same H H') ⟨upd_same, Same.new hD⟩ (fun i H' _ ⟨_, S⟩ => Same.seqT S hS) ?_ ?_
        · rintro i y H1 hy ⟨eD, S⟩
          obtain ⟨d0, e0, p0⟩ := dpa_get (dpa_same S ds xs hd) hy
          refine ⟨rfl, ?_⟩
          unfold tYes
          dsimp only
          rw [if_pos rfl]
          refine ⟨_, rfl, _, rfl, y, d0, hi, rfl, .inl p0, okD_tup hw (List.mem_of_getElem? e0), fun H2 S2 => ?_⟩
          have S3 : Same H H2 := Same.trans S S2
          refine ⟨_, S2 _ _ eD, ?_, ?_, Same.at hD S3⟩
          · rw [List.length_map, List.length_map, List.length_take]
            exact Nat.lt_of_le_of_lt (Nat.le_trans (Nat.min_le_right _ _) (by omega : ds.length ≤ 100)) (by decide)
          · rw [upd_same, List.take_add_one, e0, List.map_append, List.map_append]
            rfl
        · rintro H9 ⟨eD, S⟩
          refine ⟨_, _, rfl, SqL.of eD, ?_⟩
          refine bl_to ?_ (k _ S)
          rw [← hn, List.take_length]
          show _ = (decide (ds.length ≤ most) && _)
          rw [decide_eq_true (by omega), Bool.true_and, List.all_map]
          rfl
    · have hn := not_tup fun ds e => ht ⟨ds, e⟩
      refine ⟨_, rfl, _, _, _, _, false, rfl, .ty _, hx.ty, kit_ty hn, _, rfl, iteT ?_⟩
      refine iteT (bl_to ?_ (k _ (Same.refl _)))
      cases d with
      | tuple ds => exact absurd ⟨ds, rfl⟩ ht
      | _ => rfl
end
end K14
/-! sets of texts, of ints, of tuples of both: one frame (Kit) -/
namespace KS
open PySem PySem.Spec PyProof.Rows L2

/-- what a kind of set gives: a member, its value, the set itself, adding, gathering -/
structure Kit (P : Program) (w : World) (μ κ : Type) where
  key : μ → κ
  mv : Heap → μ → Value → Prop
  sp : Heap → Addr → List μ → Prop
  mvK : ∀ {h h' : Heap} {m : μ} {v : Value}, mv h m v → (∀ b o, h.get? b = some o → h'.get? b = some o) → mv h' m v
  spAt : ∀ {h h' : Heap} {a : Addr} {L : List μ}, sp h a L → (∀ o, h.get? a = some o → h'.get? a = some o) → sp h' a L
  spEx : ∀ {h : Heap} {a : Addr} {L : List μ}, sp h a L → ∃ o, h.get? a = some o ∧ o.cls = .type "set"
  spNd : ∀ {h : Heap} {a : Addr} {L : List μ}, sp h a L → (L.map key).Nodup
  spFew : ∀ {h : Heap} {a : Addr} {L : List μ}, sp h a L → L.length < 64
  fresh : ∀ {h : Heap} {a : Addr}, h.get? a = some { cls := .type "set", dict := none, data := .set #[] 0 (.fresh 0 0 (!w.params.followText "set-order")) } → sp h a []
  add : ∀ {A : Around} {E : Value → Shared → Prop} {s : Shared} {a : Addr} {L : List μ} {m : μ} {v : Value} {Q : Bool → Shared → Prop}, sp s.heap a L → (∀ m ∈ L, ∃ v, mv s.heap m v) → mv s.heap m v → L.length + 1 < 64 → A.units < cLine →
    (∀ b h' tk L', Heap.SameBut a s.heap h' → s.toks ≤ tk → sp h' a L' → (key m ∈ L.map key → L' = L) → (key m ∉ L.map key → L'.Perm (m :: L)) → Q b { s with heap := h', toks := tk }) →
    wpAny (model P w) A (setAdd a v) Q E s
  col : ∀ {A : Around} {E : Value → Shared → Prop} {s : Shared} {a : Addr} {L : List μ} {Q : List Value → Shared → Prop}, sp s.heap a L → (∀ m ∈ L, ∃ v, mv s.heap m v) → A.handled = none →
    (∀ s' out L', (∀ b o, s.heap.get? b = some o → s'.heap.get? b = some o) → s.heap.objs.size ≤ s'.heap.objs.size → s'.gens = s.gens → s'.os = s.os → List.Perm L' L → PySem.W.EachIs (fun v m => mv s.heap m v) out L' → Q out s') →
    wpAny (model P w) A (collect (.ref a)) Q E s

/-! ### ints and texts -/
def kOf : Value → Key
  | .int i _ => .inl i
  | .str x _ => .inr x
  | _ => .inl 0
theorem kOf_is {k : Key} {v : Value} (h : keyIs k v = true) : kOf v = k := by
  rcases keyIs_shape h with
                            ⟨i, t, rfl, rfl⟩ | ⟨x, t, rfl, rfl⟩ <;> rfl
theorem scan_is {k : Key} {v : Value} (h : keyIs k v = true) : v.scannable = true := by
  rcases keyIs_shape h with
                            ⟨i, t, rfl, rfl⟩ | ⟨x, t, rfl, rfl⟩ <;> rfl
/-- an entry -/
def Ent (w : World) (e : Int × Value) : Prop := keyIs (kOf e.2) e.2 = true ∧ e.1 = keyH w (kOf e.2)
def ks (es : List (Int × Value)) : List Key := es.map fun e => kOf e.2
structure SpA (w : World) (h : Heap) (a : Addr) (L : List Key) (es : Array (Int × Value)) (ep : Nat) (t : SetTable) (o : Obj) : Prop where
  ho : h.get? a = some o
  hex : o.ExactSet
  hd : o.data = .set es ep t
  ent : ∀ e ∈ es.toList, Ent w e
  pm : (ks es.toList).Perm L
  nd : L.Nodup
  few : L.length < 64
  fit : t.fits es.size = true
  ris : Ris t.place.toList
  led : w.params.followText "set-order" = true ∨ t.led = true
def Sp (w : World) (h : Heap) (a : Addr) (L : List Key) : Prop := ∃ es ep t o, SpA w h a L es ep t o

section
variable {P : Program} {w : World} {A : Around} {E : Value → Shared → Prop} {s : Shared} {a : Addr} {L : List Key} {es : Array (Int × Value)} {ep : Nat} {t : SetTable} {o : Obj}
theorem SpA.sz {h : Heap} (R : SpA w h a L es ep t o) : es.size = L.length := by
  have e := R.pm.length_eq
  unfold ks at e
  rw [List.length_map, Array.length_toList] at e
  exact e
theorem SpA.bd {h : Heap} (R : SpA w h a L es ep t o) : es.size < scanBound := by
  have e := R.sz
  have f := R.few
  unfold scanBound
  omega
theorem ent_elems {l : List (Int × Value)} (g : ∀ e ∈ l, Ent w e) : ElemsOf (mixKind P w) l := fun e he => ⟨⟨kOf e.2, (g e he).1, (g e he).2⟩, scan_is (g e he).1⟩
theorem mem_ks {l : List (Int × Value)} (g : ∀ e ∈ l, Ent w e) (k : Key) : k ∈ ks l ↔ ∃ e ∈ l, keyIs k e.2 = true := by
  unfold ks
  rw [List.mem_map]
  exact ⟨fun ⟨e, he, q⟩ => ⟨e, he, by rw [← q]; exact (g e he).1⟩, fun ⟨e, he, q⟩ => ⟨e, he, kOf_is q⟩⟩

/-- laid down, relaid if too full -/
theorem put_tail {g : Bool → Sem Unit} (hg : ∀ (b : Bool) (s₁ : Shared) (Q' : Unit → Shared → Prop), Q' () s₁ → wpAny (model P w) A (g b) Q' E s₁)
    {es1 : Array (Int × Value)} {t1 : SetTable} {L1 : List Key} (ho : s.heap.get? a = some o) (hex : o.ExactSet) (hd : o.data = .set es ep t)
    (g1 : ∀ e ∈ es1.toList, Ent w e) (pm1 : (ks es1.toList).Perm L1) (nd1 : L1.Nodup) (few1 : L1.length < 64) (hf : t1.fits es1.size = true) (hr : Ris t1.place.toList) (hl : w.params.followText "set-order" = true ∨ t1.led = true)
    {dummy : Bool} {R : Option Bool → Shared → Prop} (hR : ∀ h', Heap.SameBut a s.heap h' → Sp w h' a L1 → R (some true) { s with heap := h' }) :
    wpAny (model P w) A (do
        storeSet a es1 t1
        if (!dummy && t1.tooFull) = true then do
            g (relayAll t1 es1 (SetTable.grown es1.size)).2.2
            storeSet a (relayAll t1 es1 (SetTable.grown es1.size)).1 (relayAll t1 es1 (SetTable.grown es1.size)).2.1
            pure (some true)
          else pure (some true)) R E s := by
  have l1 : es1.size = L1.length := by
    have e := pm1.length_eq
    unfold ks at e
    rw [List.length_map, Array.length_toList] at e
    exact e
  have z1 : es1.size ≤ sizeLine := by rw [sizeLine_eq]; omega
  refine wpAny_bind (wpAny_storeSet_of ho hd ?_ z1)
  have o1 := store_at (es' := es1) (t' := t1) ho hd
  have b1 := Heap.SameBut.update s.heap a (Obj.putSet es1 t1)
  split
  · have q1 := relayAll_perm t1 es1 (SetTable.grown es1.size)
    have q2 := relayAll_fits t1 es1 (SetTable.grown es1.size)
    have q3 := relayAll_ris t1 es1 (SetTable.grown es1.size)
    have q4 := relayAll_led t1 es1 (SetTable.grown es1.size)
    generalize relayAll t1 es1 (SetTable.grown es1.size) = Z at q1 q2 q3 q4 ⊢
    obtain ⟨es2, t2, gone⟩ := Z
    dsimp only at q1 q2 q3 q4 ⊢
    have z2 : es2.size ≤ sizeLine := by
      rw [← Array.length_toList, q1.length_eq, Array.length_toList]
      exact z1
    refine wpAny_bind (hg _ _ _ ?_)
    refine wpAny_bind (wpAny_storeSet_of o1 rfl ?_ z2)
    have o2 := store_at (es' := es2) (t' := t2) o1 rfl
    exact wpAny_pure (hR _ (b1.trans (Heap.SameBut.update _ a _)) ⟨es2, _, t2, _, o2, hex, rfl, fun e he => g1 e (q1.mem_iff.mp he), (q1.map _).trans pm1, nd1, few1, q2, q3, hl.imp id fun z => by rw [q4]; exact z⟩)
  · exact wpAny_pure (hR _ b1 ⟨es1, _, t1, _, o1, hex, rfl, g1, pm1, nd1, few1, hf, hr, hl⟩)

theorem add_key {k : Key} {v : Value} {Q : Bool → Shared → Prop} (R : SpA w s.heap a L es ep t o) (hk : keyIs k v = true) (room : L.length + 1 < 64)
    (hQ : ∀ b h' L', Heap.SameBut a s.heap h' → Sp w h' a L' → (k ∈ L → L' = L) → (k ∉ L → L'.Perm (k :: L)) → Q b { s with heap := h' }) :
    wpAny (model P w) A (setAddHashed a v (keyH w k)) Q E s := by
  have hsc := scan_is hk
  have hel : ElemsOf (mixKind P w) es.toList := ent_elems R.ent
  unfold setAddHashed setAddHashedIn
  refine wpAny_holding (wpAny_bind (wpAny_setState_of R.ho R.hd R.fit ?_))
  dsimp only
  rw [byScan_of hsc R.bd hel]
  simp only [↓reduceIte]
  unfold setAddByScan
  refine wpAny_bind (wpAny_bind (wpAny_rule ?_))
  refine wpAny_bind (wpAny_setScan_of (knd := mixKind P w) (k := k) hk R.ho R.hd R.fit hel ?_)
  cases hfi : List.findIdx? (fun e => (mixKind P w).is k e.2) es.toList with
  | some j =>
    dsimp only
    obtain ⟨hj, pj, _⟩ := List.findIdx?_eq_some_iff_getElem.mp hfi
    have hin : k ∈ L := R.pm.mem_iff.mp ((mem_ks R.ent k).2 ⟨es.toList[j], List.getElem_mem hj, pj⟩)
    exact wpAny_pure (wpAny_pure (hQ false s.heap L (Heap.SameBut.refl a s.heap) ⟨es, ep, t, o, R⟩ (fun _ => rfl) fun z => absurd hin z))
  | none =>
    dsimp only
    have hno : k ∉ L := fun z => by
      obtain ⟨e, he, q⟩ := (mem_ks R.ent k).1 (R.pm.mem_iff.mpr z)
      have c := List.findIdx?_eq_none_iff.mp hfi e he
      rw [show (mixKind P w).is k e.2 = true from q] at c
      cases c
    have way : ∀ (b : Bool) {s₁ : Shared} {Q' : Unit → Shared → Prop}, Q' () s₁ → wpAny (model P w) A (match b with | true => rule "set.scan.the-table-gave-way" | false => pure ()) Q' E s₁ :=
      fun b s₁ Q' q => by cases b <;> first | exact wpAny_pure q | exact wpAny_rule q
    have q1 := layNew_perm t es (keyH w k) v
    have q2 := layNew_fits t es (keyH w k) v
    have q3 := layNew_ris t es (keyH w k) v R.ris
    have q4 := layNew_led t es (keyH w k) v
    generalize layNew t es (keyH w k) v = Z at q1 q2 q3 q4 ⊢
    obtain ⟨es1, t1, dummy, gone⟩ := Z
    dsimp only at q1 q2 q3 q4 ⊢
    rw [Array.toList_push] at q1
    have p1 : es1.toList.Perm ((keyH w k, v) :: es.toList) := q1.trans (List.perm_append_singleton _ _)
    have g1 : ∀ e ∈ es1.toList, Ent w e := fun e he => by
      rcases List.mem_cons.mp (p1.mem_iff.mp he) with z | z
      · subst z
        show keyIs (kOf v) v = true ∧ keyH w k = keyH w (kOf v)
        rw [kOf_is hk]
        exact ⟨hk, rfl⟩
      · exact R.ent e z
    have pk : (ks es1.toList).Perm (k :: L) := by
      refine (p1.map _).trans ?_
      rw [List.map_cons]
      show List.Perm (kOf v :: ks es.toList) (k :: L)
      rw [kOf_is hk]
      exact R.pm.cons k
    have nd1 : (k :: L).Nodup := List.nodup_cons.mpr ⟨hno, R.nd⟩
    have few1 : (k :: L).length < 64 := by rw [List.length_cons]; exact room
    have led1 : w.params.followText "set-order" = true ∨ t1.led = true := R.led.imp id fun z => by rw [q4]; exact z
    have fin : ∀ h', Heap.SameBut a s.heap h' → Sp w h' a (k :: L) → Q true { s with heap := h' } := fun h' sb r => hQ true h' _ sb r (fun z => absurd z hno) fun _ => List.Perm.refl _
    refine wpAny_bind (way _ ?_)
    split
    · refine wpAny_bind ?_
      rw [hashByValue_scannable 8 hsc]
      refine wpAny_pure ?_
      refine put_tail ?_ R.ho R.hex R.hd g1 pk nd1 few1 ?_ ?_ ?_ ?_
      · intro b s₁ Q' q; cases b <;> first | exact wpAny_pure q | exact wpAny_rule q
      · split <;> first | exact q2 | exact SetTable.fits_plain_off q2
      · split <;> exact q3
      · split <;> exact led1
      · intro h' sb r; dsimp only; exact wpAny_pure (fin h' sb r)
    · refine wpAny_bind (wpAny_pure ?_)
      simp only [↓reduceIte]
      refine put_tail ?_ R.ho R.hex R.hd g1 pk nd1 few1 q2 q3 led1 ?_
      · intro b s₁ Q' q; cases b <;> first | exact wpAny_pure q | exact wpAny_rule q
      · intro h' sb r; dsimp only; exact wpAny_pure (fin h' sb r)
end

theorem each_of {α : Type} {R : Value → α → Prop} {f : Value → α} : ∀ {vs : List Value}, (∀ v ∈ vs, R v (f v)) → PySem.W.EachIs R vs (vs.map f)
  | [], _ => .nil
  | v :: vs, h => .cons (h v List.mem_cons_self) (each_of fun u hu => h u (List.mem_cons_of_mem _ hu))
/-- ints and texts -/
def keyKit (P : Program) (w : World) : Kit P w Key Key where
  key := id
  mv := fun _ k v => keyIs k v = true
  sp := Sp w
  mvK := fun h _ => h
  spAt := fun R k => by
    obtain ⟨es, ep, t, o, R⟩ := R
    exact ⟨es, ep, t, o, { R with ho := k o R.ho }⟩
  spEx := fun R => by
    obtain ⟨es, ep, t, o, R⟩ := R
    exact ⟨o, R.ho, R.hex.1⟩
  spNd := fun R => by
    obtain ⟨es, ep, t, o, R⟩ := R
    rw [List.map_id]
    exact R.nd
  spFew := fun R => by
    obtain ⟨es, ep, t, o, R⟩ := R
    exact R.few
  fresh := fun ho => ⟨#[], 0, _, _, ho, ⟨rfl, rfl, rfl⟩, rfl, fun e he => by simp at he, List.Perm.refl _, List.nodup_nil, by decide, rfl, List.Pairwise.nil, by
    show _ ∨ (!w.params.followText "set-order") = true
    cases w.params.followText "set-order"
    · exact .inr rfl
    · exact .inl rfl⟩
  add := fun {A E s a L m v Q} R _ hk room _ hQ => by
    obtain ⟨es, ep, t, o, R⟩ := R
    unfold setAdd
    refine wpAny_holding (wpAny_bind ((mixKind P w).pyHash (k := m) hk ?_))
    refine add_key (s := { s with toks := s.toks + 1 }) R hk room fun b h' L' sb r c1 c2 => hQ b h' (s.toks + 1) L' sb (Nat.le_succ _) r (fun z => c1 ?_) fun z => c2 ?_
    · rw [List.map_id] at z
      exact z
    · rw [List.map_id] at z
      exact z
  col := fun {A E s a L Q} R _ hh hQ => by
    obtain ⟨es, ep, t, o, R⟩ := R
    refine collect_set hh ⟨o, R.ho, R.hex.1, R.hd⟩ R.fit R.bd R.ris R.led fun s' out k z g os pm => hQ s' out (out.map kOf) k z g os ?_ ?_
    · refine (pm.map kOf).trans ?_
      rw [List.map_map]
      exact R.pm
    · refine each_of fun v hv => ?_
      obtain ⟨e, he, q⟩ := List.mem_map.mp (pm.mem_iff.mp hv)
      rw [← q]
      exact (R.ent e he).1
end KS
set_option maxHeartbeats 3200000
/-! set(xs), sorted(set) over a Kit -/
namespace KS
open PySem PySem.Spec PyProof.Rows L2

/-- the object of a new set -/
def newObj0 (w : World) : Obj := { cls := .type "set", dict := none, data := .set #[] 0 (.fresh 0 0 (!w.params.followText "set-order")) }

section
variable {P : Program} {w : World} {μ κ : Type} (Z : Kit P w μ κ)
/-- L is what the first i of ms make -/
structure From (ms : List μ) (i : Nat) (L : List μ) : Prop where
  sub : ∀ m ∈ L, m ∈ ms.take i
  all : ∀ m ∈ ms.take i, Z.key m ∈ L.map Z.key
  len : L.length ≤ i
theorem From.start (ms : List μ) : From Z ms 0 [] := ⟨(fun m h => by cases h), (fun m h => by simp at h), Nat.le_refl _⟩
variable {Z}
theorem From.step {ms L L' : List μ} {i : Nat} {m : μ} (g : From Z ms i L) (h : ms[i]? = some m) (c1 : Z.key m ∈ L.map Z.key → L' = L) (c2 : Z.key m ∉ L.map Z.key → L'.Perm (m :: L)) : From Z ms (i + 1) L' := by
  have tk : ms.take (i + 1) = ms.take i ++ [m] := take_next h
  rcases Classical.em (Z.key m ∈ L.map Z.key) with c | c
  · rw [c1 c]
    refine ⟨fun x hx => by rw [tk]; exact List.mem_append_left _ (g.sub x hx), fun x hx => ?_, Nat.le_succ_of_le g.len⟩
    rw [tk] at hx
    rcases List.mem_append.mp hx with z | z
    · exact g.all x z
    · rw [List.mem_singleton.mp z]
      exact c
  · have pm := c2 c
    refine ⟨fun x hx => ?_, fun x hx => ?_, by rw [pm.length_eq, List.length_cons]; exact Nat.succ_le_succ g.len⟩
    · rw [tk]
      rcases List.mem_cons.mp (pm.mem_iff.mp hx) with e | z
      · exact List.mem_append_right _ (List.mem_singleton.mpr e)
      · exact List.mem_append_left _ (g.sub x z)
    · rw [(pm.map Z.key).mem_iff, List.map_cons]
      rw [tk] at hx
      rcases List.mem_append.mp hx with z | z
      · exact List.mem_cons_of_mem _ (g.all x z)
      · rw [List.mem_singleton.mp z]
        exact List.mem_cons_self
end

theorem each_get {α : Type} {R : Value → α → Prop} : ∀ {vs : List Value} {ms : List α} {i : Nat} {v : Value}, PySem.W.EachIs R vs ms → vs[i]? = some v → ∃ m, ms[i]? = some m ∧ R v m
  | _, _, _, _, .nil, e => by simp at e
  | _, _, 0, _, .cons r _, e => ⟨_, rfl, by rw [← Option.some.inj e]; exact r⟩
  | _, _, i + 1, v, .cons _ t, e => by
    obtain ⟨m, h1, h2⟩ := each_get (i := i) t (by simpa using e)
    exact ⟨m, by simpa using h1, h2⟩
theorem each_has {α : Type} {R : Value → α → Prop} : ∀ {vs : List Value} {ms : List α} {m : α}, PySem.W.EachIs R vs ms → m ∈ ms → ∃ v, R v m
  | _, _, _, .nil, h => by cases h
  | _, _, m, .cons r t, h => by
    rcases List.mem_cons.mp h with e | h
    · subst e
      exact ⟨_, r⟩
    · exact each_has t h
section
variable {P : Program} {w : World} {A : Around} {E : Value → Shared → Prop} {s : Shared} {μ κ : Type} (Z : Kit P w μ κ)
/-- the loop behind set(..) -/
theorem fill_loop {I : Addr} {fp wr : List Addr} {G : Array GenState → Array GenState → Prop} {n : Nat} {Pv : Nat → Value → Prop} {St : Nat → Shared → Prop} {R : Result → Shared → Prop}
    (W : WalksS P w A.in1 I fp wr G n Pv St) (S : Addr) (hS : S ∉ fp) (ms : List μ) (hn : n = ms.length) (few : ms.length < 64) (h0 : Heap) (hv : ∀ i v, Pv i v → ∃ m, ms[i]? = some m ∧ Z.mv h0 m v) (hm : ∀ m ∈ ms, ∃ v, Z.mv h0 m v)
    (hS0 : h0.get? S = none) (hw : ∀ b ∈ wr, h0.get? b = none) (hu : A.in1.units < cLine) :
    ∀ (k i : Nat) (s : Shared), n - i = k → i ≤ n → St i s → (∀ b o, h0.get? b = some o → s.heap.get? b = some o) → (∃ L, Z.sp s.heap S L ∧ From Z ms i L) →
      (∀ s' L, Moved (S :: wr) G s s' → Z.sp s'.heap S L → From Z ms n L → (∀ b o, h0.get? b = some o → s'.heap.get? b = some o) → R (.ok (.ret .none)) s') →
      codeAny (model P w) A (.builtin "set.update.loop"
                                                        ⟨[.ref S, .ref I], []⟩) R s := by
  have hSw : S ∉ wr := fun h => hS (W.sub _ h)
  have wider : ∀ b ∈ wr, b ∈ S :: wr := fun b hb => List.mem_cons_of_mem _ hb
  have stay : ∀ {s s' : Shared}, Moved wr G s s' → (∀ b o, h0.get? b = some o → s.heap.get? b = some o) → ∀ b o, h0.get? b = some o → s'.heap.get? b = some o := fun q kp b o e =>
    q.heap b o (fun hb => by rw [hw b hb] at e; cases e) (kp b o e)
  intro k
  induction k with
  | zero =>
    intro i s hk hi st kp ⟨L, sp, g⟩ hR
    obtain rfl : i = n := by omega
    refine codeAny_builtin F.entry_set_update_loop ?_
    rw [Around.under_plainId F.plain_set_update_loop _]
    show wpAny _ A.in1 (pyNext (.ref I) >>= _) _ _ s
    refine wpAny_bind (W.done s _ _ st fun s' mv => ?_)
    exact wpAny_pure (hR s' L (mv.mono wider) (Z.spAt sp fun o e => mv.heap S o hSw e) g (stay mv kp))
  | succ k ih =>
    intro i s hk hi st kp ⟨L, sp, g⟩ hR
    have lt : i < n := by omega
    refine codeAny_builtin F.entry_set_update_loop ?_
    rw [Around.under_plainId F.plain_set_update_loop _]
    show wpAny _ A.in1 (pyNext (.ref I) >>= _) _ _ s
    refine wpAny_bind (W.item i s _ _ lt st fun v s1 pv st1 mv => ?_)
    obtain ⟨m, em, vm⟩ := hv i v pv
    have kp1 := stay mv kp
    have sp1 : Z.sp s1.heap S L := Z.spAt sp fun o e => mv.heap S o hSw e
    show wpAny _ A.in1 (holding [v] (setAdd S v) >>= _) _ _ s1
    refine wpAny_bind (wpAny_holding ?_)
    refine Z.add sp1 (fun x hx => ?_) (Z.mvK vm kp1) (by have := g.len; omega) hu fun b h2 tk L' sb ht sp2 c1 c2 => ?_
    · obtain ⟨u, hu⟩ := hm x (List.mem_of_mem_take (g.sub x hx))
      exact ⟨u, Z.mvK hu kp1⟩
    · have kp2 : ∀ b o, h0.get? b = some o → h2.get? b = some o := fun b o e => (sb.2 b (fun z => by rw [z, hS0] at e; cases e)).trans (kp1 b o e)
      refine wpAny_pure ⟨plainId_quiet F.plain_set_update_loop _, ih (i + 1) _ (by omega) lt (W.frame _ s1 _ _ st1 ht fun c hc o e => ?_) kp2 ⟨L', sp2, g.step em c1 c2⟩ fun s3 L3 mv3 sp3 g3 kp3 => ?_⟩
      · rw [sb.2 c (fun h : c = S => hS (by rw [← h]; exact hc))]
        exact e
      · refine hR s3 L3 (Moved.trans W.gtrans ((mv.mono wider).then_heap ht fun c o hc e => ?_) mv3) sp3 g3 kp3
        rw [sb.2 c (fun h : c = S => hc (by rw [h]; exact List.mem_cons_self))]
        exact e

/-- set(xs), xs a list -/
theorem call_set {l : Addr} {items : Array Value} (ms : List μ) {Q : Value → Shared → Prop} (hh : A.handled = none) (hl : s.heap.IsList l items) (hi : PySem.W.EachIs (fun v m => Z.mv s.heap m v) items.toList ms)
    (few : ms.length < 64) (hu : A.units + 3 < cLine)
    (h : ∀ (h' : Heap) (tk : Nat) L, Z.sp h' s.heap.objs.size L → From Z ms ms.length L → (∀ b o, s.heap.get? b = some o → h'.get? b = some o) → Q (.ref s.heap.objs.size) { s with heap := h', toks := tk }) :
    wpAny (model P w) A (call
                              (.type "set") [.ref l]) Q E s := by
  have sz : items.size = ms.length := by
    have q := hi.length
    rw [Array.length_toList] at q
    exact q
  obtain ⟨c, tl, hmro⟩ := F.called_set.mro
  have hmade := F.called_set.made
  have hsub := F.called_set.sub
  refine wpAny_call (codeAny_of_tree ?_)
  show wpAny _ _ (callAny (.type "set") _) _ _ _
  refine wpAny_pure ⟨Code.quiet_builtin _
                                          (by decide +kernel), codeAny_builtin F.entry_type_call ?_⟩
  rw [Around.under_plain
                         (weight_type_call_type "set" [.ref l] []) rfl]
  have h1 := F.called_set.notType
  have h2 := F.called_set.canCreate
  have hct := F.typeCall_set_1 (.ref l)
  repeat (any_goals (first | assumption | wp_step))
  refine codeAny_mono (code_set_led1 (.ref l) (E := E) (Q₁ := fun obj s₁ => obj = .ref s.heap.objs.size ∧ s₁ = { s with heap := s.heap.push (newObj0 w) }) ⟨rfl, rfl⟩) fun r s₁ hr => ?_
  cases r with
  | error e => exact hr
  | ok fl =>
    cases fl with
    | ret obj =>
      obtain ⟨rfl, rfl⟩ := hr
      have hS : (s.heap.push (newObj0 w)).get? s.heap.objs.size = some (newObj0 w) := Heap.get?_push_size _ rfl
      have hT : Shared.TypeIs { s with heap := s.heap.push (newObj0 w) } (.ref s.heap.objs.size) "set" := ⟨_, hS, rfl⟩
      have hli := F.called_set.init.lookup
      have hbi := F.called_set.init.bind (.ref s.heap.objs.size)
      repeat (any_goals (first | assumption | wp_step))
      refine codeAny_mono (codeAny_call_builtin (R := wants (fun r s₂ => r = .none ∧ ∃ h' tk L, s₂ = { s with heap := h', toks := tk } ∧ Z.sp h' s.heap.objs.size L ∧ From Z ms ms.length L ∧
          (∀ b o, s.heap.get? b = some o → h'.get? b = some o)) E) F.called_set.init.plain F.entry_set_init
                                                                                                            (check_set_init_1 hT ?_)) fun r₂ s₂ hr₂ => ?_
      · obtain ⟨ol, hol, hcl, nl, hdl⟩ := hl
        obtain ⟨ocls, odict, odata, oslots⟩ := ol
        simp only at hcl hdl
        subst hcl; subst hdl
        have hol' : (s.heap.push (newObj0 w)).get? l = some { cls := .type "list", dict := odict, data := .seq items nl, slots := oslots } := Heap.get?_push_of_some _ hol
        have hsls := F.sub_list_set
        have hslf := F.sub_list_frozenset
        have hne :
                   (Value.type "list" == Value.type "dict") = false := by decide
        have hl1 : (s.heap.push (newObj0 w)).IsList l items := ⟨_, hol', rfl, nl, rfl⟩
        unfold Builtin.«set.__init__» noKeywords Builtin.Frozenset.updateFrom
        generalize hPI : pyIter = PI
        wp_walk
        subst hPI
        refine wpAny_pyIter_list hl1 ?_
        refine wpAny_bind (wpAny_runValue ?_)
        have lS : l < s.heap.objs.size := Heap.lt_size hol
        have hh3 : A.in1.in1.in1.handled = none := by simp [hh]
        have z1 : (s.heap.push (newObj0 w)).objs.size = s.heap.objs.size + 1 := Heap.size_push ..
        have neI : l ≠ (s.heap.push (newObj0 w)).objs.size := by
          rw [z1]
          exact Nat.ne_of_lt (Nat.lt_succ_of_lt lS)
        have nS : s.heap.objs.size ∉ [(s.heap.push (newObj0 w)).objs.size, l] := by
          rw [z1]
          simp only [List.mem_cons, List.mem_singleton, List.not_mem_nil, or_false, not_or]
          exact ⟨Nat.ne_of_lt (Nat.lt_succ_self _), Nat.ne_of_gt lS⟩
        have vals : ∀ (i : Nat) (v : Value), items[i]? = some v → ∃ m, ms[i]? = some m ∧ Z.mv s.heap m v := fun i v hv => each_get hi (by rw [Array.getElem?_toList]; exact hv)
        have out : ∀ b, s.heap.objs.size ≤ b → s.heap.get? b = none := fun b hb => by
          cases q : s.heap.get? b with
          | none => rfl
          | some o => exact absurd (Nat.lt_of_lt_of_le
                                                       (Heap.lt_size q) hb) (Nat.lt_irrefl _)
        refine fill_loop Z ((Walks.list hh3 _ l neI items).toS) s.heap.objs.size nS ms sz few s.heap vals (fun m hm => each_has hi hm) (out _ (Nat.le_refl _))
          (fun b hb => out b (by rw [List.mem_singleton.mp hb, z1]; exact Nat.le_succ _)) hu (items.size - 0) 0 _ (by omega) (Nat.zero_le _)
          ⟨⟨_, Heap.get?_push_size _ rfl, rfl, rfl⟩, (hl1.push _)⟩ (fun b o e => Heap.get?_push_of_some _ (Heap.get?_push_of_some _ e)) ⟨[], Z.fresh (Heap.get?_push_of_some _ hS), From.start Z ms⟩ ?_
        intro s3 L mv sp g kp
        obtain ⟨h3, g3, d3, tk3, os3⟩ := s3
        have eg : g3 = s.gens := mv.gens
        have ed : d3 = s.drawn := mv.drawn
        have eo : os3 = s.os := mv.os
        subst eg; subst ed; subst eo
        rw [sz] at g
        exact wpAny_pure (wpAny_pure ⟨rfl, h3, tk3, L, rfl, sp, g, kp⟩)
      · cases r₂ with
        | error e => exact hr₂
        | ok fl₂ =>
          cases fl₂ with
          | ret r =>
            obtain ⟨rfl, h', tk, L, rfl, sp, g, kp⟩ := hr₂
            repeat (any_goals (first | assumption | wp_step))
            exact h _ _ _ sp g kp
          | _ => exact hr₂.elim
    | _ => exact hr.elim
end
end KS
set_option maxHeartbeats 3200000
/-! sorted(set) over a Kit -/
namespace KS
open PySem PySem.Spec PyProof.Rows L2
section
variable {P : Program} {w : World} {A : Around} {E : Value → Shared → Prop} {s : Shared} {μ κ : Type} (Z : Kit P w μ κ)
theorem each_reads {enc : μ → PyData} {h h' : Heap} {a : Addr} (rd : ∀ {h : Heap} {m : μ} {v : Value}, Z.mv h m v → Reads h v (enc m) []) (k : ∀ b o, h.get? b = some o → h'.get? b = some o) :
    ∀ {vs : List Value} {ms : List μ}, PySem.W.EachIs (fun v m => Z.mv h m v) vs ms → PySem.W.EachIs (fun v b => ∃ as, Reads h' v (enc b) as ∧ a ∉ as) vs ms
  | _, _, .nil => .nil
  | _, _, .cons r t => .cons ⟨[], rd (Z.mvK r k), by simp⟩ (each_reads rd k t)
/-- sorted(set) -/
theorem sorted_kit {a : Addr} {L : List μ} {enc : μ → PyData} {Q : Value → Shared → Prop} (rd : ∀ {h : Heap} {m : μ} {v : Value}, Z.mv h m v → Reads h v (enc m) []) (R : Z.sp s.heap a L) (hm : ∀ m ∈ L, ∃ v, Z.mv s.heap m v) (hh : A.handled = none)
    (hal : PySem.W.AllAlike (L.map enc)) (hk : PySem.W.Sortable (L.map enc)) (hu : ∀ m ∈ L, A.in1.units + 1 + (enc m).depth < cLine)
    (hQ : ∀ s' p (out : Array Value) (c : Nat) (L1 : List μ), (∀ b o, s.heap.get? b = some o → s'.heap.get? b = some o) → s'.gens = s.gens → s'.os = s.os → s.heap.objs.size ≤ p →
      s'.heap.get? p = some (seqObj "list" out c) → L1.Perm L → PySem.W.EachIs (fun v m => Z.mv s.heap m v) out.toList (L1.mergeSort (PySem.W.dataLe false enc)) → Q (.ref p) s') :
    wpAny (model P w) A (call
                              (.builtin "sorted") [.ref a]) Q E s := by
  have few := Z.spFew R
  refine Calls.call_function_entry kind_sorted plain_sorted entry_sorted
                                                                         (args_sorted1 _) ?_
  unfold Builtin.«sorted»
  refine wpAny_bind
                    (m := checkCount "sorted" 1 1 _) (wpAny_pure ?_)
  refine wpAny_bind (Z.col (A := A.in1) R hm hh fun s1 vs L1 k1 hz g1 o1 pm ei => ?_)
  have len : vs.length = L1.length := ei.length
  have small : vs.length < 64 := by
    rw [len, pm.length_eq]
    exact few
  refine wpAny_bind (wpAny_newList ?_
                                      (by rw [sizeLine_eq]; omega))
  have hoL : (s1.heap.push (seqObj "list" vs.toArray 0)).get? s1.heap.objs.size = some
                                                                                       (seqObj "list" vs.toArray 0) := Heap.get?_push_size _ rfl
  have kk : ∀ b o, s.heap.get? b = some o → (s1.heap.push (seqObj "list" vs.toArray 0)).get? b = some o := fun b o e => Heap.get?_push_of_some _ (k1 b o e)
  have al1 : PySem.W.AllAlike (L1.map enc) := fun d hd d' hd' => hal d ((pm.map enc).mem_iff.mp hd) d' ((pm.map enc).mem_iff.mp hd')
  have so1 : PySem.W.Sortable (L1.map enc) := hk.imp (fun q d hd => q d ((pm.map enc).mem_iff.mp hd)) fun q d hd => q d ((pm.map enc).mem_iff.mp hd)
  refine wpAny_bind (wpAny_holding (PySem.W.list_sort_data (s := { s1 with heap := s1.heap.push (seqObj "list" vs.toArray 0) }) (R := fun v m => Z.mv s.heap m v) hoL ei (each_reads Z rd kk ei) al1 so1 (by rw [← len, sizeLine_eq]; omega) (fun m hm => hu m (pm.mem_iff.mp hm)) fun out e1 e2 => ?_))
  obtain ⟨c, hc⟩ := sortedHeap_at (vs := vs) (out := out.toArray) hoL
  refine wpAny_pure ⟨_, rfl, hQ _ s1.heap.objs.size out.toArray c L1 (fun b u e => ?_) g1 o1 hz hc pm (by simpa using e2)⟩
  have lt := Heap.lt_size e
  show (sortedHeap (s1.heap.push (seqObj "list" vs.toArray 0)) s1.heap.objs.size vs out.toArray).get? b = some u
  rw [sortedHeap_old (Nat.ne_of_lt (Nat.lt_of_lt_of_le lt hz)) (by rw [size_push']; exact Nat.lt_succ_of_lt (Nat.lt_of_lt_of_le lt hz))]
  exact kk b u e
end
end KS
set_option maxHeartbeats 3200000
/-! sets of tuples whose items are ints and texts -/
namespace KS
open PySem PySem.Spec PyProof.Rows L2

abbrev HT (P : Program) (w : World) (k : List Key) : Int := tupleKeyHash (mixKind P w) k
abbrev TpK (P : Program) (w : World) (h : Heap) (k : List Key) (b : Addr) : Prop := IsTupleKey (mixKind P w) h k b
abbrev Mem := Addr × List Key
def hs (P : Program) (w : World) (L : List Mem) : List Int := L.map fun p => HT P w p.2
def rws (P : Program) (w : World) (L : List Mem) : List (Int × Value) := L.map fun p => (HT P w p.2, Value.ref p.1)

section
variable {P : Program} {w : World} {A : Around}
                                                {E : Value → Shared → Prop} {s : Shared}
theorem items_key {k : List Key} {vs : List Value} (h : ItemsAre (mixKind P w) k vs) : ∀ v ∈ vs, ∃ q, keyIs q v = true := by
  induction h with
  | nil => intro v hv; cases hv
  | cons h1 _ ih =>
    intro v hv
    rcases List.mem_cons.mp hv with e | hv
    · rw [e]
      exact ⟨_, h1⟩
    · exact ih v hv
theorem noClass (n : Nat) {q : Key} {v : Value} (h : keyIs q v = true) : ofAClassStatement n v = pure false := by
  rcases keyIs_shape h with ⟨i, t, rfl, rfl⟩ | ⟨x, t, rfl, rfl⟩ <;> cases n <;> rfl
theorem byVal (n : Nat) {q : Key} {v : Value} (h : keyIs q v = true) : ∃ b, hashByValue n v = pure b := by
  rcases keyIs_shape h with ⟨i, t, rfl, rfl⟩ | ⟨x, t, rfl, rfl⟩ <;> cases n <;> exact ⟨_, rfl⟩
theorem tup_noClass {k : List Key} {b : Addr} {Q : Bool → Shared → Prop} (hk : TpK P w s.heap k b) (h : Q false s) : wpAny (model P w) A (ofAClassStatement 8 (.ref b)) Q E s := by
  have hT := hk.typeIs
  obtain ⟨o, its, n, ho, _, hd, hi⟩ := hk
  unfold ofAClassStatement
  refine wpAny_bind (wpAny_typeOf hT ?_)
  dsimp only
  have e : (("tuple" : String) == "tuple") = true := by decide
  simp only [e, if_true, Bool.not_true, Bool.false_eq_true, if_false]
  try refine wpAny_bind (wpAny_pure ?_)
  try simp only [Bool.not_true, Bool.false_eq_true, if_false]
  show wpAny _ _ (seqItems? (.ref b) >>= _) _ _ s
  refine wpAny_bind (wpAny_seqItems ho hd ?_)
  dsimp only
  refine wpAny_bind ?_
  show wpAny _ _ (forIn its _ _) _ _ s
  rw [← Array.forIn_toList]
  refine wpAny_forIn_list _ (fun rest r s' => r.1 = none ∧ s' = s ∧ ∀ v ∈ rest, ∃ q, keyIs q v = true) _ ?_ ?_ _ _ ⟨rfl, rfl, items_key hi⟩
  · rintro v rest r s' ⟨hr, rfl, all⟩
    obtain ⟨q, hq⟩ := all v List.mem_cons_self
    rw [noClass _ hq]
    refine wpAny_bind (wpAny_pure ?_)
    simp only [Bool.false_eq_true, if_false]
    exact wpAny_pure ⟨rfl, rfl, fun u hu' => all u (List.mem_cons_of_mem _ hu')⟩
  · rintro ⟨r1, r2⟩ s' ⟨hr, rfl, _⟩
    simp only at hr
    subst hr
    exact wpAny_pure h
theorem tup_byVal {k : List Key} {b : Addr} {Q : Bool → Shared → Prop} (hk : TpK P w s.heap k b) (h : ∀ z, Q z s) : wpAny (model P w) A (hashByValue 8 (.ref b)) Q E s := by
  have hT := hk.typeIs
  obtain ⟨o, its, n, ho, _, hd, hi⟩ := hk
  unfold hashByValue
  refine wpAny_bind
                    (wpAny_specialOf hT F.slot_tuple_hash.lookup ?_)
  show wpAny _ _ (seqItems? (.ref b) >>= _) _ _ s
  refine wpAny_bind (wpAny_seqItems ho hd ?_)
  refine wpAny_bind ?_
  show wpAny _ _ (forIn its _ _) _ _ s
  rw [← Array.forIn_toList]
  refine wpAny_forIn_list _ (fun rest r s' => r.1 = none ∧ s' = s ∧ ∀ v ∈ rest, ∃ q, keyIs q v = true) _ ?_ ?_ _ _ ⟨rfl, rfl, items_key hi⟩
  · rintro v rest r s' ⟨hr, rfl, all⟩
    obtain ⟨q, hq⟩ := all v List.mem_cons_self
    obtain ⟨z, e⟩ := byVal 7 hq
    rw [e]
    refine wpAny_bind (wpAny_pure ?_)
    cases z with
    | true =>
      simp only [Bool.not_true, Bool.false_eq_true, if_false]
      exact wpAny_pure ⟨rfl, rfl, fun u hu' => all u (List.mem_cons_of_mem _ hu')⟩
    | false =>
      simp only [Bool.not_false, if_true]
      exact wpAny_pure (wpAny_pure (h _))
  · rintro ⟨r1, r2⟩ s' ⟨hr, rfl, _⟩
    simp only at hr
    subst hr
    exact wpAny_pure (h _)
/-- comparing tuples shows nothing -/
theorem tup_unseen {k : List Key} {b : Addr} {Q : Bool → Shared → Prop} (hk : TpK P w s.heap k b) {ys : List Value} (hy : ∀ y ∈ ys, ∃ k' c, y = Value.ref c ∧ TpK P w s.heap k' c) (h : Q false s) :
    wpAny (model P w) A (searchCouldBeSeen
                                           (.ref b) ys) Q E s := by
  unfold searchCouldBeSeen
  refine wpAny_bind ?_
  refine wpAny_forIn_list _ (fun rest r s' => r.1 = none ∧ s' = s ∧ ∀ y ∈ rest, ∃ k' c, y = Value.ref c ∧ TpK P w s.heap k' c) _ ?_ ?_ _ _ ⟨rfl, rfl, hy⟩
  · rintro v rest r s' ⟨hr, rfl, all⟩
    obtain ⟨k', c, rfl, hc⟩ := all v List.mem_cons_self
    have more : ∀ y ∈ rest, ∃ k' c, y = Value.ref c ∧ TpK P w s'.heap k' c := fun u hu' => all u (List.mem_cons_of_mem _ hu')
    dsimp only
    by_cases hv : (b == c || (carriedByValue
                                             (.ref b) && carriedByValue (.ref c))) = true
    · exact wp_if_pos hv (wpAny_pure ⟨rfl, rfl, more⟩)
    · refine wp_if_neg hv (wpAny_bind (wpAny_eqIsQuiet_tuple hk ?_))
      simp only [Bool.not_true, Bool.false_eq_true, if_false]
      refine wpAny_bind (wpAny_eqIsQuiet_tuple hc ?_)
      simp only [Bool.not_true, Bool.false_eq_true, if_false]
      refine wpAny_bind (tup_noClass hk ?_)
      simp only [Bool.false_eq_true, if_false]
      refine wpAny_bind (tup_noClass hc ?_)
      simp only [Bool.false_eq_true, if_false]
      exact wpAny_pure ⟨rfl, rfl, more⟩
  · rintro ⟨r1, r2⟩ s' ⟨hr, rfl, _⟩
    simp only at hr
    subst hr
    exact wpAny_pure h
end

/-! ### the table -/
structure SpT (P : Program) (w : World) (h : Heap) (a : Addr) (L : List Mem) (es : Array (Int × Value)) (ep : Nat) (t : SetTable) (o : Obj) : Prop where
  ho : h.get? a = some o
  hex : o.ExactSet
  hd : o.data = .set es ep t
  rows : es.toList = rws P w L
  tab : TabOk t (hs P w L)
  nd : (L.map (·.2)).Nodup
  led : w.params.followText "set-order" = true ∨ t.led = true
  room : L.length * 5 < t.mask * 3
  few : L.length < 64
section
variable {P : Program} {w : World} {A : Around} {E : Value → Shared → Prop} {s : Shared} {a : Addr} {L : List Mem} {es : Array (Int × Value)} {ep : Nat} {t : SetTable} {o : Obj}
theorem rws_len {es : Array (Int × Value)} {L : List Mem} (h : es.toList = rws P w L) : es.size = L.length := by
  have e := congrArg List.length h
  unfold rws at e
  rw [Array.length_toList, List.length_map] at e
  exact e
theorem hs_len (L : List Mem) : (hs P w L).length = L.length := List.length_map _
theorem fits_of {t : SetTable} {n : Nat} (hz : t.place.size = n) (hd : t.dummies = #[]) (hn : n ≤ t.mask) : t.fits n = true := by
  unfold SetTable.fits SetTable.fill
  rw [hd, Bool.and_eq_true, beq_iff_eq, decide_eq_true_eq]
  show t.place.size = n ∧ t.place.size + 0 ≤ t.mask
  omega
theorem SpT.fit {h : Heap} (R : SpT P w h a L es ep t o) : t.fits es.size = true := by
  have e := R.tab.sz
  rw [hs_len] at e
  have f := rws_len R.rows
  have g := R.room
  exact fits_of (by omega) R.tab.dm (by omega)
theorem SpT.at_ {h : Heap} (R : SpT P w h a L es ep t o) {i : Nat} {p : Mem} (e : L[i]? = some p) : es[i]? = some (HT P w p.2, Value.ref p.1) := by
  rw [← Array.getElem?_toList, R.rows]
  unfold rws
  rw [List.getElem?_map, e] <;> rfl
/-- the c-th step of a search -/
abbrev stp (t : SetTable) (h : Int) (c : Nat) : SetTable.Probe := nth t.mask (runAt t.mask (SetTable.bits h % (t.mask + 1)) (SetTable.bits h)) c
theorem stp_dm (t : SetTable) (h : Int) (c : Nat) : (stp t h c).dummy = none := by
  have key : ∀ (n : Nat) (p : SetTable.Probe), p.dummy = none →
                                                                (nth t.mask p n).dummy = none := by
    intro n
    induction n with
    | zero => intro p h; exact h
    | succ n ih =>
      intro p h
      refine ih (adv t.mask p) ?_
      unfold adv
      split <;> exact h
  exact key c _ rfl
theorem stp_add (t : SetTable) (h : Int) (c q : Nat) : nth t.mask (stp t h c) q = stp t h (c + q) := (nth_add t.mask c _ q).symm

/-- the search, from the c-th step on -/
theorem seek (R : SpT P w s.heap a L es ep t o) (tup : ∀ p ∈ L, TpK P w s.heap p.2 p.1) {x : Addr} {k : List Key} (hx : TpK P w s.heap k x) (hu : A.units < cLine) {K : Nat} (hKf : K < 10 * SetTable.turns t.mask)
    (hK : way t.mask (HT P w k) K ∉ t.place.toList) (hKb : ∀ c, c < K → way t.mask (HT P w k) c ∈ t.place.toList) {Q : SetFound → Shared → Prop}
    (hin : k ∈ L.map (·.2) → Q (.there none) s) (hout : k ∉ L.map (·.2) → Q (.free (way t.mask (HT P w k) K) false) s) :
    ∀ (f c : Nat) (stand : Option SetTable.Probe), stand.getD (t.probeStart (HT P w k)) = stp t (HT P w k) c → c ≤ K → K - c < f →
      (∀ (i : Nat) p, L[i]? = some p → p.2 = k → ∃ c', c ≤ c' ∧ c' < K ∧ t.place.toList[i]? = some (way t.mask (HT P w k) c')) →
      wpAny (model P w) A (setSearchFrom a (.ref x) (HT P w k) true f stand) Q E s
  | 0, c, stand, _, _, hf, _ => absurd hf (Nat.not_lt_zero _)
  | f + 1, c, stand, hst, hc, hf, hre => by
    have gw : ¬ t.gaveWay = true := by
      unfold SetTable.gaveWay
      rw [mask_odd R.tab.mok]
      decide
    rw [setSearchFrom_succ]
    refine wpAny_bind (wpAny_setState_of R.ho R.hd R.fit ?_)
    dsimp only
    refine wp_if_neg gw ?_
    try refine wpAny_bind (wpAny_pure ?_)
    have wj : ∀ q, (nth t.mask (stp t (HT P w k) c) q).j = way t.mask (HT P w k) (c + q) := fun q => congrArg SetTable.Probe.j (stp_add t _ c q)
    have hash_at : ∀ (i : Nat) p, L[i]? = some p → (es[i]?.map (·.1)).getD 0 = HT P w p.2 := fun i p hp => by
      rw [R.at_ hp] <;> rfl
    have spec := go_spec t R.tab.ris R.tab.dm (fun i => (es[i]?.map (·.1)).getD 0) (HT P w k) (10 * SetTable.turns t.mask) (K - c) _ (stp_dm t (HT P w k) c) (by omega)
      (fun q hq => by rw [wj]; exact hKb (c + q) (by omega)) (by rw [wj, show c + (K - c) = K by omega]; exact hK)
    rcases spec with ⟨q, i, hq, hi, hh, hno, hpr⟩ | ⟨hno, hpr⟩
    · have met : t.probe (fun i => (es[i]?.map (·.1)).getD 0) (HT P w k) (stand.getD (t.probeStart (HT P w k))) = some (.candidate (way t.mask (HT P w k) (c + q)) i (stp t (HT P w k) (c + (q + 1)))) := by
        rw [hst, ← wj, ← stp_add]
        exact hpr
      rw [met]
      dsimp only
      rw [wj] at hi
      have hil : i < L.length := by
        have h1 : i < t.place.toList.length :=
                                               (List.getElem?_eq_some_iff.mp hi).1
        have h2 := R.tab.sz
        rw [hs_len] at h2
        rw [Array.length_toList] at h1
        omega
      obtain ⟨p, hp⟩ : ∃ p, L[i]? = some p := ⟨_, List.getElem?_eq_getElem hil⟩
      have pm : p ∈ L := List.mem_of_getElem? hp
      have rest : wpAny (model P w) A (searchRest a (.ref x) (HT P w k) true f es t (way t.mask (HT P w k) (c + q)) i (stp t (HT P w k) (c + (q + 1)))) Q E s := by
        unfold searchRest
        rw [R.at_ hp]
        dsimp only
        refine wpAny_bind (wpAny_holding (wpAny_eqBool_tuple hu (tup p pm) hx ?_))
        refine wpAny_bind (wpAny_setState_of R.ho R.hd R.fit ?_)
        dsimp only
        by_cases same : p.2 = k
        · exact wp_if_pos (by simp [same]) (wpAny_pure (hin (List.mem_map.mpr ⟨p, pm, same⟩)))
        · refine wp_if_neg (by simp [same]) ?_
          try refine wpAny_bind (wpAny_pure ?_)
          rw [sameMem]
          dsimp only
          have here : t.slot (way t.mask (HT P w k) (c + q)) = .live i := slot_live R.tab.ris hi
          simp only [if_true, here, R.at_ hp]
          refine wpAny_bind (wpAny_isSame_ref_self
                                                   (wpAny_bind (wpAny_pure ?_)))
          simp only [if_true]
          refine wp_if_neg (by simp [same]) ?_
          refine seek R tup hx hu hKf hK hKb hin hout f (c + (q + 1)) _ rfl (by omega) (by omega) fun i0 p0 h0 k0 => ?_
          obtain ⟨c', a1, a2, a3⟩ := hre i0 p0 h0 k0
          refine ⟨c', ?_, a2, a3⟩
          -- it has not been passed: neither before the candidate nor at it
          rcases Nat.lt_trichotomy c' (c + q) with z | z | z
          · exact absurd ((hash_at i0 p0 h0).trans (congrArg (HT P w) k0)) (hno (c' - c) i0 (by omega) (by rw [wj, show c + (c' - c) = c' by omega]; exact a3))
          · rw [z] at a3
            have e0 := slot_live R.tab.ris a3
            rw [here] at e0
            injection e0 with e0
            rw [← e0, hp] at h0
            exact absurd ((congrArg Prod.snd (Option.some.inj h0)).trans k0) same
          · omega
      by_cases hl : t.led = true
      · refine wp_if_neg (by simp [hl]) ?_
        try refine wpAny_bind (wpAny_pure ?_)
        exact rest
      · refine wp_if_pos (by simp [hl]) ?_
        refine wpAny_bind (tup_unseen hx (fun y hy => ?_) ?_)
        · obtain ⟨e, he, ee⟩ := List.mem_map.mp hy
          have he1 : e ∈ es ∧ e.1 = HT P w k := by simpa using he
          have he2 : e ∈ es.toList := by simpa using he1.1
          rw [R.rows] at he2
          obtain ⟨p2, m2, e2⟩ := List.mem_map.mp he2
          exact ⟨p2.2, p2.1, by rw [← ee, ← e2], tup p2 m2⟩
        · refine wp_if_neg (by decide) ?_
          try refine wpAny_bind (wpAny_pure ?_)
          exact rest
    · have met : t.probe (fun i => (es[i]?.map (·.1)).getD 0) (HT P w k) (stand.getD (t.probeStart (HT P w k))) = some (.empty (way t.mask (HT P w k) K) none) := by
        have e2 : way t.mask (HT P w k) K = (nth t.mask (stp t (HT P w k) c) (K - c)).j := by
          rw [wj, show c + (K - c) = K by omega]
        rw [hst, e2]
        exact hpr
      rw [met]
      dsimp only
      refine wpAny_pure (hout fun hm => ?_)
      obtain ⟨p0, m0, k0⟩ := List.mem_map.mp hm
      obtain ⟨i0, l0, e0⟩ := List.getElem_of_mem m0
      have h0 : L[i0]? = some p0 := by rw [List.getElem?_eq_getElem l0, e0]
      obtain ⟨c', a1, a2, a3⟩ := hre i0 p0 h0 k0
      exact absurd ((hash_at i0 p0 h0).trans (congrArg (HT P w) k0)) (hno (c' - c) i0 (by omega) (by rw [wj, show c + (c' - c) = c' by omega]; exact a3))
theorem seek0 (R : SpT P w s.heap a L es ep t o) (tup : ∀ p ∈ L, TpK P w s.heap p.2 p.1) {x : Addr} {k : List Key} (hx : TpK P w s.heap k x) (hu : A.units < cLine) {Q : SetFound → Shared → Prop}
    (hin : k ∈ L.map (·.2) → Q (.there none) s)
    (hout : ∀ K, k ∉ L.map (·.2) → way t.mask (HT P w k) K ∉ t.place.toList → (∀ c, c < K → way t.mask (HT P w k) c ∈ t.place.toList) → Q (.free (way t.mask (HT P w k) K) false) s) :
    wpAny (model P w) A (setSearch a (.ref x) (HT P w k) true) Q E s := by
  have hroom := R.room
  obtain ⟨K, f1, f2, f3⟩ := R.tab.first (by rw [hs_len]; omega) (HT P w k)
  have big : 10 * SetTable.turns t.mask ≤ 1420 := by
    unfold SetTable.turns
    rcases R.tab.mok with e | e | e <;> omega
  unfold setSearch
  refine seek R tup hx hu f1 f2 f3 hin (fun hn => hout K hn f2 f3) 100000 0 none rfl (Nat.zero_le _) (by omega) fun i p hp hk => ?_
  have hi : (hs P w L)[i]? = some (HT P w k) := by
    unfold hs
    rw [List.getElem?_map, hp, ← hk] <;> rfl
  have lt : i < t.place.toList.length := by
    have h1 : i < L.length :=
                              (List.getElem?_eq_some_iff.mp hp).1
    have h2 := R.tab.sz
    rw [hs_len] at h2
    rw [Array.length_toList]
    omega
  obtain ⟨c, hc, e⟩ := R.tab.before f2 hi (List.getElem?_eq_getElem lt)
  exact ⟨c, Nat.zero_le _, hc, by rw [List.getElem?_eq_getElem lt, e]⟩
end
end KS
set_option maxHeartbeats 3200000
namespace KS
open PySem PySem.Spec PyProof.Rows L2

section
variable {P : Program} {w : World} {A : Around} {E : Value → Shared → Prop} {s : Shared} {a : Addr} {L : List Mem} {es : Array (Int × Value)} {ep : Nat} {t : SetTable} {o : Obj}
/-- a tuple is not the set that changes -/
theorem tt_same {h h' : Heap} {k : List Key} {b : Addr} (x : TpK P w h k b) (ho : h.get? a = some o) (hd : o.data = .set es ep t) (sb : Heap.SameBut a h h') : TpK P w h' k b := by
  obtain ⟨u, its, n, hu, hc, hd', hi⟩ := x
  refine ⟨u, its, n, (sb.2 b ?_).trans hu, hc, hd', hi⟩
  rintro rfl
  rw [ho] at hu
  rw [← Option.some.inj hu, hd] at hd'
  exact nomatch hd'
theorem tt_keep {h h' : Heap} {k : List Key} {b : Addr} (x : TpK P w h k b) (kk : ∀ c o, h.get? c = some o → h'.get? c = some o) : TpK P w h' k b := by
  obtain ⟨u, its, n, hu, r⟩ := x
  exact ⟨u, its, n, kk b u hu, r⟩
theorem hs_ins (L : List Mem) (i : Nat) (m : Mem) : hs P w (L.take i ++ m :: L.drop i) = (hs P w L).take i ++ HT P w m.2 :: (hs P w L).drop i := by
  unfold hs
  rw [List.map_append, List.map_cons, List.map_take, List.map_drop]
theorem rws_ins (L : List Mem) (i : Nat) (m : Mem) : rws P w (L.take i ++ m :: L.drop i) = (rws P w L).take i ++ (HT P w m.2, Value.ref m.1) :: (rws P w L).drop i := by
  unfold rws
  rw [List.map_append, List.map_cons, List.map_take, List.map_drop]
/-- rows picked by an order -/
theorem picked {es : Array (Int × Value)} (hr : es.toList = rws P w L) : ∀ l : List Nat, (∀ i ∈ l, i < L.length) →
    l.filterMap (fun i => es[i]?) = rws P w (l.filterMap fun i => L[i]?) ∧ hs P w (l.filterMap fun i => L[i]?) = l.map fun i => (es.map (·.1)).getD i 0
  | [], _ => ⟨rfl, rfl⟩
  | i :: l, hl => by
    have lt := hl i List.mem_cons_self
    obtain ⟨e1, e2⟩ := picked hr l fun j hj => hl j (List.mem_cons_of_mem _ hj)
    have q : L[i]? = some L[i] := List.getElem?_eq_getElem lt
    have en : es[i]? = some (HT P w (L[i]).2, Value.ref (L[i]).1) := by
      rw [← Array.getElem?_toList, hr]
      unfold rws
      rw [List.getElem?_map, q] <;> rfl
    have eg : (es.map (·.1)).getD i 0 = HT P w (L[i]).2 := by
      have e5 : (es.map (·.1))[i]? = some (HT P w (L[i]).2) := by rw [Array.getElem?_map, en] <;> rfl
      simp [Array.getD_eq_getD_getElem?, e5]
    refine ⟨?_, ?_⟩
    · rw [List.filterMap_cons_some en, List.filterMap_cons_some q, e1] <;> rfl
    · rw [List.filterMap_cons_some q, List.map_cons, eg, ← e2] <;> rfl
theorem pick_all {α : Type} (L : List α) : ∀ n, n ≤ L.length → (List.range n).filterMap (fun i => L[i]?) = L.take n
  | 0, _ => rfl
  | n + 1, h => by
    have lt : n < L.length := h
    rw [List.range_succ, List.filterMap_append, pick_all L n (Nat.le_of_lt lt), List.take_succ, List.getElem?_eq_getElem lt, List.filterMap_cons_some (List.getElem?_eq_getElem lt)] <;> rfl

theorem relay (ho : s.heap.get? a = some o) (hex : o.ExactSet) (hd : o.data = .set es ep t) (hr : es.toList = rws P w L) (hz : t.place.size = es.size) (dm : t.dummies = #[]) (hm : es.size ≤ t.mask)
    (nd : (L.map (·.2)).Nodup) (led : w.params.followText "set-order" = true ∨ t.led = true) (few : L.length < 64) {wanted M : Nat} (hw : SetTable.sizeAbove wanted - 1 = M) (hM : MaskOk M) (h128 : SetTable.sizeAbove wanted ≤ 128) (room : L.length * 5 < M * 3)
    {Q : Unit → Shared → Prop} (hQ : ∀ h' L' es' ep' t' o', Heap.SameBut a s.heap h' → SpT P w h' a L' es' ep' t' o' → L'.Perm L → Q () { s with heap := h' }) : wpAny (model P w) A (setRelay a wanted) Q E s := by
  have len := rws_len hr
  obtain ⟨t', order, e, pm, T, em, el, _, _⟩ := relaid_ok t (hs := es.map (·.1)) (wanted := wanted) hw hM (by rw [Array.size_map, len]; omega)
  rw [Array.size_map, len] at pm
  obtain ⟨r1, r2⟩ := picked (P := P) (w := w) hr order.toList fun i hi => List.mem_range.mp (pm.mem_iff.mp hi)
  have p2 : (order.toList.filterMap fun i => L[i]?).Perm L := by
    have q := pm.filterMap fun i => L[i]?
    rw [pick_all L L.length (Nat.le_refl _), List.take_length] at q
    exact q
  generalize order.toList.filterMap (fun i => L[i]?) = L2 at r1 r2 p2
  rw [← r2] at T
  have r1' : (order.filterMap (es[·]?)).toList = rws P w L2 := by first | (rw [Array.toList_filterMap]; exact r1) | simpa using r1
  have sz2 : (order.filterMap (es[·]?)).size = es.size := by rw [rws_len r1', p2.length_eq, len]
  rw [setRelay_eq]
  refine wpAny_bind (wpAny_setState_of ho hd (fits_of hz dm hm) ?_)
  dsimp only
  refine wp_if_neg (by rw [sizeLine_eq]; omega) ?_
  try refine wpAny_bind (wpAny_pure ?_)
  rw [e]
  dsimp only
  refine wpAny_bind ?_
  refine wp_if_neg (by rw [sz2]; simp) ?_
  try refine wpAny_bind (wpAny_pure ?_)
  refine wpAny_pure ?_
  dsimp only
  refine wpAny_storeSet_of ho hd ?_ (by rw [sz2, len, sizeLine_eq]; omega)
  exact hQ _ L2 _ (ep + 1) t' _ (Heap.SameBut.update ..) ⟨store_at ho hd, ⟨hex.1, hex.2.1, hex.2.2⟩, rfl, r1', T, (p2.map (·.2)).nodup_iff.mpr nd, by rw [el]; exact led, by rw [p2.length_eq, em]; exact room, by rw [p2.length_eq]; exact few⟩ p2

theorem add_tup (R : SpT P w s.heap a L es ep t o) (tup : ∀ p ∈ L, TpK P w s.heap p.2 p.1) {x : Addr} {k : List Key} (hx : TpK P w s.heap k x) (hu : A.units < cLine) (few : L.length + 1 < 64) {Q : Bool → Shared → Prop}
    (hQ : ∀ b h' L' es' ep' t' o', Heap.SameBut a s.heap h' → SpT P w h' a L' es' ep' t' o' → (k ∈ L.map (·.2) → L' = L) → (k ∉ L.map (·.2) → L'.Perm ((x, k) :: L)) → Q b { s with heap := h' }) :
    wpAny (model P w) A (setAddHashed a (.ref x) (HT P w k)) Q E s := by
  have hroom := R.room
  unfold setAddHashed
  refine wpAny_holding ?_
  rw [show (100000 : Nat) = 99999 + 1 from rfl, setAddHashedIn_succ]
  refine wpAny_bind (wpAny_setState_of R.ho R.hd R.fit ?_)
  dsimp only
  refine wp_if_neg (by simp [byScan, Value.scannable]) ?_
  try refine wpAny_bind (wpAny_pure ?_)
  refine wpAny_bind (seek0 R tup hx hu (fun hm => ?_) fun K hm hK hb => ?_)
  · exact wpAny_pure (hQ false s.heap L es ep t o (Heap.SameBut.refl a s.heap) R (fun _ => rfl) fun z => absurd hm z)
  dsimp only
  refine wpAny_bind (wpAny_setState_of R.ho R.hd R.fit ?_)
  dsimp only
  obtain ⟨q1, q2, q3, q4, q5, _, _, _, q9⟩ := R.tab.put hK hb
  generalize t.put (way t.mask (HT P w k) K) = pt at q1 q3 q4 q5 q9 ⊢
  obtain ⟨t1, i⟩ := pt
  dsimp only at q1 q3 q4 q5 q9 ⊢
  subst q1
  generalize SetTable.below t.place (way t.mask (HT P w k) K) = i at q2 q3 ⊢
  rw [← hs_ins L i (x, k)] at q3
  rw [hs_len] at q9
  have pm : (L.take i ++ (x, k) :: L.drop i).Perm ((x, k) :: L) := put_perm L i (x, k)
  have hr : (SetTable.insertAt es i (HT P w k, Value.ref x)).toList = rws P w (L.take i ++ (x, k) :: L.drop i) := by rw [SetTable.toList_insertAt, rws_ins, R.rows]
  have len : (L.take i ++ (x, k) :: L.drop i).length = L.length + 1 := pm.length_eq
  have nd1 : ((L.take i ++ (x, k) :: L.drop i).map (·.2)).Nodup := by
    refine (pm.map (·.2)).nodup_iff.mpr ?_
    rw [List.map_cons]
    exact List.nodup_cons.mpr ⟨hm, R.nd⟩
  generalize SetTable.insertAt es i (HT P w k, Value.ref x) = es1 at hr ⊢
  generalize L.take i ++ (x, k) :: L.drop i = L1 at pm hr len nd1 q3
  have sz1 : es1.size = L.length + 1 := by rw [rws_len hr, len]
  have led1 : w.params.followText "set-order" = true ∨ t1.led = true := by rw [q5]; exact R.led
  have lenT : t1.place.size = L.length + 1 := by
    have e := q3.sz
    rw [hs_len, len] at e
    exact e
  rw [rws_len R.rows]
  -- what follows, whether or not the table stays plain
  have rest : ∀ t2 : SetTable, t2.mask = t1.mask → t2.place = t1.place → t2.dummies = t1.dummies → t2.led = t1.led → TabOk t2 (hs P w L1) →
      wpAny (model P w) A (do
        storeSet a es1 t2
        if (!false && t2.tooFull) = true then setRelay a (SetTable.grown (L.length + 1))
        return true) Q E s := fun t2 m2 p2 d2 l2 T2 => by
    refine wpAny_bind (wpAny_storeSet_of R.ho R.hd ?_ (by rw [sz1, sizeLine_eq]; omega))
    have sb : Heap.SameBut a s.heap (s.heap.update a (Obj.putSet es1 t2)) := Heap.SameBut.update ..
    have o1 := store_at (es' := es1) (t' := t2) R.ho R.hd
    generalize s.heap.update a (Obj.putSet es1 t2) = h1 at sb o1 ⊢
    have led2 : w.params.followText "set-order" = true ∨ t2.led = true := by rw [l2]; exact led1
    have fill2 : t2.fill = L.length + 1 := by
      show t2.place.size + t2.dummies.size = L.length + 1
      rw [p2, d2]
      exact q9
    by_cases full : t2.tooFull = true
    · have big : (L.length + 1) * 5 ≥ t2.mask * 3 := by
        have h := full
        unfold SetTable.tooFull at h
        rw [decide_eq_true_eq, fill2] at h
        exact h
      have two : (t.mask = 7 ∧ L.length = 4) ∨ (t.mask = 31 ∧ L.length = 18) := by
        rcases R.tab.mok with e | e | e
        · left; rw [m2, q4, e] at big; rw [e] at hroom; exact ⟨e, by omega⟩
        · right; rw [m2, q4, e] at big; rw [e] at hroom; exact ⟨e, by omega⟩
        · exfalso; rw [m2, q4, e] at big; omega
      have go : ∀ M, SetTable.sizeAbove (SetTable.grown (L.length + 1)) - 1 = M → MaskOk M → SetTable.sizeAbove
                                                                                                                (SetTable.grown (L.length + 1)) ≤ 128 → (L.length + 1) * 5 < M * 3 →
          wpAny (model P w) A (setRelay a (SetTable.grown (L.length + 1))) (fun _ s' => wpAny (model P w) A (pure true) Q E s') E { s with heap := h1 } := fun M g1 g2 g3 g4 => by
        refine relay (s := { s with heap := h1 }) o1 ⟨R.hex.1, R.hex.2.1, R.hex.2.2⟩ rfl hr (by rw [p2, lenT, sz1]) (by rw [d2]; exact q3.dm) (by rw [sz1, m2, q4]; rcases two with ⟨e, e2⟩ | ⟨e, e2⟩ <;> omega) nd1 led2 (by rw [len]; exact few) g1 g2 g3 (by rw [len]; exact g4) ?_
        intro h2 L3 es3 ep3 t3 o3 sb3 R3 pm3
        exact wpAny_pure (hQ true h2 L3 es3 ep3 t3 o3 (sb.trans sb3) R3 (fun z => absurd z hm) fun _ => pm3.trans pm)
      first
        | (refine wpAny_bind ?_; refine wp_if_pos (by simp [full]) ?_)
        | (refine wp_if_pos (by simp [full]) ?_; refine wpAny_bind ?_)
      rcases two with ⟨_, e2⟩ | ⟨_, e2⟩
      · exact go 31 (by rw [e2, size_20]) (.inr (.inl rfl)) (by rw [e2, size_20]; decide) (by omega)
      · exact go 127 (by rw [e2, size_76]) (.inr (.inr rfl)) (by rw [e2, size_76]; decide) (by omega)
    · first
        | refine wp_if_neg (by simp [full]) ?_
        | (refine wpAny_bind ?_; refine wp_if_neg (by simp [full]) ?_; refine wpAny_pure ?_)
      refine wpAny_pure (hQ true h1 L1 es1 (ep + 1) t2 _ sb ⟨o1, ⟨R.hex.1, R.hex.2.1, R.hex.2.2⟩, rfl, hr, T2, nd1, led2, ?_, by rw [len]; exact few⟩ (fun z => absurd z hm) fun _ => pm)
      have h := full
      unfold SetTable.tooFull at h
      rw [decide_eq_true_eq, fill2] at h
      rw [len]
      omega
  have T0 : TabOk { t1 with plain := false } (hs P w L1) := ⟨q3.ris, q3.dm, q3.sz, q3.mok, q3.bd, q3.reach⟩
  by_cases pl : t1.plain = true
  · first
      | (refine wpAny_bind ?_; refine wp_if_pos pl ?_; refine tup_byVal hx fun z => ?_)
      | refine wp_if_pos pl (wpAny_bind (tup_byVal hx fun z => ?_))
    cases z with
    | true =>
      simp only [if_true]
      exact rest t1 rfl rfl rfl rfl q3
    | false =>
      simp only [Bool.false_eq_true, if_false]
      exact rest { t1 with plain := false } rfl rfl rfl rfl T0
  · first
      | (refine wpAny_bind ?_; refine wp_if_neg pl ?_; refine wpAny_pure ?_)
      | refine wp_if_neg pl (wpAny_bind (wpAny_pure ?_))
    simp only [if_true]
    exact rest t1 rfl rfl rfl rfl q3
end
end KS
set_option maxHeartbeats 3200000
namespace KS
open PySem PySem.Spec PyProof.Rows L2

theorem perm_pre {α β : Type} {f : α → β} {out l : List β} (p : out.Perm l) : ∀ L : List α, l = L.map f → ∃ L' : List α, L'.Perm L ∧ out = L'.map f := by
  induction p with
  | nil =>
    intro L e
    cases L with
    | nil => exact ⟨[], .nil, rfl⟩
    | cons x L => exact nomatch e
  | cons x _ ih =>
    intro L e
    cases L with
    | nil => exact nomatch e
    | cons y L =>
      rw [List.map_cons] at e
      injection e with e1 e2
      obtain ⟨L', q1, q2⟩ := ih L e2
      exact ⟨y :: L', q1.cons y, by rw [List.map_cons, ← q2, e1]⟩
  | swap x y l =>
    intro L e
    match L, e with
    | a :: b :: L, e =>
      rw [List.map_cons, List.map_cons] at e
      injection e with e1 e2
      injection e2 with e2 e3
      exact ⟨b :: a :: L, .swap _ _ _, by rw [List.map_cons, List.map_cons, e1, e2, e3]⟩
  | trans _ _ ih1 ih2 =>
    intro L e
    obtain ⟨L2, q1, q2⟩ := ih2 L e
    obtain ⟨L1, q3, q4⟩ := ih1 L2 q2
    exact ⟨L1, q3.trans q1, q4⟩
theorem each_map_of {α : Type} {R : Value → α → Prop} {f : α → Value} : ∀ {ms : List α}, (∀ m ∈ ms, R (f m) m) → PySem.W.EachIs R (ms.map f) ms
  | [], _ => .nil
  | m :: ms, h => .cons (h m List.mem_cons_self) (each_map_of fun u hu => h u (List.mem_cons_of_mem _ hu))

/-- tuples of ints and texts -/
def tupKit (P : Program) (w : World) : Kit P w Mem (List Key) where
  key := fun m => m.2
  mv := fun h m v => v = .ref m.1 ∧ TpK P w h m.2 m.1
  sp := fun h a L => ∃ es ep t o, SpT P w h a L es ep t o
  mvK := fun x k => ⟨x.1, tt_keep x.2 k⟩
  spAt := fun R k => by
    obtain ⟨es, ep, t, o, R⟩ := R
    exact ⟨es, ep, t, o, { R with ho := k o R.ho }⟩
  spEx := fun R => by
    obtain ⟨es, ep, t, o, R⟩ := R
    exact ⟨o, R.ho, R.hex.1⟩
  spNd := fun R => by
    obtain ⟨es, ep, t, o, R⟩ := R
    exact R.nd
  spFew := fun R => by
    obtain ⟨es, ep, t, o, R⟩ := R
    exact R.few
  fresh := fun ho => ⟨#[], 0, _, _, ho, ⟨rfl, rfl, rfl⟩, rfl, rfl, ⟨List.Pairwise.nil, rfl, rfl, .inl rfl, (fun x hx => by cases hx), fun i h j hi => by simp [hs] at hi⟩, List.nodup_nil, (by
    show _ ∨ (!w.params.followText "set-order") = true
    cases w.params.followText "set-order"
    · exact .inr rfl
    · exact .inl rfl), (by show 0 * 5 < 7 * 3; decide), by show 0 < 64; decide⟩
  add := fun {A E s a L m v Q} R ht hk room hu hQ => by
    obtain ⟨es, ep, t, o, R⟩ := R
    obtain ⟨rfl, hx⟩ := hk
    unfold setAdd
    refine wpAny_holding (wpAny_bind (wpAny_pyHash_tuple hu hx ?_))
    refine add_tup (s := { s with toks := s.toks + (m.2.length + 1) }) R (fun p hp => ?_) hx hu room fun b h' L' es' ep' t' o' sb r c1 c2 => hQ b h' _ L' sb (Nat.le_add_right _ _) ⟨es', ep', t', o', r⟩ c1 c2
    obtain ⟨_, _, q⟩ := ht p hp
    exact q
  col := fun {A E s a L Q} R ht hh hQ => by
    obtain ⟨es, ep, t, o, R⟩ := R
    have few := R.few
    refine collect_set hh ⟨o, R.ho, R.hex.1, R.hd⟩ R.fit (by rw [rws_len R.rows]; unfold scanBound; omega) R.tab.ris R.led fun s' out k z g os pm => ?_
    have e : es.toList.map (·.2) = L.map fun p => Value.ref p.1 := by
      rw [R.rows]
      unfold rws
      rw [List.map_map] <;> rfl
    obtain ⟨L', q1, q2⟩ := perm_pre pm L e
    subst q2
    refine hQ s' _ L' k z g os q1 (each_map_of fun m hm => ⟨rfl, ?_⟩)
    obtain ⟨_, _, q⟩ := ht m (q1.mem_iff.mp hm)
    exact q
end KS
set_option maxHeartbeats 3200000
/-! rules over tracked heaps: set(xs), sorted(set), the comprehension's add -/
namespace KS
open PySem PySem.Spec PyProof.Rows L2

/-- the set at a with the members L -/
def SetO {P : Program} {w : World} {μ κ : Type} (Z : Kit P w μ κ) (a : Addr) (L : List μ) : HO := .ext fun h => Z.sp h a L
theorem setO_new {P : Program} {w : World} {μ κ : Type} {Z : Kit P w μ κ} {H : Hp} {h : Heap} {a : Addr} {L : List μ} (R : Z.sp h a L) : ObjOk P w H h a (SetO Z a L) := by
  have ⟨o, ho, _⟩ := Z.spEx R
  exact ⟨R, ⟨o, ho⟩, fun h1 h2 p k => Z.spAt p k⟩
/-- how members stand in a tracked heap -/
structure Lnk (X : Cx) {μ κ : Type} (Z : Kit X.prog X.w μ κ) where
  vOf : μ → V
  ok : Hp → μ → Prop
  get : ∀ {pins : List (Addr × Obj)} {σ : L2.St} {H : Hp} {s : Shared} {m : μ} {u : Value}, Inv X pins σ H s → ok H m → RelV (vOf m) u → Z.mv s.heap m u
  some_ : ∀ m, ∃ u, RelV (vOf m) u
  back : ∀ {h : Heap} {m : μ} {u : Value}, Z.mv h m u → RelV (vOf m) u
section
variable {X : Cx} {μ κ : Type} {Z : Kit X.prog X.w μ κ} (K : Lnk X Z)
def linkKey (X : Cx) : Lnk X (keyKit X.prog X.w) where
  vOf := kV
  ok := fun _ _ => True
  get := fun _ _ r => kV_is (P := X.prog) (w := X.w) r
  some_ := fun m => by
    cases m with
    | inl i => exact ⟨.int i 0, 0, rfl⟩
    | inr x => exact ⟨.str x 0, 0, rfl⟩
  back := fun {h m u} q => by
    rcases keyIs_shape (show keyIs m u = true from q) with ⟨i, t, rfl, rfl⟩ | ⟨x, t, rfl, rfl⟩ <;> exact ⟨t, rfl⟩
def linkTup (X : Cx) : Lnk X (tupKit X.prog X.w) where
  vOf := fun m => .ref m.1
  ok := fun H m => SqT X.K H m.1 (m.2.map kV)
  get := fun {pins σ H s m u} I h r => by
    cases r
    obtain ⟨its, rv, ⟨o, ho, hc, n, hd⟩, _⟩ := I.tuple h
    exact ⟨rfl, o, its.toArray, n, ho, hc, hd, by simpa using items_are rv⟩
  some_ := fun m => ⟨.ref m.1, rfl⟩
  back := fun q => q.1
theorem vals_each {pins : List (Addr × Obj)} {σ : L2.St} {H : Hp} {s : Shared} (I : Inv X pins σ H s) : ∀ {ms : List μ} {us : List Value}, (∀ m ∈ ms, K.ok H m) → Vals (ms.map K.vOf) us → PySem.W.EachIs (fun v m => Z.mv s.heap m v) us ms
  | [], _, _, r => by cases r; exact .nil
  | m :: ms, _, h, r => by
    cases r with
    | cons r t => exact .cons (K.get I (h m List.mem_cons_self) r) (vals_each I (fun x hx => h x (List.mem_cons_of_mem _ hx)) t)
theorem each_vals {h : Heap} : ∀ {us : List Value} {ms : List μ}, PySem.W.EachIs (fun v m => Z.mv h m v) us ms → Vals (ms.map K.vOf) us
  | _, _, .nil => .nil
  | _, _, .cons r t => .cons (K.back r) (each_vals t)
theorem all_mv {pins : List (Addr × Obj)} {σ : L2.St} {H : Hp} {s : Shared} (I : Inv X pins σ H s) {L : List μ} (h : ∀ m ∈ L, K.ok H m) : ∀ m ∈ L, ∃ v, Z.mv s.heap m v := fun m hm => by
  obtain ⟨u, hu⟩ := K.some_ m
  exact ⟨u, K.get I (h m hm) hu⟩
/-- set(xs), xs a list of members -/
def rSetOf : List V → Hp → VK → Prop := fun xs H Q => ∃ (l : Addr) (ms : List μ), xs = [V.ref l] ∧ SqL X.K H l (ms.map K.vOf) ∧ (∀ m ∈ ms, K.ok H m) ∧ ms.length < 64 ∧
  ∀ a L, H a = none → From Z ms ms.length L → (L.map Z.key).Nodup → Q (.ref a) (upd H a (SetO Z a L))
theorem cr_setOf (hc : X.calm = true) (hu : X.A.units + 3 < cLine) : CallR X (.type "set") (rSetOf K) := by
  intro pins s σ H xs us Q I r h
  obtain ⟨l, ms, rfl, hl, hk, hf, q⟩ := h
  rw [Vals.ref1 r]
  obtain ⟨its, rv, pl, hz⟩ := I.list hl
  refine call_set Z ms (I.ok.hd hc) pl.isList (by simpa using vals_each K I hk rv) hf hu fun h' tk L R g k => ?_
  exact ⟨.ref s.heap.objs.size, upd H s.heap.objs.size (SetO Z s.heap.objs.size L), I.laid (t' := tk) k (Nat.le_refl _) (setO_new R), rfl, q _ L (I.hok.fresh (Nat.le_refl _)) g (Z.spNd R)⟩
/-- sorted(set) -/
def rSortedK (enc : μ → PyData) : List V → Hp → VK → Prop := fun vs H Q => ∃ (a : Addr) (L : List μ), vs = [V.ref a] ∧ H a = some (SetO Z a L) ∧ (∀ m ∈ L, K.ok H m) ∧ PySem.W.AllAlike (L.map enc) ∧ PySem.W.Sortable (L.map enc) ∧
  ∀ (L1 : List μ) (p : Addr), L1.Perm L → (L.map Z.key).Nodup → H p = none → Q (.ref p) (upd H p (.lst ((L1.mergeSort (PySem.W.dataLe false enc)).map K.vOf)))
theorem cr_sortedK {enc : μ → PyData} (hc : X.calm = true) (rd : ∀ {h : Heap} {m : μ} {v : Value}, Z.mv h m v → Reads h v (enc m) []) (hu : ∀ m, X.A.in1.units + 1 + (enc m).depth < cLine) : CallR X (.builtin "sorted") (rSortedK K enc) := by
  intro pins s σ H vs us Q I r h
  obtain ⟨a, L, rfl, ha, hk, al, so, q⟩ := h
  have R : Z.sp s.heap a L := (I.hok a _ ha).1
  rw [Vals.ref1 r]
  refine sorted_kit Z rd R (all_mv K I hk) (I.ok.hd hc) al so (fun m _ => hu m) fun s' p out c L1 k g o hp hg pm ei => ?_
  have few : (L1.mergeSort (PySem.W.dataLe false enc)).length < 64 := by
    rw [List.length_mergeSort, pm.length_eq]
    exact Z.spFew R
  have hlen : ((L1.mergeSort (PySem.W.dataLe false enc)).map K.vOf).length ≤ sizeLine := by
    rw [List.length_map, sizeLine_eq]
    omega
  have hn : H p = none := I.hok.fresh hp
  have J : Inv X pins σ (upd H p (.lst ((L1.mergeSort (PySem.W.dataLe false enc)).map K.vOf))) { s with heap := s'.heap, gens := s'.gens, drawn := s'.drawn, toks := s'.toks } :=
    I.call (ch := []) (Un.laid k hp hn) (I.hok.laid k hp ⟨hlen, out.toList, c, each_vals K ei, hg⟩) (by rw [g]; exact I.bare) (fun _ z => nomatch z)
  have e : s' =
                { s with heap := s'.heap, gens := s'.gens, drawn := s'.drawn, toks := s'.toks } := by
    cases s'
    cases s
    cases o
    rfl
  rw [e]
  exact ⟨.ref p, _, J, rfl, q L1 p pm (Z.spNd R) hn⟩
end
section
variable {P : Program} {w : World} {A : Around} {E : Value → Shared → Prop} {s : Shared} {μ κ : Type} (Z : Kit P w μ κ)
/-- found.add(x) -/
theorem call_add {a : Addr} {L : List μ} {m : μ} {v : Value} {Q : Value → Shared → Prop} (R : Z.sp s.heap a L) (hm : ∀ m ∈ L, ∃ v, Z.mv s.heap m v) (hv : Z.mv s.heap m v) (room : L.length + 1 < 64) (hu : A.in1.units < cLine)
    (hQ : ∀ h' tk L', Heap.SameBut a s.heap h' → Z.sp h' a L' → (Z.key m ∈ L.map Z.key → L' = L) → (Z.key m ∉ L.map Z.key → L'.Perm (m :: L)) → Q .none { s with heap := h', toks := tk }) :
    wpAny (model P w) A (call (.builtin "set.add") [.ref a, v]) Q E s := by
  obtain ⟨o, ho, hc⟩ := Z.spEx R
  refine wpAny_call_entry F.slot_set_add ⟨o, ho, hc⟩ F.entry_set_add ?_ (F.args_set_add_2 _ _)
  unfold Builtin.«set.add» Builtin.Frozenset.oneOther
  simp only [List.isEmpty_nil, bind_assoc]
  unfold Builtin.Frozenset.addrOf
  refine wpAny_bind (wpAny_pure ?_)
  try dsimp only
  refine wpAny_bind (wpAny_pure ?_)
  try dsimp only
  refine wpAny_bind ?_
  refine Z.add R hm hv room hu fun b h' tk L' sb ht r c1 c2 => ?_
  show wpAny _ _ (ret Value.none) _ _ _
  exact wpAny_pure ⟨_, rfl, hQ h' tk L' sb r c1 c2⟩
end
section
variable {X : Cx} {μ κ : Type} {Z : Kit X.prog X.w μ κ} (K : Lnk X Z)
/-- L and m make L' -/
def Grow (Z : Kit X.prog X.w μ κ) (L : List μ) (m : μ) (L' : List μ) : Prop := (Z.key m ∈ L.map Z.key → L' = L) ∧ (Z.key m ∉ L.map Z.key → L'.Perm (m :: L))
theorem addK_ok {pins : List (Addr × Obj)} {σ : L2.St} {H : Hp} {s : Shared} {E : Value → Shared → Prop} {D : Addr} {L : List μ} {m : μ} {u : Value} {Q : Value → Shared → Prop} (I : Inv X pins σ H s) (hD : H D = some (SetO Z D L))
    (hk : ∀ m ∈ L, K.ok H m) (hm : K.ok H m) (ru : RelV (K.vOf m) u) (room : L.length + 1 < 64) (hu : X.A.in1.units < cLine)
    (h : ∀ s' L', Grow Z L m L' → Inv X pins σ (upd H D (SetO Z D L')) s' → Q .none s') : wpAny (model X.prog X.w) X.A (call (.builtin "set.add") [.ref D, u]) Q E s := by
  have R : Z.sp s.heap D L := (I.hok D _ hD).1
  refine call_add Z R (all_mv K I hk) (K.get I hm ru) room hu fun h' tk L' sb new c1 c2 => ?_
  have he : ∃ u, h'.get? D = some u := by
    have ⟨o, ho, _⟩ := Z.spEx new
    exact ⟨o, ho⟩
  exact h _ L' ⟨c1, c2⟩ (I.write (e := D) (t' := tk) (by rw [hD]; trivial) (.inl rfl) (fun b u hb hu => (sb.2 b hb).trans hu) he (setO_new new))
end
end KS
set_option maxHeartbeats 3200000
/-! {elt for tg in iter if ..} over a Kit -/
namespace KS
open PySem PySem.Spec PyProof.Rows L2
section
variable {X : Cx} {μ κ : Type} {Z : Kit X.prog X.w μ κ} (K : Lnk X Z)
/-- D the new set; W i m: what holds ahead of the i-th turn, m goes down -/
def tSetC (wi : TI) (g : TG) (tt : TT) (te : TE) (vs : List Nat) : TE := fun σ H Q => wi σ H fun J H1 => ∀ D, H1 D = none → ∃ W : Nat → Nat → Hp → Prop, (∃ m, W 0 m (upd H1 D (SetO Z D []))) ∧ ∀ i m H, W i m H →
  (J.stop i H ∧ Q (.ref D) H) ∨ (J.go i H ∧ ∃ Nx : Hp → Prop, (∀ H', Nx H' → ∃ m', m' < m ∧ W
                                                                                              (i + 1) m' H') ∧ ∀ x H', J.yld i H x H' → g x (wipe σ vs) H' fun σ2 H2 => wipe σ2 vs = wipe σ vs ∧ tt σ2 H2 fun b H3 =>
    if b = true then te σ2 H3 fun y H4 => ∃ (m : μ) (L : List μ), y = K.vOf m ∧ H4 D = some (SetO Z D L) ∧ K.ok H4 m ∧ (∀ x ∈ L, K.ok H4 x) ∧ L.length + 1 < 64 ∧ (∀ L', Grow Z L m L' → Nx (upd H4 D (SetO Z D L'))) else Nx H3)
theorem setc {pins : List (Addr × Obj)} {s : Shared} {σ : L2.St} {H : Hp} {Q : VK} {elt tg iter : Expr} {ifs : List Expr} {scope : Scope} {own : List (PySem.Str × Nat)} {pos pos' : Pos} {wi : TI} {g : TG} {tt : TT} {te : TE} {use : Option (Value → Sem Unit)} {Qf : Value → Shared → Prop}
    (hc : X.calm = true) (hu : X.A.in1.units < cLine) (hN : X.N.Nodup) (I : Inv X pins σ H s) (hi : PI X tg iter wi) (ok : BlkOk X.N X.env.scope scope own)
    (hg : ∀ (s : Shared) (H : Hp) (C : Addr) (cl : List (PySem.Str × Addr)) (fp : List Addr), PG (X.blk s H scope (compEnvC scope cl C X.env) fp) tg g)
                                                                                                                                                        (ht : ∀ (s : Shared) (H : Hp) (C : Addr) (cl : List (PySem.Str × Addr)) (fp : List Addr), PTs (X.blk s H scope (compEnvC scope cl C X.env) fp) ifs tt)
    (he : ∀ (s : Shared) (H : Hp) (C : Addr) (cl : List (PySem.Str × Addr)) (fp : List Addr), PE
                                                                                                 (X.blk s H scope (compEnvC scope cl C X.env) fp) elt te) (hs : ∀ x, foldedSetIterable iter X.env x = pure x)
    (hK : ∀ (s : Shared) (H : Hp) (env : Env) (fp : List Addr), ∃ K' : Lnk (X.blk s H scope env fp) Z, K'.vOf = K.vOf ∧ K'.ok = K.ok)
    (h : tSetC K wi g tt te (own.map (·.2)) σ H Q)
    (hRR : ∀ D C s' m H', Inv X pins σ H' s' → Q (.ref D) H' → s'.heap.Ns C m → FpOk X pins H' C → compPost
                                                                                                            (model X.prog X.w) X.A X.xe use Qf (.ref D) C (.ok .next) s') :
    wpAny (model X.prog X.w) X.A (comprehension (.SetComp elt [⟨tg, iter, ifs, 0⟩] scope pos) scope X.env pos'
                                                                                                               (newSet (.type "set")) false (eval iter X.env) use) Qf X.xe s := by
  have free : ∀ y ∈ scope.names, y.2 = .free → ∃ c, X.env.cells.lookup y.1 = some c := fun y hy e => (ok.free y hy e).elim (fun k => I.ok.has _ (.inl k)) fun k => I.ok.has _ (.inr k)
  refine wpAny_comprehension_free (use := use) rfl hs (closure_ok free) ok.kind (fun y hy e => by rw [ok.uniq y hy, e]) (thn (hi.run pins s σ H _ I h) fun xv s1 hx => thn hx fun itv s2 h2 => ?_)
  obtain ⟨it, fp, tn, J, H2, e, I2, T, st2, f2, q⟩ := h2
  subst e
  refine PpSet.newSet_ok (newEnv_comp ?_)
  generalize hD : s2.heap.objs.size = D
  obtain ⟨W, ⟨m0, w0⟩, turn⟩ := q D (I2.hok.fresh (Nat.le_of_eq hD))
  generalize hs3 : ({ s2 with heap := s2.heap.push (newObj0 X.w) } : Shared) = s3
  have hs3' : ({ s2 with heap := s2.heap.push { cls := .type "set", dict := none, data := .set #[] 0 (.fresh 0 0 (!X.w.params.followText "set-order")) } } : Shared) = s3 := hs3
  rw [hs3']
  have h3 : s3.heap = s2.heap.push (newObj0 X.w) := by rw [← hs3]
  have I3 : Inv X pins σ (upd H2 D (SetO Z D [])) s3 := by
    rw [← hs3]
    refine I2.laid (t' := s2.toks) (fun b o e => Heap.get?_push_of_some _ e) (Nat.le_of_eq hD) (setO_new (Z.fresh ?_))
    rw [← hD]
    exact Heap.get?_push_size _ rfl
  have lt : ∀ b ∈ fp, b < s2.heap.objs.size := fun b hb => by
    obtain ⟨o, e, _⟩ := T.obj _ _ st2 b hb
    exact Heap.lt_size e
  have f3 : ∀ b ∈ fp, FpOk X pins (upd H2 D (SetO Z D [])) b ∧ b < s3.heap.objs.size := fun b hb => by
    refine ⟨⟨?_, (f2 b hb).2⟩, by rw [h3, Heap.size_push]; exact Nat.lt_succ_of_lt (lt b hb)⟩
    rw [upd_ne (by rw [← hD]; exact Nat.ne_of_lt (lt b hb))]
    exact (f2 b hb).1
  have st3 : tn 0 s3.heap := T.keep _ _ _ st2 fun b _ o e => by rw [h3]; exact Heap.get?_push_of_some _ e
  generalize hH3 : upd H2 D (SetO Z D []) = H3 at I3 w0 f3
  have I4 := block_start I3 ok hN f3
  have pg := hg s3 H3 s3.heap.objs.size (cellsFrom (s3.heap.objs.size + 1) scope.names (cloFrom X.env.cells scope.names [])) fp
  have pt := ht s3 H3 s3.heap.objs.size (cellsFrom (s3.heap.objs.size + 1) scope.names (cloFrom X.env.cells scope.names [])) fp
  have pe := he s3 H3 s3.heap.objs.size (cellsFrom (s3.heap.objs.size + 1) scope.names (cloFrom X.env.cells scope.names [])) fp
  show codeAny _ _ (.compStart (.SetComp elt [⟨tg, iter, ifs, 0⟩] scope pos) 0 (.ref it) (.ref D) (compEnvC scope (cellsFrom (s3.heap.objs.size + 1) scope.names (cloFrom X.env.cells scope.names [])) s3.heap.objs.size X.env))
                                                                                                                                                                                                                                 (compPost (model X.prog X.w) X.A X.xe use Qf (.ref D) s3.heap.objs.size) { s3 with heap := pushCells (s3.heap.push { cls := .type "dict", data := .dict #[] }) scope.names }
  generalize hce : compEnvC scope (cellsFrom (s3.heap.objs.size + 1) scope.names
                                                                                 (cloFrom X.env.cells scope.names [])) s3.heap.objs.size X.env = ce at I4 pg pt pe ⊢
  have cL : ce.locals = s3.heap.objs.size := by subst hce; rfl
  obtain ⟨K', ev, eo⟩ := hK s3 H3 ce fp
  generalize hs4 : ({ s3 with heap := pushCells (s3.heap.push
                                                              { cls := .type "dict", data := .dict #[] }) scope.names } : Shared) = s4 at I4 ⊢
  have st4 : tn 0 s4.heap := T.keep _ _ _ st3 fun b _ o e => by rw [← hs4]; exact pushCells_keeps _ _ _ _
                                                                                                          (Heap.get?_push_of_some _ e)
  have stat : ∀ {σ' : L2.St} {H' : Hp} {s' : Shared}, Inv (X.blk s3 H3 scope ce fp) [] σ' H' s' →
                                                                                                  (∀ b ∈ fp, H' b = none) → ∀ b ∈ fp, FpOk (X.blk s3 H3 scope ce fp) [] H' b := fun {σ' H' s'} I' hn b hb =>
    ⟨hn b hb, (I'.ok.exf b hb).1, I'.ok.exfs b hb, .inl hb, fun x c e =>
                                                                         (I'.ok.exf b hb).2 x c e, fun p hp => absurd (show p ∈ ([] : List (Addr × Obj)) ++ [] from hp) (by simp)⟩
  have loop : codeAny (model X.prog X.w) X.A (.compLoop (.SetComp elt [⟨tg, iter, ifs, 0⟩] scope pos) 0
                                                                                                        (.ref it) (.ref D) ce) (compPost (model X.prog X.w) X.A X.xe use Qf (.ref D) s3.heap.objs.size) s4 := by
    refine PpSet.compLoopS_any (fun n s' => ∃ i H', Inv (X.blk s3 H3 scope ce fp) [] (wipe σ (own.map (·.2))) H' s' ∧ tn i s'.heap ∧ (∀ b ∈ fp, H' b = none) ∧ W i n H') ?_ m0 ⟨0, H3, I4, st4, fun b hb => (f3 b hb).1.1, w0⟩
    rintro n s5 ⟨i, H5, I5, st5, n5, w5⟩
    rcases turn i n H5 w5 with ⟨stop, qq⟩ | ⟨go, Nx, hNx, step⟩
    · have td := T.done (X.blk s3 H3 scope ce fp) rfl rfl rfl hc i [] s5 _ H5
                                                                              (fun _ _ => False) I5 (stat I5 n5) st5 stop
      refine thnF td fun r s6 ⟨hr, I6⟩ => ?_
      subst hr
      have I7 : Inv X pins σ H5 s6 := I3.call' (ch := fp) I6.os I6.base I6.hok I6.bare fun b hb =>
                                                                                                   ⟨(f3 b hb).1.2.2.2.1, (f3 b hb).1.2.1, (f3 b hb).1.2.2.2.2.1, (f3 b hb).1.2.2.2.2.2⟩
      have z : H5 ce.locals = none := I6.free
      obtain ⟨m, hn, _⟩ := I6.loc
      have hn : s6.heap.Ns ce.locals m := hn
      rw [cL] at hn z
      exact hRR D s3.heap.objs.size s6 m H5 I7 qq hn (I3.fpOk (Nat.le_refl _) z)
    · have ti := T.item (X.blk s3 H3 scope ce fp) rfl rfl rfl hc i [] s5 _ H5
                                                                              (fun _ _ => False) I5 (stat I5 n5) st5 go
      refine thnF ti fun r s6 ⟨u, hr, h6⟩ => ?_
      subst hr
      refine thnF h6 fun _ s7 ⟨x, H7, I7, r7, y7, st7, n7⟩ => ?_
      have P7 := I7.pinned (stat I7 n7) (T.obj _ _ st7)
      refine thnF (pg.run _ s7 _ H7 x u _ P7 r7 (step x H7 y7)) fun _ s8 ⟨σ8, H8, I8, hw8, q8⟩ => ?_
      refine thnF (pt.run _ s8 σ8 H8 _ I8 q8) fun b s9
                                                       ⟨H9, I9, q9⟩ => ?_
      have fin : ∀ {s' : Shared} {H' : Hp}, Inv (X.blk s3 H3 scope ce fp) ([] ++ pinsAt fp s7.heap) σ8 H' s' → Nx H' → ∃ m, m < n ∧ ∃ i H', Inv
                                                                                                                                                (X.blk s3 H3 scope ce fp) [] (wipe σ (own.map (·.2))) H' s' ∧ tn i s'.heap ∧ (∀ b ∈ fp, H' b = none) ∧ W i m H' := fun {s' H'} I' nx => by
        obtain ⟨m', hm, w'⟩ := hNx H' nx
        have pin : ∀ b ∈ fp, ∀ o, s7.heap.get? b = some o → s'.heap.get? b = some o ∧ H' b = none := fun b hb o e =>
          let z := I'.pin (b, o) (List.mem_append_right _
                                                          (List.mem_append_right _ (mem_pinsAt hb e)))
          ⟨z.1, z.2.1⟩
        refine ⟨m', hm, i + 1, H', (I'.unpinned (pins := [])).weak (by rw [← hw8, wipe_length]) (fun j v e => ?_), T.keep _ _ _ st7 fun b hb o e => (pin b hb o e).1, fun b hb => ?_, w'⟩
        · rw [← hw8] at e
          exact (wipe_some e).1
        · obtain ⟨o, e, _⟩ := T.obj _ _ st7 b hb
          exact (pin b hb o e).2
      cases b with
      | false =>
        simp only [Bool.false_eq_true, if_false] at q9 ⊢
        exact fin I9 q9
      | true =>
        simp only [if_true] at q9 ⊢
        refine thnF (pe.run _ s9 σ8 H9 _ I9 q9) fun z s10 ⟨yv, H10, I10, r10, m, L, ey, hD10, om, oL, room, nx⟩ => ?_
        subst ey
        exact addK_ok (X := X.blk s3 H3 scope ce fp) K' I10 hD10 (by rw [eo]; exact oL) (by rw [eo]; exact om) (by rw [ev]; exact r10) room hu fun s11 L' gr I11 => fin I11 (nx L' gr)
  exact PpSet.codeAny_compStart_set loop (T.self X.A 0 _ _ _ st4 loop)
/-- as a value -/
theorem pe_setc {elt tg iter : Expr} {ifs : List Expr} {scope : Scope} {own : List (PySem.Str × Nat)} {pos : Pos} {wi : TI} {g : TG} {tt : TT} {te : TE} (hc : X.calm = true) (hu : X.A.in1.units < cLine) (hN : X.N.Nodup) (hi : PI X tg iter wi) (ok : BlkOk X.N X.env.scope scope own)
    (hg : ∀ (s : Shared) (H : Hp) (C : Addr) (cl : List (PySem.Str × Addr)) (fp : List Addr), PG (X.blk s H scope (compEnvC scope cl C X.env) fp) tg g)
                                                                                                                                                        (ht : ∀ (s : Shared) (H : Hp) (C : Addr) (cl : List (PySem.Str × Addr)) (fp : List Addr), PTs (X.blk s H scope (compEnvC scope cl C X.env) fp) ifs tt)
    (he : ∀ (s : Shared) (H : Hp) (C : Addr) (cl : List (PySem.Str × Addr)) (fp : List Addr), PE (X.blk s H scope (compEnvC scope cl C X.env) fp) elt te)
    (hK : ∀ (s : Shared) (H : Hp) (env : Env) (fp : List Addr), ∃ K' : Lnk (X.blk s H scope env fp) Z, K'.vOf = K.vOf ∧ K'.ok = K.ok) (hs : ∀ x, foldedSetIterable iter X.env x = pure x := by intro _; rfl) :
    PE X (.SetComp elt [⟨tg, iter, ifs, 0⟩] scope pos) (tSetC K wi g tt te (own.map (·.2))) := by
  refine ⟨fun pins s σ H Q I h => ?_⟩
  rw [PpSet.eval_SetComp]
  refine setc K hc hu hN I hi ok hg ht he hs hK h fun D C s' m H' I' q hn f => ⟨m, hn, fun h'' sb => ?_⟩
  obtain ⟨f0, f1, f2, f3, f4, f5⟩ := f
  exact ⟨.ref D, H', I'.turned (t' := s'.toks)
                                               (fun b o hb e => (sb.2 b hb).trans e) f0 f1 f3 f4 f5, rfl, q⟩
end
end KS
/-! sets of texts; sets of pairs of a text and an int -/
namespace KS
open PySem PySem.Spec PyProof.Rows L2

section
variable {P : Program} {w : World} {μ κ ν κ' : Type}
theorem pull_mem {Z : Kit P w μ κ} {f : ν → μ} {key' : ν → κ'} (hk : ∀ a b, key' a = key' b ↔ Z.key (f a) = Z.key (f b)) {m : ν} {L : List ν} : key' m ∈ L.map key' ↔ Z.key (f m) ∈ (L.map f).map Z.key := by
  rw [List.mem_map, List.map_map, List.mem_map]
  exact ⟨fun ⟨x, hx, e⟩ => ⟨x, hx, (hk x m).1 e⟩, fun ⟨x, hx, e⟩ => ⟨x, hx, (hk x m).2 e⟩⟩
/-- a kind of members, told otherwise -/
def Kit.pull (Z : Kit P w μ κ) (f : ν → μ) (key' : ν → κ') (hk : ∀ a b, key' a = key' b ↔ Z.key (f a) = Z.key (f b)) : Kit P w ν κ' where
  key := key'
  mv := fun h n v => Z.mv h (f n) v
  sp := fun h a L => Z.sp h a (L.map f)
  mvK := Z.mvK
  spAt := Z.spAt
  spEx := Z.spEx
  spNd := fun {h a L} R => by
    have q := Z.spNd R
    rw [List.map_map] at q
    refine List.pairwise_map.mpr (List.Pairwise.imp (fun {x y} ne e => ne ?_) (List.pairwise_map.mp q))
    exact (hk x y).1 e
  spFew := fun R => by
    have q := Z.spFew R
    rw [List.length_map] at q
    exact q
  fresh := fun ho => Z.fresh ho
  add := fun {A E s a L m v Q} R hm hv room hu hQ => by
    refine Z.add R (fun x hx => ?_) hv (by rw [List.length_map]; exact room) hu fun b h' tk L' sb ht r c1 c2 => ?_
    · obtain ⟨y, hy, e⟩ := List.mem_map.mp hx
      rw [← e]
      exact hm y hy
    · by_cases c : Z.key (f m) ∈ (L.map f).map Z.key
      · have e := c1 c
        subst e
        exact hQ b h' tk L sb ht r (fun _ => rfl) fun z => absurd ((pull_mem hk).2 c) z
      · obtain ⟨L2, p2, e2⟩ := perm_pre (f := f) (c2 c) (m :: L) rfl
        subst e2
        exact hQ b h' tk L2 sb ht r (fun z => absurd ((pull_mem hk).1 z) c) fun _ => p2
  col := fun {A E s a L Q} R hm hh hQ => by
    refine Z.col R (fun x hx => ?_) hh fun s' out L' k z g o pm ei => ?_
    · obtain ⟨y, hy, e⟩ := List.mem_map.mp hx
      rw [← e]
      exact hm y hy
    · obtain ⟨L2, p2, e2⟩ := perm_pre (f := f) pm L rfl
      subst e2
      exact hQ s' out L2 k z g o p2 (each_un ei)
where each_un {R : Value → μ → Prop} : ∀ {vs : List Value} {ms : List ν}, PySem.W.EachIs R vs (ms.map f) → PySem.W.EachIs (fun v m => R v (f m)) vs ms
  | _, [], e => by cases e; exact .nil
  | _, m :: ms, e => by
    cases e with
    | cons r t => exact .cons r (each_un t)
end
/-- texts -/
def strKit (P : Program) (w : World) : Kit P w Str Str := (keyKit P w).pull Sum.inr id fun a b => by
  show a = b ↔ (Sum.inr a : Key) = Sum.inr b
  exact ⟨fun e => by rw [e], fun e => Sum.inr.inj e⟩
/-- pairs -/
def pairKit (P : Program) (w : World) : Kit P w (Addr × Str × Int) (Str × Int) := (tupKit P w).pull (fun m => (m.1, [.inr m.2.1, .inl m.2.2])) (fun m => m.2) fun a b => by
  obtain ⟨a1, a2, a3⟩ := a
  obtain ⟨b1, b2, b3⟩ := b
  show (a2, a3) = (b2, b3) ↔ ([.inr a2, .inl a3] : List Key) = [.inr b2, .inl b3]
  constructor
  · intro e
    injection e with e1 e2
    rw [e1, e2]
  · intro e
    injection e with e1 e2
    injection e2 with e2 _
    rw [Sum.inr.inj e1, Sum.inl.inj e2]
def linkStr (X : Cx) : Lnk X (strKit X.prog X.w) where
  vOf := V.str
  ok := fun _ _ => True
  get := fun _ _ r => (linkKey X).get (m := .inr _) (by assumption) True.intro r
  some_ := fun m => ⟨.str m 0, 0, rfl⟩
  back := fun {h m u} q => (linkKey X).back (h := h) (m := .inr m) q
def linkPair (X : Cx) : Lnk X (pairKit X.prog X.w) where
  vOf := fun m => .ref m.1
  ok := fun H m => SqT X.K H m.1 [.str m.2.1, .int m.2.2]
  get := fun I h r => (linkTup X).get (m := (_, [.inr _, .inl _])) I h r
  some_ := fun m => ⟨.ref m.1, rfl⟩
  back := fun q => q.1

/-! ### sorted -/
theorem rd_str {P : Program} {w : World} {h : Heap} {m : Str} {v : Value} (q : (strKit P w).mv h m v) : Reads h v (.str m) [] := by
  have q : keyIs (.inr m) v = true := q
  rcases keyIs_shape q with ⟨i, t, e, _⟩ | ⟨x, t, e, rfl⟩
  · cases e
  · cases e
    exact .str _ _
def encP (m : Addr × Str × Int) : PyData := .tuple [.str m.2.1, .int m.2.2]
theorem rd_pair {P : Program} {w : World} {h : Heap} {m : Addr × Str × Int} {v : Value} (q : (pairKit P w).mv h m v) : Reads h v (encP m) [] := by
  obtain ⟨a, x, i⟩ := m
  obtain ⟨rfl, o, its, n, ho, hc, hd, hi⟩ := q
  refine .tuple ho hc hd ?_
  cases hi' : its.toList with
  | nil => rw [hi'] at hi; cases hi
  | cons u us =>
    rw [hi'] at hi
    cases hi with
    | cons h1 h2 =>
      cases h2 with
      | cons h3 h4 =>
        cases h4
        rcases keyIs_shape (show keyIs (.inr x) u = true from h1) with ⟨j, t, e, _⟩ | ⟨y, t, e, rfl⟩
        · cases e
        · cases e
          rcases keyIs_shape (show keyIs (.inl i) _ = true from h3) with ⟨j, t2, e, rfl⟩ | ⟨y, t2, e, _⟩
          · cases e
            exact .cons (as := []) (bs := []) (.str _ _) (.cons (as := []) (bs := []) (.int _ _) .nil)
          · cases e
/-- ys are the members of xs, each once, ascending -/
def Srt (xs ys : List Str) : Prop := ys.Pairwise (fun a b => a.cps.toList < b.cps.toList) ∧ ∀ z, z ∈ ys ↔ z ∈ xs
theorem cps_ext {a b : Str} (h : a.cps.toList = b.cps.toList) : a = b := by
  obtain ⟨a⟩ := a
  obtain ⟨b⟩ := b
  exact congrArg Str.mk (Array.toList_inj.mp h)
theorem srt_unique {xs : List Str} : ∀ {ys zs : List Str}, ys.Pairwise (fun a b => a.cps.toList < b.cps.toList) → zs.Pairwise (fun a b => a.cps.toList < b.cps.toList) → (∀ z, z ∈ ys ↔ z ∈ zs) → ys = zs
  | [], [], _, _, _ => rfl
  | [], z :: zs, _, _, h => absurd ((h z).2 List.mem_cons_self) (by simp)
  | y :: ys, [], _, _, h => absurd ((h y).1 List.mem_cons_self) (by simp)
  | y :: ys, z :: zs, h1, h2, h => by
    obtain ⟨a1, a2⟩ := List.pairwise_cons.mp h1
    obtain ⟨b1, b2⟩ := List.pairwise_cons.mp h2
    have e : y = z := by
      rcases List.mem_cons.mp ((h y).1 List.mem_cons_self) with e | m1
      · exact e
      · rcases List.mem_cons.mp ((h z).2 List.mem_cons_self) with e | m2
        · exact e.symm
        · exact absurd (List.lt_trans (a1 z m2) (b1 y m1)) (List.lt_irrefl _)
    subst e
    refine congrArg _ (srt_unique (xs := xs) a2 b2 fun w => ⟨fun m => ?_, fun m => ?_⟩)
    · rcases List.mem_cons.mp ((h w).1 (List.mem_cons_of_mem _ m)) with e | m'
      · exact absurd (a1 w m) (by rw [e]; exact List.lt_irrefl _)
      · exact m'
    · rcases List.mem_cons.mp ((h w).2 (List.mem_cons_of_mem _ m)) with e | m'
      · exact absurd (b1 w m) (by rw [e]; exact List.lt_irrefl _)
      · exact m'
theorem Srt.eq {xs ys zs : List Str} (a : Srt xs ys) (b : Srt xs zs) : ys = zs := srt_unique (xs := xs) a.1 b.1 fun z => (a.2 z).trans (b.2 z).symm
theorem srt_of {xs L L1 : List Str} (nd : L.Nodup) (mem : ∀ z, z ∈ L ↔ z ∈ xs) (pm : L1.Perm L) : Srt xs (L1.mergeSort (PySem.W.dataLe false PyData.str)) := by
  have e : PySem.W.dataLe false PyData.str = fun a b : Str => decide (a.cps.toList ≤ b.cps.toList) := PySem.W.dataLe_str (fun b : Str => b)
  rw [e]
  have pp := List.mergeSort_perm L1 (fun a b : Str => decide (a.cps.toList ≤ b.cps.toList))
  have tr : ∀ a b c : Str, decide (a.cps.toList ≤ b.cps.toList) = true → decide (b.cps.toList ≤ c.cps.toList) = true → decide (a.cps.toList ≤ c.cps.toList) = true :=
    fun a b c h1 h2 => decide_eq_true (List.le_trans (of_decide_eq_true h1) (of_decide_eq_true h2))
  have tt : ∀ a b : Str, (decide (a.cps.toList ≤ b.cps.toList) || decide (b.cps.toList ≤ a.cps.toList)) = true := fun a b => by
    rcases List.le_total a.cps.toList b.cps.toList with h | h
    · rw [decide_eq_true h, Bool.true_or]
    · rw [decide_eq_true h, Bool.or_true]
  have st := List.pairwise_mergeSort (le := fun a b : Str => decide (a.cps.toList ≤ b.cps.toList)) tr tt L1
  have nd1 : (L1.mergeSort (fun a b : Str => decide (a.cps.toList ≤ b.cps.toList))).Nodup := (pp.trans pm).nodup_iff.mpr nd
  refine ⟨?_, fun z => by rw [(pp.trans pm).mem_iff]; exact mem z⟩
  have both := st.and nd1
  refine List.Pairwise.imp (fun {a b} h => ?_) both
  have h1 : a.cps.toList ≤ b.cps.toList := of_decide_eq_true h.1
  rcases Classical.em (a.cps.toList < b.cps.toList) with c | c
  · exact c
  · exact absurd (cps_ext (List.le_antisymm h1 c)) h.2
end KS
namespace K14
open PySem L2
theorem un1 {k : Nat} {A : Around} (r : Room k A) : A.in1.units < cLine := by
  have := r.un
  show A.units + 1 < cLine
  omega
theorem un2 {k : Nat} {A : Around} (r : Room k A) : A.in1.units + 1 + 0 < cLine := by
  have := r.un
  show A.units + 1 + 1 + 0 < cLine
  omega
/-- what an operation reads or uses -/
abbrev Prs := List (Str × Int)
def pD (p : Str × Int) : PyData := .tuple [.str p.1, .int p.2]
def tD (ps : Prs) : PyData := .tuple (ps.map pD)
def lD (ps : Prs) : PyData := .list (ps.map pD)
theorem dataLt_si (x y : Str) (i j : Int) : PySem.W.dataLt (pD (x, i)) (pD (y, j)) = decide (x.cps.toList < y.cps.toList ∨ (x = y ∧ i < j)) := by
  unfold pD
  rw [PySem.W.dataLt_pair (by simp [PySem.W.alike]) (by simp [PySem.W.alike]), PySem.W.dataLt_int, PySem.W.dataLt_str]
  simp only [PyData.eqv, beq_iff_eq]
  by_cases h1 : x = y <;> by_cases h2 : i = j <;> simp [h1, h2, List.lt_irrefl]
theorem le_strict {m n : Addr × Str × Int} (h : PySem.W.dataLe false KS.encP m n = true) (ne : m.2 ≠ n.2) : PySem.W.dataLt (pD m.2) (pD n.2) = true := by
  obtain ⟨a, x, i⟩ := m
  obtain ⟨b, y, j⟩ := n
  have h1 : (!PySem.W.dataLt (pD (y, j)) (pD (x, i))) = true := h
  rw [dataLt_si] at h1 ⊢
  have h2 : ¬ (y.cps.toList < x.cps.toList ∨ (y = x ∧ j < i)) := fun z => by
    rw [decide_eq_true z] at h1
    cases h1
  refine decide_eq_true ?_
  by_cases e : x = y
  · refine .inr ⟨e, ?_⟩
    have h3 : ¬ j < i := fun z => h2 (.inr ⟨e.symm, z⟩)
    have h4 : i ≠ j := fun z => ne (by rw [e, z])
    omega
  · refine .inl ?_
    have h3 : ¬ y.cps.toList < x.cps.toList := fun z => h2 (.inl z)
    rcases Classical.em (x.cps.toList < y.cps.toList) with c | c
    · exact c
    · exact absurd (KS.cps_ext (List.le_antisymm h3 c)) e
/-- strictly ascending -/
def Asc (us : Prs) : Prop := us.Pairwise fun p q => PySem.W.dataLt (pD p) (pD q) = true
theorem asc_of {L L1 : List (Addr × Str × Int)} (nd : (L.map (·.2)).Nodup) (pm : L1.Perm L) : Asc ((L1.mergeSort (PySem.W.dataLe false KS.encP)).map (·.2)) ∧ (L1.mergeSort (PySem.W.dataLe false KS.encP)).Perm L := by
  have pp : (L1.mergeSort (PySem.W.dataLe false KS.encP)).Perm L := (List.mergeSort_perm L1 _).trans pm
  have st : (L1.mergeSort (PySem.W.dataLe false KS.encP)).Pairwise (fun a b => PySem.W.dataLe false KS.encP a b = true) := PySem.W.sort_pairwise (PySem.W.sortLe_total _ _ _) L1
  refine ⟨?_, pp⟩
  have n1 := List.pairwise_map.mp ((pp.map (·.2)).nodup_iff.mpr nd)
  exact List.pairwise_map.mpr (List.Pairwise.imp (fun {a b} h => le_strict h.1 h.2) (st.and n1))
theorem asc_data {us : Prs} (h : Asc us) : ascD (us.map pD) = true := by
  unfold ascD
  rw [List.all_eq_true]
  intro i hi
  have hi2 := List.mem_range.mp hi
  rw [List.length_map] at hi2
  have h1 : i < us.length := by omega
  have h2 : i + 1 < us.length := by omega
  have e1 : (us.map pD).getD i .none = pD us[i] := by simp [List.getD_eq_getElem?_getD, List.getElem?_map, List.getElem?_eq_getElem h1]
  have e2 : (us.map pD).getD (i + 1) .none = pD us[i + 1] := by simp [List.getD_eq_getElem?_getD, List.getElem?_map, List.getElem?_eq_getElem h2]
  rw [e1, e2]
  exact List.pairwise_iff_getElem.mp h i (i + 1) h1 h2 (Nat.lt_succ_self _)
theorem dpa_pairs {K : PySem.W.Frag} {H : Hp} : ∀ {ps : Prs} {xs : List V} {i : Nat} {x : V}, DpAll K H xs (ps.map pD) → xs[i]? = some x → ∃ p a, ps[i]? = some p ∧ x = .ref a ∧ SqT K H a [.str p.1, .int p.2]
  | [], _, i, x, h, e => by cases h; simp at e
  | p :: ps, _, i, x, h, e => by
    cases h with
    | cons h1 h2 =>
      cases i with
      | zero =>
        obtain rfl := Option.some.inj e
        cases h1 with
        | tup t1 t2 =>
          cases t2 with
          | cons t2 t3 =>
            cases t2
            cases t3 with
            | cons t3 t4 =>
              cases t3
              cases t4
              exact ⟨p, _, rfl, rfl, t1⟩
      | succ i => exact dpa_pairs (i := i) h2 (by simpa using e)
section
variable {X : Cx} {μ κ : Type} {Z : KS.Kit X.prog X.w μ κ} (K : KS.Lnk X Z)
/-- a set comprehension over a walk: Pv by the turn and the heap -/
theorem sc_it {J : It} {n : Nat} {G : Hp → Prop} {Y : Nat → Hp → V → Hp → Prop} (w : Walk J n G Y) {g : TG} {tt : TT} {te : TE} {vs : List Nat} {σ : L2.St} {H1 : Hp} {D : Addr} {Qd : Hp → Prop} (Pv : Nat → Hp → Prop)
    (h0 : Pv 0 (upd H1 D (KS.SetO Z D []))) (hG : ∀ i H, i ≤ n → Pv i H → G H)
    (hs : ∀ i x H H', i < n → Pv i H → Y i H x H' → g x
                                                        (wipe σ vs) H' fun σ2 H2 => wipe σ2 vs = wipe σ vs ∧ tt σ2 H2 fun b H3 =>
      if b = true then te σ2 H3 fun y H4 => ∃ (m : μ) (L : List μ), y = K.vOf m ∧ H4 D = some (KS.SetO Z D L) ∧ K.ok H4 m ∧ (∀ x ∈ L, K.ok H4 x) ∧ L.length + 1 < 64 ∧ (∀ L', KS.Grow Z L m L' → Pv (i + 1) (upd H4 D (KS.SetO Z D L'))) else Pv (i + 1) H3)
    (hd : ∀ H, Pv n H → Qd H) :
    ∃ W : Nat → Nat → Hp → Prop, (∃ m, W 0 m (upd H1 D (KS.SetO Z D []))) ∧ ∀ i m H, W i m H →
      (J.stop i H ∧ Qd H) ∨ (J.go i H ∧ ∃ Nx : Hp → Prop, (∀ H', Nx H' → ∃ m', m' < m ∧ W
                                                                                          (i + 1) m' H') ∧ ∀ x H', J.yld i H x H' → g x (wipe σ vs) H' fun σ2 H2 => wipe σ2 vs = wipe σ vs ∧ tt σ2 H2 fun b H3 =>
        if b = true then te σ2 H3 fun y H4 => ∃ (m : μ) (L : List μ), y = K.vOf m ∧ H4 D = some (KS.SetO Z D L) ∧ K.ok H4 m ∧ (∀ x ∈ L, K.ok H4 x) ∧ L.length + 1 < 64 ∧ (∀ L', KS.Grow Z L m L' → Nx (upd H4 D (KS.SetO Z D L'))) else Nx H3) := by
  refine ⟨fun i m H => m = n - i ∧ i ≤ n ∧ Pv i H,
                                                   ⟨n, by simp, Nat.zero_le _, h0⟩, ?_⟩
  rintro i m H ⟨rfl, hi, p⟩
  have q := hG i H hi p
  by_cases lt : i < n
  · exact .inr ⟨w.goes i H lt q, Pv (i + 1), fun H' p' => ⟨n - (i + 1), by omega, rfl, lt, p'⟩, fun x H' y => hs i x H H' lt p (w.yields i H x H' lt q y)⟩
  · obtain rfl : i = n := by omega
    exact .inl ⟨w.stops H q, hd H p⟩
end
section
variable {P : Program} {w : World} {K : PySem.W.Frag}
                                                      {mg : Str → Option Value} {base : Heap}
def sp_first_items (K : PySem.W.Frag) : Sp := fun vs H Q _ => ∃ (x : V) (ps : Prs), vs = [x] ∧ Dp K H x (tD ps) ∧ ps.length < 60 ∧ ∀ (ys : List Str) (l : Addr) H', KS.Srt (ps.map (·.1)) ys → Same H H' → SqT K H' l (ys.map V.str) → Q (.ref l) H'
theorem ok_first_items (T : T K mg) : FnOk P w K mg base CX0 1 T.f_first_items T.d_first_items ["rows"] (sp_first_items K) := by
  refine T.F_first_items.ok sc_first_items (fun vs H Q E h => ?_) (fun cdv A outer s H vs Q E hr h => ?_)
  · obtain ⟨x, ps, rfl, _⟩ := h
    rfl
  · obtain ⟨x, ps, rfl, hx, few, k⟩ := h
    have hu := hu_of hr
    refine ⟨_, (pss_one (ps_ret (pe_callTy call_tuple_of (by rfl) T.z_tuple (by decide +kernel) (pa_cons (pe_callB (KS.cr_sortedK (KS.linkStr _) (enc := PyData.str) rfl KS.rd_str (fun m => un2 hr)) (by rfl) T.z_sorted (by decide +kernel)
      (pa_cons (KS.pe_setc (KS.linkStr _) (own := [("row", 1)]) (g := gName 1) rfl (un1 hr) sc_first_items.nd (pi_tup (pv 0)) (blkOk_by (N := ["rows", "row"]) (sc := defScope s_first_items) (by decide +kernel)) (fun _ _ _ _ _ => pg_name (i := 1) sc_first_items.nd rfl (Or.inl rfl)) (fun _ _ _ _ _ => pts_nil)
        (fun _ _ _ _ _ => pe_ix (r := rIx K) ix_seq (pv 1) pe_int (fun _ _ => rfl)) (fun _ _ _ _ => ⟨KS.linkStr _, rfl, rfl⟩)) pa_nil)) pa_nil)))), ?_⟩
    obtain ⟨a, xs, rfl, hS, hd⟩ : ∃ a xs, x = .ref a ∧ SqT K H a xs ∧ DpAll K H xs (ps.map pD) := by
      cases hx with
      | tup h1 h2 => exact ⟨_, _, rfl, h1, h2⟩
    have hn : ps.length = xs.length := by
      have q := dpa_len hd
      rw [List.length_map] at q
      exact q
    refine ⟨_, rfl, a, rfl, ⟨_, hS⟩, fun D hD => ?_⟩
    refine sc_it (KS.linkStr _) (walk_tup (K := K) (a := a) (xs := xs)) (fun i H' => ∃ L, H' D = some (KS.SetO (KS.strKit P w) D L) ∧ Same H H' ∧ KS.From (KS.strKit P w) (ps.map (·.1)) i L) ⟨[], upd_same, Same.new hD, KS.From.start _ _⟩ (fun i H' _ ⟨_, _, S, _⟩ => Same.seqT S hS) ?_ ?_
    · rintro i y H1 H2 hi ⟨L, eD, S, g⟩ ⟨rfl, hy⟩
      obtain ⟨p, b, e0, rfl, ht⟩ := dpa_pairs hd hy
      refine ⟨rfl, ?_⟩
      unfold tYes
      dsimp only
      rw [if_pos rfl]
      have lt : L.length ≤ i := g.len
      have e1 : (ps.map (·.1))[i]? = some p.1 := by rw [List.getElem?_map, e0]; rfl
      refine ⟨_, rfl, .inr (.inl ⟨b, [.str p.1, .int p.2], 0, .str p.1, rfl, rfl, Same.seqT S ht, rfl, p.1, L, rfl, eD, True.intro, fun _ _ => True.intro, by omega, fun L' gr => ⟨L', upd_same, Same.at hD S, g.step e1 gr.1 gr.2⟩⟩)⟩
    · rintro H9 ⟨L, eD, S, g⟩
      rw [← hn] at g
      refine ⟨D, L, rfl, eD, fun _ _ => True.intro, PySem.W.AllAlike.of (enc := PyData.str) (fun b b' => by simp [PySem.W.alike]), PySem.W.Sortable.others (enc := PyData.str) (fun b => ⟨by simp, by simp⟩), fun L1 p pm nd hp => ?_⟩
      have nd2 : L.Nodup := by
        have q : (L.map id).Nodup := nd
        rw [List.map_id] at q
        exact q
      have mem : ∀ z, z ∈ L ↔ z ∈ ps.map (·.1) := fun z => by
        have tk : (ps.map (·.1)).take ps.length = ps.map (·.1) := List.take_of_length_le (by rw [List.length_map]; exact Nat.le_refl _)
        constructor
        · intro m
          have q := g.sub z m
          rw [tk] at q
          exact q
        · intro m
          have q : z ∈ L.map id := g.all z (by rw [tk]; exact m)
          rw [List.map_id] at q
          exact q
      have st := KS.srt_of (xs := ps.map (·.1)) nd2 mem pm
      refine ⟨p, _, rfl, .inl ⟨SqL.of upd_same, fun l hl => ?_⟩⟩
      refine k _ l _ st (fun b o e => ?_) (SqT.of upd_same)
      have e9 := S b o e
      rw [upd_ne (ne_of_none (by rw [upd_ne (ne_of_none e9 hp)]; exact e9) hl), upd_ne (ne_of_none e9 hp)]
      exact e9
end
end K14
namespace K14
open PySem L2
/-- the parts of an f-string -/
def tJ (ts : List TE) : TE := fun σ H Q => tJs ts Str.empty σ H fun out H1 => Q (.str out) H1
theorem pe_J {X : Cx} {v1 v2 : Expr} {rest : List Expr} {ts : List TE} {pos : Pos} (h : PJ X (v1 :: v2 :: rest) ts) : PE X (.JoinedStr (v1 :: v2 :: rest) pos) (tJ ts) := pe_joined h
/-- a text as a pair is told -/
def partS (p : Str × Int) : Str := Str.empty ++ p.1 ++ Str.ofString " " ++ toString p.2
def joinS (ps : Prs) : Str := Txt.join (Str.ofString ", ") (ps.map partS)
def toldS (w : Str) (ps : Prs) : Str := if ps.isEmpty then Str.empty else Str.empty ++ Str.ofString " " ++ w ++ Str.ofString " " ++ joinS ps
/-- short names, small numbers -/
def Small (ps : Prs) : Prop := ps.length ≤ 4 ∧ ∀ p ∈ ps, p.1.length ≤ 8 ∧ 0 ≤ p.2 ∧ p.2 ≤ 4
theorem len_app (a b : Str) : (a ++ b).length = a.length + b.length := by
  show (a.cps ++ b.cps).size = a.cps.size + b.cps.size
  exact Array.size_append
theorem small_int {i : Int} (h0 : 0 ≤ i) (h1 : i ≤ 4) : (toString i : Str).length = 1 ∧ i.natAbs.log2 < 1920 := by
  have h : i = 0 ∨ i = 1 ∨ i = 2 ∨ i = 3 ∨ i = 4 := by omega
  rcases h with h | h | h | h | h <;> subst h <;> exact ⟨by decide +kernel, by decide +kernel⟩
theorem part_len {p : Str × Int} (h : p.1.length ≤ 8 ∧ 0 ≤ p.2 ∧ p.2 ≤ 4) : (partS p).length ≤ 10 := by
  unfold partS
  rw [len_app, len_app, len_app, (small_int h.2.1 h.2.2).1]
  have e1 : Str.empty.length = 0 := rfl
  have e2 : (Str.ofString " ").length = 1 := by decide +kernel
  omega
theorem parts_sum : ∀ {ps : Prs}, (∀ p ∈ ps, p.1.length ≤ 8 ∧ 0 ≤ p.2 ∧ p.2 ≤ 4) → ((ps.map partS).map (·.length)).sum ≤ 10 * ps.length
  | [], _ => Nat.le_refl _
  | p :: ps, h => by
    have h1 := part_len (h p List.mem_cons_self)
    have h2 := parts_sum fun q hq => h q (List.mem_cons_of_mem _ hq)
    rw [List.map_cons, List.map_cons, List.sum_cons, List.length_cons]
    omega
theorem join_len (y : Str) : ∀ ps : List Str, (Str.join y ps).length ≤ (ps.map (·.length)).sum + ps.length * y.length
  | [] => Nat.zero_le _
  | [x] => by
    show x.length ≤ _
    rw [List.map_cons, List.sum_cons]
    omega
  | x :: z :: r => by
    show (x ++ y ++ Str.join y (z :: r)).length ≤ _
    have h := join_len y (z :: r)
    rw [len_app, len_app, List.map_cons, List.sum_cons, List.length_cons, Nat.succ_mul]
    omega
theorem joinS_len {ps : Prs} (h : Small ps) : (joinS ps).length ≤ 60 := by
  unfold joinS
  rw [TL.join_eq]
  have h1 := join_len (Str.ofString ", ") (ps.map partS)
  have h2 := parts_sum h.2
  have e2 : (Str.ofString ", ").length = 2 := by decide +kernel
  rw [e2, List.length_map] at h1
  have := h.1
  omega
section
variable {P : Program} {w : World} {K : PySem.W.Frag}
                                                      {mg : Str → Option Value} {base : Heap}
def sp_told (K : PySem.W.Frag) : Sp := fun vs H Q _ => ∃ (z : Str) (x : V) (ps : Prs), vs = [.str z, x] ∧ z.length ≤ 100 ∧ Dp K H x (tD ps) ∧ Small ps ∧ ∀ H', Same H H' → Q (.str (toldS z ps)) H'
theorem ok_told (T : T K mg) : FnOk P w K mg base CX0 1 T.f_told T.d_told ["word", "pairs"] (sp_told K) := by
  refine T.F_told.ok sc_told (fun vs H Q E h => ?_) (fun cdv A outer s H vs Q E hr h => ?_)
  · obtain ⟨z, x, ps, rfl, _⟩ := h
    rfl
  · obtain ⟨z, x, ps, rfl, hz, hx, sm, k⟩ := h
    have hu := hu_of hr
    refine ⟨_, (pss_cons (ps_if (pt_not (pt_truth (pv 1) (fun _ => rfl)))
      (pss_one (ps_ret pe_str))
      pss_nil)
      (pss_cons (ps_set (i := 2) sc_told.nd rfl (Or.inl rfl) (pe_join pe_str (pe_lc (own := [("name", 3), ("number", 4)]) (g := gTup K 2 (gCons (gName 3) (gCons (gName 4) gNil))) rfl sc_told.nd (pi_tup (pv 1)) (blkOk_by (N := ["word", "pairs", "told", "name", "number"]) (sc := defScope s_told) (by decide +kernel)) (fun _ _ _ _ _ => (pg_tup rfl (pgs_cons (pg_name (i := 3) sc_told.nd rfl (Or.inl rfl)) (pgs_cons (pg_name (i := 4) sc_told.nd rfl (Or.inl rfl)) pgs_nil)))) (fun _ _ _ _ _ => pts_nil)
        (fun _ _ _ _ _ => pe_J (.cons (pe_fmt (pv 3)) (.cons pe_str (.cons (pe_fmt (pv 4)) .nil)))))))
      (pss_one (ps_ret (pe_joined (.cons pe_str (.cons (pe_fmt (pv 0)) (.cons pe_str (.cons (pe_fmt (pv 2)) .nil))))))))), ?_⟩
    obtain ⟨a, xs, rfl, hS, hd⟩ : ∃ a xs, x = .ref a ∧ SqT K H a xs ∧ DpAll K H xs (ps.map pD) := by
      cases hx with
      | tup h1 h2 => exact ⟨_, _, rfl, h1, h2⟩
    have hn : ps.length = xs.length := by
      have q := dpa_len hd
      rw [List.length_map] at q
      exact q
    have he : ps.isEmpty = xs.isEmpty := by
      cases ps <;> cases xs <;> first | rfl | (simp at hn)
    refine ⟨_, rfl, !xs.isEmpty, .inr (.inl ⟨xs, hS, rfl⟩), ?_⟩
    cases hb : xs.isEmpty with
    | true =>
      refine iteT ?_
      have e : toldS z ps = Str.ofString "" := by
        unfold toldS
        rw [he, hb]
        rfl
      have q := k H (Same.refl _)
      rw [e] at q
      exact q
    | false =>
      refine iteF ?_
      have e : toldS z ps = Str.empty ++ Str.ofString " " ++ z ++ Str.ofString " " ++ joinS ps := by
        unfold toldS
        rw [he, hb]
        rfl
      refine ⟨⟨_, rfl⟩, _, rfl, a, rfl, ⟨_, hS⟩, fun D hD => ?_⟩
      dsimp only [gName, tSeq, tAsg, tDrop]
      refine lc_it walk_tup (fun i H' => H' D = some (.lst (((ps.take i).map partS).map V.str)) ∧ Same H H') ⟨upd_same, Same.new hD⟩ (fun i H' _ ⟨_, S⟩ => Same.seqT S hS) ?_ ?_
      · rintro i y H1 H2 hi ⟨eD, S⟩ ⟨rfl, hy⟩
        obtain ⟨p, b, e0, rfl, ht⟩ := dpa_pairs hd hy
        have sp := sm.2 p (List.mem_of_getElem? e0)
        have si := small_int sp.2.1 sp.2.2
        refine ⟨b, _, rfl, Same.seqT S ht, rfl, _, _, rfl, _, _, rfl, rfl, ?_⟩
        refine ⟨rfl, ?_⟩
        unfold tYes
        dsimp only
        rw [if_pos rfl]
        have l1 : (Str.empty ++ p.1).length ≤ 100 := by rw [len_app]; show 0 + _ ≤ _; omega
        have l2 : (Str.empty ++ p.1 ++ Str.ofString " ").length ≤ 101 := by rw [len_app]; have : (Str.ofString " ").length = 1 := (by decide +kernel); omega
        have l3 := part_len sp
        refine ⟨_, rfl, .inl ⟨p.1, rfl, by rw [sizeLine_eq]; omega, _, rfl, by rw [sizeLine_eq]; omega, _, rfl, by rw [sizeLine_eq]; omega, _, rfl, .inr ⟨p.2, rfl, si.2, _, rfl, by rw [sizeLine_eq]; have : (partS p).length ≤ 10 := l3; unfold partS at this; omega, ?_⟩⟩⟩
        refine ⟨_, eD, ?_, ?_, Same.at hD S⟩
        · rw [List.length_map, List.length_map, List.length_take]
          have := sm.1
          exact Nat.lt_of_le_of_lt (Nat.le_trans (Nat.min_le_right _ _) (by omega : ps.length ≤ 100)) (by decide)
        · rw [upd_same, List.take_add_one, e0, List.map_append, List.map_append]
          rfl
      · rintro H9 ⟨eD, S⟩
        have tk : ps.take xs.length = ps := by rw [← hn, List.take_length]
        rw [tk] at eD
        have h2 := parts_sum sm.2
        have h1 := sm.1
        have e2 : (Str.ofString ", ").length = 2 := by decide +kernel
        refine ⟨_, D, ps.map partS, rfl, rfl, .inl (SqL.of eD), ?_, ?_⟩
        · rw [e2, List.length_map]
          omega
        have jl := joinS_len sm
        have q := k _ S
        rw [e] at q
        have b1 : (Str.ofString " ").length = 1 := by decide +kernel
        have b0 : Str.empty.length = 0 := rfl
        have n1 : (Str.empty ++ Str.ofString " ").length ≤ sizeLine := by rw [len_app, sizeLine_eq]; omega
        have n2 : (Str.empty ++ Str.ofString " " ++ z).length ≤ sizeLine := by rw [len_app, len_app, sizeLine_eq]; omega
        have n3 : (Str.empty ++ Str.ofString " " ++ z ++ Str.ofString " ").length ≤ sizeLine := by rw [len_app, len_app, len_app, sizeLine_eq]; omega
        have n4 : (Str.empty ++ Str.ofString " " ++ z ++ Str.ofString " " ++ joinS ps).length ≤ sizeLine := by rw [len_app, len_app, len_app, len_app, sizeLine_eq]; omega
        exact ⟨_, rfl, n1, _, rfl, .inl ⟨z, rfl, by rw [sizeLine_eq]; omega, _, rfl, n2, _, rfl, n3, _, rfl, .inl ⟨joinS ps, rfl, by rw [sizeLine_eq]; omega, _, rfl, n4, q⟩⟩⟩
end
end K14
/-! an own class's ==, !=, str, by the promises of its defs -/
namespace OW
open PySem PySem.Spec PyProof.Rows L2

section
variable {prog : Program} {w : World} {A : Around} {E : Value → Shared → Prop} {s : Shared} {K : PySem.W.Frag} {x C L : Addr} {h₀ : Heap} {m : Str → Option Value} {ox : Obj} {od : Option Obj} {b tb : Value}
/-- a comparison by what the left one's special method gives -/
theorem cmp_left {op : CmpOp} {Q : Value → Shared → Prop} (hu : A.units < cLine) (X : K.In s.heap) (I : PySem.W.InstAt s.heap x ox C od) (hb : PySem.W.Looks (model prog w) s.heap (typeOf b) tb) (hn : PySem.W.notFirst K C tb = true)
    (one : wpAny (model prog w) A (tryCompare (.ref x) (cmpInfo op).2.1 b) (fun r s' => ∃ v, r = some v ∧ Q v s') E s) : wpAny (model prog w) A (richCompare op (.ref x) b) Q E s := by
  unfold richCompare
  simp only [oneThing_ref]
  refine wpAny_holding (wpAny_bind (wpAny_cRoomFor hu (wpAny_bind (I.type.here (wpAny_bind (hb.here ?_))))))
  have fin : ∀ {k : Option Value → Sem Value}, (∀ v, k (some v) = pure v) → wpAny (model prog w) A (tryCompare (.ref x) (cmpInfo op).2.1 b >>= k) Q E s := fun hk => by
    refine wpAny_bind (wpAny_mono one
                                      (fun r s' z => ?_) fun _ _ e => e)
    obtain ⟨v, rfl, q⟩ := z
    rw [hk]
    exact wpAny_pure q
  split
  · rename_i q
    have e : PySem.W.subIn K tb (.ref C) = some false := by
      rcases Bool.or_eq_true_iff.mp hn with e | e
      · rw [beq_iff_eq.mp e] at q
        simp at q
      · exact beq_iff_eq.mp e
    refine wpAny_bind ((PySem.W.looks_subIn X e).here ?_)
    simp only [Bool.false_eq_true, if_false]
    exact fin fun v => rfl
  · refine wpAny_bind (wpAny_pure ?_)
    simp only [Bool.false_eq_true, if_false]
    exact fin fun v => rfl
/-- a special method that the class has from object -/
theorem if_builtin {M : Model} {name : Str} {id : String} {args : List Value} {Q : Option Value → Shared → Prop} (X : K.In s.heap) (I : PySem.W.InstAt s.heap x ox C od) (hs : PySem.W.findIn K (.ref C) name = some (some (.builtin id)))
    (hb : ∀ self, bindSpecial (.builtin id) self = pure (.builtin id, [self])) (h : wpAny M A (call (.builtin id) (.ref x :: args)) (fun v => Q (some v)) E s) : wpAny M A (callSpecialIfBound? (.ref x) name args) Q E s := by
  simp only [callSpecialIfBound?, bindSpecialIfBound?]
  refine wpAny_holding (wpAny_bind (wpAny_bind (wpAny_bind (I.type.here ((PySem.W.looks_findIn X hs).here (wpAny_bind (wpAny_askSetting (wpAny_ite ?_))))))))
  have fin : wpAny M A (call (.builtin id) ([.ref x] ++ args) >>= fun v => pure (some v)) Q E s := wpAny_bind (wpAny_mono h (fun v s' h' => wpAny_pure h') fun _ _ h' => h')
  split
  · exact wpAny_bind (wpAny_of_eq (hb _) (wpAny_pure (by exact fin)))
  · exact wpAny_tryCatch (wpAny_bind (wpAny_of_eq (hb _) (wpAny_pure (by exact fin))))
/-- != from an own == -/
theorem ne_left {f : Addr} {Q : Value → Shared → Prop} (hu : A.in1.units < cLine) (X : K.In s.heap) (I : PySem.W.InstAt s.heap x ox C od) (hm : PySem.W.mroIn K C (.type "object") = some true) (hn : PySem.W.findIn K (.ref C) "__ne__" = some (some (.builtin "object.__ne__")))
    (hs : PySem.W.findIn K (.ref C) "__eq__" = some (some (.ref f))) (hf : PySem.W.isFn K (.ref f) = true)
    (h : wpAny (model prog w) A.in1 (call (.ref f) [.ref x, b]) (fun v s' => ∃ z, v = .bool z ∧ Q (.bool (!z)) s') E s) : wpAny (model prog w) A (tryCompare (.ref x) (cmpInfo .NotEq).2.1 b) (fun r s' => ∃ v, r = some v ∧ Q v s') E s := by
  unfold tryCompare
  refine wpAny_bind (if_builtin X I hn F.cmp_object.ne.bind (wpAny_call (codeAny_call_builtin F.cmp_object.ne.plain F.cmpEntry_ne (PySem.W.check_slot F.cmpKind_ne F.cmpSplit_ne (I.type.andThen (PySem.W.looks_mroIn X hm)) (F.cmpArgs_ne _ _) ?_))))
  unfold Builtin.«object.__ne__»
  refine wpAny_bind (wpAny_of_eq (a := ((Value.ref x), [b])) rfl ?_)
  dsimp only
  refine wpAny_bind (wpAny_cRoomFor hu ?_)
  refine wpAny_bind (PySem.W.ifBound_K X I hs hf (wpAny_mono h (fun v s' z => ?_) fun _ _ e => e))
  obtain ⟨z, rfl, q⟩ := z
  refine wpAny_bind (wpAny_truthy_bool ?_)
  exact wpAny_pure (wpAny_pure ⟨_, rfl, q⟩)
end

/-- the type of a value -/
def Tyd (K : PySem.W.Frag) (H : Hp) (y : V) (tb : Value) : Prop :=
  match y with
  | .non => tb = .type "NoneType"
  | .bl _ => tb = .type "bool"
  | .int _ => tb = .type "int"
  | .str _ => tb = .type "str"
  | .ref a => ((∃ xs, SqL K H a xs) ∧ tb = .type "list") ∨ ((∃ xs, SqT K H a xs) ∧ tb = .type "tuple") ∨ ∃ C dx fs, H a = some (.ins C dx fs) ∧ tb = .ref C
  | _ => False
section
variable {X : Cx} {pins : List (Addr × Obj)} {σ : L2.St} {H : Hp} {s : Shared} {y : V} {u tb : Value}
theorem tyd_at {h : Heap} {a : Addr} {o : Obj} {M : Model} {t : Value} (ho : h.get? a = some o) (hc : o.cls = t) : PySem.W.Looks M h (typeOf (.ref a)) t := fun A Q E s k q => wpAny_typeOf_ref (k _ _ ho) (by rw [hc]; exact q)
theorem tyd_looks (I : Inv X pins σ H s) (r : RelV y u) (t : Tyd X.K H y tb) : PySem.W.Looks (model X.prog X.w) s.heap (typeOf u) tb := by
  cases y with
  | non => cases r; cases t; exact PySem.W.Looks.of_pure rfl
  | bl b => cases r; cases t; exact PySem.W.Looks.of_pure rfl
  | int i => obtain ⟨tk, rfl⟩ := r; cases t; exact PySem.W.Looks.of_pure rfl
  | str x => obtain ⟨tk, rfl⟩ := r; cases t; exact PySem.W.Looks.of_pure rfl
  | ref a =>
    cases r
    rcases t with ⟨⟨xs, h⟩, rfl⟩ | ⟨⟨xs, h⟩, rfl⟩ | ⟨C, dx, fs, h, rfl⟩
    · obtain ⟨its, _, pl, _⟩ := I.list h
      obtain ⟨o, ho, hc, _⟩ := pl.isList
      exact tyd_at ho hc
    · obtain ⟨its, _, ⟨o, ho, hc, _⟩, _⟩ := I.tuple h
      exact tyd_at ho hc
    · obtain ⟨mA, O, _⟩ := ins_get I.hok h
      obtain ⟨od, J, _⟩ := O.look
      exact J.type
  | byt _ => exact t.elim
  | flt _ => exact t.elim
  | ty _ => exact t.elim

/-- a def called from within a builtin -/
theorem run_at {CX : CXT} {n : Nat} {f : Addr} {fd : FuncData} {ps : List Str} {sp : Sp} {E : XK} {A : Around} {Q : VK} {us : List Value} {vs : List V} (F : FnOk X.prog X.w X.K X.mg X.base CX n f fd ps sp) (sb : Sub X n A) (hb : Binds X.K fd ps []) (hx : Passes CX X E)
    (I : Inv X pins σ H s) (r : Vals vs us) (h : sp vs H Q E) : wpAny (model X.prog X.w) A (call (.ref f) us) (EP X pins σ Q) X.xe s := by
  have e0 : Env0 X.prog X.w X.K X.mg X.base A X.stack s H := by
    have e := I.env0
    exact ⟨by rw [sb.fr]; exact e.frames, e.mod, e.bs, e.bsz, e.funs, e.frf, e.hok, e.bare⟩
  have hl := F.len _ _ _ _ h
  refine wpAny_call (codeAny_mono (F.run A X.stack s H ⟨us, []⟩ us vs Q E sb.room e0 (by
    have := hb s us I.kIn (by rw [List.append_nil, ← r.length]; exact hl)
    rwa [List.append_nil] at this) r h) fun r s' hq => ?_)
  cases r with
  | error e => exact hx pins σ H s e s' I hq
  | ok fl =>
    cases fl with
    | ret w => exact I.after hq
    | next => exact False.elim hq
    | brk => exact False.elim hq
    | cont => exact False.elim hq
theorem not_ni {z : V} {v : Value} {R : Prop} (r : RelV z v) (h : v ≠ .notImplemented → R) : R := h fun e => by
  subst e
  cases z <;> first | exact nomatch r | (obtain ⟨t, e⟩ := r; exact nomatch e) | (cases r)

/-- the class's own == -/
structure OwnEq (X : Cx) (C f : Addr) : Prop where
  fs : PySem.W.findIn X.K (.ref C) "__eq__" = some (some (.ref f))
  fn : PySem.W.isFn X.K (.ref f) = true
def rOwnEq (K : PySem.W.Frag) (C : Addr) (sp : Sp) (E : XK) : R2 := fun x y H Q => ∃ a dx fs tb, x = .ref a ∧ H a = some (.ins C dx fs) ∧ Tyd K H y tb ∧ PySem.W.notFirst K C tb = true ∧ sp [x, y] H Q E
theorem op_ownEq {CX : CXT} {n : Nat} {C f : Addr} {fd : FuncData} {ps : List Str} {sp : Sp} {E : XK} (F : FnOk X.prog X.w X.K X.mg X.base CX n f fd ps sp) (o : OwnEq X C f) (hr : Room n X.A) (hb : Binds X.K fd ps []) (hx : Passes CX X E) :
    OpR X (compareOp .Eq) (rOwnEq X.K C sp E) := by
  intro pins s σ H x y v u Q I rx ry h
  obtain ⟨a, dx, fs, tb, rfl, ha, ty, nf, q⟩ := h
  cases rx
  obtain ⟨mA, O, _⟩ := ins_get I.hok ha
  obtain ⟨od, J, _⟩ := O.look
  show wpAny _ _ (richCompare .Eq (.ref a) u) _ _ _
  refine cmp_left hr.units0 I.kIn J (tyd_looks I ry ty) nf ?_
  unfold tryCompare
  refine wpAny_bind (PySem.W.ifBound_K I.kIn J o.fs o.fn (wpAny_mono (run_at F ⟨hr, rfl⟩ hb hx I (vs := [.ref a, y]) (.cons rfl (.cons ry .nil)) q) (fun v s' z => ?_) fun _ _ e => e))
  obtain ⟨zv, H', I', r', q'⟩ := z
  refine not_ni r' fun ne => ?_
  cases v <;> first | exact absurd rfl ne | exact wpAny_pure ⟨_, rfl, zv, H', I', r', q'⟩
def rOwnNe (K : PySem.W.Frag) (C : Addr) (sp : Sp) (E : XK) : R2 := fun x y H Q => ∃ a dx fs tb, x = .ref a ∧ H a = some (.ins C dx fs) ∧ Tyd K H y tb ∧ PySem.W.notFirst K C tb = true ∧ sp [x, y] H (fun v H' => ∃ b, v = .bl b ∧ Q (.bl (!b)) H') E
theorem op_ownNe {CX : CXT} {n : Nat} {C f : Addr} {fd : FuncData} {ps : List Str} {sp : Sp} {E : XK} (F : FnOk X.prog X.w X.K X.mg X.base CX n f fd ps sp) (o : OwnEq X C f) (hm : PySem.W.mroIn X.K C (.type "object") = some true)
    (hn : PySem.W.findIn X.K (.ref C) "__ne__" = some (some (.builtin "object.__ne__"))) (hr : Room (n + 1) X.A) (hb : Binds X.K fd ps []) (hx : Passes CX X E) :
    OpR X (compareOp .NotEq) (rOwnNe X.K C sp E) := by
  intro pins s σ H x y v u Q I rx ry h
  obtain ⟨a, dx, fs, tb, rfl, ha, ty, nf, q⟩ := h
  cases rx
  obtain ⟨mA, O, _⟩ := ins_get I.hok ha
  obtain ⟨od, J, _⟩ := O.look
  show wpAny _ _ (richCompare .NotEq (.ref a) u) _ _ _
  refine cmp_left hr.units0 I.kIn J (tyd_looks I ry ty) nf ?_
  refine ne_left hr.in1.units0 I.kIn J hm hn o.fs o.fn (wpAny_mono (run_at F ⟨hr.in1, rfl⟩ hb hx I (vs := [.ref a, y]) (.cons rfl (.cons ry .nil)) q) (fun v s' z => ?_) fun _ _ e => e)
  obtain ⟨zv, H', I', r', b, rfl, q'⟩ := z
  cases r'
  exact ⟨b, rfl, .bl (!b), H', I', rfl, q'⟩
end
end OW
/-! an own class's in, len, [..], +, str, by the promises of its defs -/
namespace OW
open PySem PySem.Spec PyProof.Rows L2
section
variable {X : Cx} {CX : CXT} {n : Nat} {C f : Addr} {fd : FuncData} {ps : List Str} {sp : Sp} {E : XK}
/-- the class has a def at f as its special method -/
structure OwnM (X : Cx) (C : Addr) (name : Str) (f : Addr) : Prop where
  fs : PySem.W.findIn X.K (.ref C) name = some (some (.ref f))
  fn : PySem.W.isFn X.K (.ref f) = true
/-- what holds of a tracked instance -/
theorem inst_at {pins : List (Addr × Obj)} {σ : L2.St} {H : Hp} {s : Shared} {a dx : Addr} {fs : List (Str × V)} (I : Inv X pins σ H s) (ha : H a = some (.ins C dx fs)) : ∃ ox od, PySem.W.InstAt s.heap a ox C od := by
  obtain ⟨mA, O, _⟩ := ins_get I.hok ha
  obtain ⟨od, J, _⟩ := O.look
  exact ⟨_, od, J⟩
def rOwnIn (C : Addr) (sp : Sp) (E : XK) (neg : Bool) : R2 := fun y x H Q => ∃ a dx fs, x = .ref a ∧ H a = some (.ins C dx fs) ∧ sp [x, y] H (fun v H' => ∃ b, v = .bl b ∧ Q (.bl (if neg then !b else b)) H') E
theorem op_ownIn (F : FnOk X.prog X.w X.K X.mg X.base CX n f fd ps sp) (o : OwnM X C "__contains__" f) (hr : Room n X.A) (hb : Binds X.K fd ps []) (hx : Passes CX X E) : OpR X (compareOp .In) (rOwnIn C sp E false) := by
  intro pins s σ H y x u v Q I ry rx h
  obtain ⟨a, dx, fs, rfl, ha, q⟩ := h
  cases rx
  obtain ⟨ox, od, J⟩ := inst_at I ha
  obtain ⟨m, hF⟩ := I.fr
  refine PySem.W.in_K hF I.ok.mod.kin J o.fs o.fn (wpAny_mono (run_at F ⟨hr, rfl⟩ hb hx I (vs := [.ref a, y]) (.cons rfl (.cons ry .nil)) q) (fun v s' z => ?_) fun _ _ e => e)
  obtain ⟨zv, H', I', r', b, rfl, q'⟩ := z
  cases r'
  exact wpAny_truthy_bool ⟨.bl b, H', I', rfl, q'⟩
theorem op_ownNotIn (F : FnOk X.prog X.w X.K X.mg X.base CX n f fd ps sp) (o : OwnM X C "__contains__" f) (hr : Room n X.A) (hb : Binds X.K fd ps []) (hx : Passes CX X E) : OpR X (compareOp .NotIn) (rOwnIn C sp E true) := by
  intro pins s σ H y x u v Q I ry rx h
  obtain ⟨a, dx, fs, rfl, ha, q⟩ := h
  cases rx
  obtain ⟨ox, od, J⟩ := inst_at I ha
  obtain ⟨m, hF⟩ := I.fr
  refine PySem.W.notIn_K hF I.ok.mod.kin J o.fs o.fn (wpAny_mono (run_at F ⟨hr, rfl⟩ hb hx I (vs := [.ref a, y]) (.cons rfl (.cons ry .nil)) q) (fun v s' z => ?_) fun _ _ e => e)
  obtain ⟨zv, H', I', r', b, rfl, q'⟩ := z
  cases r'
  exact wpAny_truthy_bool ⟨.bl (!b), H', I', rfl, q'⟩
/-- len(o) -/
def rOwnLen (C : Addr) (sp : Sp) (E : XK) : List V → Hp → VK → Prop := fun xs H Q => ∃ a dx fs, xs = [.ref a] ∧ H a = some (.ins C dx fs) ∧ sp [.ref a] H (fun v H' => ∃ i : Int, v = .int i ∧ 0 ≤ i ∧ i < 2 ^ 63 ∧ Q (.int i) H') E
theorem cr_ownLen (F : FnOk X.prog X.w X.K X.mg X.base CX n f fd ps sp) (o : OwnM X C "__len__" f) (hr : Room (n + 1) X.A) (hb : Binds X.K fd ps []) (hx : Passes CX X E) : CallR X (.builtin "len") (rOwnLen C sp E) := by
  intro pins s σ H xs us Q I r h
  obtain ⟨a, dx, fs, rfl, ha, q⟩ := h
  rw [Vals.ref1 r]
  obtain ⟨ox, od, J⟩ := inst_at I ha
  obtain ⟨m, hF⟩ := I.fr
  refine PySem.W.len_K hF I.ok.mod.kin J o.fs o.fn (wpAny_mono (run_at F ⟨hr.in1, rfl⟩ hb hx I (vs := [.ref a]) (.cons rfl .nil) q) (fun v s' z => ?_) fun _ _ e => e)
  obtain ⟨zv, H', I', r', i, rfl, h0, h1, q'⟩ := z
  obtain ⟨t, rfl⟩ := r'
  exact ⟨⟨h0, h1⟩, .int i, H', I'.tok _, ⟨_, rfl⟩, q'⟩
/-- o + p of one class -/
def rOwnAdd (C : Addr) (sp : Sp) (E : XK) : R2 := fun x y H Q => ∃ a dx fs b dy gs, x = .ref a ∧ H a = some (.ins C dx fs) ∧ y = .ref b ∧ H b = some (.ins C dy gs) ∧ sp [x, y] H Q E
theorem op_ownAdd (F : FnOk X.prog X.w X.K X.mg X.base CX n f fd ps sp) (o : OwnM X C "__add__" f) (hc : PySem.W.selfFirst X.K C = true) (hr : Room n X.A) (hb : Binds X.K fd ps []) (hx : Passes CX X E) : OpR X (binaryOp .Add) (rOwnAdd C sp E) := by
  intro pins s σ H x y u v Q I rx ry h
  obtain ⟨a, dx, fs, b, dy, gs, rfl, ha, rfl, hb', q⟩ := h
  cases rx
  cases ry
  obtain ⟨ox, od, J⟩ := inst_at I ha
  obtain ⟨oy, od', J'⟩ := inst_at I hb'
  obtain ⟨m, hF⟩ := I.fr
  refine PySem.W.binop_K hF I.ok.mod.kin J J'.type hc o.fs o.fn (wpAny_mono (run_at F ⟨hr, rfl⟩ hb hx I (vs := [.ref a, .ref b]) (.cons rfl (.cons rfl .nil)) q) (fun v s' z => ?_) fun _ _ e => e)
  obtain ⟨zv, H', I', r', q'⟩ := z
  refine not_ni r' fun ne => ?_
  cases v <;> first | exact absurd rfl ne | exact ⟨zv, H', I', r', q'⟩
end
section
variable {prog : Program} {w : World} {A : Around} {E : Value → Shared → Prop} {s : Shared} {K : PySem.W.Frag} {x C f : Addr} {ox : Obj} {od : Option Obj}
open Builtin Builtin.Str in
/-- str(o), an own __str__ -/
theorem str_own {Q : Value → Shared → Prop} (hu : A.in1.in1.units < cLine) (X : K.In s.heap) (I : PySem.W.InstAt s.heap x ox C od) (hs : PySem.W.findIn K (.ref C) "__str__" = some (some (.ref f))) (hf : PySem.W.isFn K (.ref f) = true)
    (h : wpAny (model prog w) A.in1.in1 (call (.ref f) [.ref x]) (PySem.W.StrBack Q) E s) : wpAny (model prog w) A (call (.type "str") [.ref x]) Q E s := by
  refine callType_codes (T := "str") (Bi := Builtin.«object.__init__»)
                                                                       (Q₁ := fun r s₁ => ∃ y u, r = .str y u ∧ Q r s₁) PySem.F.called_str (PySem.F.typeCall_str_1 _) PySem.F.entry_object_init ?_ ?_
  · refine codeAny_of_tree ?_
    show wpAny _ A.in1.in1 (do checkBuiltinCall "str.__new__"
                                                              ⟨[.type "str", .ref x], []⟩; again (.builtin "str.__new__" ⟨[.type "str", .ref x], []⟩)) _ _ s
    refine wpAny_bind (wpAny_of_eq (PySem.F.newCall_str_1 _) (wpAny_pure
                                                                         ⟨plainId_quiet (by decide +kernel) _, codeAny_builtin PySem.F.entry_str_new ?_⟩))
    rw [Around.under_plainId (by decide +kernel) _, str_new_tree]
    refine wpAny_bind (wpAny_pure (wpAny_bind (wpAny_of_eq isSubtype_str_str ?_)))
    have key : wpAny (model prog w) A.in1.in1 (PySem.Builtin.Str.strOf
                                                                       (.ref x)) (fun r s₁ => ∃ y u, r = .str y u ∧ Q r s₁) E s := by
      unfold PySem.Builtin.Str.strOf
      rw [show isExactStr (.ref x) = false from rfl]
      refine wpAny_bind
                        (m := cRoomFor _ _) (wpAny_cRoomFor hu ?_)
      refine wpAny_bind (m := callSpecial? (.ref x) (Str.ofString "__str__")) (PySem.W.special_fn X I hs (beq_iff_eq.mp hf) (wpAny_mono h (fun r s' z => ?_) fun _ _ y => y))
      cases r <;> first | exact z.elim | exact wpAny_pure
                                                          ⟨_, _, rfl, z⟩
    exact wpAny_bind (wpAny_mono key
                                     (fun r s₁ hr => wpAny_pure hr) fun _ _ y => y)
  · rintro obj s₁ ⟨y, u, rfl, hq⟩
    exact ⟨typeIs_str _ _ _, PySem.F.args_object_init_2 _ _, object_init_meets PySem.F.called_str.init.lookup PySem.F.called_str.made
                                                                                                                                      (by decide) prog w A.in1 _ s₁ ⟨typeIs_str _ _ _, rfl, hq⟩⟩
end
section
variable {X : Cx} {CX : CXT} {n : Nat} {C f : Addr} {fd : FuncData} {ps : List Str} {sp : Sp} {E : XK}
def rOwnStr (C : Addr) (sp : Sp) (E : XK) : List V → Hp → VK → Prop := fun xs H Q => ∃ a dx fs, xs = [.ref a] ∧ H a = some (.ins C dx fs) ∧ sp [.ref a] H (fun v H' => ∃ z, v = .str z ∧ Q (.str z) H') E
theorem cr_ownStr (F : FnOk X.prog X.w X.K X.mg X.base CX n f fd ps sp) (o : OwnM X C "__str__" f) (hr : Room (n + 2) X.A) (hb : Binds X.K fd ps []) (hx : Passes CX X E) : CallR X (.type "str") (rOwnStr C sp E) := by
  intro pins s σ H xs us Q I r h
  obtain ⟨a, dx, fs, rfl, ha, q⟩ := h
  rw [Vals.ref1 r]
  obtain ⟨ox, od, J⟩ := inst_at I ha
  refine str_own hr.in1.in1.units0 I.kIn J o.fs o.fn (wpAny_mono (run_at F ⟨hr.in1.in1, rfl⟩ hb hx I (vs := [.ref a]) (.cons rfl .nil) q) (fun v s' z => ?_) fun _ _ e => e)
  obtain ⟨zv, H', I', r', y, rfl, q'⟩ := z
  obtain ⟨t, rfl⟩ := r'
  exact ⟨.str y, H', I', ⟨t, rfl⟩, q'⟩
/-- o[i] -/
def rOwnItem (C : Addr) (sp : Sp) (E : XK) : R2 := fun x y H Q => ∃ a dx fs, x = .ref a ∧ H a = some (.ins C dx fs) ∧ sp [x, y] H Q E
theorem pe_ownItem {a b : Expr} {ta tb : TE} {pos : Pos} (ha : PE X a ta) (hb : PE X b tb) (F : FnOk X.prog X.w X.K X.mg X.base CX n f fd ps sp) (o : OwnM X C "__getitem__" f) (hfn : PySem.W.fnIn X.K f = true) (hr : Room (n + 1) X.A) (hbd : Binds X.K fd ps []) (hx : Passes CX X E)
    (hsl : ∀ x i, subscripted b true (.ref x) i = runValue (.builtin "lifetime.subscript" ⟨[.ref x, i], []⟩)) : PE X (.Subscript a b pos) (tOp (rOwnItem C sp E) ta tb) := by
  refine ⟨fun pins s σ H Q I h => ?_⟩
  refine Subscript_
                    (binT ha hb I h fun v u s2 x y H2 I2 rx ry q => ?_)
  obtain ⟨p, dx, fs, rfl, hp, q⟩ := q
  cases rx
  obtain ⟨ox, od, J⟩ := inst_at I2 hp
  obtain ⟨m, hF⟩ := I2.fr
  exact PySem.W.sub_K hF I2.ok.mod.kin J o.fs hfn o.fn (run_at F ⟨hr.in1, rfl⟩ hbd hx I2 (vs := [.ref p, y]) (.cons rfl (.cons ry .nil)) q) (hsl _ _)
end
end OW
namespace K14
open PySem L2
/-- an empty tuple of the written part -/
def Nul (K : PySem.W.Frag) (a : Addr) : Prop := ∃ (o : Obj) (its : Array Value) (n : Nat), K.lookup a = some o ∧ o.cls = .type "tuple" ∧ o.data = .seq its n ∧ its.size ≤ sizeLine ∧ Vals [] its.toList
theorem Nul.seqT {K : PySem.W.Frag} {a : Addr} {H : Hp} (h : Nul K a) : SqT K H a [] := .inr h
/-- a property of the class -/
structure Pp (K : PySem.W.Frag) (C : Addr) (x qual : Str) (st : Stmt) where
  p : Addr
  g : Addr
  d : FuncData
  F : FunD K x qual (defArgs st) (defBody st) (defScope st) [] [] g d
  pr : PropOf K C x p g
  b : Binds K d ["self"] []
/-- a method of the class -/
structure Mt (K : PySem.W.Frag) (C : Addr) (x qual : Str) (st : Stmt) (ps : List Str) where
  f : Addr
  d : FuncData
  F : FunD K x qual (defArgs st) (defBody st) (defScope st) [] [] f d
  m : Meth K C x f
  b : Binds K d ps []
structure UX (K : PySem.W.Frag) (mg : Str → Option Value) where
  C : Addr
  mC : mg "Operation" = some (.ref C)
  cl : Cls K C
  mo : PySem.W.mroIn K C (.type "object") = some true
  ne : PySem.W.findIn K (.ref C) "__ne__" = some (some (.builtin "object.__ne__"))
  r0 : Addr
  u0 : Addr
  nr : Nul K r0
  nu : Nul K u0
  fI : Addr
  dI : FuncData
  FI : FunD K "__init__" "Operation.__init__" (defArgs s_Operation_init) (defBody s_Operation_init) (defScope s_Operation_init) [] [("ticks", .int 1), ("reads", .ref r0), ("uses", .ref u0)] fI dI
  mkI : Mk K C fI
  n1 : NoAttr K C "_name"
  n2 : NoAttr K C "_ticks"
  n3 : NoAttr K C "_reads"
  n4 : NoAttr K C "_uses"
  pn : Pp K C "name" "Operation.name" s_Operation_name
  pt : Pp K C "ticks" "Operation.ticks" s_Operation_ticks
  pr : Pp K C "reads" "Operation.reads" s_Operation_reads
  pu : Pp K C "uses" "Operation.uses" s_Operation_uses
  prn : Pp K C "read_names" "Operation.read_names" s_Operation_read_names
  pun : Pp K C "units" "Operation.units" s_Operation_units
  me : Mt K C "__eq__" "Operation.__eq__" s_Operation_eq ["self", "other"]
  ms : Mt K C "__str__" "Operation.__str__" s_Operation_str ["self"]
  tin : ∀ n, n ∈ ["NoneType", "bool", "int", "str", "list", "tuple"] → PySem.W.notFirst K C (.type n) = true ∧ PySem.W.kitOne K (.type n) (.ref C) = some false
  ca : PySem.W.findIn K (.ref C) "__class__" = some
                                                    (some (.builtin "object.__class__"))
  cg : PySem.W.specialIn K (.builtin "object.__class__") "__get__" = some (some (.builtin "getset_descriptor.__get__"))
  ct : PySem.W.takesIn K
                         (.builtin "object.__class__") = some true
/-- what an operation keeps -/
def opF (x1 x2 x3 x4 : V) : List (Str × V) := putF "_uses" x4 (putF "_reads" x3 (putF "_ticks" x2 (putF "_name" x1 [])))
theorem opF1 (x1 x2 x3 x4 : V) : (opF x1 x2 x3 x4).lookup (("_name" : Str)) = some x1 := rfl
theorem opF2 (x1 x2 x3 x4 : V) : (opF x1 x2 x3 x4).lookup (("_ticks" : Str)) = some x2 := rfl
theorem opF3 (x1 x2 x3 x4 : V) : (opF x1 x2 x3 x4).lookup (("_reads" : Str)) = some x3 := rfl
theorem opF4 (x1 x2 x3 x4 : V) : (opF x1 x2 x3 x4).lookup (("_uses" : Str)) = some x4 := rfl
/-- a name, ticks, what is read, what is used -/
structure Rw where
  n : Str
  t : Int
  rs : Prs
  us : Prs
structure Rw.Ok (r : Rw) : Prop where
  n : nmC r.n = true
  t : 1 ≤ r.t ∧ r.t ≤ 4
  rl : r.rs.length ≤ 3
  ul : r.us.length ≤ 4
  rs : ∀ p ∈ r.rs, nmC p.1 = true ∧ 0 ≤ p.2 ∧ p.2 ≤ 3
  us : ∀ p ∈ r.us, nmC p.1 = true ∧ 0 ≤ p.2 ∧ p.2 ≤ 3
  asc : Asc r.us
theorem nm_len {z : Str} (h : nmC z = true) : z.length ≤ 8 := by
  unfold nmC at h
  exact (of_decide_eq_true (Bool.and_eq_true_iff.mp h).1).2
theorem small_of {ps : Prs} (hl : ps.length ≤ 4) (h : ∀ p ∈ ps, nmC p.1 = true ∧ 0 ≤ p.2 ∧ p.2 ≤ 3) : Small ps := ⟨hl, fun p hp => ⟨nm_len (h p hp).1, (h p hp).2.1, by have := (h p hp).2.2; omega⟩⟩
theorem row_ok {ps : Prs} {most : Nat} (hl : ps.length ≤ most) (h : ∀ p ∈ ps, nmC p.1 = true ∧ 0 ≤ p.2 ∧ p.2 ≤ 3) : rwD most 3 (tD ps) = true := by
  show (decide ((ps.map pD).length ≤ most) && (ps.map pD).all (prD 3)) = true
  rw [List.length_map, decide_eq_true hl, Bool.true_and, List.all_map, List.all_eq_true]
  intro p hp
  obtain ⟨h1, h2, h3⟩ := h p hp
  show (nmC p.1 && ((decide (-1000000000000 < p.2) && decide (p.2 < 1000000000000)) && (decide (0 ≤ p.2) && decide (p.2 ≤ 3)))) = true
  rw [h1, decide_eq_true (by omega), decide_eq_true (by omega), decide_eq_true h2, decide_eq_true h3]
  rfl
theorem all_pr {ps : Prs} (h : ∀ p ∈ ps, nmC p.1 = true ∧ 0 ≤ p.2 ∧ p.2 ≤ 3) : (ps.map pD).all (prD 3) = true := by
  have q := row_ok (Nat.le_refl _) h
  exact (Bool.and_eq_true_iff.mp (show (decide ((ps.map pD).length ≤ ps.length) && (ps.map pD).all (prD 3)) = true from q)).2
theorem okD_str' {z : Str} (h : z.length ≤ 8) : okD (.str z) := by
  unfold okD
  rw [PyData.weight]
  have e : z.cps.size = z.length := rfl
  omega
theorem okD_prs {ps : Prs} (hl : ps.length ≤ 4) (h : ∀ p ∈ ps, nmC p.1 = true ∧ 0 ≤ p.2 ∧ p.2 ≤ 3) : okD (tD ps) := by
  have key : ∀ ps : Prs, (∀ p ∈ ps, p.1.length ≤ 8 ∧ p.2.natAbs.log2 < 1920) → PyData.weightAll (ps.map pD) ≤ 2000 * ps.length := by
    intro ps
    induction ps with
    | nil => intro _; rw [List.map_nil, PyData.weightAll]; exact Nat.zero_le _
    | cons p ps ih =>
      intro h
      have h1 := ih fun q hq => h q (List.mem_cons_of_mem _ hq)
      have h2 := h p List.mem_cons_self
      rw [List.map_cons, PyData.weightAll, List.length_cons]
      have hp : (pD p).weight ≤ 1950 := by
        unfold pD
        rw [PyData.weight, PyData.weightAll, PyData.weightAll, PyData.weightAll, PyData.weight]
        have e : p.1.cps.size = p.1.length := rfl
        first
          | (split <;> omega)
          | (rw [PyData.weight]; split <;> omega)
      omega
  have q := key ps fun p hp => ⟨nm_len (h p hp).1, (small_int (h p hp).2.1 (by have := (h p hp).2.2; omega)).2⟩
  unfold okD tD
  rw [PyData.weight]
  omega
/-- an operation stands at p -/
def OpAt (K : PySem.W.Frag) (H : Hp) (C p : Addr) (r : Rw) : Prop := r.Ok ∧ ∃ dx x3 x4, H p = some (.ins C dx (opF (.str r.n) (.int r.t) x3 x4)) ∧ Dp K H x3 (tD r.rs) ∧ Dp K H x4 (tD r.us)
theorem OpAt.same {K : PySem.W.Frag} {H H' : Hp} {C p : Addr} {r : Rw} (s : Same H H') (h : OpAt K H C p r) : OpAt K H' C p r := by
  obtain ⟨ok, dx, x3, x4, h1, h2, h3⟩ := h
  exact ⟨ok, dx, x3, x4, s _ _ h1, dp_same s _ _ h2, dp_same s _ _ h3⟩
section
variable {P : Program} {w : World} {K : PySem.W.Frag}
                                                      {mg : Str → Option Value} {base : Heap}
def sp_init (K : PySem.W.Frag) (C : Addr) : Sp := fun vs H Q _ => ∃ (p dx : Addr) (x3 x4 : V) (r : Rw), vs = [.ref p, .str r.n, .int r.t, x3, x4] ∧ r.Ok ∧ H p = some (.ins C dx []) ∧ Dp K H x3 (tD r.rs) ∧ Dp K H x4 (tD r.us) ∧
  ∀ H', Same H H' → Q .non (upd H' p (.ins C dx (opF (.str r.n) (.int r.t) x3 x4)))
theorem ok_init (T : T K mg) (U : UX K mg) : FnOk P w K mg base CX0 5 U.fI U.dI ["self", "name", "ticks", "reads", "uses"] (sp_init K U.C) := by
  have G_ascends : FnOk P w K mg base CX0 1 T.f_ascends T.d_ascends ["row"] (sp_ascends K) := ok_ascends T
  have G_is_between : FnOk P w K mg base CX0 2 T.f_is_between T.d_is_between ["value", "low", "high"] (sp_is_between K) := ok_is_between T
  have G_is_name : FnOk P w K mg base CX0 1 T.f_is_name T.d_is_name ["value"] (sp_is_name K) := ok_is_name T
  have G_is_row_of_pairs : FnOk P w K mg base CX0 4 T.f_is_row_of_pairs T.d_is_row_of_pairs ["value", "most", "highest"] (sp_is_row_of_pairs K) := ok_is_row_of_pairs T
  refine U.FI.ok sc_Operation_init (fun vs H Q E h => ?_) (fun cdv A outer s H vs Q E hr h => ?_)
  · obtain ⟨p, dx, x3, x4, r, rfl, _⟩ := h
    rfl
  · obtain ⟨p, dx, x3, x4, r, rfl, ok, hp, h3, h4, k⟩ := h
    have hu := hu_of hr
    have hr_ascends : Room 1 _ := hr.mono (by decide)
    have hr_is_between : Room 2 _ := hr.mono (by decide)
    have hr_is_name : Room 1 _ := hr.mono (by decide)
    have hr_is_row_of_pairs : Room 4 _ := hr.mono (by decide)
    obtain ⟨_, c_MAX_DISTANCE⟩ := T.c_MAX_DISTANCE
    obtain ⟨_, c_MAX_OFFSET⟩ := T.c_MAX_OFFSET
    obtain ⟨_, c_MAX_READS⟩ := T.c_MAX_READS
    obtain ⟨_, c_MAX_TICKS⟩ := T.c_MAX_TICKS
    obtain ⟨_, c_MAX_USES⟩ := T.c_MAX_USES
    refine ⟨_, (pss_cons (ps_if (pt_not (pt_val (pe_call G_is_name hr_is_name rfl T.m_is_name T.F_is_name.kp T.b_is_name .nil pass0 (pa_cons (pv 1) pa_nil))))
      (pss_one ps_never)
      pss_nil)
      (pss_cons (ps_if (pt_not (pt_val (pe_call G_is_between hr_is_between rfl T.m_is_between T.F_is_between.kp T.b_is_between .nil pass0 (pa_cons (pv 2) (pa_cons pe_int (pa_cons (pe_glob (v := V.int 4) rfl c_MAX_TICKS ⟨_, rfl⟩) pa_nil))))))
      (pss_one ps_never)
      pss_nil)
      (pss_cons (ps_if (pt_not (pt_val (pe_call G_is_row_of_pairs hr_is_row_of_pairs rfl T.m_is_row_of_pairs T.F_is_row_of_pairs.kp T.b_is_row_of_pairs .nil pass0 (pa_cons (pv 3) (pa_cons (pe_glob (v := V.int 3) rfl c_MAX_READS ⟨_, rfl⟩) (pa_cons (pe_glob (v := V.int 3) rfl c_MAX_DISTANCE ⟨_, rfl⟩) pa_nil))))))
      (pss_one ps_never)
      pss_nil)
      (pss_cons (ps_if (PW.pt (pw_or (pt_not (pt_val (pe_call G_is_row_of_pairs hr_is_row_of_pairs rfl T.m_is_row_of_pairs T.F_is_row_of_pairs.kp T.b_is_row_of_pairs .nil pass0 (pa_cons (pv 4) (pa_cons (pe_glob (v := V.int 4) rfl c_MAX_USES ⟨_, rfl⟩) (pa_cons (pe_glob (v := V.int 3) rfl c_MAX_OFFSET ⟨_, rfl⟩) pa_nil)))))) (pw_or1 (pt_not (pt_val (pe_call G_ascends hr_ascends rfl T.m_ascends T.F_ascends.kp T.b_ascends .nil pass0 (pa_cons (pv 4) pa_nil)))))))
      (pss_one ps_never)
      pss_nil)
      (pss_cons (ps_fld (pv 0) (pv 1) rfl)
      (pss_cons (ps_fld (pv 0) (pv 2) rfl)
      (pss_cons (ps_fld (pv 0) (pv 3) rfl)
      (pss_one (ps_fld (pv 0) (pv 4) rfl))))))))), ?_⟩
    refine ⟨_, rfl, _, .str r.n, rfl, .inl (.str _), okD_str' (nm_len ok.n), fun H1 S1 => ⟨_, rfl, ?_⟩⟩
    rw [show nmD (.str r.n) = true from ok.n]
    refine iteF ?_
    refine ⟨_, rfl, _, .int r.t, 1, 4, rfl, .inl (.int _), _, rfl, ?_⟩
    rw [show inD 1 4 (.int r.t) = true by
      obtain ⟨h1, h2⟩ := ok.t
      show ((decide (-1000000000000 < r.t) && decide (r.t < 1000000000000)) && (decide (1 ≤ r.t) && decide (r.t ≤ 4))) = true
      rw [decide_eq_true (by omega), decide_eq_true (by omega), decide_eq_true h1, decide_eq_true h2]
      rfl]
    refine iteF ?_
    refine ⟨_, rfl, x3, tD r.rs, 3, 3, rfl, .inl (dp_same S1 _ _ h3), okD_prs (Nat.le_trans ok.rl (by decide)) ok.rs, by decide, fun H2 S2 => ⟨_, rfl, ?_⟩⟩
    have S12 : Same H H2 := Same.trans S1 S2
    rw [row_ok ok.rl ok.rs]
    refine iteF ?_
    refine ⟨_, rfl, x4, tD r.us, 4, 3, rfl, .inl (dp_same S12 _ _ h4), okD_prs ok.ul ok.us, by decide, fun H3 S3 => ⟨_, rfl, ?_⟩⟩
    have S13 : Same H H3 := Same.trans S12 S3
    rw [row_ok ok.ul ok.us]
    refine iteF ?_
    refine ⟨_, rfl, x4, r.us.map pD, 3, rfl, dp_same S13 _ _ h4, all_pr ok.us, by rw [List.length_map]; have := ok.ul; omega, fun H4 S4 => ⟨_, rfl, ?_⟩⟩
    have S14 : Same H H4 := Same.trans S13 S4
    rw [asc_data ok.asc]
    refine iteF ?_
    refine ⟨_, rfl, _, rfl, p, U.C, dx, _, rfl, S14 _ _ hp, U.cl, U.n1, (by show 0 < 1000; decide), ?_⟩
    refine ⟨_, rfl, _, rfl, p, U.C, dx, _, rfl, upd_same, U.cl, U.n2, (by show 1 < 1000; decide), ?_⟩
    refine ⟨_, rfl, _, rfl, p, U.C, dx, _, rfl, upd_same, U.cl, U.n3, (by show 2 < 1000; decide), ?_⟩
    refine ⟨_, rfl, _, rfl, p, U.C, dx, _, rfl, upd_same, U.cl, U.n4, (by show 3 < 1000; decide), ?_⟩
    rw [upd_upd, upd_upd, upd_upd]
    exact k H4 S14
end
end K14
namespace K14
open PySem L2
def eqR (r q : Rw) : Bool := decide (V.str r.n = V.str q.n) && (decide (V.int r.t = V.int q.t) && (PyData.eqv (tD r.rs) (tD q.rs) && PyData.eqv (tD r.us) (tD q.us)))
theorem nm_ok {z : Str} (h : nmC z = true) : PyData.strOk z = true := by
  unfold nmC at h
  have q := (Bool.and_eq_true_iff.mp h).2
  unfold PyData.strOk
  rw [← Array.all_toList, List.all_eq_true]
  intro c hc
  have e := List.all_eq_true.mp q c hc
  have e2 := of_decide_eq_true (Bool.and_eq_true_iff.mp e).2
  exact decide_eq_true (by omega)
theorem shaped_prs {ps : Prs} (h : ∀ p ∈ ps, nmC p.1 = true ∧ 0 ≤ p.2 ∧ p.2 ≤ 3) : SeqAt.shaped (tD ps) = true ∧ SeqAt.shaped (lD ps) = true := by
  have key : ∀ ps : Prs, (∀ p ∈ ps, nmC p.1 = true ∧ 0 ≤ p.2 ∧ p.2 ≤ 3) → PyData.canLayAll0 (ps.map pD) = true ∧ PyData.depthAll (ps.map pD) ≤ 1 := by
    intro ps
    induction ps with
    | nil => intro _; exact ⟨by simp [PyData.canLayAll0], by simp [PyData.depthAll]⟩
    | cons p ps ih =>
      intro h
      obtain ⟨h1, h2⟩ := ih fun q hq => h q (List.mem_cons_of_mem _ hq)
      have h3 := nm_ok (h p List.mem_cons_self).1
      refine ⟨?_, ?_⟩
      · simp [PyData.canLayAll0, PyData.canLay0, pD, h1, h3]
      · simp [PyData.depthAll, PyData.depth, pD]
        omega
  obtain ⟨k1, k2⟩ := key ps h
  unfold SeqAt.shaped tD lD
  refine ⟨?_, ?_⟩
  · rw [Bool.and_eq_true]
    refine ⟨by simpa [PyData.canLay0] using k1, decide_eq_true ?_⟩
    rw [PyData.depth]
    omega
  · rw [Bool.and_eq_true]
    refine ⟨by simpa [PyData.canLay0] using k1, decide_eq_true ?_⟩
    rw [PyData.depth]
    omega
theorem un64 {k : Nat} {A : Around} (r : Room k A) : A.units + 64 < cLine := by
  have := r.un
  omega
section
variable {P : Program} {w : World} {K : PySem.W.Frag}
                                                      {mg : Str → Option Value} {base : Heap}
theorem ok_get {x qual f : Str} {st : Stmt} {C : Addr} (c : Cls K C) (p : Pp K C x qual st) (S : FnScope ["self"] ["self"] (defScope st)) (n : NoAttr K C f)
    (hb : ∃ p1 p2 p3, defBody st = [.Return (some (.Attribute (.Name "self" p1) f p2)) p3]) : FnOk P w K mg base CX0 1 p.g p.d ["self"] (getSp C f) := by
  obtain ⟨oc, od, dV, kV, doc, pm, an, cdv, ct, osl, e, lk, hcd, _, _⟩ := p.F.ex
  obtain ⟨p1, p2, p3, hb⟩ := hb
  rw [e] at lk ⊢
  exact fn_getter lk hcd S rfl hb c n
def sp_fst (K : PySem.W.Frag) (C : Addr) (g : Rw → Prs) : Sp := fun vs H Q _ => ∃ (p : Addr) (r : Rw), vs = [.ref p] ∧ OpAt K H C p r ∧ ∀ (ys : List Str) (l : Addr) H', KS.Srt ((g r).map (·.1)) ys → Same H H' → SqT K H' l (ys.map V.str) → Q (.ref l) H'
theorem ok_read_names (T : T K mg) (U : UX K mg) : FnOk P w K mg base CX0 3 U.prn.g U.prn.d ["self"] (sp_fst K U.C Rw.rs) := by
  have G_first_items : FnOk P w K mg base CX0 1 T.f_first_items T.d_first_items ["rows"] (sp_first_items K) := ok_first_items T
  refine U.prn.F.ok sc_Operation_read_names (fun vs H Q E h => ?_) (fun cdv A outer s H vs Q E hr h => ?_)
  · obtain ⟨p, r, rfl, _⟩ := h
    rfl
  · obtain ⟨p, r, rfl, ⟨ok, dx, x3, x4, hp, h3, h4⟩, k⟩ := h
    have hu := hu_of hr
    have hr_first_items : Room 1 _ := hr.mono (by decide)
    refine ⟨_, (pss_one (ps_ret (pe_call G_first_items hr_first_items rfl T.m_first_items T.F_first_items.kp T.b_first_items .nil pass0 (pa_cons (pe_fld (pv 0) rfl) pa_nil)))), ?_⟩
    exact ⟨_, rfl, p, U.C, dx, _, x3, rfl, hp, U.cl, U.n3, rfl, x3, r.rs, rfl, h3, by have := ok.rl; omega, k⟩
theorem ok_units (T : T K mg) (U : UX K mg) : FnOk P w K mg base CX0 3 U.pun.g U.pun.d ["self"] (sp_fst K U.C Rw.us) := by
  have G_first_items : FnOk P w K mg base CX0 1 T.f_first_items T.d_first_items ["rows"] (sp_first_items K) := ok_first_items T
  refine U.pun.F.ok sc_Operation_units (fun vs H Q E h => ?_) (fun cdv A outer s H vs Q E hr h => ?_)
  · obtain ⟨p, r, rfl, _⟩ := h
    rfl
  · obtain ⟨p, r, rfl, ⟨ok, dx, x3, x4, hp, h3, h4⟩, k⟩ := h
    have hu := hu_of hr
    have hr_first_items : Room 1 _ := hr.mono (by decide)
    refine ⟨_, (pss_one (ps_ret (pe_call G_first_items hr_first_items rfl T.m_first_items T.F_first_items.kp T.b_first_items .nil pass0 (pa_cons (pe_fld (pv 0) rfl) pa_nil)))), ?_⟩
    exact ⟨_, rfl, p, U.C, dx, _, x4, rfl, hp, U.cl, U.n4, rfl, x4, r.us, rfl, h4, by have := ok.ul; omega, k⟩
def sp_eq (K : PySem.W.Frag) (C : Addr) : Sp := fun vs H Q _ => ∃ (p : Addr) (r : Rw) (y : V), vs = [.ref p, y] ∧ OpAt K H C p r ∧
  ((∃ q r2, y = .ref q ∧ OpAt K H C q r2 ∧ Q (.bl (eqR r r2)) H) ∨ ∃ n, n ∈ ["NoneType", "bool", "int", "str", "list", "tuple"] ∧ TyX K H y (.type n) ∧ Q (.bl false) H)
theorem ok_eq (T : T K mg) (U : UX K mg) : FnOk P w K mg base CX0 3 U.me.f U.me.d ["self", "other"] (sp_eq K U.C) := by
  refine U.me.F.ok sc_Operation_eq (fun vs H Q E h => ?_) (fun cdv A outer s H vs Q E hr h => ?_)
  · obtain ⟨p, r, y, rfl, _⟩ := h
    rfl
  · obtain ⟨p, r, y, rfl, ⟨ok, dx, x3, x4, hp, h3, h4⟩, alt⟩ := h
    have hu := hu_of hr
    have hu64 := hr.un
    refine ⟨_, (pss_one (ps_ret (pe_and (pe_callB call_isi (by rfl) T.z_isinstance (by decide +kernel) (pa_cons (pv 1) (pa_cons (pe_glob (v := V.ref U.C) rfl U.mC rfl) pa_nil))) (pe_and (pe_cmpR op_eq (pe_fld (pv 0) rfl) (pe_fld (pv 1) rfl) (nomark _)) (pe_and (pe_cmpR op_eq (pe_fld (pv 0) rfl) (pe_fld (pv 1) rfl) (nomark _)) (pe_and (pe_cmpR (op_eqD (un64 hr)) (pe_fld (pv 0) rfl) (pe_fld (pv 1) rfl) (nomark _)) (pe_one (pe_cmpR (op_eqD (un64 hr)) (pe_fld (pv 0) rfl) (pe_fld (pv 1) rfl) (nomark _))))))))), ?_⟩
    rcases alt with ⟨q, r2, rfl, ⟨ok2, dy, y3, y4, hq, h3', h4'⟩, k⟩ | ⟨n, hn, ty, k⟩
    · refine ⟨_, rfl, _, _, _, _, true, rfl, .own _, .base (.ins hq U.cl U.ca U.cg U.ct U.mo), by unfold PySem.W.kitOne; rw [if_pos (beq_self_eq_true _)], ?_⟩
      refine ⟨_, rfl, ?_⟩
      refine iteT ?_
      refine ⟨_, rfl, p, U.C, dx, _, .str r.n, rfl, hp, U.cl, U.n1, rfl, _, rfl, q, U.C, dy, _, .str r2.n, rfl, hq, U.cl, U.n1, rfl, rfl, _, rfl, ?_⟩
      unfold eqR at k
      by_cases c1 : V.str r.n = V.str r2.n
      · rw [decide_eq_true c1] at k ⊢
        refine iteT ?_
        rw [Bool.true_and] at k
        refine ⟨_, rfl, p, U.C, dx, _, .int r.t, rfl, hp, U.cl, U.n2, rfl, _, rfl, q, U.C, dy, _, .int r2.t, rfl, hq, U.cl, U.n2, rfl, rfl, _, rfl, ?_⟩
        by_cases c2 : V.int r.t = V.int r2.t
        · rw [decide_eq_true c2] at k ⊢
          refine iteT ?_
          rw [Bool.true_and] at k
          refine ⟨_, rfl, p, U.C, dx, _, x3, rfl, hp, U.cl, U.n3, rfl, _, rfl, q, U.C, dy, _, y3, rfl, hq, U.cl, U.n3, rfl, _, _, h3, h3', (shaped_prs ok.rs).1, (shaped_prs ok2.rs).1, _, rfl, ?_⟩
          by_cases c3 : PyData.eqv (tD r.rs) (tD r2.rs) = true
          · rw [c3] at k ⊢
            refine iteT ?_
            rw [Bool.true_and] at k
            exact ⟨_, rfl, p, U.C, dx, _, x4, rfl, hp, U.cl, U.n4, rfl, _, rfl, q, U.C, dy, _, y4, rfl, hq, U.cl, U.n4, rfl, _, _, h4, h4', (shaped_prs ok.us).1, (shaped_prs ok2.us).1, k⟩
          · rw [Bool.eq_false_iff.mpr c3] at k ⊢
            exact iteF k
        · rw [decide_eq_false c2] at k ⊢
          exact iteF k
      · rw [decide_eq_false c1] at k ⊢
        exact iteF k
    · refine ⟨_, rfl, _, _, _, _, false, rfl, .own _, ty, (U.tin n hn).2, ?_⟩
      exact ⟨_, rfl, iteF k⟩
/-- the text of an operation -/
def headS (r : Rw) : Str := Str.empty ++ r.n ++ Str.ofString " " ++ toString r.t
def opS (r : Rw) : Str := Txt.join (Str.ofString "") [headS r, toldS (Str.ofString "reads") r.rs, toldS (Str.ofString "uses") r.us]
theorem told_len {z : Str} {ps : Prs} (hz : z.length ≤ 100) (h : Small ps) : (toldS z ps).length ≤ 200 := by
  unfold toldS
  have b1 : (Str.ofString " ").length = 1 := by decide +kernel
  have b0 : Str.empty.length = 0 := rfl
  have jl := joinS_len h
  split
  · omega
  · rw [len_app, len_app, len_app, len_app]
    omega
def sp_str (K : PySem.W.Frag) (C : Addr) : Sp := fun vs H Q _ => ∃ (p : Addr) (r : Rw), vs = [.ref p] ∧ OpAt K H C p r ∧ ∀ H', Same H H' → Q (.str (opS r)) H'
theorem ok_str (T : T K mg) (U : UX K mg) : FnOk P w K mg base CX0 3 U.ms.f U.ms.d ["self"] (sp_str K U.C) := by
  have G_told : FnOk P w K mg base CX0 1 T.f_told T.d_told ["word", "pairs"] (sp_told K) := ok_told T
  refine U.ms.F.ok sc_Operation_str (fun vs H Q E h => ?_) (fun cdv A outer s H vs Q E hr h => ?_)
  · obtain ⟨p, r, rfl, _⟩ := h
    rfl
  · obtain ⟨p, r, rfl, ⟨ok, dx, x3, x4, hp, h3, h4⟩, k⟩ := h
    have hu := hu_of hr
    have hr_told : Room 1 _ := hr.mono (by decide)
    refine ⟨_, (pss_one (ps_ret (pe_join pe_str (pe_lst (pa_cons (pe_J (.cons (pe_fmt (pe_fld (pv 0) rfl)) (.cons pe_str (.cons (pe_fmt (pe_fld (pv 0) rfl)) .nil)))) (pa_cons (pe_call G_told hr_told rfl T.m_told T.F_told.kp T.b_told .nil pass0 (pa_cons pe_str (pa_cons (pe_fld (pv 0) rfl) pa_nil))) (pa_cons (pe_call G_told hr_told rfl T.m_told T.F_told.kp T.b_told .nil pass0 (pa_cons pe_str (pa_cons (pe_fld (pv 0) rfl) pa_nil))) pa_nil))))))), ?_⟩
    have nl := nm_len ok.n
    have ti := small_int (i := r.t) (by have := ok.t; omega) ok.t.2
    have b1 : (Str.ofString " ").length = 1 := by decide +kernel
    have b0 : Str.empty.length = 0 := rfl
    have n1 : (Str.empty ++ r.n).length ≤ sizeLine := by rw [len_app, sizeLine_eq]; omega
    have n2 : (Str.empty ++ r.n ++ Str.ofString " ").length ≤ sizeLine := by rw [len_app, len_app, sizeLine_eq]; omega
    have n3 : (Str.empty ++ r.n ++ Str.ofString " " ++ toString r.t).length ≤ sizeLine := by rw [len_app, len_app, len_app, ti.1, sizeLine_eq]; omega
    have sr := small_of (Nat.le_trans ok.rl (by decide)) ok.rs
    have su := small_of ok.ul ok.us
    refine ⟨⟨_, rfl⟩, _, rfl, p, U.C, dx, _, .str r.n, rfl, hp, U.cl, U.n1, rfl, .inl ⟨r.n, rfl, by rw [sizeLine_eq]; omega, _, rfl, n1, _, rfl, n2, _, rfl, p, U.C, dx, _, .int r.t, rfl, hp, U.cl, U.n2, rfl, .inr ⟨r.t, rfl, ti.2, _, rfl, n3, ?_⟩⟩⟩
    refine ⟨_, rfl, p, U.C, dx, _, x3, rfl, hp, U.cl, U.n3, rfl, Str.ofString "reads", x3, r.rs, rfl, by decide +kernel, h3, sr, fun H1 S1 => ?_⟩
    refine ⟨_, rfl, p, U.C, dx, _, x4, rfl, S1 _ _ hp, U.cl, U.n4, rfl, Str.ofString "uses", x4, r.us, rfl, by decide +kernel, dp_same S1 _ _ h4, su, fun H2 S2 => ?_⟩
    refine ⟨by show 3 ≤ sizeLine; decide, fun l hl => ?_⟩
    have S12 : Same H H2 := Same.trans S1 S2
    refine ⟨_, l, [headS r, toldS (Str.ofString "reads") r.rs, toldS (Str.ofString "uses") r.us], rfl, rfl, .inl (SqL.of upd_same), ?_, k _ (Same.trans S12 (Same.new hl))⟩
    have t1 := told_len (z := Str.ofString "reads") (by decide +kernel) sr
    have t2 := told_len (z := Str.ofString "uses") (by decide +kernel) su
    have t0 : (headS r).length ≤ 20 := by unfold headS; rw [len_app, len_app, len_app, ti.1]; omega
    have e0 : (Str.ofString "").length = 0 := by decide +kernel
    rw [e0]
    simp only [List.map_cons, List.map_nil, List.sum_cons, List.sum_nil, Nat.mul_zero]
    omega
end
end K14
namespace K14
open PySem L2
section
variable {P : Program} {w : World} {K : PySem.W.Frag}
                                                      {mg : Str → Option Value} {base : Heap}
theorem lt1 {n : Nat} (h : n + 64 < cLine) : n + 1 < cLine := by omega
/-- kept: all but dicts and tables -/
def Kp (H H' : Hp) : Prop := ∀ b o, H b = some o → (∀ kvs, o ≠ .dK kvs) → (∀ ps, o ≠ .tbl ps) → H' b = some o
theorem Kp.seqL {H H' : Hp} {a : Addr} {xs : List V} (e : Kp H H') (h : SqL K H a xs) : SqL K H' a xs := by
  rcases h with (h | ⟨o, h⟩) | h
  · exact .inl (.inl (e _ _ h (by intro _ z; cases z) (by intro _ z; cases z)))
  · exact .inl (.inr ⟨o, e _ _ h (by intro _ z; cases z) (by intro _ z; cases z)⟩)
  · exact .inr h
theorem Kp.seqT {H H' : Hp} {a : Addr} {xs : List V} (e : Kp H H') (h : SqT K H a xs) : SqT K H' a xs := by
  rcases h with (h | ⟨o, h⟩) | h
  · exact .inl (.inl (e _ _ h (by intro _ z; cases z) (by intro _ z; cases z)))
  · exact .inl (.inr ⟨o, e _ _ h (by intro _ z; cases z) (by intro _ z; cases z)⟩)
  · exact .inr h
mutual
theorem dp_kp {H H' : Hp} (s : Kp H H') : ∀ (d : PyData) (x : V), Dp K H x d → Dp K H' x d
  | .none, _, h => by cases h; exact .non
  | .bool b, _, h => by cases h; exact .bl b
  | .int i, _, h => by cases h; exact .int i
  | .str z, _, h => by cases h; exact .str z
  | .list ds, _, h => by
    cases h with
    | lst h1 h2 => exact .lst (Kp.seqL s h1) (dpa_kp s ds _ h2)
  | .tuple ds, _, h => by
    cases h with
    | tup h1 h2 => exact .tup (Kp.seqT s h1) (dpa_kp s ds _ h2)
  | .dict _, _, h => by cases h
theorem dpa_kp {H H' : Hp} (s : Kp H H') : ∀ (ds : List PyData) (xs : List V), DpAll K H xs ds → DpAll K H' xs ds
  | [], _, h => by cases h; exact .nil
  | d :: ds, _, h => by
    cases h with
    | cons h1 h2 => exact .cons (dp_kp s d _ h1) (dpa_kp s ds _ h2)
end
theorem Same.kp {H H' : Hp} (s : Same H H') : Kp H H' := fun b o e _ _ => s b o e
theorem Kp.trans {H H1 H2 : Hp} (a : Kp H H1) (b : Kp H1 H2) : Kp H H2 := fun c o h n m => b c o (a c o h n m) n m
theorem Kp.lock {H : Hp} {a : Addr} {kvs : List (Key × V)} {o : HO} (h : H a = some (.dK kvs)) : Kp H (upd H a o) := fun b u e n _ => by
  rw [upd_ne (fun z => n kvs (by rw [z, h] at e; exact (Option.some.inj e).symm))]
  exact e
def keyD : Key → PyData
  | .inl n => .int n
  | .inr z => .str z
theorem keyD_dp {H : Hp} : ∀ k : Key, Dp K H (kV k) (keyD k)
  | .inl n => .int n
  | .inr z => .str z
abbrev Qu := Key × V × PyData
def okQ (q : Qu) : Bool := nmD (keyD q.1) && nmD q.2.2
def kvQ (qs : List Qu) : List (Key × V) := qs.map fun q => (q.1, q.2.1)
def toD (r : Str × Int) : PyData := .tuple [.str r.1, .int r.2]
theorem dpa_of {H : Hp} (g : Str → Str) : ∀ (rs : List (Str × Int)) (acc : List V), acc.length = rs.length → (∀ (j : Nat) (r : Str × Int), rs[j]? = some r → ∃ b : Addr, acc[j]? = some (V.ref b) ∧ H b = some (.tup [V.str (g r.1), V.int r.2])) → DpAll K H acc (rs.map fun r => toD (g r.1, r.2))
  | [], [], _, _ => .nil
  | r :: rs, v :: acc, l, h => by
    obtain ⟨b, e1, e2⟩ := h 0 r rfl
    obtain rfl := Option.some.inj e1
    exact .cons (.tup (SqT.of e2) (.cons (.str _) (.cons (.int _) .nil))) (dpa_of g rs acc (Nat.succ.inj l) fun j r hj => h (j + 1) r hj)
/-- the row with other names -/
def renR (g : Str → Str) (r : Rw) : Rw := { n := g r.n, t := r.t, rs := r.rs.map fun p => (g p.1, p.2), us := r.us }
theorem ty_dict {d : PyData} {H : Hp} {x : V} (h : Dp K H x d) : kitB (tyD d) "dict" = some false := by
  cases h <;> (simp only [tyD]; decide +kernel)
theorem rd_get {H : Hp} {rs : List (Str × Int)} {xs : List V} {i : Nat} {y : V} (h : DpAll K H xs (rs.map toD)) (e : xs[i]? = some y) : ∃ (r : Str × Int) (b : Addr), rs[i]? = some r ∧ y = .ref b ∧ SqT K H b [.str r.1, .int r.2] := by
  obtain ⟨d, e1, p1⟩ := dpa_get h e
  rw [List.getElem?_map] at e1
  obtain ⟨r, e2, rfl⟩ := Option.map_eq_some_iff.mp e1
  refine ⟨r, ?_⟩
  cases p1 with
  | tup q1 q2 =>
    cases q2 with
    | cons a1 a2 =>
      cases a1
      cases a2 with
      | cons b1 b2 =>
        cases b1
        cases b2
        exact ⟨_, e2, rfl, q1⟩
theorem kb_all (U : UX K mg) : ∃ mv, KBn K U.dI ["self", "name", "ticks", "reads", "uses"] 2 ["ticks", "reads", "uses"] (fun us ws => us ++ (mv ++ ws)) (fun vs zs => vs ++ ([] ++ zs)) :=
  U.FI.kbinds0 2 ["ticks", "reads", "uses"] [] (fun vs mz zs => vs ++ (mz ++ zs)) (by simp) (by simp) (fun a b c => a.append (b.append c)) fun D doc pm an cdv ct us mv ws l1 l2 l3 => by
    match us, mv, ws, l1, l2, l3 with
    | [_, _], [], [_, _, _], _, _, _ => rfl
theorem b_none (U : UX K mg) : ∃ ds, Vals [.int 1, .ref U.r0, .ref U.u0] ds ∧ Binds K U.dI ["self", "name", "ticks", "reads", "uses"] ds :=
  U.FI.binds0 2 (by simp) rfl fun D doc pm an cdv ct us ks l1 l2 => by
    match us, ks, l1, l2 with
    | [_, _], [_, _, _], _, _ => exact ⟨_, _, _, _, _, _, rfl, rfl, _, _, _, _, _, _, rfl, rfl, _, _, _, _, _, _, rfl, rfl, rfl⟩
end
end K14
namespace K14
open PySem L2
/-- all but lists are kept -/
def NoL (H H' : Hp) : Prop := ∀ b o, H b = some o → (∀ xs, o ≠ .lst xs) → H' b = some o
theorem NoL.refl {H : Hp} : NoL H H := fun _ _ e _ => e
theorem NoL.trans {H H1 H2 : Hp} (a : NoL H H1) (b : NoL H1 H2) : NoL H H2 := fun c o e n => b c o (a c o e n) n
theorem NoL.same {H H' : Hp} (s : Same H H') : NoL H H' := fun b o e _ => s b o e
theorem NoL.put {H : Hp} {l : Addr} {xs : List V} {o : HO} (h : H l = some (.lst xs)) : NoL H (upd H l o) := fun b u e n => by
  rw [upd_ne (fun z => n xs (by rw [z, h] at e; exact (Option.some.inj e).symm))]
  exact e
theorem NoL.only {H H' : Hp} {r : Addr} (o : Only r H H') (h : Rl H r) : NoL H H' := fun b u e n => by
  obtain ⟨x, y, z, q⟩ := h
  exact o b u (fun w => n _ (by rw [w, q] at e; exact (Option.some.inj e).symm)) e
theorem NoL.seqT {K : PySem.W.Frag} {H H' : Hp} {a : Addr} {xs : List V} (e : NoL H H') (h : SqT K H a xs) : SqT K H' a xs := by
  rcases h with (h | ⟨o, h⟩) | h
  · exact .inl (.inl (e _ _ h (by intro _ z; cases z)))
  · exact .inl (.inr ⟨o, e _ _ h (by intro _ z; cases z)⟩)
  · exact .inr h
theorem pair_nol {K : PySem.W.Frag} {H H' : Hp} (e : NoL H H') {x : V} {p : Str × Int} (h : Dp K H x (pD p)) : Dp K H' x (pD p) := by
  cases h with
  | tup h1 h2 =>
    cases h2 with
    | cons a1 a2 =>
      cases a1
      cases a2 with
      | cons b1 b2 =>
        cases b1
        cases b2
        exact .tup (NoL.seqT e h1) (.cons (.str _) (.cons (.int _) .nil))
theorem pairs_nol {K : PySem.W.Frag} {H H' : Hp} (e : NoL H H') : ∀ {ps : Prs} {xs : List V}, DpAll K H xs (ps.map pD) → DpAll K H' xs (ps.map pD)
  | [], _, h => by cases h; exact .nil
  | p :: ps, _, h => by
    cases h with
    | cons h1 h2 => exact .cons (pair_nol e h1) (pairs_nol e h2)
theorem dpa_snoc {K : PySem.W.Frag} {H : Hp} : ∀ {ds : List PyData} {xs : List V} {d : PyData} {x : V}, DpAll K H xs ds → Dp K H x d → DpAll K H (xs ++ [x]) (ds ++ [d])
  | [], _, _, _, h, q => by cases h; exact .cons q .nil
  | d :: ds, _, _, _, h, q => by
    cases h with
    | cons h1 h2 => exact .cons h1 (dpa_snoc h2 q)
theorem dpa_erase {K : PySem.W.Frag} {H : Hp} : ∀ {ps : Prs} {xs : List V} {k : Nat}, DpAll K H xs (ps.map pD) → DpAll K H (xs.eraseIdx k) ((ps.eraseIdx k).map pD)
  | [], _, _, h => by cases h; exact .nil
  | p :: ps, _, k, h => by
    cases h with
    | cons h1 h2 =>
      cases k with
      | zero => exact h2
      | succ k => exact .cons h1 (dpa_erase (k := k) h2)
theorem dpa_at {K : PySem.W.Frag} {H : Hp} : ∀ {ps : Prs} {xs : List V} {k : Nat} {y : V}, DpAll K H xs (ps.map pD) → xs[k]? = some y → ∃ p, ps[k]? = some p ∧ Dp K H y (pD p)
  | [], _, k, y, h, e => by cases h; simp at e
  | p :: ps, _, k, y, h, e => by
    cases h with
    | cons h1 h2 =>
      cases k with
      | zero =>
        obtain rfl := Option.some.inj e
        exact ⟨p, rfl, h1⟩
      | succ k => exact dpa_at (k := k) h2 (by simpa using e)
abbrev OkP (ps : Prs) : Prop := ∀ p ∈ ps, nmC p.1 = true ∧ 0 ≤ p.2 ∧ p.2 ≤ 3
end K14
namespace K14
open PySem L2
def off (z : Str) (n : Nat) : Prs := (List.range n).map fun j => (z, (0 : Int) + (j : Nat))
theorem off_succ (z : Str) (n : Nat) : off z (n + 1) = off z n ++ [(z, (0 : Int) + (n : Nat))] := by
  unfold off
  rw [List.range_succ, List.map_append]
  rfl
theorem off_ok {z : Str} (hz : nmC z = true) : OkP (off z 4) := by
  intro p hp
  obtain ⟨j, hj, rfl⟩ := List.mem_map.mp hp
  have := List.mem_range.mp hj
  exact ⟨hz, by show (0 : Int) ≤ 0 + (j : Nat); omega, by show (0 : Int) + (j : Nat) ≤ 3; omega⟩
theorem dpa_app {K : PySem.W.Frag} {H : Hp} : ∀ {ds es : List PyData} {xs ys : List V}, DpAll K H xs ds → DpAll K H ys es → DpAll K H (xs ++ ys) (ds ++ es)
  | [], _, _, _, h, q => by cases h; exact q
  | d :: ds, _, _, _, h, q => by
    cases h with
    | cons h1 h2 => exact .cons h1 (dpa_app h2 q)
theorem none_of {H H' : Hp} {b : Addr} (s : Same H H') (n : H' b = none) : H b = none := by
  cases h : H b with
  | none => rfl
  | some u => rw [s _ _ h] at n; cases n
abbrev Mb := Addr × Str × Int
theorem mems_of {K : PySem.W.Frag} {H : Hp} : ∀ {ps : Prs} {xs : List V}, DpAll K H xs (ps.map pD) → ∃ ms : List Mb, ms.map (·.2) = ps ∧ xs = ms.map (fun m => V.ref m.1) ∧ ∀ m ∈ ms, SqT K H m.1 [.str m.2.1, .int m.2.2]
  | [], _, h => by cases h; exact ⟨[], rfl, rfl, fun m hm => by cases hm⟩
  | p :: ps, _, h => by
    cases h with
    | cons h1 h2 =>
      obtain ⟨ms, e1, e2, e3⟩ := mems_of h2
      cases h1 with
      | tup q1 q2 =>
        cases q2 with
        | cons a1 a2 =>
          cases a1
          cases a2 with
          | cons b1 b2 =>
            cases b1
            cases b2
            refine ⟨(_, p) :: ms, by rw [List.map_cons, e1], by rw [List.map_cons, e2], fun m hm => ?_⟩
            rcases List.mem_cons.mp hm with e | hm
            · rw [e]
              exact q1
            · exact e3 m hm
theorem dpa_mems {K : PySem.W.Frag} {H : Hp} : ∀ {ms : List Mb}, (∀ m ∈ ms, SqT K H m.1 [.str m.2.1, .int m.2.2]) → DpAll K H (ms.map fun m => V.ref m.1) ((ms.map (·.2)).map pD)
  | [], _ => .nil
  | m :: ms, h => .cons (.tup (h m List.mem_cons_self) (.cons (.str _) (.cons (.int _) .nil))) (dpa_mems fun x hx => h x (List.mem_cons_of_mem _ hx))
theorem un3 {k : Nat} {A : Around} (r : Room k A) : A.units + 3 < cLine := by
  have := r.un
  omega
theorem un4 {k : Nat} {A : Around} (r : Room k A) (m : Mb) : A.in1.units + 1 + (KS.encP m).depth < cLine := by
  have := r.un
  have e : (KS.encP m).depth ≤ 2 := by simp [KS.encP, PyData.depth, PyData.depthAll]
  show A.units + 1 + 1 + _ < cLine
  omega
theorem pairs_app {K : PySem.W.Frag} {H : Hp} {ds es : List PyData} {xs ys : List V} (h : DpAll K H xs ds) (q : DpAll K H ys es) : DpAll K H (xs ++ ys) (ds ++ es) := dpa_app h q
theorem dpa_nol2 {K : PySem.W.Frag} {H : Hp} {D t : Addr} {o1 o2 : HO} {acc xs : List V} {ps : Prs} (ht : H t = none) (eD : H D = some (.lst acc)) (h : DpAll K H xs (ps.map pD)) : DpAll K (upd (upd H t o1) D o2) xs (ps.map pD) := by
  refine pairs_nol (NoL.trans (NoL.same (Same.new ht)) (NoL.put (l := D) (xs := acc) ?_)) h
  rw [upd_ne (ne_of_none eD ht)]
  exact eD
end K14
set_option maxHeartbeats 3200000
/-! own: sets and sorted lists of tuples of texts and ints, of one shape -/
namespace KS
open PySem PySem.Spec PyProof.Rows L2
def keyE : Key → PyData
  | .inl i => .int i
  | .inr z => .str z
def rowE (ks : List Key) : PyData := .tuple (ks.map keyE)
def encK (m : Mem) : PyData := rowE m.2
/-- the same length and the same kinds -/
def sameS : List Key → List Key → Prop
  | [], [] => True
  | .inl _ :: a, .inl _ :: b => sameS a b
  | .inr _ :: a, .inr _ :: b => sameS a b
  | _, _ => False
theorem alike_keys : ∀ {a b : List Key}, sameS a b → PySem.W.alikeAll (a.map keyE) (b.map keyE) = true
  | [], [], _ => by simp [PySem.W.alikeAll]
  | .inl _ :: a, .inl _ :: b, h => by simp [PySem.W.alikeAll, PySem.W.alike, keyE, alike_keys (show sameS a b from h)]
  | .inr _ :: a, .inr _ :: b, h => by simp [PySem.W.alikeAll, PySem.W.alike, keyE, alike_keys (show sameS a b from h)]
theorem row_tot : ∀ {a b : List Key}, sameS a b → PySem.W.rowLt (a.map keyE) (b.map keyE) = false → PySem.W.rowLt (b.map keyE) (a.map keyE) = false → a = b
  | [], [], _, _, _ => rfl
  | .inl i :: a, .inl j :: b, h, h1, h2 => by
    have e1 := PySem.W.dataLt_cons (x := .int i) (y := .int j) (by simp [PySem.W.alike]) (a.map keyE) (b.map keyE)
    have e2 := PySem.W.dataLt_cons (x := .int j) (y := .int i) (by simp [PySem.W.alike]) (b.map keyE) (a.map keyE)
    have h1' := e1.symm.trans h1
    have h2' := e2.symm.trans h2
    rw [PySem.W.dataLt_int] at h1' h2'
    simp only [PyData.eqv, beq_iff_eq] at h1' h2'
    by_cases c : i = j
    · subst c
      rw [if_pos rfl] at h1' h2'
      rw [row_tot (show sameS a b from h) h1' h2']
    · rw [if_neg c] at h1'
      rw [if_neg (Ne.symm c)] at h2'
      have a1 := of_decide_eq_false h1'
      have a2 := of_decide_eq_false h2'
      omega
  | .inr i :: a, .inr j :: b, h, h1, h2 => by
    have e1 := PySem.W.dataLt_cons (x := .str i) (y := .str j) (by simp [PySem.W.alike]) (a.map keyE) (b.map keyE)
    have e2 := PySem.W.dataLt_cons (x := .str j) (y := .str i) (by simp [PySem.W.alike]) (b.map keyE) (a.map keyE)
    have h1' := e1.symm.trans h1
    have h2' := e2.symm.trans h2
    rw [PySem.W.dataLt_str] at h1' h2'
    simp only [PyData.eqv, beq_iff_eq] at h1' h2'
    by_cases c : i = j
    · subst c
      rw [if_pos rfl] at h1' h2'
      rw [row_tot (show sameS a b from h) h1' h2']
    · rw [if_neg c] at h1'
      rw [if_neg (Ne.symm c)] at h2'
      have a1 := of_decide_eq_false h1'
      have a2 := of_decide_eq_false h2'
      exact absurd (cps_ext (List.le_antisymm a2 a1)) c
/-- a row is less than another -/
def kLt (a b : List Key) : Bool := PySem.W.dataLt (rowE a) (rowE b)
theorem kLt_row (a b : List Key) : kLt a b = PySem.W.rowLt (a.map keyE) (b.map keyE) := PySem.W.dataLt_tuple _ _
theorem kLt_tot {a b : List Key} (h : sameS a b) (h1 : kLt a b = false) (h2 : kLt b a = false) : a = b := row_tot h (by rw [← kLt_row]; exact h1) (by rw [← kLt_row]; exact h2)
/-- one shape all -/
def OneS (L : List (List Key)) : Prop := ∀ a ∈ L, ∀ b ∈ L, sameS a b
/-- ascending, each once, the rows of xs -/
def SrtK (xs ys : List (List Key)) : Prop := ys.Pairwise (fun a b => kLt b a = false) ∧ ys.Nodup ∧ ∀ z, z ∈ ys ↔ z ∈ xs
theorem sort_unique : ∀ {ys zs : List (List Key)}, OneS ys → ys.Pairwise (fun a b => kLt b a = false) → zs.Pairwise (fun a b => kLt b a = false) → ys.Perm zs → ys = zs
  | [], zs, _, _, _, p => (List.nil_perm.mp p).symm
  | y :: ys, [], _, _, _, p => absurd (List.perm_nil.mp p) (by simp)
  | y :: ys, z :: zs, o, h1, h2, p => by
    obtain ⟨a1, a2⟩ := List.pairwise_cons.mp h1
    obtain ⟨b1, b2⟩ := List.pairwise_cons.mp h2
    have my : z ∈ y :: ys := p.mem_iff.mpr List.mem_cons_self
    have mz : y ∈ z :: zs := p.mem_iff.mp List.mem_cons_self
    have e : y = z := by
      rcases List.mem_cons.mp my with e | m1
      · exact e.symm
      · rcases List.mem_cons.mp mz with e | m2
        · exact e
        · exact kLt_tot (o y List.mem_cons_self z my) (b1 y m2) (a1 z m1)
    subst e
    exact congrArg _ (sort_unique (fun a ha b hb => o a (List.mem_cons_of_mem _ ha) b (List.mem_cons_of_mem _ hb)) a2 b2 ((List.perm_cons y).mp p))
theorem OneS.sub {xs ys : List (List Key)} (o : OneS xs) (h : ∀ z ∈ ys, z ∈ xs) : OneS ys := fun a ha b hb => o a (h a ha) b (h b hb)
theorem SrtK.eq {xs xs' ys zs : List (List Key)} (o : OneS xs) (e : ∀ z, z ∈ xs ↔ z ∈ xs') (a : SrtK xs ys) (b : SrtK xs' zs) : ys = zs :=
  sort_unique (o.sub fun z h => (a.2.2 z).mp h) a.1 b.1 ((List.perm_ext_iff_of_nodup a.2.1 b.2.1).mpr fun z => (a.2.2 z).trans ((e z).trans (b.2.2 z).symm))
/-- one after another, strictly -/
theorem SrtK.asc {xs ys : List (List Key)} (o : OneS xs) (a : SrtK xs ys) : ys.Pairwise fun p q => kLt p q = true := by
  refine List.Pairwise.imp_of_mem (fun {p q} hp hq h => ?_) (a.1.and a.2.1)
  obtain ⟨h1, h2⟩ := h
  cases c : kLt p q with
  | true => rfl
  | false => exact absurd (kLt_tot (o p ((a.2.2 p).mp hp) q ((a.2.2 q).mp hq)) c h1) h2
theorem enc_depth (m : Mem) : (encK m).depth ≤ 1 := by
  have key : ∀ ks : List Key, PyData.depthAll (ks.map keyE) = 0 := fun ks => by
    induction ks with
    | nil => simp [PyData.depthAll]
    | cons k ks ih => cases k <;> simp [PyData.depthAll, PyData.depth, keyE, ih]
  unfold encK rowE
  simp only [PyData.depth, key]
  omega
theorem srtK_of {xs : List (List Key)} {L L1 : List Mem} (nd : (L.map (·.2)).Nodup) (mem : ∀ z, z ∈ L.map (·.2) ↔ z ∈ xs) (pm : L1.Perm L) : SrtK xs ((L1.mergeSort (PySem.W.dataLe false encK)).map (·.2)) ∧ (L1.mergeSort (PySem.W.dataLe false encK)).Perm L := by
  have pp : (L1.mergeSort (PySem.W.dataLe false encK)).Perm L := (List.mergeSort_perm L1 _).trans pm
  have st : (L1.mergeSort (PySem.W.dataLe false encK)).Pairwise (fun a b => PySem.W.dataLe false encK a b = true) := PySem.W.sort_pairwise (PySem.W.sortLe_total _ _ _) L1
  refine ⟨⟨List.pairwise_map.mpr (List.Pairwise.imp (fun {a b} h => ?_) st), (pp.map (·.2)).nodup_iff.mpr nd, fun z => ((pp.map (·.2)).mem_iff).trans (mem z)⟩, pp⟩
  have h1 : (!PySem.W.dataLt (encK b) (encK a)) = true := h
  show PySem.W.dataLt (encK b) (encK a) = false
  cases e : PySem.W.dataLt (encK b) (encK a) with
  | false => rfl
  | true => rw [e] at h1; cases h1
theorem reads_keys {P : Program} {w : World} {h : Heap} : ∀ {ks : List Key} {us : List Value}, ItemsAre (mixKind P w) ks us → ReadsAll h us (ks.map keyE) []
  | [], _, hi => by cases hi; exact .nil
  | k :: ks, _, hi => by
    cases hi with
    | cons h1 h2 =>
      have r := reads_keys (h := h) h2
      rcases keyIs_shape (show keyIs k _ = true from h1) with ⟨j, t, e, rfl⟩ | ⟨y, t, e, rfl⟩
      · cases e
        exact .cons (as := []) (bs := []) (.int _ _) r
      · cases e
        exact .cons (as := []) (bs := []) (.str _ _) r
theorem rd_tup {P : Program} {w : World} {h : Heap} {m : Mem} {v : Value} (q : (tupKit P w).mv h m v) : Reads h v (encK m) [] := by
  obtain ⟨a, ks⟩ := m
  obtain ⟨rfl, o, its, n, ho, hc, hd, hi⟩ := q
  exact .tuple ho hc hd (reads_keys hi)
section
variable {X : Cx} {H : Hp}
theorem sqT_keep {K : PySem.W.Frag} {H H' : Hp} {a : Addr} {xs : List V} (s : ∀ b o, H b = some o → H' b = some o) (h : SqT K H a xs) : SqT K H' a xs := by
  rcases h with (h | ⟨o, h⟩) | h
  · exact .inl (.inl (s _ _ h))
  · exact .inl (.inr ⟨o, s _ _ h⟩)
  · exact .inr h
/-- sorted(set(l)), l a list of rows of one shape -/
theorem sorted_set {l : Addr} {ms : List Mem} {Q : VK} (hl : SqL X.K H l (ms.map fun m => V.ref m.1)) (hm : ∀ m ∈ ms, SqT X.K H m.1 (m.2.map kV)) (few : ms.length < 64) (one : OneS (ms.map (·.2))) (ne : ∀ m ∈ ms, m.2 ≠ [])
    (k : ∀ (ns : List Mem) (p : Addr) (H' : Hp), (∀ b o, H b = some o → H' b = some o) → H p = none → SrtK (ms.map (·.2)) (ns.map (·.2)) → (∀ m ∈ ns, m ∈ ms) → ns.length ≤ ms.length → H' p = some (.lst (ns.map fun m => V.ref m.1)) → Q (.ref p) H') :
    rSetOf (linkTup X) [.ref l] H (fun v H1 => rSortedK (linkTup X) encK [v] H1 Q) := by
  refine ⟨l, ms, rfl, hl, hm, few, fun a L ha fr nd => ?_⟩
  have sa : ∀ b o, H b = some o → (upd H a (SetO (tupKit X.prog X.w) a L)) b = some o := fun b o e => by rw [upd_ne (ne_of_none e ha)]; exact e
  have mL : ∀ m ∈ L, m ∈ ms := fun m hm => List.mem_of_mem_take (fr.sub m hm)
  have oneL : ∀ m ∈ L, ∀ m' ∈ L, sameS m.2 m'.2 := fun m h m' h' => one _ (List.mem_map.mpr ⟨m, mL m h, rfl⟩) _ (List.mem_map.mpr ⟨m', mL m' h', rfl⟩)
  refine ⟨a, L, rfl, upd_same, fun m h => sqT_keep sa (hm m (mL m h)), fun d hd d' hd' => ?_, .inl fun d hd => ?_, fun L1 p pm nd' hp => ?_⟩
  · obtain ⟨m, h, rfl⟩ := List.mem_map.mp hd
    obtain ⟨m', h', rfl⟩ := List.mem_map.mp hd'
    have := alike_keys (oneL m h m' h')
    unfold encK rowE
    simp only [PySem.W.alike]
    exact this
  · obtain ⟨m, h, rfl⟩ := List.mem_map.mp hd
    unfold encK rowE
    cases e : m.2 with
    | nil => exact absurd e (ne m (mL m h))
    | cons x r => exact ⟨_, _, rfl⟩
  · have mem : ∀ z, z ∈ L.map (·.2) ↔ z ∈ ms.map (·.2) := fun z => by
      constructor
      · intro h
        obtain ⟨m, h2, rfl⟩ := List.mem_map.mp h
        exact List.mem_map.mpr ⟨m, mL m h2, rfl⟩
      · intro h
        obtain ⟨m, h2, rfl⟩ := List.mem_map.mp h
        exact fr.all m (by rw [List.take_length]; exact h2)
    obtain ⟨s1, pm2⟩ := srtK_of nd' mem pm
    have hpH : H p = none := by
      cases e : H p with
      | none => rfl
      | some o => rw [sa _ _ e] at hp; cases hp
    exact k _ p _ (fun b o e => by rw [upd_ne (ne_of_none (sa _ _ e) hp)]; exact sa _ _ e) hpH s1 (fun m h => mL m (pm2.mem_iff.mp h)) (by rw [pm2.length_eq]; exact fr.len) upd_same
end
end KS
/-! own: a def with a star parameter and keywords behind it; calls with a star and keywords, of a class that a name holds; a classmethod called with keywords -/
namespace SX
open PySem PySem.Spec PyProof.Rows L2 StX PySem.W
section
variable {M : Model} {A : Around}
                                  {E : Value → Shared → Prop} {s : Shared}
theorem loneK {f : Value} {x : Sem Value} {pos : Pos} {kws : List (Option Str × Sem Value)} {Q : Args → Shared → Prop} (hall : kws.all (·.1.isSome) = true)
    (h : wpAny M A x (fun v s₁ => wpAny M A (evalAll (kws.map (·.2))) (fun ks s₂ => StarOf M A E v (fun vs s₃ => Q ⟨vs, (kws.filterMap (·.1)).zip ks⟩ s₃) s₂) E s₁) E s) :
    wpAny M A (evalArgs f true [(true, (do let v ← x; standAt pos; pure v))] kws) Q E s := by
  unfold evalArgs
  refine wpAny_bind (wpAny_bind (wpAny_mono h (fun v s₁ h₁ => wpAny_bind
                                                                         (wpAny_standAt (wpAny_pure ?_))) fun _ _ x => x))
  refine wpAny_bind (wpAny_pure ?_)
  refine wpAny_holding ?_
  rw [if_pos hall]
  refine wpAny_bind (wpAny_mono h₁
                                   (fun ks s₂ h₂ => ?_) fun _ _ x => x)
  unfold StarOf at h₂
  refine wpAny_bind (wpAny_bind (wpAny_mono h₂ (fun b s₃ h₃ => ?_) fun _ _ x => x))
  obtain ⟨rfl, h₃⟩ := h₃
  have z : wpAny M A (holding (((kws.filterMap (·.1)).zip ks).map (·.2)) (collect v)) (fun vs s₄ => wpAny M A (pure (⟨vs, (kws.filterMap (·.1)).zip ks⟩ : Args)) Q E s₄) E s₃ :=
    wpAny_holding (wpAny_mono h₃ (fun vs s₄ h₄ => wpAny_pure h₄) fun _ _ x => x)
  try simp only [Bool.false_eq_true, if_false]
  first
    | exact z
    | exact wpAny_bind (wpAny_pure z)
theorem callStarK {P : Heap → Prop} {f : Value} {first : List Value} {pos : Pos} {Q : Value → Shared → Prop} {args : List (Bool × Sem Value)} {kws : List (Option Str × Sem Value)} (hst : args.any (·.1) = true)
    (hk : ∀ h, P h → ∃ k,
                          (k = Keeper.frame ∨ k = Keeper.machine ∨ k = Keeper.boundFrame) ∧ Looks M h (keeperOf f) k)
    (h : wpAny M A (evalArgs f true args kws) (fun a s₁ => P s₁.heap ∧ wpAny M A (call f (first ++ a.pos) a.kw) Q E s₁) E s) : wpAny M A (callWith pos f first args kws) Q E s := by
  unfold callWith
  refine wpAny_bind (wpAny_holding (wpAny_mono h
                                                 (fun a s₁ h₁ => wpAny_bind (wpAny_standAt ?_)) fun _ _ x => x))
  obtain ⟨k, hk', L⟩ := hk _ h₁.1
  simp only [hst, Bool.true_or]
  refine wpAny_bind (L.here ?_)
  have tail : ∀ {t : Sem Value}, wpAny M A t Q E s₁ → wpAny M A
                                                                (t >>= fun r => holding [r] point >>= fun _ => pure r) Q E s₁ :=
    fun ht => wpAny_bind (wpAny_mono ht (fun r s₂ hr => wpAny_bind
                                                                   (wpAny_holding (wpAny_point (wpAny_pure hr)))) fun _ _ x => x)
  have marked (mk : Value) : wpAny M A (callMarked mk f
                                                        (first ++ a.pos) a.kw) Q E s₁ := by unfold callMarked; exact Calls.wpAny_keep h₁.2
  rcases hk' with rfl | rfl | rfl <;> dsimp only <;> first | exact tail
                                                                        (marked _) | exact tail (wpAny_operating h₁.2)
end
/-- a promise of a def that is called with the keywords ks -/
def FnKw (P : Program) (w : World) (K : PySem.W.Frag) (mg : Str → Option Value) (base : Heap) (CX : CXT) (k : Nat) (f : Addr) (ks : List Str) (sp : List V → List V → Hp → VK → XK → Prop) : Prop :=
  ∀ (A : Around) (outer : List Env) (s : Shared) (H : Hp) (us ws : List Value) (vs zs : List V) (Q : VK) (E : XK), Room k A → Env0 P w K mg base A outer s H → Vals vs us → Vals zs ws → zs.length = ks.length → sp vs zs H Q E →
    codeAny (model P w) A (.call (.ref f) ⟨us, ks.zip ws⟩) (CR CX outer P w H s Q E) s
section
variable {CX : CXT} {P : Program} {w : World} {K : PySem.W.Frag} {mg : Str → Option Value} {base : Heap} {k : Nat} {f : Addr}
                                                                                                                              {name qual : Str} {params : Arguments} {body : List Stmt} {scope : Scope} {dV kV doc pm cdv ct oc : Value} {an od : Option Addr}
  {osl : Array (Option Value)} {N ps ks : List Str} {sp : Sp}
/-- def f(a, .., *v, k = .., ..), called with all its keywords -/
theorem fn_starK {pv : Str} (lk : K.lookup f = some ⟨oc, od, .func (PySem.W.fnOf name qual params body scope dV kV doc pm an cdv ct), osl⟩) (hcd : PySem.W.codeIn K cdv qual = true) (S : FnScope N ((ps ++ ks) ++ [pv]) scope) (hCX : CXUp CX)
    (hb : ∀ us rest ws : List Value, us.length = ps.length → ws.length = ks.length → bindArgs (PySem.W.fnOf name qual params body scope dV kV doc pm an cdv ct) ⟨us ++ rest, ks.zip ws⟩ = (newTuple rest >>= fun t => pure ((ps.zip us ++ ks.zip ws) ++ [(pv, t)])))
    (hbody : ∀ (A : Around) (outer : List Env) (s : Shared) (H : Hp) (vs : List V) (Q : VK)
                                                                                            (E : XK), Room k (A.deeper (envOfC qual scope s.heap.objs.size f cdv)) → sp vs H Q E →
      ∃ t, PSs (cxOf CX P w K mg base N qual scope f cdv A outer s H E) body t ∧ t
                                                                                   { nx := fun _ H' => Q .non H', rt := Q } (start N vs) H) :
    FnKw P w K mg base CX (k + 1) f ks (fun vs zs H Q E => ∃ as rest, vs = as ++ rest ∧ as.length = ps.length ∧ rest.length ≤ sizeLine ∧ ∀ p, H p = Option.none → sp ((as ++ zs) ++ [V.ref p]) (upd H p (.tup rest)) Q E) := by
  intro A outer s H us ws vs zs Q E hr e0 r rz lz hsp
  obtain ⟨as, rest, ev, hl, hz, hq⟩ := hsp
  subst ev
  obtain ⟨u1, u2, eu, r1, r2⟩ := vals_split r
  subst eu
  have hn : H s.heap.objs.size = Option.none := e0.hok.fresh
                                                             (Nat.le_refl _)
  have hl1 : u1.length = ps.length := by rw [← r1.length]; exact hl
  have hl2 : u2.length ≤ sizeLine := by rw [← r2.length]; exact hz
  have hl3 : ws.length = ks.length := by rw [← rz.length]; exact lz
  refine run_bnd lk hcd S hr e0 (G := fun xs H2 => ∃ p, H p = Option.none ∧ xs = (as ++ zs) ++ [V.ref p] ∧ H2 = upd H p (.tup rest)) (fun A' Ex Q' h => ?_) fun s2 H2 xs ⟨p, hp, ex, eH⟩ hr' => ?_
  · rw [hb u1 u2 ws hl1 hl3]
    refine wpAny_bind (wpAny_newTuple (wpAny_pure ?_) hl2)
    have new : ObjOk P w (upd H s.heap.objs.size (.tup rest)) (s.heap.push
                                                                           ({ cls := .type "tuple", data := .seq u2.toArray } : Obj)) s.heap.objs.size (.tup rest) := ⟨hz, u2, r2, ⟨_, Heap.get?_push_size _ rfl, rfl, _, rfl⟩⟩
    have un := un_laid (fs := frs outer) (s := s) (o :=
                                                        ({ cls := .type "tuple", data := .seq u2.toArray } : Obj)) (u := .tup rest) hn
    have z := h _ _ ((as ++ zs) ++ [V.ref s.heap.objs.size]) ((u1 ++ ws) ++ [Value.ref s.heap.objs.size]) (env0_laid e0 new) un rfl (fun e s' => hCX outer s H _ _ E e s' un (fun b o q => Heap.get?_push_of_some _ q) rfl) ((r1.append rz).append (.cons rfl .nil))
      (by simp [hl, lz]) ⟨_, hn, rfl, rfl⟩
    rw [List.zip_append (by simp [hl1, hl3]), List.zip_append hl1.symm] at z
    exact z
  · subst ex eH
    exact hbody A outer s2 _ _ Q E hr' (hq p hp)
/-- def f(a, .., k = ..), called with all its keywords -/
theorem FnKw.of_ok {fd : FuncData} {g : List Value → List Value → List Value} {gV : List V → List V → List V} {n : Nat} (F : FnOk P w K mg base CX k f fd ps sp) (hb : KBn K fd ps n ks g gV) :
    FnKw P w K mg base CX k f ks (fun vs zs H Q E => vs.length = n ∧ sp (gV vs zs) H Q E) := by
  intro A outer s H us ws vs zs Q E hr e0 r rz lz ⟨hn, hsp⟩
  have KX : K.In s.heap := e0.mod.kin.keeps fun b o e =>
                                                         (e0.bs b o e).1
  exact F.run A outer s H ⟨us, ks.zip ws⟩ (g us ws) (gV vs zs) Q E hr e0 (hb.to _ us ws KX (by rw [← r.length]; exact hn) (by rw [← rz.length]; exact lz)) (hb.rel r rz) hsp
end
/-- C(.., k = v): a new instance and its dict, then __init__ -/
def tMakeKw (C : Addr) (m : Nat) (sp : List V → List V → Hp → VK → XK → Prop) (E : XK) (t tk : TA) : TE := fun σ H Q => t σ H fun vs H1 => tk σ H1 fun zs H2 => zs.length = m ∧ ∀ x dx, H2 x = none → H2 dx = none → dx ≠ x →
  sp (.ref x :: vs) zs (upd (upd H2 dx (.own x)) x (.ins C dx [])) (fun v H3 => v = .non ∧ Q (.ref x) H3) E
/-- c(*e, k = v), the i-th slot holds the class -/
def tMakeSK (K : PySem.W.Frag) (i : Nat) (C : Addr) (m : Nat) (sp : List V → List V → Hp → VK → XK → Prop) (E : XK) (te : TE) (tk : TA) : TE := fun σ H Q => σ[i]? = some (some (.ref C)) ∧ te σ H fun y H1 => ∃ a xs, y = .ref a ∧ tk σ H1 fun zs H2 => (SqT K H2 a xs ∨ SqL K H2 a xs) ∧ zs.length = m ∧
  ∀ x dx, H2 x = none → H2 dx = none → dx ≠ x → sp (.ref x :: xs) zs (upd (upd H2 dx (.own x)) x (.ins C dx [])) (fun v H3 => v = .non ∧ Q (.ref x) H3) E
/-- e.m(.., k = v), e the class at C, m a classmethod -/
def tCMethK (C : Addr) (n : Nat) (sp : List V → List V → Hp → VK → XK → Prop) (E : XK) (ta : TE) (t tk : TA) : TE := fun σ H Q => ta σ H fun x H1 => x = .ref C ∧ t σ H1 fun vs H2 => tk σ H2 fun zs H3 => zs.length = n ∧ sp (.ref C :: vs) zs H3 Q E
section
variable {X : Cx} {CX : CXT} {k n i : Nat} {f C p g : Addr} {mc : Value} {ks : List Str} {sp : List V → List V → Hp → VK → XK → Prop} {E : XK} {x m : Str} {p_ pos apos sp_ : Pos} {e o : Expr} {es : List Expr} {kws : List Keyword} {te ta : TE} {t tk : TA} {pl : Sem Bool}
theorem run_makeKw {pins : List (Addr × Obj)} {σ : L2.St} {H : Hp} {s : Shared} {Q : VK} {us ws : List Value} {vs zs : List V} (M : Mk X.K C f) (F : FnKw X.prog X.w X.K X.mg X.base CX k f ks sp) (hr : Room (k + 1) X.A) (hx : Passes CX X E)
    (I : Inv X pins σ H s) (r : Vals vs us) (rz : Vals zs ws) (l2 : zs.length = ks.length)
    (h : ∀ x dx, H x = none → H dx = none → dx ≠ x → sp (.ref x :: vs) zs (upd (upd H dx (.own x)) x (.ins C dx [])) (fun v H2 => v = .non ∧ Q (.ref x) H2) E) :
    wpAny (model X.prog X.w) X.A (call (.ref C) us
                                                   (ks.zip ws)) (EP X pins σ Q) X.xe s := by
  have hq := h (s.heap.objs.size + 1) s.heap.objs.size (I.hok.fresh
                                                                    (Nat.le_succ _)) (I.hok.fresh (Nat.le_refl _)) (Nat.ne_of_lt (Nat.lt_succ_self _))
  have I2 := Inv.made (C := C) I
  have r1 : Vals (V.ref (s.heap.objs.size + 1) :: vs)
                                                      (Value.ref (s.heap.objs.size + 1) :: us) := .cons rfl r
  refine wpAny_call (make_map (f := f) I.kIn M.makes M.init (beq_iff_eq.mp M.fn) (codeAny_mono (F _ X.stack _ _ (Value.ref (s.heap.objs.size + 1) :: us) ws _ _ _ E (hr.make C us (ks.zip ws)) (I2.env0.make C us (ks.zip ws)) r1 rz l2 hq) fun r s' hq' => ?_))
  cases r with
  | error e => exact hx pins σ _ _ e s' I2 hq'
  | ok fl =>
    cases fl with
    | ret u =>
      obtain ⟨v, H', I3, rv, ev, q3⟩ := I2.after hq'
      subst ev
      exact ⟨rv, ⟨V.ref (s.heap.objs.size + 1), H', I3, rfl, q3⟩⟩
    | next => exact False.elim hq'
    | brk => exact False.elim hq'
    | cont => exact False.elim hq'
theorem run_kw {pins : List (Addr × Obj)} {σ : L2.St} {H : Hp} {s : Shared} {Q : VK} {us ws : List Value} {vs zs : List V} (F : FnKw X.prog X.w X.K X.mg X.base CX k f ks sp) (hr : Room k X.A) (hx : Passes CX X E) (I : Inv X pins σ H s) (r : Vals vs us) (rz : Vals zs ws) (l2 : zs.length = ks.length) (h : sp vs zs H Q E) :
    codeAny (model X.prog X.w) X.A (.call (.ref f) ⟨us, ks.zip ws⟩) (fun r s' => match r with | .ok (.ret u) => EP X pins σ Q u s' | .ok _ => False | .error e => X.xe e s') s := by
  refine codeAny_mono (F X.A X.stack s H us ws vs zs Q E hr I.env0 r rz l2 h) fun r s' hq => ?_
  cases r with
  | error e => exact hx pins σ H s e s' I hq
  | ok fl =>
    cases fl with
    | ret u => exact I.after hq
    | next => exact False.elim hq
    | brk => exact False.elim hq
    | cont => exact False.elim hq
/-- C(e, .., k = v, ..) -/
theorem pe_makeKw (M : Mk X.K C f) (F : FnKw X.prog X.w X.K X.mg X.base CX k f ks sp) (hr : Room (k + 1) X.A) (hg : Gl X x) (hm : X.mg x = some (.ref C)) (hx : Passes CX X E) (ha : PA X (e :: es) t) (hkw : PK X kws tk)
    (hall : (backToKw pos (keywordEach kws X.env)).all (·.1.isSome) = true := by rfl) (hks : (backToKw pos
                                                                                                           (keywordEach kws X.env)).filterMap (·.1) = ks := by rfl) (hdb : (x == ("__debug__" : Str)) = false := by decide)
    (he : starEach (e :: es) X.env = (false, eval e X.env) :: starEach es X.env := by rfl) (hpl : ((backTo pos
                                                                                                               (starEach (e :: es) X.env)).any (·.1) || (backToKw pos (keywordEach kws X.env)).any (·.1.isNone)) = false := by rfl) :
    PE X (.Call (.Name x p_) (e :: es) kws pos) (tMakeKw C ks.length sp E t tk) := by
  refine ⟨fun pins s σ H Q I h => ?_⟩
  refine wpAny_Call_Name_kw (ld_glob I hg hm ?_ hdb)
  refine PySem.W.callWith_KW (h₀ := X.base) I.ok.mod.kin M.kp hall (thn
                                                                        (ha.run pos pins s σ H _ I h) fun us s1 ⟨vs, H1, I1, r, q⟩ => ?_) hpl he
  refine thn (hkw.run pos pins s1 σ H1 _ I1 q) fun ws s2 ⟨zs, H2, I2, rz, l2, q2⟩ => ⟨I2.kIn, ?_⟩
  rw [hks]
  exact run_makeKw M F hr hx I2 r rz l2 q2
/-- c(*e, k = v, ..), c a name of the function's own -/
theorem pe_makeSK (M : Mk X.K C f) (F : FnKw X.prog X.w X.K X.mg X.base CX k f ks sp) (hr : Room (k + 1) X.A) (hN : X.N[i]? = some x) (hv : Vis X.env.scope x) (hx : Passes CX X E) (ha : PE X e te) (hkw : PK X kws tk)
    (hall : (backToKw pos (keywordEach kws X.env)).all (·.1.isSome) = true := by rfl) (hks : (backToKw pos (keywordEach kws X.env)).filterMap (·.1) = ks := by rfl) (hdb : (x == ("__debug__" : Str)) = false := by decide) (hcd : (x == ("__classdict__" : Str)) = false := by decide)
    (hst : starEach [.Starred e sp_] X.env = [(true, eval e X.env)] := by rfl) :
    PE X (.Call (.Name x p_) [.Starred e sp_] kws pos) (tMakeSK X.K i C ks.length sp E te tk) := by
  refine ⟨fun pins s σ H Q I h => ?_⟩
  obtain ⟨hs, ht⟩ := h
  refine wpAny_Call_Name_kw (thn ((pe_var (pos := p_) hN hv hdb hcd).run pins s σ H (fun v H1 => v = .ref C ∧ H1 = H) I ⟨.ref C, hs, rfl, rfl⟩) fun u s1 ⟨v, H1, I1, r1, q1⟩ => ?_)
  obtain ⟨rfl, rfl⟩ := q1
  cases r1
  rw [hst]
  refine callStarK (P := X.K.In) rfl (keeps_K M.kp) (loneK hall (thn (ha.run pins s1 σ H1 _ I1 ht) fun v s2 ⟨y, H2, I2, ry, a, xs, ey, q2⟩ => ?_))
  subst ey
  obtain rfl : v = Value.ref a := ry
  refine thn (hkw.run pos pins s2 σ H2 _ I2 q2) fun ws s3 ⟨zs, H3, I3, rz, hxs, l2, q3⟩ => ?_
  refine star_any I3 hxs fun us s4 I4 rv => ⟨I4.kIn, ?_⟩
  rw [hks]
  exact run_makeKw M F hr hx I4 rv rz l2 q3
/-- C.m(e, .., k = v, ..), m a classmethod -/
theorem pe_cmethK (he0 : PE X o ta) (r : ClX.CRead X.K C mc) (c : ClX.CMet X.K C mc m p g) (F : FnKw X.prog X.w X.K X.mg X.base CX k g ks sp) (hr : Room k X.A) (hx : Passes CX X E) (ha : PA X (e :: es) t) (hkw : PK X kws tk)
    (hall : (backToKw pos (keywordEach kws X.env)).all (·.1.isSome) = true := by rfl) (hks : (backToKw pos (keywordEach kws X.env)).filterMap (·.1) = ks := by rfl)
    (he : starEach (e :: es) X.env = (false, eval e X.env) :: starEach es X.env := by rfl) (hpl : ((backTo pos (starEach (e :: es) X.env)).any (·.1) || (backToKw pos (keywordEach kws X.env)).any (·.1.isNone)) = false := by rfl)
    (ht : eval (.Call (.Attribute o m apos) (e :: es) kws pos) X.env = (do
      let ov ← eval o X.env
      standAt apos.atName
      let (f, first) ← holding [ov] (getMethod ov m pl)
      callWith pos f first (backTo pos (starEach (e :: es) X.env)) (backToKw pos (keywordEach kws X.env))) := by rfl) :
    PE X (.Call (.Attribute o m apos) (e :: es) kws pos) (tCMethK C ks.length sp E ta t tk) := by
  refine ⟨fun pins s σ H Q I h => ?_⟩
  refine PySem.W.methodCall_KW (pl := pl) (thn (he0.run pins s σ H _ I h) fun u s1 ⟨x, H1, I1, rx, ex, q⟩ => ?_) ht
  subst ex
  obtain rfl : u = Value.ref C := rx
  refine ClX.getmethcm_ok I1 r c fun s2 I2 => ?_
  have hb := ClX.base_none I1 (Nat.le_refl _)
  have hq := ClX.pin_at I2
  refine callWith_of (P := PySem.W.MethP X.K s1.heap.objs.size g (.ref C)) hpl (keeps_M c.fi) (evalArgs_kw2 hall (thn (ha.run pos _ s2 σ H1 _ I2 q) fun us s3 ⟨vs, H2, I3, rv, q2⟩ => ?_) he)
  refine thn (hkw.run pos _ s3 σ H2 _ I3 q2) fun ws s4 ⟨zs, H3, I4, rz, l2, q3⟩ => ⟨⟨ClX.pin_at I4, I4.kIn⟩, ?_⟩
  rw [hks]
  have z : wpAny (model X.prog X.w) X.A (call (.ref s1.heap.objs.size) us (ks.zip ws)) (EP X ((s1.heap.objs.size, PySem.W.methodObj (.ref g) (.ref C)) :: pins) σ Q) X.xe s4 :=
    wpAny_call (PySem.W.method_call (ClX.pin_at I4) (run_kw (us := .ref C :: us) (vs := .ref C :: vs) F hr hx I4 (.cons rfl rv) rz l2 q3))
  exact thn z fun _ _ y => ClX.unpinE y
end
end SX
namespace K14
open PySem L2
open PyProof.Rows PySem.Spec
theorem flat_strs (ns : List Str) : (ns.map V.str).all flatV = true := by
  rw [List.all_map, List.all_eq_true]
  intro n _
  rfl
theorem inV_strs (n : Str) (ns : List Str) : inV (.str n) (ns.map V.str) = decide (n ∈ ns) := by
  unfold inV
  rw [List.any_map]
  induction ns with
  | nil => rfl
  | cons m ns ih =>
    rw [List.any_cons, ih]
    show ((m == n) || _) = _
    by_cases e : n = m
    · subst e
      simp
    · have e' : (m == n) = false := by rw [beq_eq_false_iff_ne]; exact fun z => e z.symm
      rw [e', Bool.false_or]
      simp [e]
theorem str_at {c : List Str} {i : Nat} {v : V} (h : (c.map V.str)[i]? = some v) : ∃ n, c[i]? = some n ∧ v = V.str n := by
  rw [List.getElem?_map] at h
  cases e : c[i]? with
  | none => rw [e] at h; cases h
  | some x => rw [e] at h; cases h; exact ⟨x, rfl, rfl⟩
/-- rows of texts and ints, in a tuple at a -/
def RowsT (K : PySem.W.Frag) (H : Hp) (a : Addr) (rows : List (List Key)) : Prop := ∃ ms : List (Addr × List Key), SqT K H a (ms.map fun m => V.ref m.1) ∧ (∀ m ∈ ms, SqT K H m.1 (m.2.map kV)) ∧ ms.map (·.2) = rows
/-- .. in a list -/
def RowsL (K : PySem.W.Frag) (H : Hp) (a : Addr) (rows : List (List Key)) : Prop := ∃ ms : List (Addr × List Key), SqL K H a (ms.map fun m => V.ref m.1) ∧ (∀ m ∈ ms, SqT K H m.1 (m.2.map kV)) ∧ ms.map (·.2) = rows
theorem RowsT.same {K : PySem.W.Frag} {H H' : Hp} {a : Addr} {rows : List (List Key)} (s : Same H H') (h : RowsT K H a rows) : RowsT K H' a rows := by
  obtain ⟨ms, h1, h2, h3⟩ := h
  exact ⟨ms, Same.seqT s h1, fun m hm => Same.seqT s (h2 m hm), h3⟩
theorem RowsL.same {K : PySem.W.Frag} {H H' : Hp} {a : Addr} {rows : List (List Key)} (s : Same H H') (h : RowsL K H a rows) : RowsL K H' a rows := by
  obtain ⟨ms, h1, h2, h3⟩ := h
  exact ⟨ms, s.seq h1, fun m hm => Same.seqT s (h2 m hm), h3⟩
theorem dpa_kv {K : PySem.W.Frag} {H : Hp} : ∀ ks : List Key, DpAll K H (ks.map kV) (ks.map KS.keyE)
  | [] => .nil
  | .inl n :: ks => .cons (.int n) (dpa_kv ks)
  | .inr z :: ks => .cons (.str z) (dpa_kv ks)
theorem dpa_rows {K : PySem.W.Frag} {H : Hp} : ∀ {ms : List (Addr × List Key)}, (∀ m ∈ ms, SqT K H m.1 (m.2.map kV)) → DpAll K H (ms.map fun m => V.ref m.1) ((ms.map (·.2)).map KS.rowE)
  | [], _ => .nil
  | m :: ms, h => .cons (.tup (h m List.mem_cons_self) (dpa_kv m.2)) (dpa_rows fun x hx => h x (List.mem_cons_of_mem _ hx))
theorem RowsT.dp {K : PySem.W.Frag} {H : Hp} {a : Addr} {rows : List (List Key)} (h : RowsT K H a rows) : Dp K H (.ref a) (.tuple (rows.map KS.rowE)) := by
  obtain ⟨ms, h1, h2, rfl⟩ := h
  exact .tup h1 (dpa_rows h2)
theorem RowsL.dp {K : PySem.W.Frag} {H : Hp} {a : Addr} {rows : List (List Key)} (h : RowsL K H a rows) : Dp K H (.ref a) (.list (rows.map KS.rowE)) := by
  obtain ⟨ms, h1, h2, rfl⟩ := h
  exact .lst h1 (dpa_rows h2)
theorem asc_rows {ks : List (List Key)} (h : ks.Pairwise fun p q => KS.kLt p q = true) : ascD (ks.map KS.rowE) = true := by
  unfold ascD
  rw [List.all_eq_true]
  intro i hi
  have hi2 := List.mem_range.mp hi
  rw [List.length_map] at hi2
  have h1 : i < ks.length := by omega
  have h2 : i + 1 < ks.length := by omega
  have e1 : (ks.map KS.rowE).getD i .none = KS.rowE ks[i] := by simp [List.getD_eq_getElem?_getD, List.getElem?_map, List.getElem?_eq_getElem h1]
  have e2 : (ks.map KS.rowE).getD (i + 1) .none = KS.rowE ks[i + 1] := by simp [List.getD_eq_getElem?_getD, List.getElem?_map, List.getElem?_eq_getElem h2]
  rw [e1, e2]
  exact List.pairwise_iff_getElem.mp h i (i + 1) h1 h2 (Nat.lt_succ_self _)
/-- an order: from, to, delay, distance -/
abbrev Od := Str × Str × Int × Int
def oK (x : Od) : List Key := [.inr x.1, .inr x.2.1, .inl x.2.2.1, .inl x.2.2.2]
/-- a reading: from, to, distance -/
def rK (x : Str × Str × Int) : List Key := [.inr x.1, .inr x.2.1, .inl x.2.2]
theorem oK_inj {x y : Od} (h : oK x = oK y) : x = y := by
  obtain ⟨a, b, c, d⟩ := x
  obtain ⟨a', b', c', d'⟩ := y
  simp only [oK, List.cons.injEq, Sum.inr.injEq, Sum.inl.injEq, and_true] at h
  obtain ⟨rfl, rfl, rfl, rfl⟩ := h
  rfl
theorem oK_one (os : List Od) : KS.OneS (os.map oK) := fun a ha b hb => by
  obtain ⟨x, _, rfl⟩ := List.mem_map.mp ha
  obtain ⟨y, _, rfl⟩ := List.mem_map.mp hb
  exact True.intro
theorem rK_one (os : List (Str × Str × Int)) : KS.OneS (os.map rK) := fun a ha b hb => by
  obtain ⟨x, _, rfl⟩ := List.mem_map.mp ha
  obtain ⟨y, _, rfl⟩ := List.mem_map.mp hb
  exact True.intro
section
variable {P : Program} {w : World} {K : PySem.W.Frag}
                                                      {mg : Str → Option Value} {base : Heap}
def sp_ascK (K : PySem.W.Frag) : Sp := fun vs H Q _ => ∃ (x : V) (ks : List (List Key)), vs = [x] ∧ Dp K H x (.tuple (ks.map KS.rowE)) ∧ KS.OneS ks ∧ ks.length ≤ 1000 ∧ ∀ H', Same H H' → Q (.bl (ascD (ks.map KS.rowE))) H'
theorem ok_ascK (T : T K mg) : FnOk P w K mg base CX0 1 T.f_ascends T.d_ascends ["row"] (sp_ascK K) := by
  refine T.F_ascends.ok sc_ascends (fun vs H Q E h => ?_) (fun cdv A outer s H vs Q E hr h => ?_)
  · obtain ⟨x, ks, rfl, _⟩ := h
    rfl
  · obtain ⟨x, ks, rfl, hx, hp, hl0, k⟩ := h
    have hl : (ks.map KS.rowE).length ≤ 1000 := by rw [List.length_map]; exact hl0
    generalize eds : ks.map KS.rowE = ds at hx hl k
    have hu := hu_of hr
    refine ⟨_, (pss_one (ps_ret (pe_callB (cr_all rfl) (by rfl) T.z_all (by decide +kernel) (pa_cons (pe_lc (own := [("at", 1)]) (g := gName 1) rfl sc_ascends.nd (pi_range2 (by rfl) T.z_range (pa_cons pe_int (pa_cons (pe_callB call_len (by rfl) T.z_len (by decide +kernel) (pa_cons (pv 0) pa_nil)) pa_nil))) (blkOk_by (N := ["row", "at"]) (sc := defScope s_ascends) (by decide +kernel)) (fun _ _ _ _ _ => (pg_name (i := 1) sc_ascends.nd rfl (Or.inl rfl))) (fun _ _ _ _ _ => pts_nil) (fun _ _ _ _ _ => (pe_cmpR (r := rLtD K) (op_ltD hr.units) (pe_ix (r := rIx K) ix_seq (pv 0) (pe_op op_sub (pv 1) pe_int) (fun _ _ => rfl)) (pe_ix (r := rIx K) ix_seq (pv 0) (pv 1) (fun _ _ => rfl)) (nomark _)))) pa_nil)))), ?_⟩
    obtain ⟨a, xs, rfl, hS, hd⟩ : ∃ a xs, x = .ref a ∧ SqT K H a xs ∧ DpAll K H xs ds := by
      cases hx with
      | tup h1 h2 => exact ⟨_, _, rfl, h1, h2⟩
    have hn := dpa_len hd
    refine ⟨_, rfl, _, _, rfl, .inr ⟨_, hS, rfl⟩, 1, (xs.length : Int), rfl, ⟨by decide, by decide, by omega, by omega⟩, fun D hD => ?_⟩
    have en : ((xs.length : Int) - 1).toNat = ds.length - 1 := by omega
    rw [en]
    refine lc_range (lo := 1) (n := ds.length - 1) (fun i H' => H' D = some (.lst (((List.range i).map fun j => PySem.W.dataLt (ds.getD j .none) (ds.getD (j + 1) .none)).map V.bl)) ∧ Same H H') ⟨upd_same, Same.new hD⟩ ?_ ?_
    · rintro i H1 hi2 ⟨eD, S⟩
      refine ⟨rfl, ?_⟩
      unfold tYes
      dsimp only
      rw [if_pos rfl]
      have hS1 := Same.seqT S hS
      have hd1 := dpa_same S ds xs hd
      have l0 : i < xs.length := by omega
      have l1 : i + 1 < xs.length := by omega
      obtain ⟨d0, e0, p0⟩ := dpa_get hd1 (List.getElem?_eq_getElem l0)
      obtain ⟨d1, e1, p1⟩ := dpa_get hd1 (List.getElem?_eq_getElem l1)
      obtain ⟨k0, m0, q0⟩ := List.mem_map.mp (by rw [eds]; exact List.mem_of_getElem? e0 : d0 ∈ ks.map KS.rowE)
      obtain ⟨k1, m1, q1⟩ := List.mem_map.mp (by rw [eds]; exact List.mem_of_getElem? e1 : d1 ∈ ks.map KS.rowE)
      subst q0 q1
      refine ⟨_, rfl, _, rfl, _, _, rfl, rfl, .inr (.inl ⟨_, _, _, xs[i], rfl, rfl, hS1, at_of (j := i) (by omega) (List.getElem?_eq_getElem l0), ?_⟩)⟩
      refine ⟨_, rfl, _, rfl, .inr (.inl ⟨_, _, _, xs[i + 1], rfl, rfl, hS1, at_of (j := i + 1) (by omega) (List.getElem?_eq_getElem l1), ?_⟩)⟩
      refine ⟨_, _, p0, p1, (by unfold KS.rowE; simp only [PySem.W.alike]; exact KS.alike_keys (hp k0 m0 k1 m1)), (by intro z; cases z), Nat.le_trans (KS.enc_depth (0, k0)) (by decide), ?_⟩
      refine ⟨_, eD, ?_, ?_, Same.at hD S⟩
      · rw [List.length_map, List.length_map, List.length_range]
        exact Nat.lt_of_lt_of_le (show i < 1000 by omega) (by decide)
      · rw [upd_same, List.range_succ, List.map_append, List.map_append, List.map_singleton]
        rw [List.getD_eq_getElem?_getD, e0, List.getD_eq_getElem?_getD, e1]
        rfl
    · rintro H9 ⟨eD, S⟩
      refine ⟨_, _, rfl, SqL.of eD, ?_⟩
      refine bl_to ?_ (k _ S)
      unfold ascD
      rw [List.all_map]
      rfl
end
end K14
namespace K14
open PySem L2
open PyProof.Rows PySem.Spec
/-- an order that is one -/
structure OdOk (names : List Str) (o : Od) : Prop where
  s : o.1 ∈ names
  t : o.2.1 ∈ names
  d : 0 ≤ o.2.2.1 ∧ o.2.2.1 ≤ 4
  e : 0 ≤ o.2.2.2 ∧ o.2.2.2 ≤ 3
theorem in_of {lo hi n : Int} (h1 : lo ≤ n) (h2 : n ≤ hi) (b1 : -1000000000000 < lo) (b2 : hi < 1000000000000) : inD lo hi (.int n) = true := by
  show ((decide (-1000000000000 < n) && decide (n < 1000000000000)) && _) = true
  rw [decide_eq_true (show -1000000000000 < n by omega), decide_eq_true (show n < 1000000000000 by omega)]
  simp [h1, h2]
section
variable {P : Program} {w : World} {K : PySem.W.Frag}
                                                      {mg : Str → Option Value} {base : Heap}
def sp_is_order (K : PySem.W.Frag) : Sp := fun vs H Q _ => ∃ (nm a : Addr) (names : List Str) (o : Od), vs = [.ref nm, .ref a] ∧ SqT K H nm (names.map V.str) ∧ SqT K H a ((oK o).map kV) ∧ OdOk names o ∧ Q (.bl true) H
theorem ok_is_order (T : T K mg) : FnOk P w K mg base CX0 3 T.f_is_order T.d_is_order ["names", "value"] (sp_is_order K) := by
  have G_is_between : FnOk P w K mg base CX0 2 T.f_is_between T.d_is_between ["value", "low", "high"] (sp_is_between K) := ok_is_between T
  refine T.F_is_order.ok sc_is_order (fun vs H Q E h => ?_) (fun cdv A outer s H vs Q E hr h => ?_)
  · obtain ⟨nm, a, names, o, rfl, _⟩ := h
    rfl
  · obtain ⟨nm, a, names, o, rfl, hn, ha, ok, k⟩ := h
    have hu := hu_of hr
    have hr_is_between : Room 2 _ := hr.mono (by decide)
    obtain ⟨_, c_MAX_DELAY⟩ := T.c_MAX_DELAY
    obtain ⟨_, c_MAX_DISTANCE⟩ := T.c_MAX_DISTANCE
    refine ⟨_, (pss_cons (ps_if (PW.pt (pw_or (pt_not (pt_val (pe_callB call_isi (by rfl) T.z_isinstance (by decide +kernel) (pa_cons (pv 1) (pa_cons (pe_bltn (v := V.ty "tuple") (u := Value.type "tuple") (by rfl) T.z_tuple (by decide +kernel) rfl) pa_nil))))) (pw_or1 (pt_cmpR op_ne (pe_callB call_len (by rfl) T.z_len (by decide +kernel) (pa_cons (pv 1) pa_nil)) pe_int (nomark _)))))
      (pss_one (ps_ret pe_bl))
      pss_nil)
      (pss_cons (ps_asg (pv 1) (pg_tup rfl (pgs_cons (pg_name (i := 2) sc_is_order.nd rfl (Or.inl rfl)) (pgs_cons (pg_name (i := 3) sc_is_order.nd rfl (Or.inl rfl)) (pgs_cons (pg_name (i := 4) sc_is_order.nd rfl (Or.inl rfl)) (pgs_cons (pg_name (i := 5) sc_is_order.nd rfl (Or.inl rfl)) pgs_nil))))))
      (pss_cons (ps_if (PW.pt (pw_or (pt_cmpR op_notIn_seq (pv 2) (pv 0) rfl) (pw_or1 (pt_cmpR op_notIn_seq (pv 3) (pv 0) rfl))))
      (pss_one (ps_ret pe_bl))
      pss_nil)
      (pss_one (ps_ret (pe_and (pe_call G_is_between hr_is_between rfl T.m_is_between T.F_is_between.kp T.b_is_between .nil pass0 (pa_cons (pv 4) (pa_cons pe_int (pa_cons (pe_glob (v := V.int 4) rfl c_MAX_DELAY ⟨_, rfl⟩) pa_nil)))) (pe_one (pe_call G_is_between hr_is_between rfl T.m_is_between T.F_is_between.kp T.b_is_between .nil pass0 (pa_cons (pv 5) (pa_cons pe_int (pa_cons (pe_glob (v := V.int 3) rfl c_MAX_DISTANCE ⟨_, rfl⟩) pa_nil))))))))))), ?_⟩
    have dt : DD K H (.ref a) (.tuple ((oK o).map KS.keyE)) := .inl (.tup ha (dpa_kv _))
    have hn' := hn
    refine ⟨_, rfl, _, _, _, _, true, rfl, .ty _, dt.ty, kit_ty (a := "tuple") (b := "tuple") (by decide +kernel), _, rfl, iteF ?_⟩
    refine ⟨_, rfl, _, _, rfl, .inr ⟨_, ha, rfl⟩, rfl, _, rfl, ?_⟩
    refine iteNS rfl ?_
    refine ⟨_, rfl, a, _, rfl, ha, rfl, _, _, rfl, _, _, rfl, _, _, rfl, _, _, rfl, rfl, ?_⟩
    refine ⟨_, rfl, _, rfl, nm, _, rfl, .inr hn, rfl, flat_strs _, ?_⟩
    rw [show inV (kV (.inr o.1)) (names.map V.str) = true from (inV_strs _ _).trans (decide_eq_true ok.s)]
    refine ⟨_, rfl, iteF ?_⟩
    refine ⟨_, rfl, _, rfl, nm, _, rfl, .inr hn, rfl, flat_strs _, ?_⟩
    rw [show inV (kV (.inr o.2.1)) (names.map V.str) = true from (inV_strs _ _).trans (decide_eq_true ok.t)]
    refine ⟨_, rfl, iteF ?_⟩
    refine ⟨_, rfl, _, .int o.2.2.1, 0, 4, rfl, .inl (.int _), ?_⟩
    rw [in_of ok.d.1 ok.d.2 (by decide) (by decide)]
    refine ⟨_, rfl, iteT ?_⟩
    refine ⟨_, rfl, _, .int o.2.2.2, 0, 3, rfl, .inl (.int _), ?_⟩
    rw [in_of ok.e.1 ok.e.2 (by decide) (by decide)]
    exact k
def sp_check_orders (K : PySem.W.Frag) : Sp := fun vs H Q _ => ∃ (nm a : Addr) (names : List Str) (os : List Od), vs = [.ref nm, .ref a] ∧ SqT K H nm (names.map V.str) ∧ RowsT K H a (os.map oK) ∧ os.length ≤ 8 ∧ (∀ o ∈ os, OdOk names o) ∧ ((os.map oK).Pairwise fun p q => KS.kLt p q = true) ∧ ∀ H', Same H H' → Q .non H'
theorem ok_check_orders (T : T K mg) : FnOk P w K mg base CX0 4 T.f_check_orders T.d_check_orders ["names", "orders"] (sp_check_orders K) := by
  have G_asc : FnOk P w K mg base CX0 1 T.f_ascends T.d_ascends ["row"] (sp_ascK K) := ok_ascK T
  have G_is_order : FnOk P w K mg base CX0 3 T.f_is_order T.d_is_order ["names", "value"] (sp_is_order K) := ok_is_order T
  refine T.F_check_orders.ok sc_check_orders (fun vs H Q E h => ?_) (fun cdv A outer s H vs Q E hr h => ?_)
  · obtain ⟨nm, a, names, os, rfl, _⟩ := h
    rfl
  · obtain ⟨nm, a, names, os, rfl, hn, ha, l8, ok, asc, k⟩ := h
    have hu := hu_of hr
    have hr_asc : Room 1 _ := hr.mono (by decide)
    have hr_is_order : Room 3 _ := hr.mono (by decide)
    obtain ⟨_, c_MAX_ORDERS⟩ := T.c_MAX_ORDERS
    obtain ⟨ms, h1, h2, h3⟩ := id ha
    have lm : ms.length = os.length := by
      have := congrArg List.length h3
      simpa using this
    refine ⟨_, (pss_cons (ps_if (PW.pt (pw_or (pt_not (pt_val (pe_callB call_isi (by rfl) T.z_isinstance (by decide +kernel) (pa_cons (pv 1) (pa_cons (pe_bltn (v := V.ty "tuple") (u := Value.type "tuple") (by rfl) T.z_tuple (by decide +kernel) rfl) pa_nil))))) (pw_or1 (pt_cmpR op_gt (pe_callB call_len (by rfl) T.z_len (by decide +kernel) (pa_cons (pv 1) pa_nil)) (pe_glob (v := V.int 8) rfl c_MAX_ORDERS ⟨_, rfl⟩) (nomark _)))))
      (pss_one ps_never)
      pss_nil)
      (pss_one (ps_if (PW.pt (pw_or (pt_not (pt_val (pe_callB (cr_all rfl) (by rfl) T.z_all (by decide +kernel) (pa_cons (pe_lc (own := [("order", 2)]) (g := gName 2) rfl sc_check_orders.nd (pi_tup (pv 1)) (blkOk_by (N := ["names", "orders", "order"]) (sc := defScope s_check_orders) (by decide +kernel)) (fun _ _ _ _ _ => (pg_name (i := 2) sc_check_orders.nd rfl (Or.inl rfl))) (fun _ _ _ _ _ => pts_nil) (fun _ _ _ _ _ => (pe_call G_is_order hr_is_order rfl T.m_is_order T.F_is_order.kp T.b_is_order .nil pass0 (pa_cons (pv 0) (pa_cons (pv 2) pa_nil))))) pa_nil)))) (pw_or1 (pt_not (pt_val (pe_call G_asc hr_asc rfl T.m_ascends T.F_ascends.kp T.b_ascends .nil pass0 (pa_cons (pv 1) pa_nil)))))))
      (pss_one ps_never)
      pss_nil))), ?_⟩
    have dt : DD K H (.ref a) (.tuple ((os.map oK).map KS.rowE)) := .inl ha.dp
    refine ⟨_, rfl, _, _, _, _, true, rfl, .ty _, dt.ty, kit_ty (a := "tuple") (b := "tuple") (by decide +kernel), _, rfl, iteF ?_⟩
    refine ⟨_, rfl, _, _, rfl, .inr ⟨_, h1, rfl⟩, _, _, rfl, rfl, _, rfl, ?_⟩
    rw [decide_eq_false (show ¬ ((((ms.map fun m => V.ref m.1).length : Nat) : Int) > 8) by rw [List.length_map]; omega)]
    refine iteF ?_
    refine ⟨_, rfl, a, rfl, ⟨_, h1⟩, fun D hD => ?_⟩
    refine lc_it (walk_tup (K := K) (a := a) (xs := ms.map fun m => V.ref m.1)) (fun i H' => Same H H' ∧ H' D = some (.lst ((List.replicate i true).map V.bl))) ⟨Same.new hD, upd_same⟩ (fun i H' _ h => Same.seqT h.1 h1) ?_ ?_
    · rintro i x Hc Hd hi ⟨Sc, eD⟩ ⟨rfl, hx⟩
      rw [List.getElem?_map] at hx
      rw [List.length_map] at hi
      have em : ms[i]? = some ms[i] := List.getElem?_eq_getElem hi
      rw [em] at hx
      cases hx
      have mm : ms[i] ∈ ms := List.getElem_mem hi
      obtain ⟨o, ho, eo⟩ : ∃ o ∈ os, oK o = ms[i].2 := by
        have : ms[i].2 ∈ os.map oK := by rw [← h3]; exact List.mem_map.mpr ⟨_, mm, rfl⟩
        exact List.mem_map.mp this
      refine ⟨rfl, ?_⟩
      unfold tYes
      dsimp only
      rw [if_pos rfl]
      refine ⟨_, rfl, _, rfl, nm, ms[i].1, names, o, rfl, Same.seqT Sc hn, by rw [eo]; exact Same.seqT Sc (h2 _ mm), ok o ho, ?_⟩
      refine ⟨_, eD, by rw [List.length_map, List.length_replicate, sizeLine_eq]; omega, Same.at hD Sc, ?_⟩
      rw [upd_same, List.replicate_succ', List.map_append]
      rfl
    rintro H9 ⟨S9, eD⟩
    refine ⟨_, _, rfl, SqL.of eD, ?_⟩
    rw [show (List.replicate (ms.map fun m => V.ref m.1).length true).all id = true by simp]
    refine ⟨_, rfl, iteF ?_⟩
    refine ⟨_, rfl, .ref a, os.map oK, rfl, (ha.same S9).dp, oK_one os, by rw [List.length_map]; omega, fun H' S' => ?_⟩
    rw [asc_rows asc]
    exact ⟨_, rfl, iteF (k _ (Same.trans S9 S'))⟩
end
end K14
namespace K14
open PySem L2
open PyProof.Rows PySem.Spec
/-- a comprehension that keeps of its items what f tells -/
theorem lc_pick {α : Type} {e : α → V} {l : List α} {J : It} {G : Hp → Prop} (w : Walk J (l.map e).length G (YAt (l.map e))) {g : TG} {tt : TT} {te : TE} {vs : List Nat} {σ : L2.St} {H1 : Hp} {D : Addr} {Qd : Hp → Prop} (f : α → Option V) (hG : ∀ H', Same H1 H' → G H') (few : l.length ≤ 1000) (hD : H1 D = none)
    (hs : ∀ x H', x ∈ l → Same H1 H' → ∀ (C : VK) (N : Hp → Prop), (∀ H'', Same H' H'' → match f x with | some y => C y H'' | none => N H'') → g (e x) (wipe σ vs) H' fun σ2 H2 => wipe σ2 vs = wipe σ vs ∧ tt σ2 H2 fun b H3 => if b = true then te σ2 H3 C else N H3)
    (hd : ∀ H', Same H1 H' → H' D = some (.lst (l.filterMap f)) → Qd H') :
    ∃ W : Nat → Nat → Hp → Prop, (∃ m, W 0 m
                                             (upd H1 D (.lst []))) ∧ ∀ i m H, W i m H →
      (J.stop i H ∧ Qd H) ∨ (J.go i H ∧ ∃ Nx : Hp → Prop, (∀ H', Nx H' → ∃ m', m' < m ∧ W
                                                                                          (i + 1) m' H') ∧ ∀ x H', J.yld i H x H' → g x (wipe σ vs) H' fun σ2 H2 => wipe σ2 vs = wipe σ vs ∧ tt σ2 H2 fun b H3 =>
        if b = true then te σ2 H3 fun y H4 => ∃ acc, H4 D = some
                                                                 (.lst acc) ∧ acc.length < sizeLine ∧ Nx (upd H4 D (.lst (acc ++ [y]))) else Nx H3) := by
  refine lc_it w (fun i H' => Same H1 H' ∧ H' D = some (.lst ((l.take i).filterMap f))) ⟨Same.new hD, upd_same⟩ (fun i H' _ h => hG H' h.1) ?_ (fun H' h => hd H' h.1 (by have := h.2; rw [List.take_of_length_le (by rw [List.length_map]; exact Nat.le_refl _)] at this; exact this))
  rintro i x Ha Hb hi ⟨Sa, eD⟩ ⟨rfl, hx⟩
  rw [List.getElem?_map] at hx
  cases ey : l[i]? with
  | none => rw [ey] at hx; cases hx
  | some y =>
    rw [ey] at hx
    cases hx
    have hf : (l.take (i + 1)).filterMap f = (l.take i).filterMap f ++ (match f y with | some z => [z] | none => []) := by
      rw [List.take_add_one, ey, List.filterMap_append]
      cases q : f y <;> simp [q]
    refine hs y _ (List.mem_of_getElem? ey) Sa _ _ fun Hc Sc => ?_
    cases q : f y with
    | some z =>
      refine ⟨_, Sc _ _ eD, ?_, Same.at hD (Same.trans Sa Sc), ?_⟩
      · rw [sizeLine_eq]
        have := List.length_filterMap_le f (l.take i)
        rw [List.length_take] at this
        omega
      · rw [upd_same, hf, q]
    | none =>
      refine ⟨Same.trans Sa Sc, ?_⟩
      rw [hf, q, List.append_nil]
      exact Sc _ _ eD
/-! ### the order of a round -/
def zeros (os : List Od) : List (Str × Str) := (os.filter fun o => decide (o.2.2.2 = 0)).map fun o => (o.1, o.2.1)
def waits (ps : List (Str × Str)) (ls : List Str) : List Str := (ps.filter fun p => decide (p.1 ∈ ls)).map (·.2)
def frees (ps : List (Str × Str)) (ls : List Str) : List Str := ls.filter fun n => !decide (n ∈ waits ps ls)
def lefts (ps : List (Str × Str)) (ls : List Str) : List Str := ls.filter fun n => decide (n ∈ waits ps ls)
theorem min_ex (rank : Str → Nat) : ∀ {ls : List Str}, ls ≠ [] → ∃ n ∈ ls, ∀ m ∈ ls, rank n ≤ rank m
  | [n], _ => ⟨n, List.mem_cons_self, fun m hm => by rw [List.mem_singleton.mp hm]; exact Nat.le_refl _⟩
  | n :: a :: ls, _ => by
    obtain ⟨m, hm, h⟩ := min_ex rank (ls := a :: ls) (by simp)
    rcases Nat.le_total (rank n) (rank m) with c | c
    · refine ⟨n, List.mem_cons_self, fun x hx => ?_⟩
      rcases List.mem_cons.mp hx with rfl | hx
      · exact Nat.le_refl _
      · exact Nat.le_trans c (h x hx)
    · refine ⟨m, List.mem_cons_of_mem _ hm, fun x hx => ?_⟩
      rcases List.mem_cons.mp hx with rfl | hx
      · exact c
      · exact h x hx
theorem frees_ne {rank : Str → Nat} {ps : List (Str × Str)} {ls : List Str} (h : ∀ p ∈ ps, rank p.1 < rank p.2) (ne : ls ≠ []) : frees ps ls ≠ [] := by
  obtain ⟨n, hn, mn⟩ := min_ex rank ne
  intro z
  have : n ∈ frees ps ls := by
    refine List.mem_filter.mpr ⟨hn, ?_⟩
    rw [Bool.not_eq_true', decide_eq_false_iff_not]
    intro w
    obtain ⟨p, hp, e⟩ := List.mem_map.mp w
    obtain ⟨hp, hs⟩ := List.mem_filter.mp hp
    have := h p hp
    have := mn p.1 (of_decide_eq_true hs)
    rw [e] at *
    omega
  rw [z] at this
  cases this
theorem parts_len (ps : List (Str × Str)) (ls : List Str) : (frees ps ls).length + (lefts ps ls).length = ls.length := by
  have key : ∀ (f : Str → Bool) (l : List Str), (l.filter fun n => !f n).length + (l.filter f).length = l.length := fun f l => by
    induction l with
    | nil => rfl
    | cons a l ih => cases e : f a <;> simp [e] <;> omega
  exact key _ ls
end K14
namespace K14
open PySem L2
open PyProof.Rows PySem.Spec
/-- pairs of texts that stand in new tuples -/
def PrsAt (H : Hp) (ts : List Addr) (ps : List (Str × Str)) : Prop := Paired (fun t p => H t = some (.tup [.str p.1, .str p.2])) ts ps
theorem PrsAt.keep {H H' : Hp} {ts : List Addr} {ps : List (Str × Str)} (k : ∀ t xs, H t = some (.tup xs) → H' t = some (.tup xs)) (h : PrsAt H ts ps) : PrsAt H' ts ps := Paired.mapP h fun _ _ e => k _ _ e
theorem PrsAt.get {H : Hp} : ∀ {ts : List Addr} {ps : List (Str × Str)}, PrsAt H ts ps → ts.length = ps.length ∧ ∀ (x : Addr × (Str × Str)), x ∈ ts.zip ps → H x.1 = some (.tup [.str x.2.1, .str x.2.2])
  | _, _, .nil => ⟨rfl, fun x h => by cases h⟩
  | _, _, .cons h t => by
    obtain ⟨a, b⟩ := PrsAt.get t
    refine ⟨congrArg (· + 1) a, fun x hx => ?_⟩
    rcases List.mem_cons.mp hx with rfl | hx
    · exact h
    · exact b x hx
theorem zip_refs {ts : List Addr} {ps : List (Str × Str)} (h : ts.length = ps.length) : (ts.zip ps).map (fun x => V.ref x.1) = ts.map V.ref ∧ (ts.zip ps).map (·.2) = ps := by
  constructor
  · rw [show (fun x : Addr × (Str × Str) => V.ref x.1) = V.ref ∘ Prod.fst from rfl, ← List.map_map, List.map_fst_zip (by omega)]
  · exact List.map_snd_zip (by omega)
theorem waits_of {ts : List Addr} {ps : List (Str × Str)} (h : ts.length = ps.length) (ls : List Str) : (ts.zip ps).filterMap (fun x => if x.2.1 ∈ ls then some (V.str x.2.2) else none) = (waits ps ls).map V.str := by
  have key : ∀ zs : List (Addr × Str × Str), zs.filterMap (fun x => if x.2.1 ∈ ls then some (V.str x.2.2) else none) = (waits (zs.map (·.2)) ls).map V.str := fun zs => by
    unfold waits
    induction zs with
    | nil => rfl
    | cons z zs ih =>
      by_cases c : z.2.1 ∈ ls
      · simp [c, ih]
      · simp [c, ih]
  rw [key, (zip_refs h).2]
theorem fil_of (f : Str → Bool) (ls : List Str) : ls.filterMap (fun n => if f n = true then some (V.str n) else none) = (ls.filter f).map V.str := by
  induction ls with
  | nil => rfl
  | cons n ls ih =>
    by_cases c : f n = true
    · simp [c, ih]
    · simp [c, ih]
section
variable {P : Program} {w : World} {K : PySem.W.Frag}
                                                      {mg : Str → Option Value} {base : Heap}
def sp_order (K : PySem.W.Frag) : Sp := fun vs H Q _ => ∃ (nm ar : Addr) (names : List Str) (os : List Od) (rank : Str → Nat), vs = [.ref nm, .ref ar] ∧ SqT K H nm (names.map V.str) ∧ RowsT K H ar (os.map oK) ∧ names.length ≤ 8 ∧ os.length ≤ 63 ∧
  (∀ o ∈ os, o.2.2.2 = 0 → rank o.1 < rank o.2.1) ∧ ∀ l H', Same H H' → Q (.ref l) H'
theorem ok_order_of_round (T : T K mg) : FnOk P w K mg base CX0 1 T.f_order_of_round T.d_order_of_round ["names", "arcs"] (sp_order K) := by
  refine T.F_order_of_round.ok sc_order_of_round (fun vs H Q E h => ?_) (fun cdv A outer s H vs Q E hr h => ?_)
  · obtain ⟨nm, ar, names, os, rank, rfl, _⟩ := h
    rfl
  · obtain ⟨nm, ar, names, os, rank, rfl, hn, ha, n8, o63, rk, k⟩ := h
    have hu := hu_of hr
    obtain ⟨ms, h1, h2, h3⟩ := id ha
    have lm : ms.length = os.length := by
      have := congrArg List.length h3
      simpa using this
    refine ⟨_, (pss_cons (ps_setLc (i := 2) (own := [("arc", 7)]) (g := gName 7) rfl sc_order_of_round.nd rfl rfl (sw_true rfl rfl rfl (by decide +kernel)) (pi_tup (pv 1)) (blkOk_by (N := ["names", "arcs", "pairs", "order", "left", "waiting", "free", "arc", "source", "target", "name"]) (sc := defScope s_order_of_round) (by decide +kernel)) (fun _ _ _ _ _ => (pg_name (i := 7) sc_order_of_round.nd rfl (Or.inl rfl))) (fun _ _ _ _ _ => pts_one (pt_cmpR op_eq (pe_ix (r := rIx K) ix_seq (pv 7) pe_int (fun _ _ => rfl)) pe_int (nomark _))) (fun _ _ _ _ _ => (pe_tup (pa_cons (pe_ix (r := rIx K) ix_seq (pv 7) pe_int (fun _ _ => rfl)) (pa_cons (pe_ix (r := rIx K) ix_seq (pv 7) pe_int (fun _ _ => rfl)) pa_nil)))))
      (pss_cons (ps_set (i := 3) sc_order_of_round.nd rfl (Or.inl rfl) (pe_lst pa_nil))
      (pss_cons (ps_set (i := 4) sc_order_of_round.nd rfl (Or.inr rfl) (pe_callTy call_list_of (by rfl) T.z_list (by decide +kernel) (pa_cons (pv 0) pa_nil)))
      (pss_cons (ps_while PassesOwn.never (pt_truth (pv 4) (fun _ => rfl))
      (pss_cons (ps_set (i := 5) sc_order_of_round.nd rfl (Or.inr rfl) (pe_lc (own := [("source", 8), ("target", 9)]) (g := gTup K 2 (gCons (gName 8) (gCons (gName 9) gNil))) rfl sc_order_of_round.nd (pi_list (pv 2)) (blkOk_by (N := ["names", "arcs", "pairs", "order", "left", "waiting", "free", "arc", "source", "target", "name"]) (sc := defScope s_order_of_round) (by decide +kernel)) (fun _ _ _ _ _ => (pg_tup rfl (pgs_cons (pg_name (i := 8) sc_order_of_round.nd rfl (Or.inl rfl)) (pgs_cons (pg_name (i := 9) sc_order_of_round.nd rfl (Or.inl rfl)) pgs_nil)))) (fun _ _ _ _ _ => pts_one (pt_cmpR (r := rIn K false) op_in_seq (pv 8) (pv 4) rfl)) (fun _ _ _ _ _ => (pv 9))))
      (pss_cons (ps_setLc (i := 6) (own := [("name", 10)]) (g := gName 10) rfl sc_order_of_round.nd rfl rfl (sw_true rfl rfl rfl (by decide +kernel)) (pi_list (pv 4)) (blkOk_by (N := ["names", "arcs", "pairs", "order", "left", "waiting", "free", "arc", "source", "target", "name"]) (sc := defScope s_order_of_round) (by decide +kernel)) (fun _ _ _ _ _ => (pg_name (i := 10) sc_order_of_round.nd rfl (Or.inl rfl))) (fun _ _ _ _ _ => pts_one (pt_cmpR (r := rIn K true) op_notIn_seq (pv 10) (pv 5) (by with_unfolding_all rfl))) (fun _ _ _ _ _ => (pv 10)))
      (pss_cons (ps_if (pt_not (pt_truth (pv 6) (fun _ => rfl)))
      (pss_one (ps_ret pe_non))
      pss_nil)
      (pss_cons (ps_expr (pe_bm PySem.F.plainAttrs_list PySem.F.slot_list_extend PySem.F.type_list_extend mt_extend (pv 3) (pa_cons (pv 6) pa_nil)))
      (pss_one (ps_set (i := 4) sc_order_of_round.nd rfl (Or.inr rfl) (pe_lc (own := [("name", 10)]) (g := gName 10) rfl sc_order_of_round.nd (pi_list (pv 4)) (blkOk_by (N := ["names", "arcs", "pairs", "order", "left", "waiting", "free", "arc", "source", "target", "name"]) (sc := defScope s_order_of_round) (by decide +kernel)) (fun _ _ _ _ _ => (pg_name (i := 10) sc_order_of_round.nd rfl (Or.inl rfl))) (fun _ _ _ _ _ => pts_one (pt_cmpR (r := rIn K false) op_in_seq (pv 10) (pv 5) rfl)) (fun _ _ _ _ _ => (pv 10))))))))))
      (pss_one (ps_ret (pv 3))))))), ?_⟩
    refine ⟨_, rfl, ar, rfl, ⟨_, h1⟩, fun pr hpr => ?_⟩
    refine lc_it (σ := [some (V.ref nm), some (.ref ar), none, none, none, none, none, none, none, none, none]) (walk_tup (K := K) (a := ar) (xs := ms.map fun m => V.ref m.1)) (fun i H' => Same H H' ∧ ∃ ts, H' pr = some (.lst (ts.map V.ref)) ∧ PrsAt H' ts (zeros (os.take i))) ⟨Same.new hpr, [], upd_same, .nil⟩ (fun i H' _ h => Same.seqT h.1 h1) ?_ ?_
    · rintro i x Hc Hd hi ⟨Sc, ts, eD, pt⟩ ⟨rfl, hx⟩
      rw [List.getElem?_map] at hx
      rw [List.length_map] at hi
      have em : ms[i]? = some ms[i] := List.getElem?_eq_getElem hi
      rw [em] at hx
      cases hx
      have lo : i < os.length := by omega
      have eo : ms[i].2 = oK os[i] := by
        have e1 : (ms.map (·.2))[i]? = some ms[i].2 := by rw [List.getElem?_map, em]; rfl
        rw [h3, List.getElem?_map, List.getElem?_eq_getElem lo] at e1
        exact (Option.some.inj e1).symm
      have hm : SqT K Hd ms[i].1 ((oK os[i]).map kV) := by rw [← eo]; exact Same.seqT Sc (h2 _ (List.getElem_mem hi))
      have hm : SqT K Hd ms[i].1 [.str os[i].1, .str os[i].2.1, .int os[i].2.2.1, .int os[i].2.2.2] := hm
      have tk : os.take (i + 1) = os.take i ++ [os[i]] := by rw [List.take_add_one, List.getElem?_eq_getElem lo]; rfl
      generalize os[i] = o at hm tk
      refine ⟨rfl, ?_⟩
      refine ⟨_, rfl, .inr (.inl ⟨_, _, _, _, rfl, rfl, hm, rfl, ?_⟩)⟩
      refine ⟨rfl, _, rfl, ?_⟩
      dsimp only
      have zs : zeros (os.take (i + 1)) = zeros (os.take i) ++ if o.2.2.2 = 0 then [(o.1, o.2.1)] else [] := by
        unfold zeros
        rw [tk, List.filter_append, List.map_append]
        by_cases c : o.2.2.2 = 0
        · simp [c]
        · simp [c]
      by_cases c : o.2.2.2 = 0
      · rw [if_pos (show decide (V.int o.2.2.2 = V.int 0) = true from decide_eq_true (by rw [c]))]
        refine ⟨_, rfl, .inr (.inl ⟨_, _, _, _, rfl, rfl, hm, rfl, ?_⟩)⟩
        refine ⟨_, rfl, .inr (.inl ⟨_, _, _, _, rfl, rfl, hm, rfl, ?_⟩)⟩
        refine ⟨by show 2 ≤ sizeLine; decide, fun t ht => ?_⟩
        have St := Same.new (o := .tup [V.str o.1, .str o.2.1]) ht
        have lt := (pt.get).1
        have lz : (zeros (os.take i)).length ≤ 63 := by
          unfold zeros
          rw [List.length_map]
          refine Nat.le_trans (List.length_filter_le _ _) ?_
          rw [List.length_take]
          omega
        refine ⟨_, St _ _ eD, by rw [List.length_map, sizeLine_eq]; omega, Same.at hpr (Same.trans Sc St), ts ++ [t], by rw [upd_same, List.map_append]; rfl, ?_⟩
        rw [zs, if_pos c]
        have kt : ∀ a xs, (upd Hd t (.tup [V.str o.1, .str o.2.1])) a = some (.tup xs) → (upd (upd Hd t (.tup [V.str o.1, .str o.2.1])) pr (.lst (ts.map V.ref ++ [V.ref t]))) a = some (.tup xs) := fun a xs e => by
          rw [upd_ne (fun z => by rw [z, St _ _ eD] at e; cases e)]
          exact e
        exact Paired.snoc (PrsAt.keep (fun a xs e => kt a xs (St _ _ e)) pt) (kt _ _ upd_same)
      · rw [if_neg (show ¬ decide (V.int o.2.2.2 = V.int 0) = true from fun z => c (V.int.inj (of_decide_eq_true z)))]
        refine ⟨Sc, ts, eD, ?_⟩
        rw [zs, if_neg c, List.append_nil]
        exact pt
    rintro H1 ⟨S1, ts, epr, pts⟩
    rw [List.length_map, lm, List.take_length] at pts
    have zr : ∀ p ∈ zeros os, rank p.1 < rank p.2 := fun p hp => by
      obtain ⟨o, ho, rfl⟩ := List.mem_map.mp hp
      obtain ⟨ho, hz⟩ := List.mem_filter.mp ho
      exact rk o ho (of_decide_eq_true hz)
    have lz : (zeros os).length ≤ 63 := by
      unfold zeros
      rw [List.length_map]
      exact Nat.le_trans (List.length_filter_le _ _) o63
    generalize zeros os = Z at pts zr lz
    have lt := pts.get.1
    refine ⟨by show 0 ≤ sizeLine; decide, fun od hod => ?_⟩
    have S2 := Same.new (o := .lst []) hod
    have hodH : H od = none := by
      cases z : H od with
      | none => rfl
      | some o => rw [S1 _ _ z] at hod; cases hod
    have npo : pr ≠ od := fun z => by rw [z, hod] at epr; cases epr
    have eod : (upd H1 od (.lst [])) od = some (.lst []) := upd_same
    have epr := S2 _ _ epr
    have pts := PrsAt.keep (fun a xs e => S2 _ _ e) pts
    have S12 := Same.trans S1 S2
    generalize upd H1 od (.lst []) = H2 at S12 eod epr pts ⊢
    refine ⟨_, rfl, nm, _, rfl, .inr (Same.seqT S12 hn), fun lf hlf => ?_⟩
    have S3 := Same.new (o := .lst (names.map V.str)) hlf
    have nlo : lf ≠ od := fun z => by rw [z, eod] at hlf; cases hlf
    have elf : (upd H2 lf (.lst (names.map V.str))) lf = some (.lst (names.map V.str)) := upd_same
    have eod := S3 _ _ eod
    have epr := S3 _ _ epr
    have pts := PrsAt.keep (fun a xs e => S3 _ _ e) pts
    have S13 := Same.trans S12 S3
    generalize upd H2 lf (.lst (names.map V.str)) = H3 at S13 eod epr pts elf ⊢
    clear S1 S2 S12 S3 hod hlf
    refine ⟨fun m σ G => ∃ (lf : Addr) (ls : List Str) (v5 v6 : Option V) (ys : List V), m = ls.length ∧ σ = [some (V.ref nm), some (.ref ar), some (.ref pr), some (.ref od), some (.ref lf), v5, v6, none, none, none, none] ∧ Same H G ∧ G pr = some (.lst (ts.map V.ref)) ∧ PrsAt G ts Z ∧ G od = some (.lst ys) ∧ ys.length + ls.length ≤ 8 ∧ G lf = some (.lst (ls.map V.str)) ∧ lf ≠ od,
      ⟨_, lf, names, none, none, [], rfl, rfl, S13, epr, pts, eod, by simpa using n8, elf, nlo⟩, ?_⟩
    clear S13 epr pts eod elf nlo
    rintro m σ G ⟨lf, ls, v5, v6, ys, rfl, rfl, SG, epr, pts, eod, ly, elf, nlo⟩
    refine ⟨_, rfl, _, .inl ⟨_, SqL.of elf, rfl⟩, ?_⟩
    by_cases ne : ls = []
    · subst ne
      exact iteF ⟨_, rfl, k od G SG⟩
    rw [show (!(ls.map V.str).isEmpty) = true by cases ls with | nil => exact absurd rfl ne | cons a b => rfl]
    refine iteT ⟨_, fun σ' H' h => h, ?_⟩
    have fne := frees_ne zr ne
    have pl := parts_len Z ls
    obtain ⟨z1, z2⟩ := zip_refs lt
    have epz : G pr = some (.lst ((ts.zip Z).map fun x => V.ref x.1)) := by rw [z1]; exact epr
    refine ⟨_, rfl, pr, rfl, ⟨_, SqL.of epz⟩, fun D hD => ?_⟩
    refine lc_pick (e := fun x : Addr × (Str × Str) => V.ref x.1) (l := ts.zip Z) (walk_list (K := K) (a := pr)) (fun x => if x.2.1 ∈ ls then some (V.str x.2.2) else none) (fun H' S => SqL.of (S _ _ epz)) (by rw [List.length_zip]; omega) hD ?_ ?_
    · intro x H' hx Sx C N post
      refine ⟨x.1, _, rfl, SqT.of (Sx _ _ (pts.get.2 x hx)), rfl, _, _, rfl, _, _, rfl, rfl, ?_⟩
      refine ⟨rfl, ?_⟩
      refine ⟨_, rfl, _, rfl, lf, _, rfl, .inl (SqL.of (Sx _ _ elf)), rfl, flat_strs _, ?_⟩
      rw [inV_strs]
      refine ⟨_, rfl, ?_⟩
      have := post H' (Same.refl _)
      by_cases c : x.2.1 ∈ ls
      · rw [decide_eq_true c]
        rw [if_pos c] at this
        exact iteT ⟨_, rfl, this⟩
      · rw [decide_eq_false c]
        rw [if_neg c] at this
        exact iteF this
    intro G1 T1 eD
    rw [waits_of lt] at eD
    have elf1 := T1 _ _ elf
    refine ⟨_, rfl, lf, rfl, ⟨_, SqL.of elf1⟩, fun D2 hD2 => ?_⟩
    refine lc_pick (e := V.str) (l := ls) (walk_list (K := K) (a := lf)) (fun n => if (!decide (n ∈ waits Z ls)) = true then some (V.str n) else none) (fun H' S => SqL.of (S _ _ elf1)) (by omega) hD2 ?_ ?_
    · intro n H' hx Sx C N post
      refine ⟨rfl, ?_⟩
      refine ⟨_, rfl, _, rfl, D, _, rfl, .inl (SqL.of (Sx _ _ eD)), rfl, flat_strs _, ?_⟩
      rw [inV_strs]
      refine ⟨_, rfl, ?_⟩
      have := post H' (Same.refl _)
      by_cases c : n ∈ waits Z ls
      · rw [decide_eq_true c] at this ⊢
        exact iteF this
      · rw [decide_eq_false c] at this ⊢
        exact iteT ⟨_, rfl, this⟩
    intro G2 T2 eD2
    rw [fil_of] at eD2
    have eD2 : G2 D2 = some (.lst ((frees Z ls).map V.str)) := eD2
    have T12 := Same.trans T1 T2
    have eod2 := T12 _ _ eod
    refine ⟨_, rfl, _, .inl ⟨_, SqL.of eD2, rfl⟩, ?_⟩
    rw [show (!((frees Z ls).map V.str).isEmpty) = true by cases e : frees Z ls with | nil => exact absurd e fne | cons a b => rfl]
    refine iteF ?_
    refine ⟨_, rfl, .inl ⟨rfl, _, SqL.of eod2⟩, _, rfl, od, D2, ys, _, rfl, rfl, eod2, eD2, by rw [List.length_map, sizeLine_eq]; omega, ?_⟩
    have elf2 := T12 _ _ elf
    have eDw := T2 _ _ eD
    have nDo : D ≠ od := fun z => by rw [z, eod] at hD; cases hD
    have SG3 : Same H (upd G2 od (.lst (ys ++ (frees Z ls).map V.str))) := Same.at hodH (Same.trans SG T12)
    have elf3 : (upd G2 od (.lst (ys ++ (frees Z ls).map V.str))) lf = some (.lst (ls.map V.str)) := (upd_ne nlo).trans elf2
    have eDw3 : (upd G2 od (.lst (ys ++ (frees Z ls).map V.str))) D = some (.lst ((waits Z ls).map V.str)) := (upd_ne nDo).trans eDw
    have epr3 : (upd G2 od (.lst (ys ++ (frees Z ls).map V.str))) pr = some (.lst (ts.map V.ref)) := (upd_ne npo).trans (T12 _ _ epr)
    have pts3 : PrsAt (upd G2 od (.lst (ys ++ (frees Z ls).map V.str))) ts Z := PrsAt.keep (fun a xs e => (upd_ne (fun z => by rw [z, eod2] at e; cases e)).trans e) (PrsAt.keep (fun a xs e => T12 _ _ e) pts)
    have eod3 : (upd G2 od (.lst (ys ++ (frees Z ls).map V.str))) od = some (.lst (ys ++ (frees Z ls).map V.str)) := upd_same
    generalize upd G2 od (.lst (ys ++ (frees Z ls).map V.str)) = G3 at SG3 elf3 eDw3 epr3 pts3 eod3 ⊢
    refine ⟨_, rfl, lf, rfl, ⟨_, SqL.of elf3⟩, fun D3 hD3 => ?_⟩
    have nD3 : D3 ≠ od := fun z => by rw [z, eod3] at hD3; cases hD3
    refine lc_pick (e := V.str) (l := ls) (walk_list (K := K) (a := lf)) (fun n => if (decide (n ∈ waits Z ls)) = true then some (V.str n) else none) (fun H' S => SqL.of (S _ _ elf3)) (by omega) hD3 ?_ ?_
    · intro n H' hx Sx C N post
      refine ⟨rfl, ?_⟩
      refine ⟨_, rfl, _, rfl, D, _, rfl, .inl (SqL.of (Sx _ _ eDw3)), rfl, flat_strs _, ?_⟩
      rw [inV_strs]
      refine ⟨_, rfl, ?_⟩
      have := post H' (Same.refl _)
      by_cases c : n ∈ waits Z ls
      · rw [decide_eq_true c] at this ⊢
        exact iteT ⟨_, rfl, this⟩
      · rw [decide_eq_false c] at this ⊢
        exact iteF this
    intro G4 T4 eD3
    rw [fil_of] at eD3
    have eD3 : G4 D3 = some (.lst ((lefts Z ls).map V.str)) := eD3
    have fl : 0 < (frees Z ls).length := List.length_pos_iff.mpr fne
    refine ⟨_, (by omega : (lefts Z ls).length < ls.length), D3, lefts Z ls, _, _, ys ++ (frees Z ls).map V.str, rfl, rfl, Same.trans SG3 T4, T4 _ _ epr3, PrsAt.keep (fun a xs e => T4 _ _ e) pts3, T4 _ _ eod3, by rw [List.length_append, List.length_map]; omega, eD3, nD3⟩
end
end K14
namespace K14
open PySem L2
open PyProof.Rows PySem.Spec
def Kvs (L : List (Str × Addr)) : List (Key × V) := L.map fun p => (Sum.inr p.1, V.ref p.2)
theorem valV_none {L : List (Str × Addr)} {n : Str} (h : n ∉ L.map (·.1)) : valV (Kvs L) (.inr n) = none := by
  cases e : valV (Kvs L) (.inr n) with
  | none => rfl
  | some v =>
    refine absurd ?_ h
    have := valV_in e
    unfold Kvs at this
    rw [List.map_map] at this
    obtain ⟨p, hp, q⟩ := List.mem_map.mp this
    exact List.mem_map.mpr ⟨p, hp, Sum.inr.inj q⟩
theorem kvs_snoc (L : List (Str × Addr)) (n : Str) (t : Addr) : Kvs (L ++ [(n, t)]) = Kvs L ++ [(Sum.inr n, V.ref t)] := by
  unfold Kvs
  rw [List.map_append]
  rfl
theorem putK_kvs {L : List (Str × Addr)} {n : Str} {t : Addr} (h : n ∉ L.map (·.1)) : putK (Kvs L) (.inr n) (.ref t) = Kvs (L ++ [(n, t)]) := by
  rw [putK_new _ (valV_none h), kvs_snoc]
theorem kvs_len (L : List (Str × Addr)) : (Kvs L).length = L.length := List.length_map ..
theorem kvs_keys (L : List (Str × Addr)) : (Kvs L).map (·.1) = (L.map (·.1)).map Sum.inr := by
  unfold Kvs
  rw [List.map_map, List.map_map]
  rfl
theorem risingS_pw : ∀ (p : Str) (l : List Str), risingS p l = true → (∀ y ∈ l, ltCps y.cps.toList p.cps.toList = false) ∧ l.Pairwise (fun a b => ltCps b.cps.toList a.cps.toList = false)
  | p, [], _ => ⟨(fun _ h => by cases h), List.Pairwise.nil⟩
  | p, x :: r, h => by
    have h' : (!ltCps x.cps.toList p.cps.toList && risingS x r) = true := h
    rw [Bool.and_eq_true] at h'
    obtain ⟨h1, h2⟩ := h'
    obtain ⟨i1, i2⟩ := risingS_pw x r h2
    have hx : ltCps x.cps.toList p.cps.toList = false := by simpa using h1
    refine ⟨fun y hy => ?_, List.pairwise_cons.mpr ⟨i1, i2⟩⟩
    rcases List.mem_cons.mp hy with rfl | hy
    · exact hx
    · have hy2 := i1 y hy
      rw [ltCps_eq] at hx hy2 ⊢
      rw [decide_eq_false_iff_not] at hx hy2 ⊢
      exact List.not_lt.mpr (List.le_trans (List.not_lt.mp hx) (List.not_lt.mp hy2))
theorem sortedS_pw {l : List Str} (h : sortedS l = true) : l.Pairwise (fun a b => ltCps b.cps.toList a.cps.toList = false) := by
  cases l with
  | nil => exact List.Pairwise.nil
  | cons x r =>
    obtain ⟨a, b⟩ := risingS_pw x r h
    exact List.pairwise_cons.mpr ⟨a, b⟩
theorem str_ext {a b : Str} (h : a.cps.toList = b.cps.toList) : a = b := by
  obtain ⟨⟨a⟩⟩ := a
  obtain ⟨⟨b⟩⟩ := b
  simp only at h
  rw [h]
theorem sorted_eq {xs ys zs : List Str} (p1 : ys.Perm xs) (p2 : zs.Perm xs) (s1 : sortedS ys = true) (s2 : sortedS zs = true) : ys = zs := by
  refine List.Perm.eq_of_pairwise (le := fun a b => ltCps b.cps.toList a.cps.toList = false) (fun a b _ _ h1 h2 => ?_) (sortedS_pw s1) (sortedS_pw s2) (p1.trans p2.symm)
  rw [ltCps_eq, decide_eq_false_iff_not] at h1 h2
  exact str_ext (List.le_antisymm (List.not_lt.mp h1) (List.not_lt.mp h2))
theorem dc_it {J : It} {n : Nat} {G : Hp → Prop} {Y : Nat → Hp → V → Hp → Prop} (w : Walk J n G Y) {g : TG} {tt : TT} {tk tv : TE} {vs : List Nat} {σ : L2.St} {H1 : Hp} {D : Addr} {Qd : Hp → Prop} (Pv : Nat → Hp → Prop) (h0 : Pv 0 (upd H1 D (.dK []))) (hG : ∀ i H, i ≤ n → Pv i H → G H)
    (hs : ∀ i x H H', i < n → Pv i H → Y i H x H' → g x
                                                        (wipe σ vs) H' fun σ2 H2 => wipe σ2 vs = wipe σ vs ∧ tt σ2 H2 fun b H3 =>
      if b = true then tk σ2 H3 fun y H4 => tv σ2 H4 fun z H5 => ∃ kvs k, y = kV k ∧ H5 D = some (.dK kvs) ∧ kvs.length < sizeLine ∧ Pv (i + 1) (upd H5 D (.dK (putK kvs k z))) else Pv (i + 1) H3) (hd : ∀ H, Pv n H → Qd H) :
    ∃ W : Nat → Nat → Hp → Prop, (∃ m, W 0 m
                                             (upd H1 D (.dK []))) ∧ ∀ i m H, W i m H →
      (J.stop i H ∧ Qd H) ∨ (J.go i H ∧ ∃ Nx : Hp → Prop, (∀ H', Nx H' → ∃ m', m' < m ∧ W
                                                                                          (i + 1) m' H') ∧ ∀ x H', J.yld i H x H' → g x (wipe σ vs) H' fun σ2 H2 => wipe σ2 vs = wipe σ vs ∧ tt σ2 H2 fun b H3 =>
        if b = true then tk σ2 H3 fun y H4 => tv σ2 H4 fun z H5 => ∃ kvs k, y = kV k ∧ H5 D = some
                                                                                                   (.dK kvs) ∧ kvs.length < sizeLine ∧ Nx (upd H5 D (.dK (putK kvs k z))) else Nx H3) := by
  refine ⟨fun i m H => m = n - i ∧ i ≤ n ∧ Pv i H,
                                                   ⟨n, by simp, Nat.zero_le _, h0⟩, ?_⟩
  rintro i m H ⟨rfl, hi, p⟩
  have q := hG i H hi p
  by_cases hlt : i < n
  · refine .inr ⟨w.goes i H hlt q, Pv (i + 1), fun H' p' => ⟨n -
                                                                 (i + 1), by omega, rfl, hlt, p'⟩, fun x H' y => hs i x H H' hlt p (w.yields i H x H' hlt q y)⟩
  · have e : i = n := by omega
    subst e
    exact .inl ⟨w.stops H q, hd H p⟩
/-- an operation with its row -/
abbrev OM := Addr × Rw
def nms (M : List OM) : List Str := M.map fun m => m.2.n
def Tb (M : List OM) : List (Str × Addr) := M.map fun m => (m.2.n, m.1)
theorem tb_names (M : List OM) : (Tb M).map (·.1) = nms M := by
  unfold Tb nms
  rw [List.map_map]
  rfl
theorem tb_len (M : List OM) : (Tb M).length = M.length := List.length_map ..
theorem tb_get {M : List OM} (nd : (nms M).Nodup) {m : OM} (hm : m ∈ M) : valV (Kvs (Tb M)) (.inr m.2.n) = some (.ref m.1) := by
  induction M with
  | nil => cases hm
  | cons x M ih =>
    unfold nms at nd
    rw [List.map_cons] at nd
    obtain ⟨n1, n2⟩ := List.nodup_cons.mp nd
    rcases List.mem_cons.mp hm with rfl | hm
    · exact valV_pos (p := (Sum.inr m.2.n, V.ref m.1)) rfl
    · have ne : ¬ (Sum.inr x.2.n : Key) = Sum.inr m.2.n := fun z => n1 (List.mem_map.mpr ⟨m, hm, (Sum.inr.inj z).symm⟩)
      exact (valV_neg (p := (Sum.inr x.2.n, V.ref x.1)) ne).trans (ih n2 hm)
theorem tb_no {M : List OM} {n : Str} (h : n ∉ nms M) : valV (Kvs (Tb M)) (.inr n) = none := valV_none (by rw [tb_names]; exact h)
theorem tb_snoc (M : List OM) (m : OM) : Kvs (Tb (M ++ [m])) = Kvs (Tb M) ++ [(Sum.inr m.2.n, V.ref m.1)] := by
  unfold Tb
  rw [List.map_append]
  exact kvs_snoc _ _ _
theorem nms_take {M : List OM} {i : Nat} {m : OM} (h : M[i]? = some m) : M.take (i + 1) = M.take i ++ [m] := by
  rw [List.take_add_one, h]
  rfl
theorem nms_fresh {M : List OM} (nd : (nms M).Nodup) {i : Nat} {m : OM} (h : M[i]? = some m) : m.2.n ∉ nms (M.take i) := fun z => by
  have e : M = M.take i ++ M.drop i := (List.take_append_drop i M).symm
  rw [e] at nd
  unfold nms at nd z
  rw [List.map_append] at nd
  refine (List.nodup_append.mp nd).2.2 _ z m.2.n (List.mem_map.mpr ⟨m, ?_, rfl⟩) rfl
  exact List.mem_iff_getElem?.mpr ⟨0, by rw [List.getElem?_drop]; exact h⟩
def OpsAt (K : PySem.W.Frag) (H : Hp) (C : Addr) (M : List OM) : Prop := ∀ m ∈ M, OpAt K H C m.1 m.2
theorem OpsAt.same {K : PySem.W.Frag} {H H' : Hp} {C : Addr} {M : List OM} (s : Same H H') (h : OpsAt K H C M) : OpsAt K H' C M := fun m hm => (h m hm).same s
theorem OpAt.kp {K : PySem.W.Frag} {H H' : Hp} {C p : Addr} {r : Rw} (s : Kp H H') (h : OpAt K H C p r) : OpAt K H' C p r := by
  obtain ⟨ok, dx, x3, x4, h1, h2, h3⟩ := h
  exact ⟨ok, dx, x3, x4, s _ _ h1 (by intro _ z; cases z) (by intro _ z; cases z), dp_kp s _ _ h2, dp_kp s _ _ h3⟩
theorem OpsAt.kp {K : PySem.W.Frag} {H H' : Hp} {C : Addr} {M : List OM} (s : Kp H H') (h : OpsAt K H C M) : OpsAt K H' C M := fun m hm => (h m hm).kp s
theorem tb_put {M : List OM} (nd : (nms M).Nodup) {i : Nat} {m : OM} (em : M[i]? = some m) : putK (Kvs (Tb (M.take i))) (.inr m.2.n) (.ref m.1) = Kvs (Tb (M.take (i + 1))) := by
  rw [nms_take em, tb_snoc, putK_new _ (tb_no (nms_fresh nd em))]
theorem srt_le {xs ys : List Str} (h : KS.Srt xs ys) : ys.length ≤ xs.length := by
  have nd : ys.Nodup := h.1.imp fun {a b} lt e => by
    rw [e] at lt
    exact List.lt_irrefl _ lt
  exact nd.length_le_of_subset fun z hz => (h.2 z).mp hz
theorem trues {α : Type} (l : List α) : l.filterMap (fun _ => some (V.bl true)) = (l.map fun _ => true).map V.bl := by
  induction l with
  | nil => rfl
  | cons a l ih => simp [ih]
theorem all_true {α : Type} (l : List α) : (l.map fun _ => true).all id = true := by simp
def opRefs (M : List OM) : List V := M.map fun m => V.ref m.1
section
variable {P : Program} {w : World} {K : PySem.W.Frag}
                                                      {mg : Str → Option Value} {base : Heap}
def sp_table (K : PySem.W.Frag) (C : Addr) : Sp := fun vs H Q _ => ∃ (a : Addr) (M : List OM), vs = [.ref a] ∧ SqT K H a (opRefs M) ∧ OpsAt K H C M ∧ 1 ≤ M.length ∧ M.length ≤ 8 ∧ (nms M).Nodup ∧ (∀ m ∈ M, ∀ p ∈ m.2.rs, p.1 ∈ nms M) ∧
  ∀ d N H', Same H H' → N.Perm M → sortedS (nms N) = true → H' d = some (.dK (Kvs (Tb N))) → Q (.ref d) H'
theorem ok_table_of (T : T K mg) (U : UX K mg) : FnOk P w K mg base CX0 5 T.f_table_of T.d_table_of ["operations"] (sp_table K U.C) := by
  have Gn : FnOk P w K mg base CX0 1 U.pn.g U.pn.d ["self"] (getSp U.C "_name") := ok_get U.cl U.pn sc_Operation_name U.n1 ⟨_, _, _, rfl⟩
  have Gr : FnOk P w K mg base CX0 3 U.prn.g U.prn.d ["self"] (sp_fst K U.C Rw.rs) := ok_read_names T U
  refine T.F_table_of.ok sc_table_of (fun vs H Q E h => ?_) (fun cdv A outer s H vs Q E hr h => ?_)
  · obtain ⟨a, M, rfl, _⟩ := h
    rfl
  · obtain ⟨a, M, rfl, ha, hM, m1, m8, nd, rds, k⟩ := h
    have hu := hu_of hr
    obtain ⟨_, c_MAX_OPERATIONS⟩ := T.c_MAX_OPERATIONS
    refine ⟨_, (pss_cons (ps_if (pt_not (pt_chain op_le op_le pe_int (pe_callB call_len (by rfl) T.z_len (by decide +kernel) (pa_cons (pv 0) pa_nil)) (pe_glob (v := V.int 8) rfl c_MAX_OPERATIONS ⟨_, rfl⟩)))
      (pss_one ps_never)
      pss_nil)
      (pss_cons (ps_set (i := 1) sc_table_of.nd rfl (Or.inr rfl) pe_dnewK)
      (pss_cons (ps_for PassesOwn.never rfl (pi_tup (pv 0)) (pg_name (i := 2) sc_table_of.nd rfl (Or.inl rfl))
      (pss_cons (ps_if (PW.pt (pw_or (pt_not (pt_val (pe_callB call_isi (by rfl) T.z_isinstance (by decide +kernel) (pa_cons (pv 2) (pa_cons (pe_glob (v := .ref U.C) rfl U.mC rfl) pa_nil))))) (pw_or1 (pt_cmp (pc_din (by exact hu) (pe_prop (pv 2) U.cl U.pn.pr Gn (hr.mono (by decide)) U.pn.b .nil pass0 rfl) (pv 1))))))
      (pss_one ps_never)
      pss_nil)
      (pss_one (ps_dput (by exact hu) (pv 1) (pe_prop (pv 2) U.cl U.pn.pr Gn (hr.mono (by decide)) U.pn.b .nil pass0 rfl) (pv 2) rfl))))
      (pss_cons (ps_for PassesOwn.never rfl (pi_tup (pv 0)) (pg_name (i := 2) sc_table_of.nd rfl (Or.inl rfl))
      (pss_one (ps_if (pt_not (pt_val (pe_callB (cr_all rfl) (by rfl) T.z_all (by decide +kernel) (pa_cons (pe_lc (own := [("name", 3)]) (g := gName 3) rfl sc_table_of.nd (pi_tup (pe_prop (pv 2) U.cl U.prn.pr Gr (hr.mono (by decide)) U.prn.b .nil pass0 rfl)) (blkOk_by (N := ["operations", "table", "one", "name"]) (sc := defScope s_table_of) (by decide +kernel)) (fun _ _ _ _ _ => (pg_name (i := 3) sc_table_of.nd rfl (Or.inl rfl))) (fun _ _ _ _ _ => pts_nil) (fun _ _ _ _ _ => (pe_cmp (pc_din (by exact hu) (pv 3) (pv 1))))) pa_nil))))
      (pss_one ps_never)
      pss_nil)))
      (pss_one (ps_ret (pe_dc (own := [("name", 3)]) (g := gName 3) rfl sc_table_of.nd (pi_list (pe_callB (call_sortedD rfl) (by rfl) T.z_sorted (by decide +kernel) (pa_cons (pv 1) pa_nil))) (blkOk_by (N := ["operations", "table", "one", "name"]) (sc := defScope s_table_of) (by decide +kernel)) (fun _ _ _ _ _ => (pg_name (i := 3) sc_table_of.nd rfl (Or.inl rfl))) (fun _ _ _ _ _ => pts_nil) (fun _ _ _ _ _ => (pv 3)) (fun _ _ _ _ _ => (pe_dget (by exact hu) (pv 1) (pv 3) (fun _ _ => rfl)))))))))), ?_⟩
    have lo : (opRefs M).length = M.length := List.length_map ..
    refine ⟨_, rfl, _, _, rfl, .inr ⟨_, ha, rfl⟩, ?_⟩
    refine ⟨_, _, rfl, rfl, _, rfl, ?_⟩
    rw [decide_eq_true (show (1 : Int) ≤ (((opRefs M).length : Nat) : Int) by rw [lo]; omega)]
    refine iteT ⟨_, _, rfl, rfl, _, rfl, ?_⟩
    rw [decide_eq_true (show (((opRefs M).length : Nat) : Int) ≤ 8 by rw [lo]; omega)]
    refine iteF ?_
    refine fun d hd => ?_
    have S1 := Same.new (o := .dK []) hd
    have ed : (upd H d (.dK [])) d = some (.dK (Kvs (Tb []))) := upd_same
    have ha1 := Same.seqT S1 ha
    have hM1 := hM.same S1
    generalize upd H d (.dK []) = H1 at S1 ed ha1 hM1 ⊢
    refine ⟨_, rfl, a, rfl, ⟨_, ha1⟩, for_tup (K := K) (a := a) (xs := opRefs M) (fun i σ H' => ∃ v, σ = [some (.ref a), some (.ref d), v, none] ∧ Same H H' ∧ SqT K H' a (opRefs M) ∧ OpsAt K H' U.C M ∧ H' d = some (.dK (Kvs (Tb (M.take i))))) ⟨none, rfl, S1, ha1, hM1, ed⟩ (fun i σ H' _ ⟨_, _, _, h, _⟩ => h) ?_ ?_⟩
    · rintro i x σ H' hx ⟨v, rfl, SH, haH, hMH, edH⟩
      unfold opRefs at hx
      rw [List.getElem?_map] at hx
      cases em : M[i]? with
      | none => rw [em] at hx; cases hx
      | some m =>
        rw [em] at hx
        cases hx
        have li : i < M.length := (List.getElem?_eq_some_iff.mp em).1
        obtain ⟨okm, dx, x3, x4, hp, h3, h4⟩ := hMH m (List.mem_of_getElem? em)
        refine ⟨_, rfl, _, _, _, _, true, rfl, .own _, .base (.ins hp U.cl U.ca U.cg U.ct U.mo), (by unfold PySem.W.kitOne; rw [if_pos (beq_self_eq_true _)]), _, rfl, iteF ?_⟩
        refine ⟨_, rfl, m.1, dx, _, rfl, hp, m.1, dx, _, .str m.2.n, rfl, hp, rfl, ?_⟩
        refine ⟨_, rfl, d, _, rfl, DGet.k (k := Sum.inr m.2.n) edH, ?_⟩
        rw [tb_no (nms_fresh nd em)]
        refine ⟨_, rfl, iteF ?_⟩
        refine ⟨_, rfl, _, rfl, _, rfl, m.1, dx, _, rfl, hp, m.1, dx, _, .str m.2.n, rfl, hp, rfl, ?_⟩
        have lt : (M.take i).length < 8 := by rw [List.length_take]; omega
        refine ⟨d, _, rfl, DPut.k (k := Sum.inr m.2.n) edH (by rw [kvs_len, tb_len, sizeLine_eq]; omega), ?_⟩
        exact ⟨_, rfl, Same.at hd SH, Kp.seqT (Kp.lock edH) haH, hMH.kp (Kp.lock edH), by rw [upd_same, tb_put nd em]⟩
    · rintro σ H' ⟨v, rfl, SH, haH, hMH, edH⟩
      rw [lo, List.take_length] at edH
      refine ⟨_, rfl, a, rfl, ⟨_, haH⟩, for_tup (K := K) (a := a) (xs := opRefs M) (fun i σ G => ∃ v, σ = [some (.ref a), some (.ref d), v, none] ∧ Same H' G) ⟨v, rfl, Same.refl _⟩ (fun i σ G _ ⟨_, _, h⟩ => Same.seqT h haH) ?_ ?_⟩
      · rintro i x σ G hx ⟨v, rfl, SG⟩
        unfold opRefs at hx
        rw [List.getElem?_map] at hx
        cases em : M[i]? with
        | none => rw [em] at hx; cases hx
        | some m =>
          rw [em] at hx
          cases hx
          have hMm := List.mem_of_getElem? em
          have hm := (hMH m hMm).same SG
          obtain ⟨okm, dx, x3, x4, hp, h3, h4⟩ := id hm
          refine ⟨_, rfl, m.1, dx, _, rfl, hp, m.1, m.2, rfl, hm, fun ys l G1 srt S1 hl => ?_⟩
          have edG := S1 _ _ (SG _ _ edH)
          refine ⟨l, rfl, ⟨_, hl⟩, fun D hD => ?_⟩
          have ly : ys.length ≤ 1000 := by
            have e1 := srt_le srt
            have e2 := okm.rl
            rw [List.length_map] at e1
            omega
          refine lc_pick (e := V.str) (l := ys) (walk_tup (K := K) (a := l)) (fun n => some (V.bl true)) (fun G' S => Same.seqT S hl) ly hD ?_ ?_
          · intro n G' hn Sx C N post
            refine ⟨rfl, ?_⟩
            unfold tYes
            dsimp only
            rw [if_pos rfl]
            have hn2 : n ∈ nms M := by
              obtain ⟨p, hp2, rfl⟩ := List.mem_map.mp ((srt.2 n).mp hn)
              exact rds m hMm p hp2
            obtain ⟨m2, hm2, rfl⟩ := List.mem_map.mp hn2
            refine ⟨_, rfl, _, rfl, d, _, rfl, DGet.k (k := Sum.inr m2.2.n) (Sx _ _ edG), ?_⟩
            rw [tb_get nd hm2]
            exact post G' (Same.refl _)
          intro G2 S2 eD
          rw [trues] at eD
          refine ⟨_, _, rfl, SqL.of eD, ?_⟩
          rw [all_true]
          exact ⟨_, rfl, iteF ⟨_, rfl, Same.trans SG (Same.trans S1 S2)⟩⟩
      · rintro σ G ⟨v, rfl, SG⟩
        have edG := SG _ _ edH
        refine ⟨_, rfl, d, _, nms M, rfl, .inl edG, (kvs_keys _).trans (by rw [tb_names]), by unfold nms; rw [List.length_map]; omega, fun ys p pm so hp => ?_⟩
        obtain ⟨N, pN, eN⟩ := KS.perm_pre pm M rfl
        have eN : ys = nms N := eN
        have S1 := Same.new (o := .lst (ys.map V.str)) hp
        have ep : (upd G p (.lst (ys.map V.str))) p = some (.lst (ys.map V.str)) := upd_same
        have edG1 := S1 _ _ edG
        have SH1 := Same.trans SH (Same.trans SG S1)
        generalize upd G p (.lst (ys.map V.str)) = G1 at S1 ep edG1 SH1 ⊢
        subst eN
        have ndN : (nms N).Nodup := (pN.map _).nodup_iff.mpr nd
        have lN := pN.length_eq
        refine ⟨p, rfl, ⟨_, SqL.of ep⟩, fun D hD => ?_⟩
        refine dc_it (walk_list (K := K) (a := p) (xs := (nms N).map V.str)) (fun i H' => Same G1 H' ∧ H' D = some (.dK (Kvs (Tb (N.take i))))) ⟨Same.new hD, upd_same⟩ (fun i H' _ h => SqL.of (h.1 _ _ ep)) ?_ ?_
        · rintro i x Hc Hd hi ⟨Sc, eD⟩ ⟨rfl, hx⟩
          unfold nms at hx
          rw [List.map_map, List.getElem?_map] at hx
          cases em : N[i]? with
          | none => rw [em] at hx; cases hx
          | some m =>
            rw [em] at hx
            cases hx
            refine ⟨rfl, ?_⟩
            unfold tYes
            dsimp only
            rw [if_pos rfl]
            have hmM : m ∈ M := pN.mem_iff.mp (List.mem_of_getElem? em)
            have dg := DGet.k (k := Sum.inr m.2.n) (Sc _ _ edG1)
            rw [tb_get nd hmM] at dg
            refine ⟨_, rfl, _, rfl, _, rfl, d, V.ref m.1, rfl, dg, Kvs (Tb (N.take i)), Sum.inr m.2.n, rfl, eD, ?_, Same.at hD Sc, by rw [upd_same, tb_put ndN em]⟩
            rw [kvs_len, tb_len, List.length_take, sizeLine_eq]
            omega
        · rintro H9 ⟨S9, eD⟩
          unfold nms at eD
          rw [List.length_map, List.length_map, List.take_length] at eD
          exact k D N H9 (Same.trans SH1 S9) pN so eD
end
end K14
namespace K14
open PySem L2
open PyProof.Rows PySem.Spec
/-- the outer loop of a comprehension with two -/
theorem lc2_out {J : It} {n : Nat} {G : Hp → Prop} {Y : Nat → Hp → V → Hp → Prop} (w : Walk J n G Y) {g g1 : TG} {tt tt1 : TT} {wi1 : TI} {te : TE} {vs vs1 : List Nat} {σ : L2.St} {H1 : Hp} {D : Addr} {Qd : Hp → Prop} (Pv : Nat → Hp → Prop) (h0 : Pv 0 (upd H1 D (.lst []))) (hG : ∀ i H, i ≤ n → Pv i H → G H)
    (hs : ∀ i x H H', i < n → Pv i H → Y i H x H' → g x
                                                        (wipe σ vs) H' fun σ2 H2 => wipe σ2 vs = wipe σ vs ∧ tt σ2 H2 fun b H3 =>
      if b = true then wi1 σ2 H3 fun J1 H4 => ∃ W1 : Nat → Nat → Hp → Prop,
                                                                            (∃ m, W1 0 m H4) ∧ ∀ j k H, W1 j k H →
        (J1.stop j H ∧ Pv (i + 1) H) ∨ (J1.go j H ∧ ∃ Nx1 : Hp → Prop, (∀ H', Nx1 H' → ∃ k', k' < k ∧ W1 (j + 1) k' H') ∧ ∀ x H', J1.yld j H x H' → g1 x (wipe σ2 vs1) H' fun σ3 H5 => wipe σ3 vs1 = wipe σ2 vs1 ∧ tt1 σ3 H5 fun b H6 =>
          if b = true then te σ3 H6 fun y H7 => ∃ acc, H7 D = some
                                                                   (.lst acc) ∧ acc.length < sizeLine ∧ Nx1 (upd H7 D (.lst (acc ++ [y]))) else Nx1 H6)
      else Pv (i + 1) H3) (hd : ∀ H, Pv n H → Qd H) :
    ∃ W : Nat → Nat → Hp → Prop, (∃ m, W 0 m
                                             (upd H1 D (.lst []))) ∧ ∀ i m H, W i m H →
      (J.stop i H ∧ Qd H) ∨ (J.go i H ∧ ∃ Nx : Hp → Prop, (∀ H', Nx H' → ∃ m', m' < m ∧ W
                                                                                          (i + 1) m' H') ∧ ∀ x H', J.yld i H x H' → g x (wipe σ vs) H' fun σ2 H2 => wipe σ2 vs = wipe σ vs ∧ tt σ2 H2 fun b H3 =>
        if b = true then wi1 σ2 H3 fun J1 H4 => ∃ W1 : Nat → Nat → Hp → Prop,
                                                                              (∃ m, W1 0 m H4) ∧ ∀ j k H, W1 j k H →
          (J1.stop j H ∧ Nx H) ∨ (J1.go j H ∧ ∃ Nx1 : Hp → Prop, (∀ H', Nx1 H' → ∃ k', k' < k ∧ W1
                                                                                                   (j + 1) k' H') ∧ ∀ x H', J1.yld j H x H' → g1 x (wipe σ2 vs1) H' fun σ3 H5 => wipe σ3 vs1 = wipe σ2 vs1 ∧ tt1 σ3 H5 fun b H6 =>
            if b = true then te σ3 H6 fun y H7 => ∃ acc, H7 D = some
                                                                     (.lst acc) ∧ acc.length < sizeLine ∧ Nx1 (upd H7 D (.lst (acc ++ [y]))) else Nx1 H6)
        else Nx H3) := by
  refine ⟨fun i m H => m = n - i ∧ i ≤ n ∧ Pv i H,
                                                   ⟨n, by simp, Nat.zero_le _, h0⟩, ?_⟩
  rintro i m H ⟨rfl, hi, p⟩
  have q := hG i H hi p
  by_cases hlt : i < n
  · exact .inr ⟨w.goes i H hlt q, Pv (i + 1), fun H' p' => ⟨n - (i + 1), by omega, rfl, hlt, p'⟩, fun x H' y => hs i x H H' hlt p (w.yields i H x H' hlt q y)⟩
  · have e : i = n := by omega
    subst e
    exact .inl ⟨w.stops H q, hd H p⟩
/-- the inner one -/
theorem lc2_in {J : It} {n : Nat} {G : Hp → Prop} {Y : Nat → Hp → V → Hp → Prop} (w : Walk J n G Y) {g : TG} {tt : TT} {te : TE} {vs : List Nat} {σ : L2.St} {H1 : Hp} {D : Addr} {Nx : Hp → Prop} (Pv : Nat → Hp → Prop) (h0 : Pv 0 H1) (hG : ∀ i H, i ≤ n → Pv i H → G H)
    (hs : ∀ i x H H', i < n → Pv i H → Y i H x H' → g x (wipe σ vs) H' fun σ3 H5 => wipe σ3 vs = wipe σ vs ∧ tt σ3 H5 fun b H6 =>
      if b = true then te σ3 H6 fun y H7 => ∃ acc, H7 D = some (.lst acc) ∧ acc.length < sizeLine ∧ Pv (i + 1) (upd H7 D (.lst (acc ++ [y]))) else Pv (i + 1) H6) (hd : ∀ H, Pv n H → Nx H) :
    ∃ W1 : Nat → Nat → Hp → Prop, (∃ m, W1 0 m H1) ∧ ∀ j k H, W1 j k H →
      (J.stop j H ∧ Nx H) ∨ (J.go j H ∧ ∃ Nx1 : Hp → Prop, (∀ H', Nx1 H' → ∃ k', k' < k ∧ W1 (j + 1) k' H') ∧ ∀ x H', J.yld j H x H' → g x (wipe σ vs) H' fun σ3 H5 => wipe σ3 vs = wipe σ vs ∧ tt σ3 H5 fun b H6 =>
        if b = true then te σ3 H6 fun y H7 => ∃ acc, H7 D = some (.lst acc) ∧ acc.length < sizeLine ∧ Nx1 (upd H7 D (.lst (acc ++ [y]))) else Nx1 H6) := by
  refine ⟨fun i m H => m = n - i ∧ i ≤ n ∧ Pv i H,
                                                   ⟨n, by simp, Nat.zero_le _, h0⟩, ?_⟩
  rintro i m H ⟨rfl, hi, p⟩
  have q := hG i H hi p
  by_cases hlt : i < n
  · exact .inr ⟨w.goes i H hlt q, Pv (i + 1), fun H' p' => ⟨n - (i + 1), by omega, rfl, hlt, p'⟩, fun x H' y => hs i x H H' hlt p (w.yields i H x H' hlt q y)⟩
  · have e : i = n := by omega
    subst e
    exact .inl ⟨w.stops H q, hd H p⟩
/-! ### arcs -/
def tkOf (M : List OM) (n : Str) : Int := ((M.find? fun m => decide (m.2.n = n)).map fun m => m.2.t).getD 0
theorem tkOf_at {M : List OM} (nd : (nms M).Nodup) {m : OM} (hm : m ∈ M) : tkOf M m.2.n = m.2.t := by
  induction M with
  | nil => cases hm
  | cons x M ih =>
    unfold nms at nd
    rw [List.map_cons] at nd
    obtain ⟨n1, n2⟩ := List.nodup_cons.mp nd
    unfold tkOf
    rw [List.find?_cons]
    rcases List.mem_cons.mp hm with rfl | hm
    · simp
    · have ne : ¬ x.2.n = m.2.n := fun z => n1 (List.mem_map.mpr ⟨m, hm, z.symm⟩)
      rw [decide_eq_false ne]
      exact ih n2 hm
/-- the arcs of one reader -/
def arcs1 (M : List OM) (m : OM) : List Od := m.2.rs.map fun p => (p.1, m.2.n, tkOf M p.1, p.2)
def arcsOf (M N : List OM) : List Od := N.flatMap (arcs1 M)
theorem arcs_take {M N : List OM} {i : Nat} {m : OM} (h : N[i]? = some m) : arcsOf M (N.take (i + 1)) = arcsOf M (N.take i) ++ arcs1 M m := by
  unfold arcsOf
  rw [nms_take h, List.flatMap_append]
  simp
theorem arcs_len {M N : List OM} (h : ∀ m ∈ N, m.2.rs.length ≤ 3) : (arcsOf M N).length ≤ 3 * N.length := by
  induction N with
  | nil => exact Nat.le_refl _
  | cons m N ih =>
    unfold arcsOf at ih ⊢
    rw [List.flatMap_cons, List.length_append, List.length_cons]
    have := h m List.mem_cons_self
    have := ih fun x hx => h x (List.mem_cons_of_mem _ hx)
    unfold arcs1
    rw [List.length_map]
    unfold arcs1 at this
    omega
end K14
namespace K14
open PySem L2
open PyProof.Rows PySem.Spec
theorem yesT {σ : L2.St} {H : Hp} {Q : Bool → Hp → Prop} (h : Q true H) : tYes σ H Q := h
theorem pi_tupK {X : Cx} {K : PySem.W.Frag} {tg e : Expr} {te : TE} (hK : X.K = K) (h : PE X e te) : PI X tg e (iTup K te) := by
  subst hK
  exact pi_tup h
theorem same_lock {H G : Hp} {d : Addr} {u o : HO} (hd : H d = some u) (s : Same (upd H d o) G) : Same H (upd G d u) := fun b v e => by
  by_cases q : b = d
  · rw [q] at e ⊢
    rw [upd_same, ← e, hd]
  · rw [upd_ne q]
    exact s b v (by rw [upd_ne q]; exact e)
abbrev Mm := Addr × List Key
def MsN (H : Hp) (ms : List Mm) : Prop := ∀ m ∈ ms, H m.1 = some (.tup (m.2.map kV))
theorem MsN.keep {H H' : Hp} {ms : List Mm} (k : ∀ t xs, H t = some (.tup xs) → H' t = some (.tup xs)) (h : MsN H ms) : MsN H' ms := fun m hm => k _ _ (h m hm)
def mrefs (ms : List Mm) : List V := ms.map fun m => V.ref m.1
theorem map_ex {L : List Od} : ∀ {zs : List (List Key)}, (∀ z ∈ zs, z ∈ L.map oK) → ∃ as : List Od, as.map oK = zs ∧ ∀ o ∈ as, o ∈ L
  | [], _ => ⟨[], rfl, fun _ h => by cases h⟩
  | z :: zs, h => by
    obtain ⟨o, ho, e⟩ := List.mem_map.mp (h z List.mem_cons_self)
    obtain ⟨as, e2, h2⟩ := map_ex fun x hx => h x (List.mem_cons_of_mem _ hx)
    exact ⟨o :: as, by rw [List.map_cons, e, e2], fun x hx => by
      rcases List.mem_cons.mp hx with rfl | hx
      · exact ho
      · exact h2 x hx⟩
section
variable {P : Program} {w : World} {K : PySem.W.Frag}
                                                      {mg : Str → Option Value} {base : Heap}
def sp_arcs (K : PySem.W.Frag) (C : Addr) : Sp := fun vs H Q _ => ∃ (d a : Addr) (N : List OM) (os : List Od), vs = [.ref d, .ref a] ∧ H d = some (.dK (Kvs (Tb N))) ∧ OpsAt K H C N ∧ (nms N).Nodup ∧ N.length ≤ 8 ∧ (∀ m ∈ N, ∀ p ∈ m.2.rs, p.1 ∈ nms N) ∧ RowsT K H a (os.map oK) ∧ os.length ≤ 8 ∧
  ∀ (q : Addr) (as : List Od) (H' : Hp), Same H H' → RowsT K H' q (as.map oK) → KS.SrtK ((arcsOf N N ++ os).map oK) (as.map oK) → as.length ≤ 32 → Q (.ref q) H'
theorem un_row {k : Nat} {A : Around} (r : Room k A) (m : KS.Mem) : A.in1.units + 1 + (KS.encK m).depth < cLine := by
  have := r.un
  have := KS.enc_depth m
  show A.units + 1 + 1 + _ < cLine
  omega
theorem ok_arcs_of (T : T K mg) (U : UX K mg) : FnOk P w K mg base CX0 3 T.f_arcs_of T.d_arcs_of ["table", "orders"] (sp_arcs K U.C) := by
  have Gt : FnOk P w K mg base CX0 1 U.pt.g U.pt.d ["self"] (getSp U.C "_ticks") := ok_get U.cl U.pt sc_Operation_ticks U.n2 ⟨_, _, _, rfl⟩
  have Gr : FnOk P w K mg base CX0 1 U.pr.g U.pr.d ["self"] (getSp U.C "_reads") := ok_get U.cl U.pr sc_Operation_reads U.n3 ⟨_, _, _, rfl⟩
  refine T.F_arcs_of.ok sc_arcs_of (fun vs H Q E h => ?_) (fun cdv A outer s H vs Q E hr h => ?_)
  · obtain ⟨d, a, N, os, rfl, _⟩ := h
    rfl
  · obtain ⟨d, a, N, os, rfl, hd, hN, nd, n8, rds, ha, o8, k⟩ := h
    have hu := hu_of hr
    refine ⟨_, (pss_cons (ps_lock (ps_setLc2 (i := 2) (own := [("reader", 3), ("name", 4), ("distance", 5)]) (vs1 := [4, 5]) (g := gName 3) (g1 := gTup K 2 (gCons (gName 4) (gCons (gName 5) gNil))) rfl sc_arcs_of.nd rfl rfl (sw_true rfl rfl rfl (by decide +kernel)) (pi_keys (pv 0)) (blkOk_by (N := ["table", "orders", "reads", "reader", "name", "distance"]) (sc := defScope s_arcs_of) (by decide +kernel)) (by decide) (fun _ _ _ _ _ => (pg_name (i := 3) sc_arcs_of.nd rfl (Or.inl rfl))) (fun _ _ _ _ _ => pts_nil)
        (fun _ _ _ _ _ => (pi_tupK (K := K) rfl (pe_prop (pe_dget (by exact hu) (pv 0) (pv 3) (fun _ _ => rfl)) U.cl U.pr.pr Gr (hr.mono (by decide)) U.pr.b .nil pass0 rfl))) (fun _ _ _ _ _ => (pg_tup rfl (pgs_cons (pg_name (i := 4) sc_arcs_of.nd rfl (Or.inl rfl)) (pgs_cons (pg_name (i := 5) sc_arcs_of.nd rfl (Or.inl rfl)) pgs_nil)))) (fun _ _ _ _ _ => pts_nil)
        (fun _ _ _ _ _ => (pe_tup (pa_cons (pv 4) (pa_cons (pv 3) (pa_cons (pe_prop (pe_dget (by exact hu) (pv 0) (pv 4) (fun _ _ => rfl)) U.cl U.pt.pr Gt (hr.mono (by decide)) U.pt.b .nil pass0 rfl) (pa_cons (pv 5) pa_nil))))))))
      (pss_one (ps_ret (pe_callTy call_tuple_of (by rfl) T.z_tuple (by decide +kernel) (pa_cons (pe_callB (KS.cr_sortedK (KS.linkTup _) (enc := KS.encK) rfl KS.rd_tup (un_row hr)) (by rfl) T.z_sorted (by decide +kernel) (pa_cons (pe_callTy (KS.cr_setOf (KS.linkTup _) rfl (un3 hr)) (by rfl) T.z_set (by decide +kernel) (pa_cons (pe_lst (StX.pa_star (pv 2) (StX.pa_star (pv 1) pa_nil))) pa_nil)) pa_nil)) pa_nil))))), ?_⟩
    refine ⟨d, _, hd, True.intro, fun od => ?_⟩
    have lk : (upd H d (.frz od (.dK (Kvs (Tb N))))) d = some (.frz od (.dK (Kvs (Tb N)))) := upd_same
    have hNL := hN.kp (Kp.lock (o := .frz od (.dK (Kvs (Tb N)))) hd)
    generalize hHL : upd H d (.frz od (.dK (Kvs (Tb N)))) = HL at lk hNL ⊢
    have lT : (Kvs (Tb N)).length = N.length := by rw [kvs_len, tb_len]
    have rl3 : ∀ m ∈ N, m.2.rs.length ≤ 3 := fun m hm => (hN m hm).1.rl
    have al : ∀ i, (arcsOf N (N.take i)).length ≤ 24 := fun i => by
      have := arcs_len (M := N) (N := N.take i) fun m hm => rl3 m (List.mem_of_mem_take hm)
      rw [List.length_take] at this
      omega
    refine ⟨_, rfl, d, od, rfl, .inl ⟨_, lk, fun D hD => ?_⟩⟩
    refine lc2_out (walk_keys (d := d) (o := od) (kvs := Kvs (Tb N))) (fun i H' => Same HL H' ∧ ∃ ms, H' D = some (.lst (mrefs ms)) ∧ MsN H' ms ∧ ms.map (·.2) = (arcsOf N (N.take i)).map oK) ⟨Same.new hD, [], upd_same, (fun _ h => by cases h), rfl⟩ (fun i H' _ h => h.1 _ _ lk) ?_ ?_
    · rintro i x Ha Hb hi ⟨Sa, ms, eD, hms, ems⟩ ⟨rfl, kk, vv, ek, rfl⟩
      rw [lT] at hi
      have em : N[i]? = some N[i] := List.getElem?_eq_getElem hi
      have tk := arcs_take (M := N) em
      have mN : N[i] ∈ N := List.getElem_mem hi
      have ek2 : (Kvs (Tb N))[i]? = some (Sum.inr N[i].2.n, V.ref N[i].1) := by
        unfold Kvs Tb
        rw [List.getElem?_map, List.getElem?_map, em]
        rfl
      rw [ek2] at ek
      cases ek
      generalize N[i] = m at em tk mN
      obtain ⟨okm, dx, x3, x4, hp, h3, h4⟩ := hNL m mN
      obtain ⟨ra, xs, rfl, hra, hxs⟩ : ∃ ra xs, x3 = .ref ra ∧ SqT K HL ra xs ∧ DpAll K HL xs (m.2.rs.map pD) := by
        cases h3 with
        | tup t1 t2 => exact ⟨_, _, rfl, t1, t2⟩
      have lx : xs.length = m.2.rs.length := by
        have := dpa_len hxs
        rw [List.length_map] at this
        omega
      have dg : ∀ {m' : OM} {G : Hp}, m' ∈ N → Same HL G → DGet G d (kV (.inr m'.2.n)) (some (V.ref m'.1)) := fun hm' S => .inl ⟨_, _, .inr ⟨od, S _ _ lk⟩, rfl, (tb_get nd hm').symm⟩
      refine ⟨rfl, ?_⟩
      refine yesT (iteT ?_)
      refine ⟨_, rfl, _, rfl, d, V.ref m.1, rfl, dg mN Sa, m.1, dx, _, rfl, Sa _ _ hp, m.1, dx, _, .ref ra, rfl, Sa _ _ hp, rfl, ?_⟩
      refine ⟨ra, rfl, ⟨_, Same.seqT Sa hra⟩, ?_⟩
      refine lc2_in (walk_tup (K := K) (a := ra) (xs := xs)) (fun j H' => Same HL H' ∧ ∃ ms, H' D = some (.lst (mrefs ms)) ∧ MsN H' ms ∧ ms.map (·.2) = (arcsOf N (N.take i) ++ (arcs1 N m).take j).map oK) ⟨Sa, ms, eD, hms, by simp [ems]⟩ (fun j H' _ h => Same.seqT h.1 hra) ?_ ?_
      · rintro j y Hc Hd hj ⟨Sc, ms, eD, hms, ems⟩ ⟨rfl, hy⟩
        obtain ⟨pr, b, epr, rfl, hb⟩ := dpa_pairs hxs hy
        have prm : pr ∈ m.2.rs := List.mem_of_getElem? epr
        obtain ⟨m2, hm2, en2⟩ := List.mem_map.mp (rds m mN pr prm)
        obtain ⟨okm2, dx2, y3, y4, hp2, _, _⟩ := hNL m2 hm2
        have aj : (arcs1 N m).take (j + 1) = (arcs1 N m).take j ++ [(pr.1, m.2.n, m2.2.t, pr.2)] := by
          rw [List.take_add_one]
          unfold arcs1
          rw [List.getElem?_map, epr]
          have tt : tkOf N pr.1 = m2.2.t := by
            rw [← en2]
            exact tkOf_at nd hm2
          show _ ++ [(pr.1, m.2.n, tkOf N pr.1, pr.2)] = _
          rw [tt]
        refine ⟨b, _, rfl, Same.seqT Sc hb, rfl, _, _, rfl, _, _, rfl, rfl, ?_⟩
        refine ⟨rfl, ?_⟩
        refine yesT (iteT ?_)
        refine ⟨_, rfl, _, rfl, _, rfl, _, rfl, d, V.ref m2.1, rfl, (by rw [← en2]; exact dg hm2 Sc), m2.1, dx2, _, rfl, Sc _ _ hp2, m2.1, dx2, _, .int m2.2.t, rfl, Sc _ _ hp2, rfl, ?_⟩
        refine ⟨_, rfl, by show 4 ≤ sizeLine; decide, fun t ht => ?_⟩
        have St := Same.new (o := .tup [V.str pr.1, kV (Sum.inr m.2.n), .int m2.2.t, .int pr.2]) ht
        have et : (upd Hd t (.tup [V.str pr.1, kV (Sum.inr m.2.n), .int m2.2.t, .int pr.2])) t = some (.tup ((oK (pr.1, m.2.n, m2.2.t, pr.2)).map kV)) := upd_same
        have eD1 := St _ _ eD
        have SH := Same.trans Sc St
        have hms1 := hms.keep fun a xs e => St _ _ e
        have lm : ms.length ≤ 27 := by
          have e1 := congrArg List.length ems
          rw [List.length_map, List.length_map, List.length_append, List.length_take] at e1
          have := al i
          have l1 : (arcs1 N m).length = m.2.rs.length := List.length_map ..
          have := rl3 m mN
          omega
        generalize upd Hd t (.tup [V.str pr.1, kV (Sum.inr m.2.n), .int m2.2.t, .int pr.2]) = He at St et eD1 SH hms1 ⊢
        refine ⟨mrefs ms, eD1, by unfold mrefs; rw [List.length_map, sizeLine_eq]; omega, Same.at hD SH, ms ++ [(t, oK (pr.1, m.2.n, m2.2.t, pr.2))], by rw [upd_same]; unfold mrefs; rw [List.map_append]; rfl, ?_, ?_⟩
        · have kt : ∀ a xs, He a = some (.tup xs) → (upd He D (.lst (mrefs ms ++ [V.ref t]))) a = some (.tup xs) := fun a xs e => (upd_ne (fun z => by rw [z, eD1] at e; cases e)).trans e
          intro q hq
          rcases List.mem_append.mp hq with hq | hq
          · exact kt _ _ (hms1 q hq)
          · rw [List.mem_singleton.mp hq]
            exact kt _ _ et
        · rw [aj, List.map_append, ems]
          simp
      · rintro G ⟨SG, ms, eD, hms, ems⟩
        have e9 : (arcs1 N m).take xs.length = arcs1 N m := List.take_of_length_le (by unfold arcs1; rw [List.length_map, lx]; exact Nat.le_refl _)
        rw [e9, ← tk] at ems
        exact ⟨SG, ms, eD, hms, ems⟩
    · rintro H9 ⟨S9, ms, eD, hms, ems⟩
      rw [lT, List.take_length] at ems
      refine ⟨S9 _ _ lk, ?_⟩
      have SH : Same H (upd H9 d (.dK (Kvs (Tb N)))) := same_lock hd (by rw [hHL]; exact S9)
      have nDd : D ≠ d := fun z => by rw [z, lk] at hD; cases hD
      have eD1 : (upd H9 d (.dK (Kvs (Tb N)))) D = some (.lst (mrefs ms)) := (upd_ne nDd).trans eD
      have hms1 : MsN (upd H9 d (.dK (Kvs (Tb N)))) ms := hms.keep fun a xs e => (upd_ne (fun z => by rw [z, S9 _ _ lk] at e; cases e)).trans e
      have lm : ms.length = (arcsOf N N).length := by
        have := congrArg List.length ems
        simpa using this
      have l24 := al N.length
      rw [List.take_length] at l24
      obtain ⟨om, o1, o2, o3⟩ := ha.same SH
      have lo : om.length = os.length := by
        have := congrArg List.length o3
        simpa using this
      generalize upd H9 d (.dK (Kvs (Tb N))) = H10 at SH eD1 hms1 o1 o2 ⊢
      refine ⟨_, rfl, D, mrefs ms, rfl, .inr (SqL.of eD1), _, rfl, a, _, rfl, .inl o1, by rw [List.append_nil, List.length_append]; unfold mrefs; rw [List.length_map, List.length_map, sizeLine_eq]; omega, fun l hl => ?_⟩
      have Sl := Same.new (o := .lst (mrefs ms ++ (om.map (fun m => V.ref m.1) ++ []))) hl
      have el : (upd H10 l (.lst (mrefs ms ++ (om.map (fun m => V.ref m.1) ++ [])))) l = some (.lst ((ms ++ om).map fun m => V.ref m.1)) := by
        rw [upd_same, List.append_nil, List.map_append]
        rfl
      have SL := Same.trans SH Sl
      have hm : ∀ m ∈ ms ++ om, SqT K (upd H10 l (.lst (mrefs ms ++ (om.map (fun m => V.ref m.1) ++ [])))) m.1 (m.2.map kV) := fun m hm => by
        rcases List.mem_append.mp hm with hm | hm
        · exact SqT.of (Sl _ _ (hms1 m hm))
        · exact Same.seqT Sl (o2 m hm)
      have rows : (ms ++ om).map (·.2) = (arcsOf N N ++ os).map oK := by rw [List.map_append, ems, o3, List.map_append]
      have lall : (ms ++ om).length ≤ 32 := by rw [List.length_append]; omega
      generalize upd H10 l (.lst (mrefs ms ++ (om.map (fun m => V.ref m.1) ++ []))) = H11 at el SL hm ⊢
      unfold tNil
      dsimp only
      refine KS.sorted_set (X := (cxOf CX0 P w K mg base ["table", "orders", "reads", "reader", "name", "distance"] "_arcs_of" (defScope s_arcs_of) T.f_arcs_of cdv A outer s H E).nox) (ms := ms ++ om) (SqL.of el) hm (by omega) (by rw [rows]; exact oK_one _) (fun m hm e => ?_) fun ns p H' S hp srt mem ln ep => ?_
      · have : m.2 ∈ (arcsOf N N ++ os).map oK := by rw [← rows]; exact List.mem_map.mpr ⟨m, hm, rfl⟩
        obtain ⟨o, _, eo⟩ := List.mem_map.mp this
        rw [e] at eo
        cases eo
      · rw [rows] at srt
        obtain ⟨as, eas, _⟩ := map_ex (L := arcsOf N N ++ os) fun z hz => (srt.2.2 z).mp hz
        refine ⟨p, _, rfl, .inl ⟨SqL.of ep, fun q hq => ?_⟩⟩
        have S2 : Same H11 (upd H' q (.tup (ns.map fun m => V.ref m.1))) := Same.trans S (Same.new hq)
        refine k q as _ (Same.trans SL S2) ⟨ns, SqT.of upd_same, fun m h => Same.seqT S2 (hm m (mem m h)), eas.symm⟩ (by rw [eas]; exact srt) ?_
        have e1 := congrArg List.length eas
        rw [List.length_map, List.length_map] at e1
        omega
end
end K14
set_option maxHeartbeats 3200000
/-! own: a set comprehension with two `for` -/
namespace KS
open PySem PySem.Spec PyProof.Rows L2
section
variable {P : Program} {w : World} {A : Around} {R : Result → Shared → Prop} {s : Shared} {e ta ia tb ib : Expr} {fa fb : List Expr} {sc : Scope} {pp : Pos} {it D : Value} {en : Env}
theorem turnA (e ta ia tb ib : Expr) (fa fb : List Expr) (sc : Scope) (pp : Pos) (it D : Value) (en : Env) : compTurn (.SetComp e [⟨ta, ia, fa, 0⟩, ⟨tb, ib, fb, 0⟩] sc pp) 0 it D en = (do
      standAt ia.pos
      match ← pyNext it with
      | none => pure (.done .next)
      | some v =>
        letOwnedTupleGo ta it v
        assign ta en v
        let mut ok := true
        for c in fa do
          if ok then ok ← isTrue c en (eval c en)
        if ok then
          let x ← eval ib en
          standAt ib.pos
          let x ← foldedSetIterable ib en x
          let _ ← runOwn (.compStart (.SetComp e [⟨ta, ia, fa, 0⟩, ⟨tb, ib, fb, 0⟩] sc pp) 1 (← holding [x] (pyIter x)) D en) en
        again (.compLoop (.SetComp e [⟨ta, ia, fa, 0⟩, ⟨tb, ib, fb, 0⟩] sc pp) 0 it D en)) := by rfl
theorem turnB (e ta ia tb ib : Expr) (fa fb : List Expr) (sc : Scope) (pp : Pos) (it D : Value) (en : Env) : compTurn (.SetComp e [⟨ta, ia, fa, 0⟩, ⟨tb, ib, fb, 0⟩] sc pp) 1 it D en = (do
      standAt ib.pos
      match ← pyNext it with
      | none => pure (.done .next)
      | some v =>
        letOwnedTupleGo tb it v
        assign tb en v
        let mut ok := true
        for c in fb do
          if ok then ok ← isTrue c en (eval c en)
        if ok then
          (do let v ← eval e en; standAt e.pos; let _ ← call (.builtin "set.add") [D, v])
        again (.compLoop (.SetComp e [⟨ta, ia, fa, 0⟩, ⟨tb, ib, fb, 0⟩] sc pp) 1 it D en)) := by rfl
/-- the rest of a turn, behind the item that was drawn -/
def Bhd (P : Program) (w : World) (A : Around) (en : Env) (tg : Expr) (ifs : List Expr) (it : Value) (v : Value) (Er : Value → Shared → Prop) (yes no : Shared → Prop) (s : Shared) : Prop :=
  wpAny (model P w) A (letOwnedTupleGo tg it v) (fun _ s1 => wpAny (model P w) A (assign tg en v) (fun _ s2 =>
    wpAny (model P w) A (forIn ifs true fun c r => if r = true then do let ok ← isTrue c en (eval c en); pure (ForInStep.yield ok) else pure (ForInStep.yield r)) (fun ok s3 => if ok = true then yes s3 else no s3) Er s2) Er s1) Er s
theorem loopA (hs : ∀ x, foldedSetIterable ib en x = pure x) (I : Nat → Shared → Prop)
    (turn : ∀ n s, I n s → wpAny (model P w) A (pyNext it) (fun r s1 => match r with
      | none => R (.ok .next) s1
      | some v => Bhd P w A en ta fa it v (notedBy (model P w) A en fun e s' => R (.error e) s') (fun s3 => wpAny (model P w) A (eval ib en) (fun x s4 => wpAny (model P w) A (pyIter x) (fun it1 s5 =>
          codeAny (model P w) A (.compStart (.SetComp e [⟨ta, ia, fa, 0⟩, ⟨tb, ib, fb, 0⟩] sc pp) 1 it1 D en) (fun r s' => match r with
            | .ok _ => ∃ m, m < n ∧ I m s'
            | .error _ => False) s5) (notedBy (model P w) A en fun e s' => R (.error e) s') s4) (notedBy (model P w) A en fun e s' => R (.error e) s') s3) (fun s3 => ∃ m, m < n ∧ I m s3) s1) (notedBy (model P w) A en fun e s' => R (.error e) s') s)
    (n : Nat) (h : I n s) : codeAny (model P w) A (.compLoop (.SetComp e [⟨ta, ia, fa, 0⟩, ⟨tb, ib, fb, 0⟩] sc pp) 0 it D en) R s := by
  refine codeAny_loop rfl I (fun n s hI => ?_) n h
  show wpAny _ A ((compTurn (.SetComp e [⟨ta, ia, fa, 0⟩, ⟨tb, ib, fb, 0⟩] sc pp) 0 it D en).onRaise (fun x => do noteFrame x en; theTreesLotGoes x)) _ _ s
  refine wpAny_noted ?_
  rw [turnA]
  refine wpAny_bind (wpAny_standAt (wpAny_bind (wpAny_mono (turn n s hI) (fun r s1 h1 => ?_) fun _ _ h' => h')))
  cases r with
  | none => exact wpAny_pure h1
  | some v =>
    unfold Bhd at h1
    refine wpAny_bind (wpAny_mono h1 (fun _ s2 h2 => wpAny_bind (wpAny_mono h2 (fun _ s3 h3 => wpAny_bind (wpAny_mono h3 (fun ok s4 h4 => ?_) fun _ _ h' => h')) fun _ _ h' => h')) fun _ _ h' => h')
    cases ok with
    | false => exact wpAny_pure ⟨rfl, h4⟩
    | true =>
      refine wpAny_bind (wpAny_mono h4 (fun x s5 h5 => wpAny_bind (wpAny_standAt (wpAny_bind (wpAny_of_eq (hs x) (wpAny_bind (wpAny_holding (wpAny_mono h5 (fun it1 s6 h6 => ?_) fun _ _ h' => h'))))))) fun _ _ h' => h')
      refine wpAny_bind (wpAny_runOwn ?_)
      rw [Around.mark_none]
      refine codeAny_mono h6 fun r s' hr => ?_
      cases r with
      | ok f =>
        first
          | exact wpAny_pure ⟨rfl, hr⟩
          | exact wpAny_bind (wpAny_pure (wpAny_pure ⟨rfl, hr⟩))
      | error x => exact False.elim hr
theorem loopB (I : Nat → Shared → Prop)
    (turn : ∀ n s, I n s → wpAny (model P w) A (pyNext it) (fun r s1 => match r with
      | none => R (.ok .next) s1
      | some v => Bhd P w A en tb fb it v (notedBy (model P w) A en fun e s' => R (.error e) s') (fun s3 => wpAny (model P w) A (eval e en) (fun x s4 => wpAny (model P w) A (call (.builtin "set.add") [D, x]) (fun _ s5 => ∃ m, m < n ∧ I m s5) (notedBy (model P w) A en fun e s' => R (.error e) s') s4)
          (notedBy (model P w) A en fun e s' => R (.error e) s') s3) (fun s3 => ∃ m, m < n ∧ I m s3) s1) (notedBy (model P w) A en fun e s' => R (.error e) s') s)
    (n : Nat) (h : I n s) : codeAny (model P w) A (.compLoop (.SetComp e [⟨ta, ia, fa, 0⟩, ⟨tb, ib, fb, 0⟩] sc pp) 1 it D en) R s := by
  refine codeAny_loop rfl I (fun n s hI => ?_) n h
  show wpAny _ A ((compTurn (.SetComp e [⟨ta, ia, fa, 0⟩, ⟨tb, ib, fb, 0⟩] sc pp) 1 it D en).onRaise (fun x => do noteFrame x en; theTreesLotGoes x)) _ _ s
  refine wpAny_noted ?_
  rw [turnB]
  refine wpAny_bind (wpAny_standAt (wpAny_bind (wpAny_mono (turn n s hI) (fun r s1 h1 => ?_) fun _ _ h' => h')))
  cases r with
  | none => exact wpAny_pure h1
  | some v =>
    unfold Bhd at h1
    refine wpAny_bind (wpAny_mono h1 (fun _ s2 h2 => wpAny_bind (wpAny_mono h2 (fun _ s3 h3 => wpAny_bind (wpAny_mono h3 (fun ok s4 h4 => ?_) fun _ _ h' => h')) fun _ _ h' => h')) fun _ _ h' => h')
    cases ok with
    | false => exact wpAny_pure ⟨rfl, h4⟩
    | true => exact wpAny_bind (wpAny_bind (wpAny_mono h4 (fun x s5 h5 => wpAny_bind (wpAny_standAt (wpAny_bind (wpAny_mono h5 (fun _ s6 h6 => wpAny_pure (wpAny_pure ⟨rfl, h6⟩)) fun _ _ h' => h')))) fun _ _ h' => h'))
theorem startB (h0 : codeAny (model P w) A (.compLoop (.SetComp e [⟨ta, ia, fa, 0⟩, ⟨tb, ib, fb, 0⟩] sc pp) 1 it D en) R s)
    (h : wpAny (model P w) A (pyIter it) (fun it' s' => codeAny (model P w) A (.compLoop (.SetComp e [⟨ta, ia, fa, 0⟩, ⟨tb, ib, fb, 0⟩] sc pp) 1 it' D en) R s') (notedBy (model P w) A en fun x s' => R (.error x) s') s) :
    codeAny (model P w) A (.compStart (.SetComp e [⟨ta, ia, fa, 0⟩, ⟨tb, ib, fb, 0⟩] sc pp) 1 it D en) R s := by
  refine codeAny_of_tree ?_
  show wpAny _ _ ((compStart (.SetComp e [⟨ta, ia, fa, 0⟩, ⟨tb, ib, fb, 0⟩] sc pp) 1 it D en).onRaise (fun x => do noteFrame x en; standAt theWindowsPlace)) _ _ s
  refine wpAny_notedAt ?_
  unfold compStart
  show wpAny _ _ (ask >>= _) _ _ s
  refine wpAny_bind (wpAny_askSetting (wpAny_ite ?_))
  split
  · first
      | exact wpAny_bind (wpAny_pure
                                     (wpAny_pure (And.intro rfl h0)))
      | exact wpAny_pure (And.intro rfl h0)
  · first
      | exact wpAny_bind (wpAny_rule (wpAny_bind (wpAny_standAt (wpAny_bind
                                                                            (wpAny_mono h (fun it' s' h' => wpAny_pure (And.intro rfl h')) fun _ _ x => x)))))
      | (refine wpAny_bind (wpAny_rule ?_); show wpAny _ _ (standAt ib.pos >>= _) _ _ s; exact wpAny_bind (wpAny_standAt (wpAny_bind (wpAny_mono h (fun it' s' h' => wpAny_pure (And.intro rfl h')) fun _ _ x => x))))
end
section
variable {X : Cx} {μ κ : Type} {Z : Kit X.prog X.w μ κ} (K : Lnk X Z)
/-- {elt for .. in .. for .. in ..}: D the new set; Nx is reached through the second source's own loop -/
def tSetC2 (wi : TI) (g : TG) (tt : TT) (wj : TI) (gj : TG) (tj : TT) (te : TE) (vs vj : List Nat) : TE := fun σ H Q => wi σ H fun J H1 => ∀ D, H1 D = none → ∃ W : Nat → Nat → Hp → Prop, (∃ m, W 0 m (upd H1 D (SetO Z D []))) ∧ ∀ i m H, W i m H →
  (J.stop i H ∧ Q (.ref D) H) ∨ (J.go i H ∧ ∃ Nx : Hp → Prop, (∀ H', Nx H' → ∃ m', m' < m ∧ W
                                                                                              (i + 1) m' H') ∧ ∀ x H', J.yld i H x H' → g x (wipe σ vs) H' fun σ2 H2 => wipe σ2 vs = wipe σ vs ∧ tt σ2 H2 fun b H3 =>
    if b = true then wj σ2 H3 fun J1 H4 => ∃ W1 : Nat → Nat → Hp → Prop, (∃ m, W1 0 m H4) ∧ ∀ j k H, W1 j k H →
      (J1.stop j H ∧ Nx H) ∨ (J1.go j H ∧ ∃ Ny : Hp → Prop, (∀ H', Ny H' → ∃ k', k' < k ∧ W1 (j + 1) k' H') ∧ ∀ x H', J1.yld j H x H' → gj x (wipe σ2 vj) H' fun σ3 H5 => wipe σ3 vj = wipe σ2 vj ∧ tj σ3 H5 fun b H6 =>
        if b = true then te σ3 H6 fun y H7 => ∃ (m : μ) (L : List μ), y = K.vOf m ∧ H7 D = some (SetO Z D L) ∧ K.ok H7 m ∧ (∀ x ∈ L, K.ok H7 x) ∧ L.length + 1 < 64 ∧ (∀ L', Grow Z L m L' → Ny (upd H7 D (SetO Z D L'))) else Ny H6)
    else Nx H3)
theorem setc2 {pins : List (Addr × Obj)} {s : Shared} {σ : L2.St} {H : Hp} {Q : VK} {elt ta ia tb ib : Expr} {fa fb : List Expr} {scope : Scope} {own : List (PySem.Str × Nat)} {vj : List Nat} {pos pos' : Pos} {wi wj : TI} {g gj : TG} {tt tj : TT} {te : TE} {use : Option (Value → Sem Unit)} {Qf : Value → Shared → Prop}
    (hc : X.calm = true) (hu : X.A.in1.units < cLine) (hN : X.N.Nodup) (I : Inv X pins σ H s) (hi : PI X ta ia wi) (ok : BlkOk X.N X.env.scope scope own) (hv : ∀ i ∈ vj, i ∈ own.map (·.2))
    (hg : ∀ (s : Shared) (H : Hp) (C : Addr) (cl : List (PySem.Str × Addr)) (fp : List Addr), PG (X.blk s H scope (compEnvC scope cl C X.env) fp) ta g) (ht : ∀ (s : Shared) (H : Hp) (C : Addr) (cl : List (PySem.Str × Addr)) (fp : List Addr), PTs (X.blk s H scope (compEnvC scope cl C X.env) fp) fa tt)
    (hj : ∀ (s : Shared) (H : Hp) (C : Addr) (cl : List (PySem.Str × Addr)) (fp : List Addr), PI (X.blk s H scope (compEnvC scope cl C X.env) fp) tb ib wj)
    (hgj : ∀ (s : Shared) (H : Hp) (C : Addr) (cl : List (PySem.Str × Addr)) (fp : List Addr), PG (X.blk s H scope (compEnvC scope cl C X.env) fp) tb gj) (htj : ∀ (s : Shared) (H : Hp) (C : Addr) (cl : List (PySem.Str × Addr)) (fp : List Addr), PTs (X.blk s H scope (compEnvC scope cl C X.env) fp) fb tj)
    (he : ∀ (s : Shared) (H : Hp) (C : Addr) (cl : List (PySem.Str × Addr)) (fp : List Addr), PE (X.blk s H scope (compEnvC scope cl C X.env) fp) elt te) (hs : ∀ x, foldedSetIterable ia X.env x = pure x) (hs2 : ∀ en x, foldedSetIterable ib en x = pure x)
    (hK : ∀ (s : Shared) (H : Hp) (env : Env) (fp : List Addr), ∃ K' : Lnk (X.blk s H scope env fp) Z, K'.vOf = K.vOf ∧ K'.ok = K.ok)
    (h : tSetC2 K wi g tt wj gj tj te (own.map (·.2)) vj σ H Q)
    (hRR : ∀ D C s' m H', Inv X pins σ H' s' → Q (.ref D) H' → s'.heap.Ns C m → FpOk X pins H' C → compPost
                                                                                                            (model X.prog X.w) X.A X.xe use Qf (.ref D) C (.ok .next) s') :
    wpAny (model X.prog X.w) X.A (comprehension (.SetComp elt [⟨ta, ia, fa, 0⟩, ⟨tb, ib, fb, 0⟩] scope pos) scope X.env pos' (newSet (.type "set")) false (eval ia X.env) use) Qf X.xe s := by
  have free : ∀ y ∈ scope.names, y.2 = .free → ∃ c, X.env.cells.lookup y.1 = some c := fun y hy e => (ok.free y hy e).elim (fun k => I.ok.has _ (.inl k)) fun k => I.ok.has _ (.inr k)
  refine wpAny_comprehension_free (use := use) rfl hs (closure_ok free) ok.kind (fun y hy e => by rw [ok.uniq y hy, e]) (thn (hi.run pins s σ H _ I h) fun xv s1 hx => thn hx fun itv s2 h2 => ?_)
  obtain ⟨it, fp, tn, J, H2, e, I2, T, st2, f2, q⟩ := h2
  subst e
  refine PpSet.newSet_ok (newEnv_comp ?_)
  generalize hD : s2.heap.objs.size = D
  obtain ⟨W, ⟨m0, w0⟩, turn⟩ := q D (I2.hok.fresh (Nat.le_of_eq hD))
  generalize hs3 : ({ s2 with heap := s2.heap.push (newObj0 X.w) } : Shared) = s3
  have hs3' : ({ s2 with heap := s2.heap.push { cls := .type "set", dict := none, data := .set #[] 0 (.fresh 0 0 (!X.w.params.followText "set-order")) } } : Shared) = s3 := hs3
  rw [hs3']
  have h3 : s3.heap = s2.heap.push (newObj0 X.w) := by rw [← hs3]
  have I3 : Inv X pins σ (upd H2 D (SetO Z D [])) s3 := by
    rw [← hs3]
    refine I2.laid (t' := s2.toks) (fun b o e => Heap.get?_push_of_some _ e) (Nat.le_of_eq hD) (setO_new (Z.fresh ?_))
    rw [← hD]
    exact Heap.get?_push_size _ rfl
  have lt : ∀ b ∈ fp, b < s2.heap.objs.size := fun b hb => by
    obtain ⟨o, e, _⟩ := T.obj _ _ st2 b hb
    exact Heap.lt_size e
  have f3 : ∀ b ∈ fp, FpOk X pins (upd H2 D (SetO Z D [])) b ∧ b < s3.heap.objs.size := fun b hb => by
    refine ⟨⟨?_, (f2 b hb).2⟩, by rw [h3, Heap.size_push]; exact Nat.lt_succ_of_lt (lt b hb)⟩
    rw [upd_ne (by rw [← hD]; exact Nat.ne_of_lt (lt b hb))]
    exact (f2 b hb).1
  have st3 : tn 0 s3.heap := T.keep _ _ _ st2 fun b _ o e => by rw [h3]; exact Heap.get?_push_of_some _ e
  generalize hH3 : upd H2 D (SetO Z D []) = H3 at I3 w0 f3
  have I4 := block_start I3 ok hN f3
  have pg := hg s3 H3 s3.heap.objs.size (cellsFrom (s3.heap.objs.size + 1) scope.names (cloFrom X.env.cells scope.names [])) fp
  have pt := ht s3 H3 s3.heap.objs.size (cellsFrom (s3.heap.objs.size + 1) scope.names (cloFrom X.env.cells scope.names [])) fp
  have pe := he s3 H3 s3.heap.objs.size (cellsFrom (s3.heap.objs.size + 1) scope.names (cloFrom X.env.cells scope.names [])) fp
  have pj := hj s3 H3 s3.heap.objs.size (cellsFrom (s3.heap.objs.size + 1) scope.names (cloFrom X.env.cells scope.names [])) fp
  have pgj := hgj s3 H3 s3.heap.objs.size (cellsFrom (s3.heap.objs.size + 1) scope.names (cloFrom X.env.cells scope.names [])) fp
  have ptj := htj s3 H3 s3.heap.objs.size (cellsFrom (s3.heap.objs.size + 1) scope.names (cloFrom X.env.cells scope.names [])) fp
  show codeAny _ _ (.compStart (.SetComp elt [⟨ta, ia, fa, 0⟩, ⟨tb, ib, fb, 0⟩] scope pos) 0 (.ref it) (.ref D) (compEnvC scope (cellsFrom (s3.heap.objs.size + 1) scope.names (cloFrom X.env.cells scope.names [])) s3.heap.objs.size X.env)) (compPost (model X.prog X.w) X.A X.xe use Qf (.ref D) s3.heap.objs.size) { s3 with heap := pushCells (s3.heap.push { cls := .type "dict", data := .dict #[] }) scope.names }
  generalize hce : compEnvC scope (cellsFrom (s3.heap.objs.size + 1) scope.names (cloFrom X.env.cells scope.names [])) s3.heap.objs.size X.env = ce at I4 pg pt pe pj pgj ptj ⊢
  have cL : ce.locals = s3.heap.objs.size := by subst hce; rfl
  obtain ⟨K', ev, eo⟩ := hK s3 H3 ce fp
  generalize hs4 : ({ s3 with heap := pushCells (s3.heap.push
                                                              { cls := .type "dict", data := .dict #[] }) scope.names } : Shared) = s4 at I4 ⊢
  have st4 : tn 0 s4.heap := T.keep _ _ _ st3 fun b _ o e => by rw [← hs4]; exact pushCells_keeps _ _ _ _
                                                                                                          (Heap.get?_push_of_some _ e)
  have stat : ∀ {σ' : L2.St} {H' : Hp} {s' : Shared}, Inv (X.blk s3 H3 scope ce fp) [] σ' H' s' →
                                                                                                  (∀ b ∈ fp, H' b = none) → ∀ b ∈ fp, FpOk (X.blk s3 H3 scope ce fp) [] H' b := fun {σ' H' s'} I' hn b hb =>
    ⟨hn b hb, (I'.ok.exf b hb).1, I'.ok.exfs b hb, .inl hb, fun x c e =>
                                                                         (I'.ok.exf b hb).2 x c e, fun p hp => absurd (show p ∈ ([] : List (Addr × Obj)) ++ [] from hp) (by simp)⟩
  have loop : codeAny (model X.prog X.w) X.A (.compLoop (.SetComp elt [⟨ta, ia, fa, 0⟩, ⟨tb, ib, fb, 0⟩] scope pos) 0 (.ref it) (.ref D) ce) (compPost (model X.prog X.w) X.A X.xe use Qf (.ref D) s3.heap.objs.size) s4 := by
    refine loopA (hs2 ce) (fun n s' => ∃ i H', Inv (X.blk s3 H3 scope ce fp) [] (wipe σ (own.map (·.2))) H' s' ∧ tn i s'.heap ∧ (∀ b ∈ fp, H' b = none) ∧ W i n H') ?_ m0 ⟨0, H3, I4, st4, fun b hb => (f3 b hb).1.1, w0⟩
    rintro n s5 ⟨i, H5, I5, st5, n5, w5⟩
    rcases turn i n H5 w5 with ⟨stop, qq⟩ | ⟨go, Nx, hNx, step⟩
    · have td := T.done (X.blk s3 H3 scope ce fp) rfl rfl rfl hc i [] s5 _ H5
                                                                              (fun _ _ => False) I5 (stat I5 n5) st5 stop
      refine thnF td fun r s6 ⟨hr, I6⟩ => ?_
      subst hr
      have I7 : Inv X pins σ H5 s6 := I3.call' (ch := fp) I6.os I6.base I6.hok I6.bare fun b hb =>
                                                                                                   ⟨(f3 b hb).1.2.2.2.1, (f3 b hb).1.2.1, (f3 b hb).1.2.2.2.2.1, (f3 b hb).1.2.2.2.2.2⟩
      have z : H5 ce.locals = none := I6.free
      obtain ⟨m, hn, _⟩ := I6.loc
      have hn : s6.heap.Ns ce.locals m := hn
      rw [cL] at hn z
      exact hRR D s3.heap.objs.size s6 m H5 I7 qq hn (I3.fpOk (Nat.le_refl _) z)
    · have ti := T.item (X.blk s3 H3 scope ce fp) rfl rfl rfl hc i [] s5 _ H5
                                                                              (fun _ _ => False) I5 (stat I5 n5) st5 go
      refine thnF ti fun r s6 ⟨u, hr, h6⟩ => ?_
      subst hr
      refine thnF h6 fun _ s7 ⟨x, H7, I7, r7, y7, st7, n7⟩ => ?_
      have P7 := I7.pinned (stat I7 n7) (T.obj _ _ st7)
      refine thnF (pg.run _ s7 _ H7 x u _ P7 r7 (step x H7 y7)) fun _ s8 ⟨σ8, H8, I8, hw8, q8⟩ => ?_
      refine thnF (pt.run _ s8 σ8 H8 _ I8 q8) fun b s9
                                                       ⟨H9, I9, q9⟩ => ?_
      have fin : ∀ {σ9 : L2.St} {s' : Shared} {H' : Hp}, Inv (X.blk s3 H3 scope ce fp) ([] ++ pinsAt fp s7.heap) σ9 H' s' → (wipe σ (own.map (·.2))).length = σ9.length → (∀ (j : Nat) v, (wipe σ (own.map (·.2)))[j]? = some (some v) → σ9[j]? = some (some v)) → Nx H' → ∃ m, m < n ∧ ∃ i H', Inv (X.blk s3 H3 scope ce fp) [] (wipe σ (own.map (·.2))) H' s' ∧ tn i s'.heap ∧ (∀ b ∈ fp, H' b = none) ∧ W i m H' := fun {σ9 s' H'} I' hl hk nx => by
        obtain ⟨m', hm, w'⟩ := hNx H' nx
        have pin : ∀ b ∈ fp, ∀ o, s7.heap.get? b = some o → s'.heap.get? b = some o ∧ H' b = none := fun b hb o e =>
          let z := I'.pin (b, o) (List.mem_append_right _
                                                          (List.mem_append_right _ (mem_pinsAt hb e)))
          ⟨z.1, z.2.1⟩
        refine ⟨m', hm, i + 1, H', (I'.unpinned (pins := [])).weak hl hk, T.keep _ _ _ st7 fun b hb o e => (pin b hb o e).1, fun b hb => ?_, w'⟩
        obtain ⟨o, e, _⟩ := T.obj _ _ st7 b hb
        exact (pin b hb o e).2
      have l8 : (wipe σ (own.map (·.2))).length = σ8.length := by rw [← hw8, wipe_length]
      have k8 : ∀ (j : Nat) v, (wipe σ (own.map (·.2)))[j]? = some (some v) → σ8[j]? = some (some v) := fun j v e => by
        rw [← hw8] at e
        exact (wipe_some e).1
      have k9 : ∀ (j : Nat) v, (wipe σ (own.map (·.2)))[j]? = some (some v) → (wipe σ8 vj)[j]? = some (some v) := fun j v e => by
        rw [← hw8] at e
        obtain ⟨e1, e2⟩ := wipe_some e
        rw [wipe_out fun z => e2 (hv j z)]
        exact e1
      cases b with
      | false =>
        simp only [Bool.false_eq_true, if_false] at q9 ⊢
        exact fin I9 l8 k8 q9
      | true =>
        simp only [if_true] at q9 ⊢
        refine thnF (pj.run _ s9 σ8 H9 _ I9 q9) fun xv s10 hx => thnF hx fun itv s11 h11 => ?_
        obtain ⟨it1, fp1, tn1, J1, H11, e1, I11, T1, st11, f11, W1,
                                                                    ⟨m1, w1⟩, turn1⟩ := h11
        subst e1
        have stat1 : ∀ {H' : Hp}, (∀ b ∈ fp1, H' b = none) → ∀ b ∈ fp1, FpOk
                                                                             (X.blk s3 H3 scope ce fp) ([] ++ pinsAt fp s7.heap) H' b := fun hn b hb => ⟨hn b hb, (f11 b hb).2⟩
        have loop1 : codeAny (model X.prog X.w) X.A (.compLoop (.SetComp elt [⟨ta, ia, fa, 0⟩, ⟨tb, ib, fb, 0⟩] scope pos) 1 (.ref it1) (.ref D) ce)
            (fun r s' => match r with
              | .ok _ => ∃ m, m < n ∧ ∃ i H', Inv (X.blk s3 H3 scope ce fp) []
                                                                               (wipe σ (own.map (·.2))) H' s' ∧ tn i s'.heap ∧ (∀ b ∈ fp, H' b = none) ∧ W i m H'
              | .error _ => False) s11 := by
          refine loopB (fun k s' => ∃ j H', Inv (X.blk s3 H3 scope ce fp) ([] ++ pinsAt fp s7.heap) (wipe σ8 vj) H' s' ∧ tn1 j s'.heap ∧ (∀ b ∈ fp1, H' b = none) ∧ W1 j k H') ?_ m1 ⟨0, H11, I11.weak (wipe_length _ _) (fun j v e => (wipe_some e).1), st11, fun b hb => (f11 b hb).1, w1⟩
          rintro k s12 ⟨j, H12, I12, st12, n12, w12⟩
          rcases turn1 j k H12 w12 with ⟨stop1, nx1⟩ | ⟨go1, Ny, hNy, step1⟩
          · refine thnF (T1.done (X.blk s3 H3 scope ce fp) rfl rfl rfl hc j _ s12 (wipe σ8 vj) H12 (fun _ _ => False) I12 (stat1 n12) st12 stop1) fun r s13 ⟨hr, I13⟩ => ?_
            subst hr
            exact fin I13 (l8.trans (wipe_length σ8 vj).symm) k9 nx1
          · refine thnF (T1.item (X.blk s3 H3 scope ce fp) rfl rfl rfl hc j _ s12 (wipe σ8 vj) H12 (fun _ _ => False) I12 (stat1 n12) st12 go1) fun r s13 ⟨u1, hr, h13⟩ => ?_
            subst hr
            refine thnF h13 fun _ s14
                                      ⟨x1, H14, I14, r14, y14, st14, n14⟩ => ?_
            have P14 := I14.pinned (stat1 n14) (T1.obj _ _ st14)
            refine thnF (pgj.run _ s14 (wipe σ8 vj) H14 x1 u1 _ P14 r14 (step1 x1 H14 y14)) fun _ s15 ⟨σ15, H15, I15, hw15, q15⟩ => ?_
            refine thnF (ptj.run _ s15 σ15 H15 _ I15 q15) fun b1 s16 ⟨H16, I16, q16⟩ => ?_
            have fin1 : ∀ {s' : Shared} {H' : Hp}, Inv (X.blk s3 H3 scope ce fp) (([] ++ pinsAt fp s7.heap) ++ pinsAt fp1 s14.heap) σ15 H' s' → Ny H' → ∃ m, m < k ∧ ∃ j H', Inv (X.blk s3 H3 scope ce fp) ([] ++ pinsAt fp s7.heap) (wipe σ8 vj) H' s' ∧ tn1 j s'.heap ∧ (∀ b ∈ fp1, H' b = none) ∧ W1 j m H' := fun {s' H'} I' nx => by
              obtain ⟨m', hm, w'⟩ := hNy H' nx
              have pin : ∀ b ∈ fp1, ∀ o, s14.heap.get? b = some o → s'.heap.get? b = some o ∧ H' b = none := fun b hb o e =>
                let z := I'.pin (b, o) (List.mem_append_right _
                                                                (List.mem_append_right _ (mem_pinsAt hb e)))
                ⟨z.1, z.2.1⟩
              refine ⟨m', hm, j + 1, H', I'.unpinned.weak (by rw [← hw15, wipe_length]) (fun j v e => by rw [← hw15] at e; exact (wipe_some e).1), T1.keep _ _ _ st14 fun b hb o e => (pin b hb o e).1, fun b hb => ?_, w'⟩
              obtain ⟨o, e, _⟩ := T1.obj _ _ st14 b hb
              exact (pin b hb o e).2
            cases b1 with
            | false =>
              simp only [Bool.false_eq_true, if_false] at q16 ⊢
              exact fin1 I16 q16
            | true =>
              simp only [if_true] at q16 ⊢
              refine thnF (pe.run _ s16 σ15 H16 _ I16 q16) fun z s17 ⟨yv, H17, I17, r17, m, L, ey, hD17, om, oL, room, nx⟩ => ?_
              subst ey
              exact addK_ok (X := X.blk s3 H3 scope ce fp) K' I17 hD17 (by rw [eo]; exact oL) (by rw [eo]; exact om) (by rw [ev]; exact r17) room hu fun s18 L' gr I18 => fin1 I18 (nx L' gr)
        exact startB loop1 (T1.self X.A 0 _ _ _ st11 loop1)
  exact PpSet.codeAny_compStart_set loop (T.self X.A 0 _ _ _ st4 loop)
/-- as a value -/
theorem pe_setc2 {elt ta ia tb ib : Expr} {fa fb : List Expr} {scope : Scope} {own : List (PySem.Str × Nat)} {vj : List Nat} {pos : Pos} {wi wj : TI} {g gj : TG} {tt tj : TT} {te : TE} (hc : X.calm = true) (hu : X.A.in1.units < cLine) (hN : X.N.Nodup) (hi : PI X ta ia wi) (ok : BlkOk X.N X.env.scope scope own) (hv : ∀ i ∈ vj, i ∈ own.map (·.2))
    (hg : ∀ (s : Shared) (H : Hp) (C : Addr) (cl : List (PySem.Str × Addr)) (fp : List Addr), PG (X.blk s H scope (compEnvC scope cl C X.env) fp) ta g) (ht : ∀ (s : Shared) (H : Hp) (C : Addr) (cl : List (PySem.Str × Addr)) (fp : List Addr), PTs (X.blk s H scope (compEnvC scope cl C X.env) fp) fa tt)
    (hj : ∀ (s : Shared) (H : Hp) (C : Addr) (cl : List (PySem.Str × Addr)) (fp : List Addr), PI (X.blk s H scope (compEnvC scope cl C X.env) fp) tb ib wj)
    (hgj : ∀ (s : Shared) (H : Hp) (C : Addr) (cl : List (PySem.Str × Addr)) (fp : List Addr), PG (X.blk s H scope (compEnvC scope cl C X.env) fp) tb gj) (htj : ∀ (s : Shared) (H : Hp) (C : Addr) (cl : List (PySem.Str × Addr)) (fp : List Addr), PTs (X.blk s H scope (compEnvC scope cl C X.env) fp) fb tj)
    (he : ∀ (s : Shared) (H : Hp) (C : Addr) (cl : List (PySem.Str × Addr)) (fp : List Addr), PE (X.blk s H scope (compEnvC scope cl C X.env) fp) elt te)
    (hK : ∀ (s : Shared) (H : Hp) (env : Env) (fp : List Addr), ∃ K' : Lnk (X.blk s H scope env fp) Z, K'.vOf = K.vOf ∧ K'.ok = K.ok) (hs : ∀ x, foldedSetIterable ia X.env x = pure x := by intro _; rfl) (hs2 : ∀ en x, foldedSetIterable ib en x = pure x := by intro _ _; rfl) :
    PE X (.SetComp elt [⟨ta, ia, fa, 0⟩, ⟨tb, ib, fb, 0⟩] scope pos) (tSetC2 K wi g tt wj gj tj te (own.map (·.2)) vj) := by
  refine ⟨fun pins s σ H Q I h => ?_⟩
  rw [PpSet.eval_SetComp]
  refine setc2 K hc hu hN I hi ok hv hg ht hj hgj htj he hs hs2 hK h fun D C s' m H' I' q hn f => ⟨m, hn, fun h'' sb => ?_⟩
  obtain ⟨f0, f1, f2, f3, f4, f5⟩ := f
  exact ⟨.ref D, H', I'.turned (t' := s'.toks)
                                               (fun b o hb e => (sb.2 b hb).trans e) f0 f1 f3 f4 f5, rfl, q⟩
end
end KS
namespace K14
open PySem L2
open PyProof.Rows PySem.Spec
section
variable {P : Program} {w : World} {μ κ : Type} {Z : KS.Kit P w μ κ}
theorem from_snoc {ms L L' : List μ} {m : μ} (g : KS.From Z ms ms.length L) (c1 : Z.key m ∈ L.map Z.key → L' = L) (c2 : Z.key m ∉ L.map Z.key → L'.Perm (m :: L)) : KS.From Z (ms ++ [m]) (ms ++ [m]).length L' := by
  have g' : KS.From Z (ms ++ [m]) ms.length L := ⟨fun x hx => by have := g.sub x hx; simpa using this, fun x hx => g.all x (by simpa using hx), g.len⟩
  have := g'.step (m := m) (by simp) c1 c2
  rw [List.length_append]
  exact this
end
section
variable {X : Cx} {H : Hp}
/-- sorted(set), the set has the rows of ms -/
theorem sorted_from {a : Addr} {L ms : List KS.Mem} {Q : VK} (ha : H a = some (KS.SetO (KS.tupKit X.prog X.w) a L)) (fr : KS.From (KS.tupKit X.prog X.w) ms ms.length L) (hm : ∀ m ∈ ms, SqT X.K H m.1 (m.2.map kV)) (one : KS.OneS (ms.map (·.2))) (ne : ∀ m ∈ ms, m.2 ≠ [])
    (k : ∀ (ns : List KS.Mem) (p : Addr) (H' : Hp), Same H H' → H p = none → KS.SrtK (ms.map (·.2)) (ns.map (·.2)) → (∀ m ∈ ns, m ∈ ms) → ns.length ≤ ms.length → H' p = some (.lst (ns.map fun m => V.ref m.1)) → Q (.ref p) H') :
    KS.rSortedK (KS.linkTup X) KS.encK [.ref a] H Q := by
  have mL : ∀ m ∈ L, m ∈ ms := fun m hm => List.mem_of_mem_take (fr.sub m hm)
  have oneL : ∀ m ∈ L, ∀ m' ∈ L, KS.sameS m.2 m'.2 := fun m h m' h' => one _ (List.mem_map.mpr ⟨m, mL m h, rfl⟩) _ (List.mem_map.mpr ⟨m', mL m' h', rfl⟩)
  refine ⟨a, L, rfl, ha, fun m h => hm m (mL m h), fun d hd d' hd' => ?_, .inl fun d hd => ?_, fun L1 p pm nd' hp => ?_⟩
  · obtain ⟨m, h, rfl⟩ := List.mem_map.mp hd
    obtain ⟨m', h', rfl⟩ := List.mem_map.mp hd'
    have := KS.alike_keys (oneL m h m' h')
    unfold KS.encK KS.rowE
    simp only [PySem.W.alike]
    exact this
  · obtain ⟨m, h, rfl⟩ := List.mem_map.mp hd
    unfold KS.encK KS.rowE
    cases e : m.2 with
    | nil => exact absurd e (ne m (mL m h))
    | cons x r => exact ⟨_, _, rfl⟩
  · have mem : ∀ z, z ∈ L.map (·.2) ↔ z ∈ ms.map (·.2) := fun z => by
      constructor
      · intro h
        obtain ⟨m, h2, rfl⟩ := List.mem_map.mp h
        exact List.mem_map.mpr ⟨m, mL m h2, rfl⟩
      · intro h
        obtain ⟨m, h2, rfl⟩ := List.mem_map.mp h
        exact fr.all m (by rw [List.take_length]; exact h2)
    obtain ⟨s1, pm2⟩ := KS.srtK_of nd' mem pm
    exact k _ p _ (Same.new hp) hp s1 (fun m h => mL m (pm2.mem_iff.mp h)) (by rw [pm2.length_eq]; exact fr.len) upd_same
end
/-- the readings of one reader -/
def rds1 (m : OM) : List (Str × Str × Int) := m.2.rs.map fun p => (p.1, m.2.n, p.2)
def rdsOf (N : List OM) : List (Str × Str × Int) := N.flatMap rds1
theorem rds_take {N : List OM} {i : Nat} {m : OM} (h : N[i]? = some m) : rdsOf (N.take (i + 1)) = rdsOf (N.take i) ++ rds1 m := by
  unfold rdsOf
  rw [nms_take h, List.flatMap_append]
  simp
theorem rds_len {N : List OM} (h : ∀ m ∈ N, m.2.rs.length ≤ 3) : (rdsOf N).length ≤ 3 * N.length := by
  induction N with
  | nil => exact Nat.le_refl _
  | cons m N ih =>
    unfold rdsOf at ih ⊢
    rw [List.flatMap_cons, List.length_append, List.length_cons]
    have := h m List.mem_cons_self
    have := ih fun x hx => h x (List.mem_cons_of_mem _ hx)
    unfold rds1
    rw [List.length_map]
    unfold rds1 at this
    omega
theorem map_exR {L : List (Str × Str × Int)} : ∀ {zs : List (List Key)}, (∀ z ∈ zs, z ∈ L.map rK) → ∃ as : List (Str × Str × Int), as.map rK = zs
  | [], _ => ⟨[], rfl⟩
  | z :: zs, h => by
    obtain ⟨o, ho, e⟩ := List.mem_map.mp (h z List.mem_cons_self)
    obtain ⟨as, e2⟩ := map_exR fun x hx => h x (List.mem_cons_of_mem _ hx)
    exact ⟨o :: as, by rw [List.map_cons, e, e2]⟩
section
variable {X : Cx} {μ κ : Type} {Z : KS.Kit X.prog X.w μ κ} (K : KS.Lnk X Z)
theorem sc2_out {J : It} {n : Nat} {G : Hp → Prop} {Y : Nat → Hp → V → Hp → Prop} (w : Walk J n G Y) {g gj : TG} {tt tj : TT} {wj : TI} {te : TE} {vs vj : List Nat} {σ : L2.St} {H1 : Hp} {D : Addr} {Qd : Hp → Prop} (Pv : Nat → Hp → Prop) (h0 : Pv 0 (upd H1 D (KS.SetO Z D []))) (hG : ∀ i H, i ≤ n → Pv i H → G H)
    (hs : ∀ i x H H', i < n → Pv i H → Y i H x H' → g x
                                                        (wipe σ vs) H' fun σ2 H2 => wipe σ2 vs = wipe σ vs ∧ tt σ2 H2 fun b H3 =>
      if b = true then wj σ2 H3 fun J1 H4 => ∃ W1 : Nat → Nat → Hp → Prop, (∃ m, W1 0 m H4) ∧ ∀ j k H, W1 j k H →
        (J1.stop j H ∧ Pv (i + 1) H) ∨ (J1.go j H ∧ ∃ Ny : Hp → Prop, (∀ H', Ny H' → ∃ k', k' < k ∧ W1 (j + 1) k' H') ∧ ∀ x H', J1.yld j H x H' → gj x (wipe σ2 vj) H' fun σ3 H5 => wipe σ3 vj = wipe σ2 vj ∧ tj σ3 H5 fun b H6 =>
          if b = true then te σ3 H6 fun y H7 => ∃ (m : μ) (L : List μ), y = K.vOf m ∧ H7 D = some (KS.SetO Z D L) ∧ K.ok H7 m ∧ (∀ x ∈ L, K.ok H7 x) ∧ L.length + 1 < 64 ∧ (∀ L', KS.Grow Z L m L' → Ny (upd H7 D (KS.SetO Z D L'))) else Ny H6)
      else Pv (i + 1) H3) (hd : ∀ H, Pv n H → Qd H) :
    ∃ W : Nat → Nat → Hp → Prop, (∃ m, W 0 m (upd H1 D (KS.SetO Z D []))) ∧ ∀ i m H, W i m H →
      (J.stop i H ∧ Qd H) ∨ (J.go i H ∧ ∃ Nx : Hp → Prop, (∀ H', Nx H' → ∃ m', m' < m ∧ W
                                                                                          (i + 1) m' H') ∧ ∀ x H', J.yld i H x H' → g x (wipe σ vs) H' fun σ2 H2 => wipe σ2 vs = wipe σ vs ∧ tt σ2 H2 fun b H3 =>
        if b = true then wj σ2 H3 fun J1 H4 => ∃ W1 : Nat → Nat → Hp → Prop, (∃ m, W1 0 m H4) ∧ ∀ j k H, W1 j k H →
          (J1.stop j H ∧ Nx H) ∨ (J1.go j H ∧ ∃ Ny : Hp → Prop, (∀ H', Ny H' → ∃ k', k' < k ∧ W1 (j + 1) k' H') ∧ ∀ x H', J1.yld j H x H' → gj x (wipe σ2 vj) H' fun σ3 H5 => wipe σ3 vj = wipe σ2 vj ∧ tj σ3 H5 fun b H6 =>
            if b = true then te σ3 H6 fun y H7 => ∃ (m : μ) (L : List μ), y = K.vOf m ∧ H7 D = some (KS.SetO Z D L) ∧ K.ok H7 m ∧ (∀ x ∈ L, K.ok H7 x) ∧ L.length + 1 < 64 ∧ (∀ L', KS.Grow Z L m L' → Ny (upd H7 D (KS.SetO Z D L'))) else Ny H6)
        else Nx H3) := by
  refine ⟨fun i m H => m = n - i ∧ i ≤ n ∧ Pv i H,
                                                   ⟨n, by simp, Nat.zero_le _, h0⟩, ?_⟩
  rintro i m H ⟨rfl, hi, p⟩
  have q := hG i H hi p
  by_cases hlt : i < n
  · exact .inr ⟨w.goes i H hlt q, Pv (i + 1), fun H' p' => ⟨n - (i + 1), by omega, rfl, hlt, p'⟩, fun x H' y => hs i x H H' hlt p (w.yields i H x H' hlt q y)⟩
  · have e : i = n := by omega
    subst e
    exact .inl ⟨w.stops H q, hd H p⟩
theorem sc2_in {J : It} {n : Nat} {G : Hp → Prop} {Y : Nat → Hp → V → Hp → Prop} (w : Walk J n G Y) {g : TG} {tt : TT} {te : TE} {vs : List Nat} {σ : L2.St} {H1 : Hp} {D : Addr} {Nx : Hp → Prop} (Pv : Nat → Hp → Prop) (h0 : Pv 0 H1) (hG : ∀ i H, i ≤ n → Pv i H → G H)
    (hs : ∀ i x H H', i < n → Pv i H → Y i H x H' → g x (wipe σ vs) H' fun σ3 H5 => wipe σ3 vs = wipe σ vs ∧ tt σ3 H5 fun b H6 =>
      if b = true then te σ3 H6 fun y H7 => ∃ (m : μ) (L : List μ), y = K.vOf m ∧ H7 D = some (KS.SetO Z D L) ∧ K.ok H7 m ∧ (∀ x ∈ L, K.ok H7 x) ∧ L.length + 1 < 64 ∧ (∀ L', KS.Grow Z L m L' → Pv (i + 1) (upd H7 D (KS.SetO Z D L'))) else Pv (i + 1) H6) (hd : ∀ H, Pv n H → Nx H) :
    ∃ W1 : Nat → Nat → Hp → Prop, (∃ m, W1 0 m H1) ∧ ∀ j k H, W1 j k H →
      (J.stop j H ∧ Nx H) ∨ (J.go j H ∧ ∃ Ny : Hp → Prop, (∀ H', Ny H' → ∃ k', k' < k ∧ W1 (j + 1) k' H') ∧ ∀ x H', J.yld j H x H' → g x (wipe σ vs) H' fun σ3 H5 => wipe σ3 vs = wipe σ vs ∧ tt σ3 H5 fun b H6 =>
        if b = true then te σ3 H6 fun y H7 => ∃ (m : μ) (L : List μ), y = K.vOf m ∧ H7 D = some (KS.SetO Z D L) ∧ K.ok H7 m ∧ (∀ x ∈ L, K.ok H7 x) ∧ L.length + 1 < 64 ∧ (∀ L', KS.Grow Z L m L' → Ny (upd H7 D (KS.SetO Z D L'))) else Ny H6) := by
  refine ⟨fun i m H => m = n - i ∧ i ≤ n ∧ Pv i H,
                                                   ⟨n, by simp, Nat.zero_le _, h0⟩, ?_⟩
  rintro i m H ⟨rfl, hi, p⟩
  have q := hG i H hi p
  by_cases hlt : i < n
  · exact .inr ⟨w.goes i H hlt q, Pv (i + 1), fun H' p' => ⟨n - (i + 1), by omega, rfl, hlt, p'⟩, fun x H' y => hs i x H H' hlt p (w.yields i H x H' hlt q y)⟩
  · have e : i = n := by omega
    subst e
    exact .inl ⟨w.stops H q, hd H p⟩
end
section
variable {P : Program} {w : World} {K : PySem.W.Frag}
                                                      {mg : Str → Option Value} {base : Heap}
def sp_readings (K : PySem.W.Frag) (C : Addr) : Sp := fun vs H Q _ => ∃ (a : Addr) (N : List OM), vs = [.ref a] ∧ SqT K H a (opRefs N) ∧ OpsAt K H C N ∧ N.length ≤ 8 ∧
  ∀ (q : Addr) (rs : List (Str × Str × Int)) (H' : Hp), Same H H' → RowsT K H' q (rs.map rK) → KS.SrtK ((rdsOf N).map rK) (rs.map rK) → rs.length ≤ 24 → Q (.ref q) H'
theorem ok_readings_of (T : T K mg) (U : UX K mg) : FnOk P w K mg base CX0 3 T.f_readings_of T.d_readings_of ["operations"] (sp_readings K U.C) := by
  have Gn : FnOk P w K mg base CX0 1 U.pn.g U.pn.d ["self"] (getSp U.C "_name") := ok_get U.cl U.pn sc_Operation_name U.n1 ⟨_, _, _, rfl⟩
  have Gr : FnOk P w K mg base CX0 1 U.pr.g U.pr.d ["self"] (getSp U.C "_reads") := ok_get U.cl U.pr sc_Operation_reads U.n3 ⟨_, _, _, rfl⟩
  refine T.F_readings_of.ok sc_readings_of (fun vs H Q E h => ?_) (fun cdv A outer s H vs Q E hr h => ?_)
  · obtain ⟨a, N, rfl, _⟩ := h
    rfl
  · obtain ⟨a, N, rfl, ha, hN, n8, k⟩ := h
    have hu := hu_of hr
    refine ⟨_, (pss_one (ps_ret (pe_callTy call_tuple_of (by rfl) T.z_tuple (by decide +kernel) (pa_cons (pe_callB (KS.cr_sortedK (KS.linkTup _) (enc := KS.encK) rfl KS.rd_tup (un_row hr)) (by rfl) T.z_sorted (by decide +kernel) (pa_cons
      (KS.pe_setc2 (KS.linkTup _) (own := [("one", 1), ("name", 2), ("distance", 3)]) (vj := [2, 3]) (g := gName 1) (gj := gTup K 2 (gCons (gName 2) (gCons (gName 3) gNil))) rfl (un1 hr) sc_readings_of.nd (pi_tup (pv 0)) (blkOk_by (N := ["operations", "one", "name", "distance"]) (sc := defScope s_readings_of) (by decide +kernel)) (by decide) (fun _ _ _ _ _ => (pg_name (i := 1) sc_readings_of.nd rfl (Or.inl rfl))) (fun _ _ _ _ _ => pts_nil)
        (fun _ _ _ _ _ => (pi_tupK (K := K) rfl (pe_prop (pv 1) U.cl U.pr.pr Gr (hr.mono (by decide)) U.pr.b .nil pass0 rfl))) (fun _ _ _ _ _ => (pg_tup rfl (pgs_cons (pg_name (i := 2) sc_readings_of.nd rfl (Or.inl rfl)) (pgs_cons (pg_name (i := 3) sc_readings_of.nd rfl (Or.inl rfl)) pgs_nil)))) (fun _ _ _ _ _ => pts_nil)
        (fun _ _ _ _ _ => (pe_tup (pa_cons (pv 2) (pa_cons (pe_prop (pv 1) U.cl U.pn.pr Gn (hr.mono (by decide)) U.pn.b .nil pass0 rfl) (pa_cons (pv 3) pa_nil))))) (fun _ _ _ _ => ⟨KS.linkTup _, rfl, rfl⟩)) pa_nil)) pa_nil)))), ?_⟩
    have lo : (opRefs N).length = N.length := List.length_map ..
    refine ⟨_, rfl, a, rfl, ⟨_, ha⟩, fun D hD => ?_⟩
    have rl3 : ∀ m ∈ N, m.2.rs.length ≤ 3 := fun m hm => (hN m hm).1.rl
    have al : ∀ i, (rdsOf (N.take i)).length ≤ 24 := fun i => by
      have := rds_len (N := N.take i) fun m hm => rl3 m (List.mem_of_mem_take hm)
      rw [List.length_take] at this
      omega
    refine sc2_out (KS.linkTup _) (walk_tup (K := K) (a := a) (xs := opRefs N)) (fun i H' => Same H H' ∧ ∃ (ms L : List KS.Mem), H' D = some (KS.SetO (KS.tupKit P w) D L) ∧ KS.From (KS.tupKit P w) ms ms.length L ∧ MsN H' ms ∧ ms.map (·.2) = (rdsOf (N.take i)).map rK) ⟨Same.new hD, [], [], upd_same, KS.From.start _ _, (fun _ h => by cases h), rfl⟩ (fun i H' _ h => Same.seqT h.1 ha) ?_ ?_
    · rintro i x Ha Hb hi ⟨Sa, ms, L, eD, fr, hms, ems⟩ ⟨rfl, hx⟩
      rw [lo] at hi
      have em : N[i]? = some N[i] := List.getElem?_eq_getElem hi
      have tk := rds_take em
      have mN : N[i] ∈ N := List.getElem_mem hi
      unfold opRefs at hx
      rw [List.getElem?_map, em] at hx
      cases hx
      generalize N[i] = m at em tk mN ⊢
      obtain ⟨okm, dx, x3, x4, hp, h3, h4⟩ := hN m mN
      obtain ⟨ra, xs, rfl, hra, hxs⟩ : ∃ ra xs, x3 = .ref ra ∧ SqT K H ra xs ∧ DpAll K H xs (m.2.rs.map pD) := by
        cases h3 with
        | tup t1 t2 => exact ⟨_, _, rfl, t1, t2⟩
      have lx : xs.length = m.2.rs.length := by
        have := dpa_len hxs
        rw [List.length_map] at this
        omega
      refine ⟨rfl, ?_⟩
      refine yesT (iteT ?_)
      refine ⟨_, rfl, m.1, dx, _, rfl, Sa _ _ hp, m.1, dx, _, .ref ra, rfl, Sa _ _ hp, rfl, ?_⟩
      refine ⟨ra, rfl, ⟨_, Same.seqT Sa hra⟩, ?_⟩
      refine sc2_in (KS.linkTup _) (walk_tup (K := K) (a := ra) (xs := xs)) (fun j H' => Same H H' ∧ ∃ (ms L : List KS.Mem), H' D = some (KS.SetO (KS.tupKit P w) D L) ∧ KS.From (KS.tupKit P w) ms ms.length L ∧ MsN H' ms ∧ ms.map (·.2) = (rdsOf (N.take i) ++ (rds1 m).take j).map rK) ⟨Sa, ms, L, eD, fr, hms, by simp [ems]⟩ (fun j H' _ h => Same.seqT h.1 hra) ?_ ?_
      · rintro j y Hc Hd hj ⟨Sc, ms, L, eD, fr, hms, ems⟩ ⟨rfl, hy⟩
        obtain ⟨pr, b, epr, rfl, hb⟩ := dpa_pairs hxs hy
        have aj : (rds1 m).take (j + 1) = (rds1 m).take j ++ [(pr.1, m.2.n, pr.2)] := by
          rw [List.take_add_one]
          unfold rds1
          rw [List.getElem?_map, epr]
          rfl
        refine ⟨b, _, rfl, Same.seqT Sc hb, rfl, _, _, rfl, _, _, rfl, rfl, ?_⟩
        refine ⟨rfl, ?_⟩
        refine yesT (iteT ?_)
        refine ⟨_, rfl, _, rfl, m.1, dx, _, rfl, Sc _ _ hp, m.1, dx, _, .str m.2.n, rfl, Sc _ _ hp, rfl, ?_⟩
        refine ⟨_, rfl, by show 3 ≤ sizeLine; decide, fun t ht => ?_⟩
        have St := Same.new (o := .tup [V.str pr.1, .str m.2.n, .int pr.2]) ht
        have et : (upd Hd t (.tup [V.str pr.1, .str m.2.n, .int pr.2])) t = some (.tup ((rK (pr.1, m.2.n, pr.2)).map kV)) := upd_same
        have eD1 := St _ _ eD
        have SH := Same.trans Sc St
        have hms1 := hms.keep fun a xs e => St _ _ e
        have lm : ms.length ≤ 27 := by
          have e1 := congrArg List.length ems
          rw [List.length_map, List.length_map, List.length_append, List.length_take] at e1
          have := al i
          have l1 : (rds1 m).length = m.2.rs.length := List.length_map ..
          have := rl3 m mN
          omega
        generalize upd Hd t (.tup [V.str pr.1, .str m.2.n, .int pr.2]) = He at St et eD1 SH hms1 ⊢
        have lL := fr.len
        refine ⟨(t, rK (pr.1, m.2.n, pr.2)), L, rfl, eD1, SqT.of et, fun q hq => SqT.of (hms1 q (List.mem_of_mem_take (fr.sub q hq))), by omega, fun L' gr => ⟨Same.at hD SH, ms ++ [(t, rK (pr.1, m.2.n, pr.2))], L', upd_same, from_snoc fr gr.1 gr.2, ?_, ?_⟩⟩
        · have kt : ∀ a xs, He a = some (.tup xs) → (upd He D (KS.SetO (KS.tupKit P w) D L')) a = some (.tup xs) := fun a xs e => (upd_ne (fun z => by rw [z, eD1] at e; cases e)).trans e
          intro q hq
          rcases List.mem_append.mp hq with hq | hq
          · exact kt _ _ (hms1 q hq)
          · rw [List.mem_singleton.mp hq]
            exact kt _ _ et
        · rw [aj, List.map_append, ems]
          simp
      · rintro G ⟨SG, ms, L, eD, fr, hms, ems⟩
        have e9 : (rds1 m).take xs.length = rds1 m := List.take_of_length_le (by unfold rds1; rw [List.length_map, lx]; exact Nat.le_refl _)
        rw [e9, ← tk] at ems
        exact ⟨SG, ms, L, eD, fr, hms, ems⟩
    · rintro H9 ⟨S9, ms, L, eD, fr, hms, ems⟩
      rw [lo, List.take_length] at ems
      have lm : ms.length = (rdsOf N).length := by
        have := congrArg List.length ems
        simpa using this
      have l24 := al N.length
      rw [List.take_length] at l24
      unfold tNil
      dsimp only
      refine sorted_from (X := (cxOf CX0 P w K mg base ["operations", "one", "name", "distance"] "_readings_of" (defScope s_readings_of) T.f_readings_of cdv A outer s H E).nox) eD fr (fun m hm => SqT.of (hms m hm)) (by rw [ems]; exact rK_one _) (fun m hm e => ?_) fun ns p H' S hp srt mem ln ep => ?_
      · have : m.2 ∈ (rdsOf N).map rK := by rw [← ems]; exact List.mem_map.mpr ⟨m, hm, rfl⟩
        obtain ⟨o, _, eo⟩ := List.mem_map.mp this
        rw [e] at eo
        cases eo
      · rw [ems] at srt
        obtain ⟨as, eas⟩ := map_exR (L := rdsOf N) fun z hz => (srt.2.2 z).mp hz
        refine ⟨p, _, rfl, .inl ⟨SqL.of ep, fun q hq => ?_⟩⟩
        have S2 : Same H9 (upd H' q (.tup (ns.map fun m => V.ref m.1))) := Same.trans S (Same.new hq)
        refine k q as _ (Same.trans S9 S2) ⟨ns, SqT.of upd_same, fun m h => SqT.of (S2 _ _ (hms m (mem m h))), eas.symm⟩ (by rw [eas]; exact srt) ?_
        have e1 := congrArg List.length eas
        rw [List.length_map, List.length_map] at e1
        omega
end
end K14
/-! data with dicts: what they read as, repr; list(text), text * int -/
namespace RL
open PySem PySem.Spec PyProof.Rows L2
/-- a key as a datum -/
def keyD : Key → PyData
  | .inl i => .int i
  | .inr z => .str z
mutual
/-- a value that is a datum, dicts with int and text keys too -/
inductive DS (K : PySem.W.Frag) (H : Hp) : V → PyData → Prop
  | non : DS K H .non .none
  | bl (b : Bool) : DS K H (.bl b) (.bool b)
  | int (i : Int) : DS K H (.int i) (.int i)
  | str (x : Str) : DS K H (.str x) (.str x)
  | lst {a : Addr} {xs : List V} {ds : List PyData} : SqL K H a xs → DSs K H xs ds → DS K H (.ref a) (.list ds)
  | tup {a : Addr} {xs : List V} {ds : List PyData} : SqT K H a xs → DSs K H xs ds → DS K H (.ref a) (.tuple ds)
  | dic {a : Addr} {kvs : List (Key × V)} {es : List (PyData × PyData)} : H a = some (.dK kvs) → DSk K H kvs es → DS K H (.ref a) (.dict es)
inductive DSs (K : PySem.W.Frag) (H : Hp) : List V → List PyData → Prop
  | nil : DSs K H [] []
  | cons {v : V} {vs : List V} {d : PyData} {ds : List PyData} : DS K H v d → DSs K H vs ds → DSs K H (v :: vs) (d :: ds)
inductive DSk (K : PySem.W.Frag) (H : Hp) : List (Key × V) → List (PyData × PyData) → Prop
  | nil : DSk K H [] []
  | cons {k : Key} {v : V} {kvs : List (Key × V)} {d : PyData} {es : List (PyData × PyData)} : DS K H v d → DSk K H kvs es → DSk K H ((k, v) :: kvs) ((keyD k, d) :: es)
end
section
variable {X : Cx} {pins : List (Addr × Obj)}
                                             {σ : L2.St} {H : Hp} {s : Shared}
theorem pairs_rel {prog : Program} {w : World} : ∀ {es : List DictEntry} {vs : List (Key × Value)}, Pairs (mixKind prog w) es vs → ∀ {kvs : List (Key × V)}, KV kvs vs → Vals (kvs.map (·.2)) (es.map (·.val)) ∧ Vals (kvs.map fun kv => kV kv.1) (es.map (·.key))
  | _, _, .nil, _, h => by
    unfold KV at h
    cases h
    exact ⟨.nil, .nil⟩
  | _, _, .cons hk hv hr, _, h => by
    unfold KV at h
    cases h with
    | cons h1 h2 =>
      obtain ⟨e1, e2⟩ := h1
      have ih := pairs_rel hr h2
      refine ⟨.cons (by dsimp only; rw [hv]; exact e2) ih.1, .cons ?_ ih.2⟩
      dsimp only
      rw [e1]
      exact keyIs_rel hk
mutual
theorem DS.reads (I : Inv X pins σ H s) : ∀ (d : PyData) (v : V) (u : Value), DS X.K H v d → RelV v u → ∃ as, Reads s.heap u d as
  | .none, _, _, h, r => by
    cases h
    cases r
    exact ⟨_, Reads.none⟩
  | .bool b, _, _, h, r => by
    cases h
    cases r
    exact ⟨_, Reads.bool b⟩
  | .int i, _, _, h, r => by
    cases h
    obtain ⟨t, rfl⟩ := r
    exact ⟨_, Reads.int i t⟩
  | .str x, _, _, h, r => by
    cases h
    obtain ⟨t, rfl⟩ := r
    exact ⟨_, Reads.str x t⟩
  | .list ds, _, _, h, r => by
    cases h with
    | lst hs ha =>
      cases r
      obtain ⟨its, rv, ⟨o, n, ho, hc, _, hd⟩, _⟩ := I.list hs
      obtain ⟨as, hr⟩ := DSs.reads I ds _ its ha rv
      exact ⟨_, Reads.list ho hc hd hr⟩
  | .tuple ds, _, _, h, r => by
    cases h with
    | tup hs ha =>
      cases r
      obtain ⟨its, rv, ⟨o, ho, hc, n, hd⟩, _⟩ := I.tuple hs
      obtain ⟨as, hr⟩ := DSs.reads I ds _ its ha rv
      exact ⟨_, Reads.tuple ho hc hd hr⟩
  | .dict es, _, _, h, r => by
    cases h with
    | dic ha hk =>
      cases r
      obtain ⟨_, _, vs, kv, o, ee, ep, h1, h2, h3, _, hp, _⟩ := dk_of I.hok ha
      obtain ⟨r1, r2⟩ := pairs_rel hp kv
      obtain ⟨as, a1⟩ := DSk.readsK I es _ (ee.toList.map (·.key)) hk r2
      obtain ⟨bs, a2⟩ := DSk.readsV I es _ (ee.toList.map (·.val)) hk r1
      exact ⟨_, Reads.dict h1 h2.1 h3 a1 a2⟩
theorem DSs.reads (I : Inv X pins σ H s) : ∀ (ds : List PyData) (vs : List V) (us : List Value), DSs X.K H vs ds → Vals vs us → ∃ as, ReadsAll s.heap us ds as
  | [], _, _, h, r => by
    cases h
    cases r
    exact ⟨_, ReadsAll.nil⟩
  | d :: ds, _, _, h, r => by
    cases h with
    | cons h1 h2 =>
      cases r with
      | cons r1 r2 =>
        obtain ⟨as, a1⟩ := DS.reads I d _ _ h1 r1
        obtain ⟨bs, a2⟩ := DSs.reads I ds _ _ h2 r2
        exact ⟨_, ReadsAll.cons a1 a2⟩
theorem DSk.readsV (I : Inv X pins σ H s) : ∀ (es : List (PyData × PyData)) (kvs : List (Key × V)) (us : List Value), DSk X.K H kvs es → Vals (kvs.map (·.2)) us → ∃ as, ReadsAll s.heap us (es.map (·.2)) as
  | [], _, _, h, r => by
    cases h
    cases r
    exact ⟨_, ReadsAll.nil⟩
  | (kd, d) :: es, _, _, h, r => by
    cases h with
    | cons h1 h2 =>
      cases r with
      | cons r1 r2 =>
        obtain ⟨as, a1⟩ := DS.reads I d _ _ h1 r1
        obtain ⟨bs, a2⟩ := DSk.readsV I es _ _ h2 r2
        exact ⟨_, ReadsAll.cons a1 a2⟩
theorem DSk.readsK (I : Inv X pins σ H s) : ∀ (es : List (PyData × PyData)) (kvs : List (Key × V)) (us : List Value), DSk X.K H kvs es → Vals (kvs.map fun kv => kV kv.1) us → ∃ as, ReadsAll s.heap us (es.map (·.1)) as
  | [], _, _, h, r => by
    cases h
    cases r
    exact ⟨_, ReadsAll.nil⟩
  | (kd, d) :: es, _, _, h, r => by
    cases h with
    | @cons k _ _ _ _ h1 h2 =>
      cases r with
      | cons r1 r2 =>
        obtain ⟨bs, a2⟩ := DSk.readsK I es _ _ h2 r2
        cases k with
        | inl i =>
          obtain ⟨t, rfl⟩ := r1
          exact ⟨_, ReadsAll.cons (Reads.int i t) a2⟩
        | inr z =>
          obtain ⟨t, rfl⟩ := r1
          exact ⟨_, ReadsAll.cons (Reads.str z t) a2⟩
end
/-! ### what it shows -/
mutual
theorem DS.show (I : Inv X pins σ H s) : ∀ (d : PyData) (v : V) (u : Value), DS X.K H v d → RelV v u → d.showable = true → d.shown.length ≤ sizeLine → ∃ bs, ReadAtMost s.heap d.depth bs ∧ ReprK X.prog X.w bs s.heap d.depth u d.shown
  | .none, _, _, h, r, _, _ => by
    cases h
    cases r
    exact ⟨[], (fun _ h => nomatch h), by simp only [PyData.shown]; exact .of_is ReprIs.none _ _ _⟩
  | .bool b, _, _, h, r, _, _ => by
    cases h
    cases r
    exact ⟨[], (fun _ h => nomatch h), by simp only [PyData.shown]; exact .of_is (ReprIs.bool b) _ _ _⟩
  | .int i, _, _, h, r, hs, _ => by
    cases h
    obtain ⟨t, rfl⟩ := r
    exact ⟨[], (fun _ h => nomatch h), by simp only [PyData.shown]; exact .of_is (ReprIs.int t (by simpa [PyData.showable] using hs)) _ _ _⟩
  | .str x, _, _, h, r, _, hz => by
    cases h
    obtain ⟨t, rfl⟩ := r
    exact ⟨[], (fun _ h => nomatch h), by simp only [PyData.shown]; exact .of_is (ReprIs.str x t (by simpa only [PyData.shown] using hz)) _ _ _⟩
  | .list ds, _, _, h, r, hs, hz => by
    obtain ⟨as, rd⟩ := DS.reads I _ _ _ h r
    cases h with
    | lst hq ha =>
      cases r
      have hz' : (listText (PyData.shownAll ds)).length ≤ sizeLine := by simpa only [PyData.shown] using hz
      obtain ⟨its, rv, ⟨o, n, h1, h2, _, h3⟩, _⟩ := I.list hq
      obtain ⟨bs, hb, hk⟩ := DSs.show I ds _ its ha rv (by simpa [PyData.showable] using hs) (fun t ht => Nat.le_trans (listText_mem_le ht) hz')
      have hna := not_mem_of_deeper rd (by simp only [PyData.depth]; omega) hb
      refine ⟨_ :: bs, ReadAtMost.cons rd (by simp only [PyData.depth]; omega) hb, ?_⟩
      simp only [PyData.depth, PyData.shown]
      cases its with
      | nil =>
        cases rv
        cases ha
        simp only [PyData.shownAll, listText_nil]
        exact ReprK.listEmpty h1 h2 h3
      | cons x l => exact ReprK.list h1 h2 h3 hna
                                                  (by simpa using hk.length_eq) (fun i y e => hk.item i y (by simpa using e))
  | .tuple ds, _, _, h, r, hs, hz => by
    obtain ⟨as, rd⟩ := DS.reads I _ _ _ h r
    cases h with
    | tup hq ha =>
      cases r
      have hz' : (tupleText (PyData.shownAll ds)).length ≤ sizeLine := by simpa only [PyData.shown] using hz
      obtain ⟨its, rv, ⟨o, h1, h2, n, h3⟩, _⟩ := I.tuple hq
      obtain ⟨bs, hb, hk⟩ := DSs.show I ds _ its ha rv (by simpa [PyData.showable] using hs) (fun t ht => Nat.le_trans (tupleText_mem_le ht) hz')
      have hna := not_mem_of_deeper rd (by simp only [PyData.depth]; omega) hb
      refine ⟨_ :: bs, ReadAtMost.cons rd (by simp only [PyData.depth]; omega) hb, ?_⟩
      simp only [PyData.depth, PyData.shown]
      exact ReprK.tuple h1 h2 h3 hna (by simpa using hk)
  | .dict es, _, _, h, r, hs, hz => by
    obtain ⟨as, rd⟩ := DS.reads I _ _ _ h r
    cases h with
    | dic ha hk =>
      cases r
      have hz' : (dictText (PyData.shownKv es)).length ≤ sizeLine := by simpa only [PyData.shown] using hz
      obtain ⟨_, hsys, vs, kv, o, ee, ep, h1, h2, h3, _, hp, _⟩ := dk_of I.hok ha
      obtain ⟨r1, r2⟩ := pairs_rel hp kv
      obtain ⟨hs1, hs2⟩ := PyData.showableKv_split es (by simpa [PyData.showable] using hs)
      obtain ⟨b1, hb1, k1⟩ := DSk.showK I es _ (ee.toList.map (·.key)) hk r2 hs1 (fun t ht => let ⟨p, hp, hl⟩ := PyData.shownKv_key_le es t ht; Nat.le_trans hl (Nat.le_trans (dictText_mem_le hp) hz'))
      obtain ⟨b2, hb2, k2⟩ := DSk.showV I es _ (ee.toList.map (·.val)) hk r1 hs2 (fun t ht => let ⟨p, hp, hl⟩ := PyData.shownKv_val_le es t ht; Nat.le_trans hl (Nat.le_trans (dictText_mem_le hp) hz'))
      have hb : ReadAtMost s.heap (PyData.depthKv es) (b1 ++ b2) := (hb1.mono (PyData.depthAll_keys_le es)).append (hb2.mono (PyData.depthAll_vals_le es))
      have hna := not_mem_of_deeper rd (by simp only [PyData.depth]; omega) hb
      refine ⟨_ :: (b1 ++ b2), ReadAtMost.cons rd (by simp only [PyData.depth]; omega) hb, ?_⟩
      simp only [PyData.depth, PyData.shown, PyData.shownKv_eq]
      exact ReprK.dict h1 h2.1 h3 hsys hna (ReprEntriesK.of_two ee.toList _ _
        (k1.more_le (fun b hb => List.mem_append_left _ hb) (PyData.depthAll_keys_le es)) (k2.more_le (fun b hb => List.mem_append_right _ hb) (PyData.depthAll_vals_le es)))
theorem DSs.show (I : Inv X pins σ H s) : ∀ (ds : List PyData) (vs : List V) (us : List Value), DSs X.K H vs ds → Vals vs us → PyData.showableAll ds = true → (∀ t ∈ PyData.shownAll ds, t.length ≤ sizeLine) → ∃ bs, ReadAtMost s.heap (PyData.depthAll ds) bs ∧ ReprAllK X.prog X.w bs s.heap (PyData.depthAll ds) us (PyData.shownAll ds)
  | [], _, _, h, r, _, _ => by
    cases h
    cases r
    exact ⟨[], (fun _ h => nomatch h), by simp only [PyData.shownAll]; exact .nil⟩
  | d :: ds, _, _, h, r, hs, hz => by
    cases h with
    | cons h1 h2 =>
      cases r with
      | cons r1 r2 =>
        have hs' : d.showable = true ∧ PyData.showableAll ds = true := by simpa [PyData.showableAll] using hs
        obtain ⟨b1, hb1, k1⟩ := DS.show I d _ _ h1 r1 hs'.1 (hz _ (by simp only [PyData.shownAll]; exact List.mem_cons_self ..))
        obtain ⟨b2, hb2, k2⟩ := DSs.show I ds _ _ h2 r2 hs'.2 (fun t ht => hz t (by simp only [PyData.shownAll]; exact List.mem_cons_of_mem _ ht))
        refine ⟨b1 ++ b2, ?_, ?_⟩
        · simp only [PyData.depthAll]
          exact (hb1.mono (Nat.le_max_left _ _)).append (hb2.mono (Nat.le_max_right _ _))
        · simp only [PyData.depthAll, PyData.shownAll]
          exact .cons ((k1.more fun b hb => List.mem_append_left _ hb).level_le
                                                                                (Nat.le_max_left _ _)) (k2.more_le (fun b hb => List.mem_append_right _ hb) (Nat.le_max_right _ _))
theorem DSk.showV (I : Inv X pins σ H s) : ∀ (es : List (PyData × PyData)) (kvs : List (Key × V)) (us : List Value), DSk X.K H kvs es → Vals (kvs.map (·.2)) us → PyData.showableAll (es.map (·.2)) = true → (∀ t ∈ PyData.shownAll (es.map (·.2)), t.length ≤ sizeLine) →
    ∃ bs, ReadAtMost s.heap (PyData.depthAll (es.map (·.2))) bs ∧ ReprAllK X.prog X.w bs s.heap (PyData.depthAll (es.map (·.2))) us (PyData.shownAll (es.map (·.2)))
  | [], _, _, h, r, _, _ => by
    cases h
    cases r
    exact ⟨[], (fun _ h => nomatch h), by simp only [List.map_nil, PyData.shownAll]; exact .nil⟩
  | (kd, d) :: es, _, _, h, r, hs, hz => by
    cases h with
    | cons h1 h2 =>
      cases r with
      | cons r1 r2 =>
        have hs' : d.showable = true ∧ PyData.showableAll (es.map (·.2)) = true := by simpa [PyData.showableAll] using hs
        obtain ⟨b1, hb1, k1⟩ := DS.show I d _ _ h1 r1 hs'.1 (hz _ (by simp only [List.map_cons, PyData.shownAll]; exact List.mem_cons_self ..))
        obtain ⟨b2, hb2, k2⟩ := DSk.showV I es _ _ h2 r2 hs'.2 (fun t ht => hz t (by simp only [List.map_cons, PyData.shownAll]; exact List.mem_cons_of_mem _ ht))
        refine ⟨b1 ++ b2, ?_, ?_⟩
        · simp only [List.map_cons, PyData.depthAll]
          exact (hb1.mono (Nat.le_max_left _ _)).append (hb2.mono (Nat.le_max_right _ _))
        · simp only [List.map_cons, PyData.depthAll, PyData.shownAll]
          exact .cons ((k1.more fun b hb => List.mem_append_left _ hb).level_le
                                                                                (Nat.le_max_left _ _)) (k2.more_le (fun b hb => List.mem_append_right _ hb) (Nat.le_max_right _ _))
theorem DSk.showK (I : Inv X pins σ H s) : ∀ (es : List (PyData × PyData)) (kvs : List (Key × V)) (us : List Value), DSk X.K H kvs es → Vals (kvs.map fun kv => kV kv.1) us → PyData.showableAll (es.map (·.1)) = true → (∀ t ∈ PyData.shownAll (es.map (·.1)), t.length ≤ sizeLine) →
    ∃ bs, ReadAtMost s.heap (PyData.depthAll (es.map (·.1))) bs ∧ ReprAllK X.prog X.w bs s.heap (PyData.depthAll (es.map (·.1))) us (PyData.shownAll (es.map (·.1)))
  | [], _, _, h, r, _, _ => by
    cases h
    cases r
    exact ⟨[], (fun _ h => nomatch h), by simp only [List.map_nil, PyData.shownAll]; exact .nil⟩
  | (kd, d) :: es, _, _, h, r, hs, hz => by
    cases h with
    | @cons k _ _ _ _ h1 h2 =>
      cases r with
      | cons r1 r2 =>
        have hs' : (keyD k).showable = true ∧ PyData.showableAll (es.map (·.1)) = true := by simpa [PyData.showableAll] using hs
        have hz1 : (keyD k).shown.length ≤ sizeLine := hz _ (by simp only [List.map_cons, PyData.shownAll]; exact List.mem_cons_self ..)
        obtain ⟨b2, hb2, k2⟩ := DSk.showK I es _ _ h2 r2 hs'.2 (fun t ht => hz t (by simp only [List.map_cons, PyData.shownAll]; exact List.mem_cons_of_mem _ ht))
        refine ⟨b2, ?_, ?_⟩
        · simp only [List.map_cons, PyData.depthAll]
          exact hb2.mono (Nat.le_max_right _ _)
        · simp only [List.map_cons, PyData.depthAll, PyData.shownAll]
          refine .cons ?_ (k2.more_le (fun b hb => hb) (Nat.le_max_right _ _))
          cases k with
          | inl i =>
            obtain ⟨t, rfl⟩ := r1
            simp only [keyD, PyData.shown]
            exact .of_is (ReprIs.int t (by simpa [keyD, PyData.showable] using hs'.1)) _ _ _
          | inr z =>
            obtain ⟨t, rfl⟩ := r1
            simp only [keyD, PyData.shown] at hz1 ⊢
            exact .of_is (ReprIs.str z t hz1) _ _ _
end
end
/-! ### repr -/
section
variable {X : Cx}
def rReprD (K : PySem.W.Frag) : List V → Hp → VK → Prop := fun xs H Q => ∃ (a : Addr) (d : PyData), xs = [.ref a] ∧ DS K H (.ref a) d ∧ d.showable = true ∧ d.shown.length ≤ sizeLine ∧ d.depth ≤ 60 ∧ Q (.str d.shown) H
theorem cr_reprD (hgd : X.A.guards = some []) (hu : X.A.units + 64 < cLine) : CallR X (.builtin "repr") (rReprD X.K) := by
  intro pins s σ H xs us Q I r h
  obtain ⟨a, d, rfl, hd, h1, h2, h3, q⟩ := h
  obtain ⟨u, rfl, ru⟩ := vals1 r
  obtain rfl : u = Value.ref a := ru
  have fin : ∀ h' u tk, (∀ b o, s.heap.get? b = some o → h'.get? b = some o) → EP X pins σ Q (.str d.shown u) { s with heap := h', toks := tk } := fun h' u tk k => ⟨.str _, H, I.kept (t' := tk) k, ⟨_, rfl⟩, q⟩
  obtain ⟨as, rd⟩ := DS.reads I _ _ _ hd rfl
  obtain ⟨bs, hb, hk⟩ := DS.show I _ _ _ hd rfl h1 h2
  cases hd with
  | @lst _ xs ds hq ha =>
    have hz' : (listText (PyData.shownAll ds)).length ≤ sizeLine := by simpa only [PyData.shown] using h2
    obtain ⟨its, rv, ⟨o, n, e1, e2, _, e3⟩, _⟩ := I.list hq
    obtain ⟨bs, hb, hk⟩ := DSs.show I ds _ its ha rv (by simpa [PyData.showable] using h1) (fun t ht => Nat.le_trans (listText_mem_le ht) hz')
    have hna := not_mem_of_deeper rd (by simp only [PyData.depth]; omega) hb
    simp only [PyData.depth] at h3
    simp only [PyData.shown] at fin
    refine PySem.call_repr_slot (by omega) ⟨o, e1, e2⟩ PySem.F.slot_list_repr.toG ?_
    cases its with
    | nil =>
      cases rv
      cases ha
      simp only [PyData.shownAll, listText_nil] at fin
      exact call_list_repr_empty ⟨o, e1, e2⟩ e1 e3 ⟨_, _, rfl, fin s.heap _ _ fun _ _ e => e⟩
    | cons x l =>
      exact call_list_reprK e1 e2 e3 hna (by simpa using hk.length_eq) (fun i y e => hk.item i y (by simpa using e)) hgd (fun b _ => Clear.nil b) (by show X.A.units + 1 + _ < cLine; omega) (fun _ _ e => e) (fun h' u tk k => ⟨_, _, rfl, fin h' u tk k⟩) hz'
  | @tup _ xs ds hq ha =>
    have hz' : (tupleText (PyData.shownAll ds)).length ≤ sizeLine := by simpa only [PyData.shown] using h2
    obtain ⟨its, rv, ⟨o, e1, e2, n, e3⟩, _⟩ := I.tuple hq
    obtain ⟨bs, hb, hk⟩ := DSs.show I ds _ its ha rv (by simpa [PyData.showable] using h1) (fun t ht => Nat.le_trans (tupleText_mem_le ht) hz')
    have hna := not_mem_of_deeper rd (by simp only [PyData.depth]; omega) hb
    simp only [PyData.depth] at h3
    simp only [PyData.shown] at fin
    refine PySem.call_repr_slot (by omega) ⟨o, e1, e2⟩ PySem.F.slot_tuple_repr ?_
    exact call_tuple_reprK e1 e2 e3 hna (by simpa using hk) hgd (fun b _ => Clear.nil b) (by show X.A.units + 1 + _ < cLine; omega) (fun _ _ e => e) (fun h' u tk k => ⟨_, _, rfl, fin h' u tk k⟩) hz'
  | @dic _ kvs es ha hkv =>
    have hz' : (dictText (PyData.shownKv es)).length ≤ sizeLine := by simpa only [PyData.shown] using h2
    obtain ⟨_, hsys, vs, kv, o, ee, ep, e1, e2, e3, _, hp, _⟩ := dk_of I.hok ha
    obtain ⟨r1, r2⟩ := pairs_rel hp kv
    obtain ⟨hs1, hs2⟩ := PyData.showableKv_split es (by simpa [PyData.showable] using h1)
    obtain ⟨b1, hb1, k1⟩ := DSk.showK I es _ (ee.toList.map (·.key)) hkv r2 hs1 (fun t ht => let ⟨p, hp, hl⟩ := PyData.shownKv_key_le es t ht; Nat.le_trans hl (Nat.le_trans (dictText_mem_le hp) hz'))
    obtain ⟨b2, hb2, k2⟩ := DSk.showV I es _ (ee.toList.map (·.val)) hkv r1 hs2 (fun t ht => let ⟨p, hp, hl⟩ := PyData.shownKv_val_le es t ht; Nat.le_trans hl (Nat.le_trans (dictText_mem_le hp) hz'))
    have hb : ReadAtMost s.heap (PyData.depthKv es) (b1 ++ b2) := (hb1.mono (PyData.depthAll_keys_le es)).append (hb2.mono (PyData.depthAll_vals_le es))
    have hna := not_mem_of_deeper rd (by simp only [PyData.depth]; omega) hb
    simp only [PyData.depth] at h3
    simp only [PyData.shown, PyData.shownKv_eq] at fin
    refine PySem.call_repr_slot (by omega) ⟨o, e1, e2.1⟩ PySem.F.slot_dict_repr ?_
    exact call_dict_reprK e1 e2.1 e3 hsys hna (ReprEntriesK.of_two ee.toList _ _
      (k1.more_le (fun b hb => List.mem_append_left _ hb) (PyData.depthAll_keys_le es)) (k2.more_le (fun b hb => List.mem_append_right _ hb) (PyData.depthAll_vals_le es))) hgd (fun b _ => Clear.nil b) (by show X.A.units + 1 + _ < cLine; omega) (fun _ _ e => e) (fun h' u tk k => ⟨_, _, rfl, fin h' u tk k⟩) (by rw [← PyData.shownKv_eq]; exact hz')
/-! ### list(text) -/
def rListStr : List V → Hp → VK → Prop := fun xs H Q => ∃ z : Str, xs = [.str z] ∧ z.length ≤ sizeLine ∧ ∀ l, H l = none → Q (.ref l) (upd H l (.lst (z.cps.toList.map fun c => V.str ⟨#[c]⟩)))
theorem cr_listStr (hc : X.calm = true) : CallR X (.type "list") rListStr := by
  intro pins s σ H xs us Q I r h
  obtain ⟨z, rfl, hz, q⟩ := h
  obtain ⟨u, rfl, ru⟩ := vals1 r
  obtain ⟨t, rfl⟩ := ru
  refine call_list_str (I.ok.hd hc) z t (fun h' tk acc' c' kp hS hacc => ?_) hz
  refine ⟨.ref s.heap.objs.size, upd H s.heap.objs.size (.lst (z.cps.toList.map fun c => V.str ⟨#[c]⟩)), I.laid kp (Nat.le_refl _) (show ObjOk X.prog X.w _ _ _ (.lst _) from ⟨?_, acc'.toList, c', ?_, ?_⟩), rfl, q _ (I.hok.fresh (Nat.le_refl _))⟩
  · rw [List.length_map, Array.length_toList]; exact hz
  · refine vals_of_at (by rw [List.length_map, Array.length_toList, Array.length_toList, hacc.1]) fun j x w h1 h2 => ?_
    obtain ⟨c, u, hk, rfl⟩ := hacc.2 j w (by rw [← Array.getElem?_toList]; exact h2)
    rw [List.getElem?_map, Array.getElem?_toList, hk] at h1
    cases h1
    exact ⟨u, rfl⟩
  · rw [Array.toArray_toList]; exact hS
/-! ### text * int -/
def rMulS : R2 := fun x y H Q => ∃ (z : Str) (n : Int), x = .str z ∧ y = .int n ∧ MulOk z n ∧ Q (.str (Txt.mul z n)) H
theorem op_mulS : OpR X (binaryOp .Mult) rMulS := by
  intro pins s σ H x y v u Q I rx ry h
  obtain ⟨z, n, rfl, rfl, ok, q⟩ := h
  obtain ⟨t, rfl⟩ := rx
  obtain ⟨t', rfl⟩ := ry
  exact SB.mul ok fun t k => ⟨.str _, H, I.tok _, ⟨_, rfl⟩, q⟩
end
end RL
/-! tuple(d) of a dict with int and text keys -/
namespace RL
open PySem PySem.Spec PyProof.Rows L2
section
variable {prog : Program} {w : World} {A : Around} {E : Value → Shared → Prop} {s : Shared} {T : String} {r d : Addr} {n : Nat} {Pk : Nat → Value → Prop} {OK : Heap → Prop}
theorem collect_kdl {Q : List Value → Shared → Prop} (Ks : PySem.W.KdlSrc prog w T r d n Pk OK) (hh : A.handled = none) (hok : OK s.heap) (hn : n ≤ sizeLine)
    (hQ : ∀ (h' : Heap) (tk : Nat) (acc : Array Value), (∀ b o, s.heap.get? b = some o → h'.get? b = some o) → ItemsOf Pk acc n → Q acc.toList { s with heap := h', toks := tk }) :
    wpAny (model prog w) A (collect (.ref r)) Q E s := by
  unfold collect
  refine wpAny_bind (wpAny_runValue
                                    (codeAny_builtin F.entry_proto_collect ?_))
  rw [Around.under_plainId F.plain_proto_collect _]
  show wpAny _ A.in1 (newList [] >>= fun l => again
                                                    (.builtin "list.__iadd__" ⟨[l, .ref r], []⟩)) _ _ s
  refine wpAny_bind (wpAny_newObj_type ?_)
  refine wpAny_pure
                    ⟨plainId_quiet F.plain_list_iadd _, codeAny_builtin F.entry_list_iadd ?_⟩
  rw [Around.under_plainId F.plain_list_iadd _]
  show wpAny _ A.in1 (Builtin.List.listExtendWith
                                                  (.ref s.heap.objs.size) (.ref r) (.ref s.heap.objs.size)) _ _ _
  have hS : (s.heap.push { cls := .type "list", data := .seq ([] : List Value).toArray }).get? s.heap.objs.size = some
                                                                                                                       { cls := .type "list", data := .seq #[] 0 } := Heap.get?_push_size _ rfl
  have th := Ks.there _ hok
  refine wpAny_mono (PySem.W.kdl_extend (A := A) (R := fun rr s' => rr = .ok (.ret (.ref s.heap.objs.size)) ∧ ∃ (h' : Heap) (tk : Nat) (acc : Array Value) (c' : Nat), s' = { s with heap := h', toks := tk } ∧
      (∀ b o, s.heap.get? b = some o → h'.get? b = some o) ∧ h'.get? s.heap.objs.size = some { cls := .type "list", dict := none, data := .seq acc c', slots := #[] } ∧ ItemsOf Pk acc n)
    (s := { s with heap := s.heap.push { cls := .type "list", data := .seq ([] : List Value).toArray } }) Ks hh (Ks.keep _ _ hok fun b _ o e => Heap.get?_push_of_some _ e) _ (Nat.ne_of_gt th.1) (Nat.ne_of_gt th.2) _ 0 hS
    (fun h' tk acc c' hk e hi => ⟨rfl, h', tk, acc, c', rfl, fun b o q => hk b o (Nat.ne_of_lt (Heap.lt_size q)) (Heap.get?_push_of_some _ q), e, hi⟩) hn) (fun fin s' h => ?_) (fun e s' h => ?_)
  · cases fin with
    | done f =>
      obtain ⟨e, h', tk, acc, c', rfl, hk, hS', hi⟩ := h
      cases e
      show wpAny _ A (load s.heap.objs.size >>= _) _ _ _
      exact wpAny_bind (wpAny_load hS'
                                       (wpAny_pure (hQ h' tk acc hk hi)))
    | again c' =>
      refine ⟨h.1, codeAny_mono h.2 fun rr s'' hr' => ?_⟩
      obtain ⟨rfl, h', tk, acc, c', rfl, hk, hS', hi⟩ := hr'
      show wpAny _ A (load s.heap.objs.size >>= _) _ _ _
      exact wpAny_bind (wpAny_load hS'
                                       (wpAny_pure (hQ h' tk acc hk hi)))
  · exact absurd h.1 (by simp)
theorem call_tuple_kdl {Q : Value → Shared → Prop} (Ks : PySem.W.KdlSrc prog w T r d n Pk OK) (hh : A.handled = none) (hok : OK s.heap) (hn : n ≤ sizeLine)
    (hQ : ∀ (h' : Heap) (tk : Nat) (acc : Array Value), (∀ b o, s.heap.get? b = some o → h'.get? b = some o) → ItemsOf Pk acc n → Q (.ref h'.objs.size) { s with heap := h'.push { cls := .type "tuple", data := .seq acc }, toks := tk }) :
    wpAny (model prog w) A (call
                                 (.type "tuple") [.ref r]) Q E s := by
  refine callType_codes (Q₁ := fun obj s₁ => s₁.TypeIs obj "tuple" ∧ Q obj s₁) F.called_tuple
                                                                                              (F.typeCall_tuple_1 _) F.entry_object_init
    ?_ fun obj s₁ h₁ => ⟨h₁.1, F.args_object_init_2 obj _, object_init_meets F.called_tuple.init.lookup F.called_tuple.made (by decide) prog w A.in1 _ s₁ ⟨h₁.1, rfl, h₁.2⟩⟩
  refine codeAny_of_tree ?_
  show wpAny _ A.in1.in1 (do checkBuiltinCall "tuple.__new__" ⟨[.type "tuple", .ref r], []⟩; again (.builtin "tuple.__new__" ⟨[.type "tuple", .ref r], []⟩)) _ _ s
  refine wpAny_bind (wpAny_of_eq (F.newCall_tuple_1 _) (wpAny_pure
                                                                   ⟨plainId_quiet F.plain_tuple_new _, codeAny_builtin F.entry_tuple_new ?_⟩))
  rw [Around.under_plainId F.plain_tuple_new _]
  have hsub := sub_tuple_self
  have hinit := init_tuple_lookup
  have hmh := madeHere_tuple
  have hTI : s.TypeIs (.ref r) T := Ks.type s hok
  have hh1 : A.in1.in1.handled = none := hh
  have hnt : (Value.type T == Value.type "tuple") = false := Ks.notTuple
  wp_walk using wpAny_typeOf hTI, collect_kdl (A := A.in1.in1) Ks hh1 hok hn
  intro h' tk acc hk hacc
  show wpAny _ _
                 (Builtin.Tuple.tupleExact acc.toList.toArray >>= fun v => ret v) _ _ _
  unfold Builtin.Tuple.tupleExact
  refine wpAny_bind (wpAny_newObj_type ?_
                                          (by show acc.toList.toArray.size ≤ sizeLine; simp only [Array.toArray_toList]; rw [hacc.1]; exact hn))
  refine wpAny_pure ?_
  have e : acc.toList.toArray = acc := by simp
  rw [e]
  exact ⟨⟨_, Heap.get?_push_size _ rfl, rfl⟩, hQ h' tk acc hk hacc⟩
end
section
variable {X : Cx}
def rTupD : List V → Hp → VK → Prop := fun xs H Q => ∃ (p : Addr) (kvs : List (Key × V)), xs = [.ref p] ∧ H p = some (.dK kvs) ∧ ∀ q, H q = none → Q (.ref q) (upd H q (.tup (kvs.map fun kv => kV kv.1)))
theorem cr_tupD (hc : X.calm = true) : CallR X (.type "tuple") rTupD := by
  intro pins s σ H xs us Q I r h
  obtain ⟨p, kvs, rfl, hk, q⟩ := h
  obtain ⟨u, rfl, rx⟩ := vals1 r
  obtain rfl : u = Value.ref p := rx
  obtain ⟨z, lo, vs, rk, hd⟩ :=
                                (show ObjOk X.prog X.w H s.heap p (.dK kvs) from I.hok p _ hk)
  obtain ⟨ep, hat⟩ := hd.dictAt
  have hl : kvs.length = vs.length := Paired.length rk
  refine call_tuple_kdl (PySem.W.kdl_dict (knd := mixKind X.prog X.w) (kvs := vs) (ep := ep) lo) (I.ok.hd hc) hat (by rw [← hl]; exact z) fun h' tk acc hkeep hacc => ?_
  have el : acc.toList.length = acc.size := by simp
  have I2 : Inv X pins σ H { s with heap := h', toks := tk } := I.kept hkeep
  refine ⟨.ref h'.objs.size, upd H h'.objs.size (.tup (kvs.map fun kv => kV kv.1)), I2.laid (t' := tk) (fun c o e => Heap.get?_push_of_some _ e) (Nat.le_refl _) (show ObjOk X.prog X.w _ _ _ (.tup (kvs.map fun kv => kV kv.1)) from ⟨by rw [List.length_map]; exact z, acc.toList, ?_, ?_⟩), rfl, q _ (I2.hok.fresh (Nat.le_refl _))⟩
  · refine vals_of_at (by rw [List.length_map, el, hacc.1, hl]) fun j x w h1 h2 => ?_
    obtain ⟨k, y, hky, hi⟩ := hacc.2 j w
                                         (by rw [← Array.getElem?_toList]; exact h2)
    have e1 : (kvs.map (·.1))[j]? = some k := by
      rw [KV.keys rk, List.getElem?_map, hky] <;> rfl
    have e2 :
              (kvs.map fun kv => kV kv.1)[j]? = some (kV k) := by
      have e3 : (kvs.map fun kv => kV kv.1) = (kvs.map
                                                       (·.1)).map kV := by rw [List.map_map] <;> rfl
      rw [e3, List.getElem?_map, e1] <;> rfl
    rw [e2] at h1
    cases h1
    exact keyIs_rel hi
  · rw [Array.toArray_toList]
    exact IsTup.new _ _
end
end RL
/-! own: tuple(d.values()) -/
namespace RL
open PySem PySem.Spec PyProof.Rows L2
theorem kv_valsT : ∀ {kvs : List (Key × V)} {vs : List (Key × Value)}, KV kvs vs → Vals (kvs.map (·.2)) (vs.map (·.2))
  | _, _, .nil => .nil
  | _, _, .cons r t => .cons r.2 (kv_valsT t)
def tTupVals (te : TE) : TE := fun σ H Q => te σ H fun x H1 => ∃ (d : Addr) (kvs : List (Key × V)), x = .ref d ∧ H1 d = some (.dK kvs) ∧ ∀ p, H1 p = none → Q (.ref p) (upd H1 p (.tup (kvs.map (·.2))))
section
variable {X : Cx} {e : Expr}
                             {te : TE} {p apos cpos pos : Pos}
theorem pe_tupVals (hc : X.calm = true) (he : PE X e te) (hg : Gl X "tuple") (hm : X.mg "tuple" = none) (hv : bootBuiltins "tuple" = some (.type "tuple")) (hbase : attributeBase e "values" X.env (eval e X.env) = eval e X.env := by rfl) (hline : (apos.endLine == cpos.line) = true := by rfl)
    (hs : starEach [.Call (.Attribute e "values" apos) [] [] cpos] X.env = (false, eval (.Call (.Attribute e "values" apos) [] [] cpos) X.env) :: starEach [] X.env := by rfl) :
    PE X (.Call (.Name "tuple" p) [.Call (.Attribute e "values" apos) [] [] cpos] [] pos) (tTupVals te) := by
  refine ⟨fun pins s σ H Q I hq => ?_⟩
  refine wpAny_Call_Name_kw (ld_blt I hg hm hv ?_)
  refine PyProof.Rows.callWith_type1 ?_ hs rfl
  rw [hs]
  show wpAny _ _ (spliced ((false, eval (.Call (.Attribute e "values" apos) [] [] cpos) X.env) :: backTo pos (starEach [] X.env))) _ _ s
  refine Calls.spliced_cons ?_
  refine wpAny_Call_method (T := "dict") (id := "dict.values") hbase rfl hline F.plainAttrs_dict F.slot_dict_values F.type_dict_values (thn (he.run pins s σ H _ I hq) fun u s1 ⟨x, H1, I1, rx, d, kvs, ex, hd, q⟩ => ?_)
  subst ex
  obtain rfl : u = Value.ref d := rx
  obtain ⟨hz, hs0, vs, kv, hdo⟩ := I1.hok d _ hd
  obtain ⟨ep, hat⟩ := hdo.dictAt
  have lk : kvs.length = vs.length := Paired.length kv
  have I2 : Inv X pins σ H1 { s1 with heap := s1.heap.push
                                                           { cls := .type "dict_values", data := .fields #[.ref d] } } := I1.kept (t' := s1.toks) fun b ob q => Heap.get?_push_of_some _ q
  refine ⟨hdo.typeIs, hdo.mapOf.noDict, ?_⟩
  show wpAny _ _ (callWith cpos
                                (.builtin "dict.values") [.ref d] [] []) _ X.xe s1
  refine method_meetsIn F.slot_dict_values F.entry_dict_values rfl (PySem.evalArgs_none ⟨rfl, hdo.typeIs, F.args_dict_values_1 _, _, meets_dict_values (mixKind X.prog X.w) d hs0, ⟨vs, hdo⟩, ?_⟩)
  refine Calls.spliced_nil ?_
  refine call_tuple_kdl (PySem.W.kdl_values (knd := mixKind X.prog X.w) (kvs := vs) (ep := ep)) (I1.ok.hd hc) ⟨⟨_, Heap.get?_push_size _ rfl, rfl, rfl⟩, hat.push _⟩ (by omega) fun h' tk acc' hk hacc => ?_
  have eacc : acc'.toList = vs.map (·.2) := PySem.W.kdl_vals_eq acc'.toList (by rw [Array.length_toList]; exact hacc.1) fun j v e => hacc.2 j v (by rw [← Array.getElem?_toList]; exact e)
  have hlen : (kvs.map (·.2)).length ≤ sizeLine := by rw [List.length_map]; omega
  have I3 : Inv X pins σ H1 { s1 with heap := h', toks := tk } := I2.kept (t' := tk) hk
  exact ⟨.ref _, upd H1 h'.objs.size (.tup (kvs.map (·.2))), I3.laid (t' := tk) (fun c o e => Heap.get?_push_of_some _ e) (Nat.le_refl _) (show ObjOk X.prog X.w _ _ _ (.tup (kvs.map (·.2))) from ⟨hlen, acc'.toList, by rw [eacc]; exact kv_valsT kv, ⟨_, Heap.get?_push_size _ rfl, rfl, 0, by simp⟩⟩), rfl, q _ (I3.hok.fresh (Nat.le_refl _))⟩
end
end RL
namespace K14
open PySem L2
open PyProof.Rows PySem.Spec
/-- all but instances stay -/
def Ki (H H' : Hp) : Prop := ∀ b o, H b = some o → (∀ C dx fs, o ≠ .ins C dx fs) → H' b = some o
theorem Ki.refl (H : Hp) : Ki H H := fun _ _ e _ => e
theorem Ki.trans {H H1 H2 : Hp} (a : Ki H H1) (b : Ki H1 H2) : Ki H H2 := fun c o h n => b c o (a c o h n) n
theorem Ki.same {H H' : Hp} (s : Same H H') : Ki H H' := fun b o e _ => s b o e
theorem Ki.upd {H : Hp} {q C dx : Addr} {fs : List (Str × V)} {o : HO} (h : H q = some (.ins C dx fs)) : Ki H (upd H q o) := fun b u e n => (upd_ne (fun z => by rw [z, h] at e; exact n _ _ _ (Option.some.inj e).symm)).trans e
theorem Ki.seqL {K : PySem.W.Frag} {H H' : Hp} {a : Addr} {xs : List V} (e : Ki H H') (h : SqL K H a xs) : SqL K H' a xs := by
  rcases h with (h | ⟨o, h⟩) | h
  · exact .inl (.inl (e _ _ h (by intro _ _ _ z; cases z)))
  · exact .inl (.inr ⟨o, e _ _ h (by intro _ _ _ z; cases z)⟩)
  · exact .inr h
theorem Ki.seqT {K : PySem.W.Frag} {H H' : Hp} {a : Addr} {xs : List V} (e : Ki H H') (h : SqT K H a xs) : SqT K H' a xs := by
  rcases h with (h | ⟨o, h⟩) | h
  · exact .inl (.inl (e _ _ h (by intro _ _ _ z; cases z)))
  · exact .inl (.inr ⟨o, e _ _ h (by intro _ _ _ z; cases z)⟩)
  · exact .inr h
mutual
theorem dp_ki {K : PySem.W.Frag} {H H' : Hp} (s : Ki H H') : ∀ (d : PyData) (x : V), Dp K H x d → Dp K H' x d
  | .none, _, h => by cases h; exact .non
  | .bool b, _, h => by cases h; exact .bl b
  | .int i, _, h => by cases h; exact .int i
  | .str z, _, h => by cases h; exact .str z
  | .list ds, _, h => by
    cases h with
    | lst h1 h2 => exact .lst (s.seqL h1) (dpa_ki s ds _ h2)
  | .tuple ds, _, h => by
    cases h with
    | tup h1 h2 => exact .tup (s.seqT h1) (dpa_ki s ds _ h2)
  | .dict _, _, h => by cases h
theorem dpa_ki {K : PySem.W.Frag} {H H' : Hp} (s : Ki H H') : ∀ (ds : List PyData) (xs : List V), DpAll K H xs ds → DpAll K H' xs ds
  | [], _, h => by cases h; exact .nil
  | d :: ds, _, h => by
    cases h with
    | cons h1 h2 => exact .cons (dp_ki s d _ h1) (dpa_ki s ds _ h2)
end
theorem RowsT.ki {K : PySem.W.Frag} {H H' : Hp} {a : Addr} {rows : List (List Key)} (s : Ki H H') (h : RowsT K H a rows) : RowsT K H' a rows := by
  obtain ⟨ms, h1, h2, h3⟩ := h
  exact ⟨ms, s.seqT h1, fun m hm => s.seqT (h2 m hm), h3⟩
/-- what the heap held, but for what stands at p -/
def But (p : Addr) (H H' : Hp) : Prop := ∀ b o, b ≠ p → H b = some o → H' b = some o
theorem But.trans {p : Addr} {H H1 H2 : Hp} (a : But p H H1) (b : But p H1 H2) : But p H H2 := fun c o n e => b c o n (a c o n e)
theorem But.same {p : Addr} {H H' : Hp} (s : Same H H') : But p H H' := fun b o _ e => s b o e
theorem But.upd {p : Addr} {H : Hp} {o : HO} : But p H (upd H p o) := fun b u n e => (upd_ne n).trans e
theorem OpAt.but {K : PySem.W.Frag} {H H' : Hp} {C p q : Addr} {r : Rw} (s : Ki H H') (b : But q H H') (n : p ≠ q) (h : OpAt K H C p r) : OpAt K H' C p r := by
  obtain ⟨ok, dx, x3, x4, h1, h2, h3⟩ := h
  exact ⟨ok, dx, x3, x4, b _ _ n h1, dp_ki s _ _ h2, dp_ki s _ _ h3⟩
theorem OpsAt.but {K : PySem.W.Frag} {H H' : Hp} {C q : Addr} {M : List OM} (s : Ki H H') (b : But q H H') (n : ∀ m ∈ M, m.1 ≠ q) (h : OpsAt K H C M) : OpsAt K H' C M := fun m hm => (h m hm).but s b (n m hm)
/-- facts of the class Loop -/
structure UL (K : PySem.W.Frag) (mg : Str → Option Value) where
  C : Addr
  mC : mg "Loop" = some (.ref C)
  cl : Cls K C
  mo : PySem.W.mroIn K C (.type "object") = some true
  ne : PySem.W.findIn K (.ref C) "__ne__" = some (some (.builtin "object.__ne__"))
  fI : Addr
  dI : FuncData
  FI : Fun K "__init__" "Loop.__init__" s_Loop_init fI dI
  mkI : Mk K C fI
  n1 : NoAttr K C "_table"
  n2 : NoAttr K C "_names"
  n3 : NoAttr K C "_orders"
  n4 : NoAttr K C "_arcs"
  n5 : NoAttr K C "_operations"
  n6 : NoAttr K C "_readings"
  n7 : NoAttr K C "_units"
  n8 : NoAttr K C "_asking"
  mt : Mt K C "_take_orders" "Loop._take_orders" s_Loop_take_orders ["self", "orders"]
  mc : Value
  cr : ClX.CRead K C mc
  pO : Addr
  fO : Addr
  dO : FuncData
  o0 : Addr
  no : Nul K o0
  FO : FunD K "of" "Loop.of" (defArgs s_Loop_of) (defBody s_Loop_of) (defScope s_Loop_of) [] [("orders", .ref o0)] fO dO
  cO : ClX.CMet K C mc "of" pO fO
  po : Pp K C "operations" "Loop.operations" s_Loop_operations
  pd : Pp K C "orders" "Loop.orders" s_Loop_orders
  pn : Pp K C "names" "Loop.names" s_Loop_names
  pa : Pp K C "arcs" "Loop.arcs" s_Loop_arcs
  pr : Pp K C "readings" "Loop.readings" s_Loop_readings
  pu : Pp K C "units" "Loop.units" s_Loop_units
  pk : Pp K C "asking" "Loop.asking" s_Loop_asking
  mi : Mt K C "__getitem__" "Loop.__getitem__" s_Loop_getitem ["self", "name"]
  mh : Mt K C "__contains__" "Loop.__contains__" s_Loop_contains ["self", "value"]
  ml : Mt K C "__len__" "Loop.__len__" s_Loop_len ["self"]
  mx : Mt K C "__iter__" "Loop.__iter__" s_Loop_iter ["self"]
  me : Mt K C "__eq__" "Loop.__eq__" s_Loop_eq ["self", "other"]
  ms : Mt K C "__str__" "Loop.__str__" s_Loop_str ["self"]
  ca : PySem.W.findIn K (.ref C) "__class__" = some
                                                    (some (.builtin "object.__class__"))
  cg : PySem.W.specialIn K (.builtin "object.__class__") "__get__" = some (some (.builtin "getset_descriptor.__get__"))
  ct : PySem.W.takesIn K
                         (.builtin "object.__class__") = some true
section
variable {P : Program} {w : World} {K : PySem.W.Frag}
                                                      {mg : Str → Option Value} {base : Heap}
theorem sc_linit : FnScope ["self", "orders", "operations", "one", "pair"] ["self", "orders", "operations"] (defScope s_Loop_init) := ⟨rfl, rfl, rfl, by decide +kernel, rfl, by decide +kernel, by decide +kernel⟩
/-- how the maker's promise is told: vs the values, zs the keywords' -/
theorem linit_kw (U : UL K mg) {k : Nat} {sp : Sp} (hbody : ∀ (cdv : Value) (A : Around) (outer : List Env) (s : Shared) (H : Hp) (vs : List V) (Q : VK) (E : XK), Room k (A.deeper (envOfC "Loop.__init__" (defScope s_Loop_init) s.heap.objs.size U.fI cdv)) → sp vs H Q E →
      ∃ t, PSs (cxOf CX0 P w K mg base ["self", "orders", "operations", "one", "pair"] "Loop.__init__" (defScope s_Loop_init) U.fI cdv A outer s H E) (defBody s_Loop_init) t ∧ t { nx := fun _ H' => Q .non H', rt := Q } (L2.start ["self", "orders", "operations", "one", "pair"] vs) H) :
    SX.FnKw P w K mg base CX0 (k + 1) U.fI ["orders"] (fun vs zs H Q E => ∃ as rest, vs = as ++ rest ∧ as.length = 1 ∧ rest.length ≤ sizeLine ∧ ∀ p, H p = none → sp ((as ++ zs) ++ [V.ref p]) (upd H p (.tup rest)) Q E) := by
  obtain ⟨oc, od, kV, doc, pm, an, cdv, ct, osl, e, lk, hcd⟩ := U.FI.ex
  rw [e] at lk
  refine SX.fn_starK (ps := ["self"]) (pv := "operations") (ks := ["orders"]) lk hcd sc_linit StX.cxUp_none (fun us rest ws l1 l2 => ?_) (fun A outer s H vs Q E hr h => hbody cdv A outer s H vs Q E hr h)
  match us, ws, l1, l2 with
  | [a], [b], _, _ => cases rest <;> rfl
theorem of_kw (U : UL K mg) {k : Nat} {sp : Sp} (F : FnOk P w K mg base CX0 k U.fO U.dO ["cls", "operations", "orders"] sp) : SX.FnKw P w K mg base CX0 k U.fO ["orders"] (fun vs zs H Q E => vs.length = 2 ∧ sp (vs ++ zs) H Q E) := by
  obtain ⟨mv, hb⟩ := U.FO.kbinds0 (ps := ["cls", "operations", "orders"]) 2 ["orders"] [] (fun vs mz zs => vs ++ (mz ++ zs)) (by simp) (by simp) (fun a b c => a.append (b.append c)) fun D doc pm an cdv ct us mv ws l1 l2 l3 => by
    match us, mv, ws, l1, l2, l3 with
    | [_, _], [], [_], _, _, _ => rfl
  intro A outer s H us ws vs zs Q E hr e0 r rz lz ⟨hn, hsp⟩
  exact SX.FnKw.of_ok F hb A outer s H us ws vs zs Q E hr e0 r rz lz ⟨hn, by simpa using hsp⟩
end
end K14
namespace K14
open PySem L2
open PyProof.Rows PySem.Spec
/-- what a loop keeps -/
def lpF (d nm o ar op rd un ak : V) : List (Str × V) := putF "_asking" ak (putF "_units" un (putF "_readings" rd (putF "_operations" op (putF "_arcs" ar (putF "_orders" o (putF "_names" nm (putF "_table" d [])))))))
/-- all units that are asked -/
def usL (N : List OM) : List (Str × Int) := N.flatMap fun m => m.2.us
def askL (N : List OM) : List Str := (N.filter fun m => !m.2.us.isEmpty).map fun m => m.2.n
/-- rows and orders that make a loop -/
structure LOk (M : List OM) (os : List Od) : Prop where
  l1 : 1 ≤ M.length
  l8 : M.length ≤ 8
  nd : (nms M).Nodup
  rd : ∀ m ∈ M, ∀ p ∈ m.2.rs, p.1 ∈ nms M
  o8 : os.length ≤ 8
  ok : ∀ o ∈ os, OdOk (nms M) o
  asc : (os.map oK).Pairwise fun p q => KS.kLt p q = true
  rk : ∃ rank : Str → Nat, ∀ o ∈ arcsOf M M ++ os, o.2.2.2 = 0 → rank o.1 < rank o.2.1
theorem arcs_mem {M N : List OM} {o : Od} : o ∈ arcsOf M N ↔ ∃ m ∈ N, ∃ p ∈ m.2.rs, o = (p.1, m.2.n, tkOf M p.1, p.2) := by
  unfold arcsOf arcs1
  rw [List.mem_flatMap]
  constructor
  · rintro ⟨m, hm, h⟩
    obtain ⟨p, hp, e⟩ := List.mem_map.mp h
    exact ⟨m, hm, p, hp, e.symm⟩
  · rintro ⟨m, hm, p, hp, e⟩
    exact ⟨m, hm, List.mem_map.mpr ⟨p, hp, e.symm⟩⟩
theorem tk_perm {M N : List OM} (nd : (nms M).Nodup) (p : N.Perm M) {n : Str} (h : n ∈ nms M) : tkOf N n = tkOf M n := by
  obtain ⟨m, hm, rfl⟩ := List.mem_map.mp h
  show tkOf N m.2.n = tkOf M m.2.n
  rw [tkOf_at nd hm, tkOf_at ((p.map _).nodup_iff.mpr nd) (p.mem_iff.mpr hm)]
theorem arcs_perm {M N : List OM} (nd : (nms M).Nodup) (rd : ∀ m ∈ M, ∀ p ∈ m.2.rs, p.1 ∈ nms M) (p : N.Perm M) (o : Od) : o ∈ arcsOf N N ↔ o ∈ arcsOf M M := by
  rw [arcs_mem, arcs_mem]
  constructor
  · rintro ⟨m, hm, q, hq, e⟩
    have hm' := p.mem_iff.mp hm
    exact ⟨m, hm', q, hq, by rw [e, tk_perm nd p (rd m hm' q hq)]⟩
  · rintro ⟨m, hm, q, hq, e⟩
    exact ⟨m, p.mem_iff.mpr hm, q, hq, by rw [e, tk_perm nd p (rd m hm q hq)]⟩
theorem LOk.perm {M N : List OM} {os : List Od} (h : LOk M os) (p : N.Perm M) : LOk N os := by
  have mem : ∀ n, n ∈ nms N ↔ n ∈ nms M := fun n => (p.map _).mem_iff
  refine ⟨by rw [p.length_eq]; exact h.l1, by rw [p.length_eq]; exact h.l8, (p.map _).nodup_iff.mpr h.nd, fun m hm q hq => (mem _).mpr (h.rd m (p.mem_iff.mp hm) q hq), h.o8, fun o ho => ?_, h.asc, ?_⟩
  · have k := h.ok o ho
    exact ⟨(mem _).mpr k.s, (mem _).mpr k.t, k.d, k.e⟩
  · obtain ⟨rank, hr⟩ := h.rk
    refine ⟨rank, fun o ho => hr o ?_⟩
    rcases List.mem_append.mp ho with ho | ho
    · exact List.mem_append_left _ ((arcs_perm h.nd h.rd p o).mp ho)
    · exact List.mem_append_right _ ho
/-- a loop stands at q: its rows in the order of names, its orders -/
def LpAt (K : PySem.W.Frag) (H : Hp) (C L q : Addr) (N : List OM) (os : List Od) : Prop := LOk N os ∧ sortedS (nms N) = true ∧ OpsAt K H C N ∧ (∀ m ∈ N, m.1 ≠ q) ∧ ∃ (dx d nm o ar op rd un ak : Addr) (as : List Od) (rs : List (Str × Str × Int)) (us : List Str),
  H q = some (.ins L dx (lpF (.ref d) (.ref nm) (.ref o) (.ref ar) (.ref op) (.ref rd) (.ref un) (.ref ak))) ∧ H d = some (.dK (Kvs (Tb N))) ∧ SqT K H nm ((nms N).map V.str) ∧ RowsT K H o (os.map oK) ∧
  RowsT K H ar (as.map oK) ∧ KS.SrtK ((arcsOf N N ++ os).map oK) (as.map oK) ∧ as.length ≤ 32 ∧ SqT K H op (opRefs N) ∧ RowsT K H rd (rs.map rK) ∧ KS.SrtK ((rdsOf N).map rK) (rs.map rK) ∧ SqT K H un (us.map V.str) ∧ KS.Srt ((usL N).map (·.1)) us ∧ SqT K H ak ((askL N).map V.str)
theorem LpAt.same {K : PySem.W.Frag} {H H' : Hp} {C L q : Addr} {N : List OM} {os : List Od} (s : Same H H') (h : LpAt K H C L q N os) : LpAt K H' C L q N os := by
  obtain ⟨h1, h2, h3, h4, dx, d, nm, o, ar, op, rd, un, ak, as, rs, us, a1, a2, a3, a4, a5, a6, a7, a8, a9, b1, b2, b3, b4⟩ := h
  exact ⟨h1, h2, h3.same s, h4, dx, d, nm, o, ar, op, rd, un, ak, as, rs, us, s _ _ a1, s _ _ a2, Same.seqT s a3, a4.same s, a5.same s, a6, a7, Same.seqT s a8, a9.same s, b1, Same.seqT s b2, b3, Same.seqT s b4⟩
section
variable {P : Program} {w : World} {K : PySem.W.Frag}
                                                      {mg : Str → Option Value} {base : Heap}
def sp_take (K : PySem.W.Frag) (C L : Addr) : Sp := fun vs H Q _ => ∃ (q o d nm dx : Addr) (N : List OM) (os : List Od), vs = [.ref q, .ref o] ∧ H q = some (.ins L dx (putF "_names" (.ref nm) (putF "_table" (.ref d) []))) ∧ H d = some (.dK (Kvs (Tb N))) ∧ OpsAt K H C N ∧ (∀ m ∈ N, m.1 ≠ q) ∧ LOk N os ∧ RowsT K H o (os.map oK) ∧
  ∀ (ar : Addr) (as : List Od) (H' : Hp), Ki H H' → But q H H' → H' q = some (.ins L dx (putF "_arcs" (.ref ar) (putF "_orders" (.ref o) (putF "_names" (.ref nm) (putF "_table" (.ref d) []))))) → RowsT K H' ar (as.map oK) → KS.SrtK ((arcsOf N N ++ os).map oK) (as.map oK) → as.length ≤ 32 → Q .non H'
theorem ok_take_orders (T : T K mg) (U : UX K mg) (L : UL K mg) : FnOk P w K mg base CX0 4 L.mt.f L.mt.d ["self", "orders"] (sp_take K U.C L.C) := by
  have G_arcs_of : FnOk P w K mg base CX0 3 T.f_arcs_of T.d_arcs_of ["table", "orders"] (sp_arcs K U.C) := ok_arcs_of T U
  refine L.mt.F.ok sc_Loop_take_orders (fun vs H Q E h => ?_) (fun cdv A outer s H vs Q E hr h => ?_)
  · obtain ⟨q, o, d, nm, dx, N, os, rfl, _⟩ := h
    rfl
  · obtain ⟨q, o, d, nm, dx, N, os, rfl, hq, hd, hN, ne, ok, ho, k⟩ := h
    have hu := hu_of hr
    have hr_arcs_of : Room 3 _ := hr.mono (by decide)
    refine ⟨_, (pss_cons (ps_fld (pv 0) (pv 1) rfl)
      (pss_one (ps_fld (pv 0) (pe_call G_arcs_of hr_arcs_of rfl T.m_arcs_of T.F_arcs_of.kp T.b_arcs_of .nil pass0 (pa_cons (pe_fld (pv 0) rfl) (pa_cons (pv 1) pa_nil))) rfl))), ?_⟩
    refine ⟨_, rfl, _, rfl, q, L.C, dx, _, rfl, hq, L.cl, L.n3, (by show 2 < 1000; decide), ?_⟩
    have ki := Ki.upd (o := .ins L.C dx (putF "_orders" (.ref o) (putF "_names" (.ref nm) (putF "_table" (.ref d) [])))) hq
    have bu : But q H (upd H q (.ins L.C dx (putF "_orders" (.ref o) (putF "_names" (.ref nm) (putF "_table" (.ref d) []))))) := But.upd
    have hq1 : (upd H q (.ins L.C dx (putF "_orders" (.ref o) (putF "_names" (.ref nm) (putF "_table" (.ref d) []))))) q = some (.ins L.C dx (putF "_orders" (.ref o) (putF "_names" (.ref nm) (putF "_table" (.ref d) [])))) := upd_same
    have hd1 := ki _ _ hd (by intro _ _ _ z; cases z)
    have hN1 := hN.but ki bu ne
    have ho1 := ho.ki ki
    generalize upd H q (.ins L.C dx (putF "_orders" (.ref o) (putF "_names" (.ref nm) (putF "_table" (.ref d) [])))) = H1 at ki bu hq1 hd1 hN1 ho1 ⊢
    refine ⟨_, rfl, q, L.C, dx, _, .ref d, rfl, hq1, L.cl, L.n1, rfl, _, rfl, d, o, N, os, rfl, hd1, hN1, ok.nd, ok.l8, ok.rd, ho1, ok.o8, fun ar as H2 S2 har srt l32 => ?_⟩
    refine ⟨_, rfl, q, L.C, dx, _, rfl, S2 _ _ hq1, L.cl, L.n4, (by show 3 < 1000; decide), ?_⟩
    exact k ar as _ (Ki.trans ki (Ki.trans (Ki.same S2) (Ki.upd (S2 _ _ hq1)))) (But.trans bu (But.trans (But.same S2) But.upd)) upd_same (har.ki (Ki.upd (S2 _ _ hq1))) srt l32
end
end K14
namespace K14
open PySem L2
open PyProof.Rows PySem.Spec
section
variable {P : Program} {w : World} {K : PySem.W.Frag}
                                                      {mg : Str → Option Value} {base : Heap}
def sp_first_itemsL (K : PySem.W.Frag) : Sp := fun vs H Q _ => ∃ (x : V) (ps : Prs), vs = [x] ∧ Dp K H x (lD ps) ∧ ps.length < 60 ∧ ∀ (ys : List Str) (l : Addr) H', KS.Srt (ps.map (·.1)) ys → Same H H' → SqT K H' l (ys.map V.str) → Q (.ref l) H'
theorem ok_first_itemsL (T : T K mg) : FnOk P w K mg base CX0 1 T.f_first_items T.d_first_items ["rows"] (sp_first_itemsL K) := by
  refine T.F_first_items.ok sc_first_items (fun vs H Q E h => ?_) (fun cdv A outer s H vs Q E hr h => ?_)
  · obtain ⟨x, ps, rfl, _⟩ := h
    rfl
  · obtain ⟨x, ps, rfl, hx, few, k⟩ := h
    have hu := hu_of hr
    refine ⟨_, (pss_one (ps_ret (pe_callTy call_tuple_of (by rfl) T.z_tuple (by decide +kernel) (pa_cons (pe_callB (KS.cr_sortedK (KS.linkStr _) (enc := PyData.str) rfl KS.rd_str (fun m => un2 hr)) (by rfl) T.z_sorted (by decide +kernel)
      (pa_cons (KS.pe_setc (KS.linkStr _) (own := [("row", 1)]) (g := gName 1) rfl (un1 hr) sc_first_items.nd (pi_list (pv 0)) (blkOk_by (N := ["rows", "row"]) (sc := defScope s_first_items) (by decide +kernel)) (fun _ _ _ _ _ => pg_name (i := 1) sc_first_items.nd rfl (Or.inl rfl)) (fun _ _ _ _ _ => pts_nil)
        (fun _ _ _ _ _ => pe_ix (r := rIx K) ix_seq (pv 1) pe_int (fun _ _ => rfl)) (fun _ _ _ _ => ⟨KS.linkStr _, rfl, rfl⟩)) pa_nil)) pa_nil)))), ?_⟩
    obtain ⟨a, xs, rfl, hS, hd⟩ : ∃ a xs, x = .ref a ∧ SqL K H a xs ∧ DpAll K H xs (ps.map pD) := by
      cases hx with
      | lst h1 h2 => exact ⟨_, _, rfl, h1, h2⟩
    have hn : ps.length = xs.length := by
      have q := dpa_len hd
      rw [List.length_map] at q
      exact q
    refine ⟨_, rfl, a, rfl, ⟨_, hS⟩, fun D hD => ?_⟩
    refine sc_it (KS.linkStr _) (walk_list (K := K) (a := a) (xs := xs)) (fun i H' => ∃ L, H' D = some (KS.SetO (KS.strKit P w) D L) ∧ Same H H' ∧ KS.From (KS.strKit P w) (ps.map (·.1)) i L) ⟨[], upd_same, Same.new hD, KS.From.start _ _⟩ (fun i H' _ ⟨_, _, S, _⟩ => S.seq hS) ?_ ?_
    · rintro i y H1 H2 hi ⟨L, eD, S, g⟩ ⟨rfl, hy⟩
      obtain ⟨p, b, e0, rfl, ht⟩ := dpa_pairs hd hy
      refine ⟨rfl, ?_⟩
      unfold tYes
      dsimp only
      rw [if_pos rfl]
      have lt : L.length ≤ i := g.len
      have e1 : (ps.map (·.1))[i]? = some p.1 := by rw [List.getElem?_map, e0]; rfl
      refine ⟨_, rfl, .inr (.inl ⟨b, [.str p.1, .int p.2], 0, .str p.1, rfl, rfl, Same.seqT S ht, rfl, p.1, L, rfl, eD, True.intro, fun _ _ => True.intro, by omega, fun L' gr => ⟨L', upd_same, Same.at hD S, g.step e1 gr.1 gr.2⟩⟩)⟩
    · rintro H9 ⟨L, eD, S, g⟩
      rw [← hn] at g
      refine ⟨D, L, rfl, eD, fun _ _ => True.intro, PySem.W.AllAlike.of (enc := PyData.str) (fun b b' => by simp [PySem.W.alike]), PySem.W.Sortable.others (enc := PyData.str) (fun b => ⟨by simp, by simp⟩), fun L1 p pm nd hp => ?_⟩
      have nd2 : L.Nodup := by
        have q : (L.map id).Nodup := nd
        rw [List.map_id] at q
        exact q
      have mem : ∀ z, z ∈ L ↔ z ∈ ps.map (·.1) := fun z => by
        have tk : (ps.map (·.1)).take ps.length = ps.map (·.1) := List.take_of_length_le (by rw [List.length_map]; exact Nat.le_refl _)
        constructor
        · intro m
          have q := g.sub z m
          rw [tk] at q
          exact q
        · intro m
          have q : z ∈ L.map id := g.all z (by rw [tk]; exact m)
          rw [List.map_id] at q
          exact q
      have st := KS.srt_of (xs := ps.map (·.1)) nd2 mem pm
      refine ⟨p, _, rfl, .inl ⟨SqL.of upd_same, fun l hl => ?_⟩⟩
      refine k _ l _ st (fun b o e => ?_) (SqT.of upd_same)
      have e9 := S b o e
      rw [upd_ne (ne_of_none (by rw [upd_ne (ne_of_none e9 hp)]; exact e9) hl), upd_ne (ne_of_none e9 hp)]
      exact e9
theorem us_take {N : List OM} {i : Nat} {m : OM} (h : N[i]? = some m) : usL (N.take (i + 1)) = usL (N.take i) ++ m.2.us := by
  unfold usL
  rw [nms_take h, List.flatMap_append]
  simp
theorem us_len {N : List OM} (h : ∀ m ∈ N, m.2.us.length ≤ 4) : (usL N).length ≤ 4 * N.length := by
  induction N with
  | nil => exact Nat.le_refl _
  | cons m N ih =>
    unfold usL at ih ⊢
    rw [List.flatMap_cons, List.length_append, List.length_cons]
    have := h m List.mem_cons_self
    have := ih fun x hx => h x (List.mem_cons_of_mem _ hx)
    omega
theorem ask_of (N : List OM) : N.filterMap (fun m => if (!m.2.us.isEmpty) = true then some (V.str m.2.n) else none) = (askL N).map V.str := by
  unfold askL
  induction N with
  | nil => rfl
  | cons m N ih =>
    by_cases c : (!m.2.us.isEmpty) = true
    · rw [List.filterMap_cons, if_pos c, List.filter_cons, if_pos c, ih]
      rfl
    · rw [List.filterMap_cons, if_neg c, List.filter_cons, if_neg c, ih]
theorem pt_truthK {X : Cx} {K : PySem.W.Frag} {a : Expr} {ta : TE} (hK : X.K = K) (ha : PE X a ta) (he : ∀ whole, isTrue a X.env whole = (do let v ← whole; standAt a.pos; holding [v] (truthy v))) :
    PT X a (fun σ H Q => ta σ H fun x H' => ∃ k, TruV K x H' k ∧ Q k H') := by
  subst hK
  exact pt_truth ha he
def sp_linit (K : PySem.W.Frag) (C L : Addr) : Sp := fun vs H Q _ => ∃ (q o a dx : Addr) (M : List OM) (os : List Od), vs = [.ref q, .ref o, .ref a] ∧ H q = some (.ins L dx []) ∧ SqT K H a (opRefs M) ∧ OpsAt K H C M ∧ (∀ m ∈ M, m.1 ≠ q) ∧ LOk M os ∧ RowsT K H o (os.map oK) ∧
  ∀ (N : List OM) (H' : Hp), But q H H' → N.Perm M → LpAt K H' C L q N os → Q .non H'
theorem linit_body (T : T K mg) (U : UX K mg) (L : UL K mg) : ∀ (cdv : Value) (A : Around) (outer : List Env) (s : Shared) (H : Hp) (vs : List V) (Q : VK) (E : XK), Room 6 (A.deeper (envOfC "Loop.__init__" (defScope s_Loop_init) s.heap.objs.size L.fI cdv)) → sp_linit K U.C L.C vs H Q E →
    ∃ t, PSs (cxOf CX0 P w K mg base ["self", "orders", "operations", "one", "pair"] "Loop.__init__" (defScope s_Loop_init) L.fI cdv A outer s H E) (defBody s_Loop_init) t ∧ t { nx := fun _ H' => Q .non H', rt := Q } (L2.start ["self", "orders", "operations", "one", "pair"] vs) H := by
  have G_table_of : FnOk P w K mg base CX0 5 T.f_table_of T.d_table_of ["operations"] (sp_table K U.C) := ok_table_of T U
  have G_check_orders : FnOk P w K mg base CX0 4 T.f_check_orders T.d_check_orders ["names", "orders"] (sp_check_orders K) := ok_check_orders T
  have G_take : FnOk P w K mg base CX0 4 L.mt.f L.mt.d ["self", "orders"] (sp_take K U.C L.C) := ok_take_orders T U L
  have G_order : FnOk P w K mg base CX0 1 T.f_order_of_round T.d_order_of_round ["names", "arcs"] (sp_order K) := ok_order_of_round T
  have G_readings : FnOk P w K mg base CX0 3 T.f_readings_of T.d_readings_of ["operations"] (sp_readings K U.C) := ok_readings_of T U
  have G_first : FnOk P w K mg base CX0 1 T.f_first_items T.d_first_items ["rows"] (sp_first_itemsL K) := ok_first_itemsL T
  have Gu : FnOk P w K mg base CX0 1 U.pu.g U.pu.d ["self"] (getSp U.C "_uses") := ok_get U.cl U.pu sc_Operation_uses U.n4 ⟨_, _, _, rfl⟩
  have Gn : FnOk P w K mg base CX0 1 U.pn.g U.pn.d ["self"] (getSp U.C "_name") := ok_get U.cl U.pn sc_Operation_name U.n1 ⟨_, _, _, rfl⟩
  intro cdv A outer s H vs Q E hr h
  obtain ⟨q, o, a, dx, M, os, rfl, hq, ha, hM, neM, ok, ho, k⟩ := h
  have hu := hu_of hr
  have hr_table : Room 5 _ := hr.mono (by decide)
  have hr_check : Room 4 _ := hr.mono (by decide)
  have hr_order : Room 1 _ := hr.mono (by decide)
  have hr_read : Room 3 _ := hr.mono (by decide)
  refine ⟨_, (pss_cons (ps_fld (pv 0) (pe_call G_table_of hr_table rfl T.m_table_of T.F_table_of.kp T.b_table_of .nil pass0 (pa_cons (pv 2) pa_nil)) rfl)
    (pss_cons (ps_fld (pv 0) (pe_callTy (RL.cr_tupD rfl) (by rfl) T.z_tuple (by decide +kernel) (pa_cons (pe_fld (pv 0) rfl) pa_nil)) rfl)
    (pss_cons (ps_expr (pe_call G_check_orders hr_check rfl T.m_check_orders T.F_check_orders.kp T.b_check_orders .nil pass0 (pa_cons (pe_fld (pv 0) rfl) (pa_cons (pv 1) pa_nil))))
    (pss_cons (ps_expr (pe_meth (pv 0) L.cl L.mt.m G_take (hr.mono (by decide)) L.mt.b .nil pass0 (pa_cons (pv 1) pa_nil)))
    (pss_cons (ps_if (pt_cmpR op_isN (pe_call G_order hr_order rfl T.m_order_of_round T.F_order_of_round.kp T.b_order_of_round .nil pass0 (pa_cons (pe_fld (pv 0) rfl) (pa_cons (pe_fld (pv 0) rfl) pa_nil))) pe_non (nomark _))
    (pss_one ps_never)
    pss_nil)
    (pss_cons (ps_fld (pv 0) (RL.pe_tupVals rfl (pe_fld (pv 0) rfl) (by rfl) T.z_tuple (by decide +kernel)) rfl)
    (pss_cons (ps_fld (pv 0) (pe_call G_readings hr_read rfl T.m_readings_of T.F_readings_of.kp T.b_readings_of .nil pass0 (pa_cons (pe_fld (pv 0) rfl) pa_nil)) rfl)
    (pss_cons (ps_fld (pv 0) (pe_call G_first hr_order rfl T.m_first_items T.F_first_items.kp T.b_first_items .nil pass0 (pa_cons (pe_lc2 (own := [("one", 3), ("pair", 4)]) (vs1 := [4]) (g := gName 3) (g1 := gName 4) rfl sc_linit.nd (pi_tup (pe_fld (pv 0) rfl)) (blkOk_by (N := ["self", "orders", "operations", "one", "pair"]) (sc := defScope s_Loop_init) (by decide +kernel)) (by decide) (fun _ _ _ _ _ => (pg_name (i := 3) sc_linit.nd rfl (Or.inl rfl))) (fun _ _ _ _ _ => pts_nil) (fun _ _ _ _ _ => (pi_tupK (K := K) rfl (pe_prop (pv 3) U.cl U.pu.pr Gu (hr.mono (by decide)) U.pu.b .nil pass0 rfl))) (fun _ _ _ _ _ => (pg_name (i := 4) sc_linit.nd rfl (Or.inl rfl))) (fun _ _ _ _ _ => pts_nil) (fun _ _ _ _ _ => (pv 4))) pa_nil)) rfl)
    (pss_one (ps_fld (pv 0) (pe_callTy call_tuple_of (by rfl) T.z_tuple (by decide +kernel) (pa_cons (pe_lc (own := [("one", 3)]) (g := gName 3) rfl sc_linit.nd (pi_tup (pe_fld (pv 0) rfl)) (blkOk_by (N := ["self", "orders", "operations", "one", "pair"]) (sc := defScope s_Loop_init) (by decide +kernel)) (fun _ _ _ _ _ => (pg_name (i := 3) sc_linit.nd rfl (Or.inl rfl))) (fun _ _ _ _ _ => pts_one (pt_truthK (K := K) rfl (pe_prop (pv 3) U.cl U.pu.pr Gu (hr.mono (by decide)) U.pu.b .nil pass0 rfl) (fun _ => rfl))) (fun _ _ _ _ _ => (pe_prop (pv 3) U.cl U.pn.pr Gn (hr.mono (by decide)) U.pn.b .nil pass0 rfl))) pa_nil)) rfl)))))))))), ?_⟩
  refine ⟨_, rfl, a, M, rfl, ha, hM, ok.l1, ok.l8, ok.nd, ok.rd, fun d N H1 S1 pN so ed => ?_⟩
  have okN := ok.perm pN
  have hN1 : OpsAt K H1 U.C N := fun m hm => ((hM m (pN.mem_iff.mp hm)).same S1)
  have neN : ∀ m ∈ N, m.1 ≠ q := fun m hm => neM m (pN.mem_iff.mp hm)
  have hq1 := S1 _ _ hq
  have ho1 := ho.same S1
  have B1 : But q H H1 := But.same S1
  refine ⟨_, rfl, q, L.C, dx, _, rfl, hq1, L.cl, L.n1, (by show 0 < 1000; decide), ?_⟩
  have ki := Ki.upd (o := .ins L.C dx (putF "_table" (.ref d) [])) hq1
  have B2 : But q H (upd H1 q (.ins L.C dx (putF "_table" (.ref d) []))) := But.trans B1 But.upd
  have hq2 : (upd H1 q (.ins L.C dx (putF "_table" (.ref d) []))) q = some (.ins L.C dx (putF "_table" (.ref d) [])) := upd_same
  have ed2 := ki _ _ ed (by intro _ _ _ z; cases z)
  have hN2 := hN1.but ki But.upd neN
  have ho2 := ho1.ki ki
  generalize upd H1 q (.ins L.C dx (putF "_table" (.ref d) [])) = H2 at B2 hq2 ed2 hN2 ho2 ⊢
  clear ki hq1 ho1 hN1 ed B1 S1
  refine ⟨_, rfl, q, L.C, dx, _, .ref d, rfl, hq2, L.cl, L.n1, rfl, d, _, rfl, ed2, fun nm hnm => ?_⟩
  have enm : (Kvs (Tb N)).map (fun kv => kV kv.1) = (nms N).map V.str := by
    unfold Kvs Tb nms
    rw [List.map_map, List.map_map, List.map_map]
    rfl
  rw [enm]
  have S3 := Same.new (o := .tup ((nms N).map V.str)) hnm
  have hnm3 : SqT K (upd H2 nm (.tup ((nms N).map V.str))) nm ((nms N).map V.str) := SqT.of upd_same
  have hq3 := S3 _ _ hq2
  have ed3 := S3 _ _ ed2
  have hN3 := hN2.same S3
  have ho3 := ho2.same S3
  have B3 := But.trans B2 (But.same S3)
  generalize upd H2 nm (.tup ((nms N).map V.str)) = H3 at hnm3 hq3 ed3 hN3 ho3 B3 ⊢
  clear S3 hnm hq2 ed2 hN2 ho2 B2
  refine ⟨_, rfl, q, L.C, dx, _, rfl, hq3, L.cl, L.n2, (by show 1 < 1000; decide), ?_⟩
  have ki := Ki.upd (o := .ins L.C dx (putF "_names" (.ref nm) (putF "_table" (.ref d) []))) hq3
  have B4 : But q H (upd H3 q (.ins L.C dx (putF "_names" (.ref nm) (putF "_table" (.ref d) [])))) := But.trans B3 But.upd
  have hq4 : (upd H3 q (.ins L.C dx (putF "_names" (.ref nm) (putF "_table" (.ref d) [])))) q = some (.ins L.C dx (putF "_names" (.ref nm) (putF "_table" (.ref d) []))) := upd_same
  have ed4 := ki _ _ ed3 (by intro _ _ _ z; cases z)
  have hN4 := hN3.but ki But.upd neN
  have ho4 := ho3.ki ki
  have hnm4 := ki.seqT hnm3
  generalize upd H3 q (.ins L.C dx (putF "_names" (.ref nm) (putF "_table" (.ref d) []))) = H4 at B4 hq4 ed4 hN4 ho4 hnm4 ⊢
  clear ki hq3 ed3 hN3 ho3 hnm3 B3
  refine ⟨_, rfl, q, L.C, dx, _, .ref nm, rfl, hq4, L.cl, L.n2, rfl, _, rfl, nm, o, nms N, os, rfl, hnm4, ho4, okN.o8, okN.ok, okN.asc, fun H5 S5 => ?_⟩
  have hq5 := S5 _ _ hq4
  have ed5 := S5 _ _ ed4
  have hN5 := hN4.same S5
  have ho5 := ho4.same S5
  have hnm5 := Same.seqT S5 hnm4
  have B5 := But.trans B4 (But.same S5)
  clear S5 hq4 ed4 hN4 ho4 hnm4 B4
  refine ⟨_, rfl, q, dx, _, rfl, hq5, rfl, _, rfl, q, o, d, nm, dx, N, os, rfl, hq5, ed5, hN5, neN, okN, ho5, fun ar as H6 ki b6 hq6 har srt l32 => ?_⟩
  have ed6 := ki _ _ ed5 (by intro _ _ _ z; cases z)
  have hN6 := hN5.but ki b6 neN
  have ho6 := ho5.ki ki
  have hnm6 := ki.seqT hnm5
  have B6 := But.trans B5 b6
  clear ki b6 hq5 ed5 hN5 ho5 hnm5 B5
  obtain ⟨rank, rkh⟩ := okN.rk
  have rk2 : ∀ x ∈ as, x.2.2.2 = 0 → rank x.1 < rank x.2.1 := fun x hx => rkh x (by
    obtain ⟨y, hy, e⟩ := List.mem_map.mp ((srt.2.2 (oK x)).mp (List.mem_map.mpr ⟨x, hx, rfl⟩))
    rw [← oK_inj e]
    exact hy)
  have ln : (nms N).length = N.length := List.length_map ..
  have l8 := okN.l8
  refine ⟨_, rfl, q, L.C, dx, _, .ref nm, rfl, hq6, L.cl, L.n2, rfl, _, rfl, q, L.C, dx, _, .ref ar, rfl, hq6, L.cl, L.n4, rfl, nm, ar, nms N, as, rank, rfl, hnm6, har, by omega, by omega, rk2, fun l H7 S7 => ?_⟩
  refine ⟨rfl, _, rfl, ?_⟩
  refine iteF ?_
  have hq7 := S7 _ _ hq6
  have ed7 := S7 _ _ ed6
  have hN7 := hN6.same S7
  have ho7 := ho6.same S7
  have har7 := har.same S7
  have hnm7 := Same.seqT S7 hnm6
  have B7 := But.trans B6 (But.same S7)
  clear S7 hq6 ed6 hN6 ho6 hnm6 B6 har
  refine ⟨_, rfl, q, L.C, dx, _, .ref d, rfl, hq7, L.cl, L.n1, rfl, d, _, rfl, ed7, fun op hop => ?_⟩
  have eop : (Kvs (Tb N)).map (·.2) = opRefs N := by
    unfold Kvs Tb opRefs
    rw [List.map_map, List.map_map]
    rfl
  rw [eop]
  have S8 := Same.new (o := .tup (opRefs N)) hop
  have hop8 : SqT K (upd H7 op (.tup (opRefs N))) op (opRefs N) := SqT.of upd_same
  have hq8 := S8 _ _ hq7
  have ed8 := S8 _ _ ed7
  have hN8 := hN7.same S8
  have ho8 := ho7.same S8
  have har8 := har7.same S8
  have hnm8 := Same.seqT S8 hnm7
  have B8 := But.trans B7 (But.same S8)
  generalize upd H7 op (.tup (opRefs N)) = H8 at hop8 hq8 ed8 hN8 ho8 har8 hnm8 B8 ⊢
  clear S8 hop hq7 ed7 hN7 ho7 har7 hnm7 B7
  refine ⟨_, rfl, q, L.C, dx, _, rfl, hq8, L.cl, L.n5, (by show 4 < 1000; decide), ?_⟩
  have ki := Ki.upd (o := .ins L.C dx (putF "_operations" (.ref op) (putF "_arcs" (.ref ar) (putF "_orders" (.ref o) (putF "_names" (.ref nm) (putF "_table" (.ref d) [])))))) hq8
  have B9 : But q H (upd H8 q (.ins L.C dx (putF "_operations" (.ref op) (putF "_arcs" (.ref ar) (putF "_orders" (.ref o) (putF "_names" (.ref nm) (putF "_table" (.ref d) []))))))) := But.trans B8 But.upd
  have hq9 : (upd H8 q (.ins L.C dx (putF "_operations" (.ref op) (putF "_arcs" (.ref ar) (putF "_orders" (.ref o) (putF "_names" (.ref nm) (putF "_table" (.ref d) []))))))) q = some (.ins L.C dx (putF "_operations" (.ref op) (putF "_arcs" (.ref ar) (putF "_orders" (.ref o) (putF "_names" (.ref nm) (putF "_table" (.ref d) [])))))) := upd_same
  have ed9 := ki _ _ ed8 (by intro _ _ _ z; cases z)
  have hN9 := hN8.but ki But.upd neN
  have ho9 := ho8.ki ki
  have har9 := har8.ki ki
  have hnm9 := ki.seqT hnm8
  have hop9 := ki.seqT hop8
  generalize upd H8 q (.ins L.C dx (putF "_operations" (.ref op) (putF "_arcs" (.ref ar) (putF "_orders" (.ref o) (putF "_names" (.ref nm) (putF "_table" (.ref d) [])))))) = H9 at B9 hq9 ed9 hN9 ho9 har9 hnm9 hop9 ⊢
  clear ki hq8 B8 ed8 hN8 ho8 har8 hnm8 hop8
  refine ⟨_, rfl, q, L.C, dx, _, .ref op, rfl, hq9, L.cl, L.n5, rfl, op, N, rfl, hop9, hN9, l8, fun rd rs H10 SR hrd10 srtR l24 => ?_⟩
  have hq10 := SR _ _ hq9
  have B10 := But.trans B9 (But.same SR)
  have ed10 := SR _ _ ed9
  have hN10 := hN9.same SR
  have ho10 := ho9.same SR
  have har10 := har9.same SR
  have hnm10 := Same.seqT SR hnm9
  have hop10 := Same.seqT SR hop9
  clear hq9 B9 ed9 hN9 ho9 har9 hnm9 hop9
  refine ⟨_, rfl, q, L.C, dx, _, rfl, hq10, L.cl, L.n6, (by show 5 < 1000; decide), ?_⟩
  have ki := Ki.upd (o := .ins L.C dx (putF "_readings" (.ref rd) (putF "_operations" (.ref op) (putF "_arcs" (.ref ar) (putF "_orders" (.ref o) (putF "_names" (.ref nm) (putF "_table" (.ref d) []))))))) hq10
  have B11 : But q H (upd H10 q (.ins L.C dx (putF "_readings" (.ref rd) (putF "_operations" (.ref op) (putF "_arcs" (.ref ar) (putF "_orders" (.ref o) (putF "_names" (.ref nm) (putF "_table" (.ref d) [])))))))) := But.trans B10 But.upd
  have hq11 : (upd H10 q (.ins L.C dx (putF "_readings" (.ref rd) (putF "_operations" (.ref op) (putF "_arcs" (.ref ar) (putF "_orders" (.ref o) (putF "_names" (.ref nm) (putF "_table" (.ref d) [])))))))) q = some (.ins L.C dx (putF "_readings" (.ref rd) (putF "_operations" (.ref op) (putF "_arcs" (.ref ar) (putF "_orders" (.ref o) (putF "_names" (.ref nm) (putF "_table" (.ref d) []))))))) := upd_same
  have ed11 := ki _ _ ed10 (by intro _ _ _ z; cases z)
  have hN11 := hN10.but ki But.upd neN
  have ho11 := ho10.ki ki
  have har11 := har10.ki ki
  have hnm11 := ki.seqT hnm10
  have hop11 := ki.seqT hop10
  have hrd11 := hrd10.ki ki
  generalize upd H10 q (.ins L.C dx (putF "_readings" (.ref rd) (putF "_operations" (.ref op) (putF "_arcs" (.ref ar) (putF "_orders" (.ref o) (putF "_names" (.ref nm) (putF "_table" (.ref d) []))))))) = H11 at B11 hq11 ed11 hN11 ho11 har11 hnm11 hop11 hrd11 ⊢
  clear ki hq10 B10 ed10 hN10 ho10 har10 hnm10 hop10 hrd10
  refine ⟨_, rfl, q, L.C, dx, _, .ref op, rfl, hq11, L.cl, L.n5, rfl, op, rfl, ⟨_, hop11⟩, fun D hD => ?_⟩
  have lo : (opRefs N).length = N.length := List.length_map ..
  have ul : ∀ i, (usL (N.take i)).length ≤ 32 := fun i => by
    have := us_len (N := N.take i) fun m hm => (hN11 m (List.mem_of_mem_take hm)).1.ul
    rw [List.length_take] at this
    omega
  refine lc2_out (walk_tup (K := K) (a := op) (xs := opRefs N)) (fun i H' => Same H11 H' ∧ ∃ xs, H' D = some (.lst xs) ∧ DpAll K H' xs ((usL (N.take i)).map pD)) ⟨Same.new hD, [], upd_same, .nil⟩ (fun i H' _ h => Same.seqT h.1 hop11) ?_ ?_
  · rintro i x Ha Hb hi ⟨Sa, xs, eD, da⟩ ⟨rfl, hx⟩
    rw [lo] at hi
    have em : N[i]? = some N[i] := List.getElem?_eq_getElem hi
    have tk := us_take em
    have mN : N[i] ∈ N := List.getElem_mem hi
    unfold opRefs at hx
    rw [List.getElem?_map, em] at hx
    cases hx
    generalize N[i] = m at em tk mN ⊢
    obtain ⟨okm, dm, x3, x4, hp, h3, h4⟩ := hN11 m mN
    obtain ⟨ra, zs, rfl, hra, hzs⟩ : ∃ ra zs, x4 = .ref ra ∧ SqT K H11 ra zs ∧ DpAll K H11 zs (m.2.us.map pD) := by
      cases h4 with
      | tup t1 t2 => exact ⟨_, _, rfl, t1, t2⟩
    have lz : zs.length = m.2.us.length := by
      have := dpa_len hzs
      rw [List.length_map] at this
      omega
    refine ⟨rfl, ?_⟩
    refine yesT (iteT ?_)
    refine ⟨_, rfl, m.1, dm, _, rfl, Sa _ _ hp, m.1, dm, _, .ref ra, rfl, Sa _ _ hp, rfl, ?_⟩
    refine ⟨ra, rfl, ⟨_, Same.seqT Sa hra⟩, ?_⟩
    refine lc2_in (walk_tup (K := K) (a := ra) (xs := zs)) (fun j H' => Same H11 H' ∧ ∃ xs, H' D = some (.lst xs) ∧ DpAll K H' xs ((usL (N.take i) ++ m.2.us.take j).map pD)) ⟨Sa, xs, eD, by simpa using da⟩ (fun j H' _ h => Same.seqT h.1 hra) ?_ ?_
    · rintro j y Hc Hd hj ⟨Sc, xs, eD, da⟩ ⟨rfl, hy⟩
      obtain ⟨pr, epr, dp⟩ := dpa_at hzs hy
      have aj : m.2.us.take (j + 1) = m.2.us.take j ++ [pr] := by rw [List.take_add_one, epr]; rfl
      have lx : xs.length ≤ 36 := by
        have e1 := dpa_len da
        rw [List.length_map, List.length_append, List.length_take] at e1
        have := ul i
        have := okm.ul
        omega
      refine ⟨rfl, ?_⟩
      refine yesT (iteT ?_)
      refine ⟨_, rfl, xs, eD, by rw [sizeLine_eq]; omega, Same.at hD Sc, xs ++ [y], upd_same, ?_⟩
      have nl : NoL Hd (upd Hd D (.lst (xs ++ [y]))) := NoL.put eD
      rw [aj, ← List.append_assoc, List.map_append]
      exact dpa_snoc (pairs_nol nl da) (pair_nol nl (dp_same Sc _ _ dp))
    · rintro G ⟨SG, xs, eD, da⟩
      have e9 : m.2.us.take zs.length = m.2.us := List.take_of_length_le (by omega)
      rw [e9, ← tk] at da
      exact ⟨SG, xs, eD, da⟩
  rintro H12 ⟨SU, xs, eD, da⟩
  rw [lo, List.take_length] at da
  have hq12 := SU _ _ hq11
  have B12 := But.trans B11 (But.same SU)
  have ed12 := SU _ _ ed11
  have hN12 := hN11.same SU
  have ho12 := ho11.same SU
  have har12 := har11.same SU
  have hnm12 := Same.seqT SU hnm11
  have hop12 := Same.seqT SU hop11
  have hrd12 := hrd11.same SU
  clear hq11 B11 ed11 hN11 ho11 har11 hnm11 hop11 hrd11
  refine ⟨.ref D, usL N, rfl, .lst (SqL.of eD) da, by have := ul N.length; rw [List.take_length] at this; omega, fun us un H13 srtU SV hun13 => ?_⟩
  have hq13 := SV _ _ hq12
  have B13 := But.trans B12 (But.same SV)
  have ed13 := SV _ _ ed12
  have hN13 := hN12.same SV
  have ho13 := ho12.same SV
  have har13 := har12.same SV
  have hnm13 := Same.seqT SV hnm12
  have hop13 := Same.seqT SV hop12
  have hrd13 := hrd12.same SV
  clear hq12 B12 ed12 hN12 ho12 har12 hnm12 hop12 hrd12
  refine ⟨_, rfl, q, L.C, dx, _, rfl, hq13, L.cl, L.n7, (by show 6 < 1000; decide), ?_⟩
  have ki := Ki.upd (o := .ins L.C dx (putF "_units" (.ref un) (putF "_readings" (.ref rd) (putF "_operations" (.ref op) (putF "_arcs" (.ref ar) (putF "_orders" (.ref o) (putF "_names" (.ref nm) (putF "_table" (.ref d) [])))))))) hq13
  have B14 : But q H (upd H13 q (.ins L.C dx (putF "_units" (.ref un) (putF "_readings" (.ref rd) (putF "_operations" (.ref op) (putF "_arcs" (.ref ar) (putF "_orders" (.ref o) (putF "_names" (.ref nm) (putF "_table" (.ref d) []))))))))) := But.trans B13 But.upd
  have hq14 : (upd H13 q (.ins L.C dx (putF "_units" (.ref un) (putF "_readings" (.ref rd) (putF "_operations" (.ref op) (putF "_arcs" (.ref ar) (putF "_orders" (.ref o) (putF "_names" (.ref nm) (putF "_table" (.ref d) []))))))))) q = some (.ins L.C dx (putF "_units" (.ref un) (putF "_readings" (.ref rd) (putF "_operations" (.ref op) (putF "_arcs" (.ref ar) (putF "_orders" (.ref o) (putF "_names" (.ref nm) (putF "_table" (.ref d) [])))))))) := upd_same
  have ed14 := ki _ _ ed13 (by intro _ _ _ z; cases z)
  have hN14 := hN13.but ki But.upd neN
  have ho14 := ho13.ki ki
  have har14 := har13.ki ki
  have hnm14 := ki.seqT hnm13
  have hop14 := ki.seqT hop13
  have hrd14 := hrd13.ki ki
  have hun14 := ki.seqT hun13
  generalize upd H13 q (.ins L.C dx (putF "_units" (.ref un) (putF "_readings" (.ref rd) (putF "_operations" (.ref op) (putF "_arcs" (.ref ar) (putF "_orders" (.ref o) (putF "_names" (.ref nm) (putF "_table" (.ref d) [])))))))) = H14 at B14 hq14 ed14 hN14 ho14 har14 hnm14 hop14 hrd14 hun14 ⊢
  clear ki hq13 B13 ed13 hN13 ho13 har13 hnm13 hop13 hrd13 hun13
  refine ⟨_, rfl, q, L.C, dx, _, .ref op, rfl, hq14, L.cl, L.n5, rfl, op, rfl, ⟨_, hop14⟩, fun D hD => ?_⟩
  refine lc_pick (g := gName 3) (tt := fun σ H Q => tProp U.C (getSp U.C "_uses") [] E0 (tVar 3) σ H fun x H' => ∃ k, TruV K x H' k ∧ Q k H') (te := tProp U.C (getSp U.C "_name") [] E0 (tVar 3)) (e := fun m : OM => V.ref m.1) (l := N) (walk_tup (K := K) (a := op)) (fun m => if (!m.2.us.isEmpty) = true then some (V.str m.2.n) else none) (fun H' S => Same.seqT S hop14) (by omega) hD ?_ ?_
  · intro m H' hm Sx C NN post
    obtain ⟨okm, dm, x3, x4, hp, h3, h4⟩ := (hN14 m hm).same Sx
    obtain ⟨ra, zs, rfl, hra, hzs⟩ : ∃ ra zs, x4 = .ref ra ∧ SqT K H' ra zs ∧ DpAll K H' zs (m.2.us.map pD) := by
      cases h4 with
      | tup t1 t2 => exact ⟨_, _, rfl, t1, t2⟩
    have ez : (!zs.isEmpty) = !m.2.us.isEmpty := by
      have e1 := dpa_len hzs
      rw [List.length_map] at e1
      cases zs <;> cases e : m.2.us <;> simp_all
    refine ⟨rfl, ?_⟩
    refine ⟨_, rfl, m.1, dm, _, rfl, hp, m.1, dm, _, .ref ra, rfl, hp, rfl, ?_⟩
    refine ⟨_, .inr (.inl ⟨_, hra, rfl⟩), ?_⟩
    rw [ez]
    have pp := post H' (Same.refl _)
    cases c : (!m.2.us.isEmpty) with
    | false =>
      rw [c] at pp
      exact iteF pp
    | true =>
      rw [c] at pp
      exact iteT ⟨_, rfl, m.1, dm, _, rfl, hp, m.1, dm, _, .str m.2.n, rfl, hp, rfl, pp⟩
  intro H15 SK eD
  rw [ask_of] at eD
  have hq15 := SK _ _ hq14
  have B15 := But.trans B14 (But.same SK)
  have ed15 := SK _ _ ed14
  have hN15 := hN14.same SK
  have ho15 := ho14.same SK
  have har15 := har14.same SK
  have hnm15 := Same.seqT SK hnm14
  have hop15 := Same.seqT SK hop14
  have hrd15 := hrd14.same SK
  have hun15 := Same.seqT SK hun14
  clear hq14 B14 ed14 hN14 ho14 har14 hnm14 hop14 hrd14 hun14
  refine ⟨D, _, rfl, .inl ⟨SqL.of eD, fun ak hak => ?_⟩⟩
  have SA := Same.new (o := .tup ((askL N).map V.str)) hak
  have hak16 : SqT K (upd H15 ak (.tup ((askL N).map V.str))) ak ((askL N).map V.str) := SqT.of upd_same
  have hq16 := SA _ _ hq15
  have B16 := But.trans B15 (But.same SA)
  have ed16 := SA _ _ ed15
  have hN16 := hN15.same SA
  have ho16 := ho15.same SA
  have har16 := har15.same SA
  have hnm16 := Same.seqT SA hnm15
  have hop16 := Same.seqT SA hop15
  have hrd16 := hrd15.same SA
  have hun16 := Same.seqT SA hun15
  clear hq15 B15 ed15 hN15 ho15 har15 hnm15 hop15 hrd15 hun15
  generalize upd H15 ak (.tup ((askL N).map V.str)) = H16 at hq16 B16 ed16 hN16 ho16 har16 hnm16 hop16 hrd16 hun16 hak16 ⊢
  refine ⟨_, rfl, q, L.C, dx, _, rfl, hq16, L.cl, L.n8, (by show 7 < 1000; decide), ?_⟩
  have ki := Ki.upd (o := .ins L.C dx (putF "_asking" (.ref ak) (putF "_units" (.ref un) (putF "_readings" (.ref rd) (putF "_operations" (.ref op) (putF "_arcs" (.ref ar) (putF "_orders" (.ref o) (putF "_names" (.ref nm) (putF "_table" (.ref d) []))))))))) hq16
  have B17 : But q H (upd H16 q (.ins L.C dx (putF "_asking" (.ref ak) (putF "_units" (.ref un) (putF "_readings" (.ref rd) (putF "_operations" (.ref op) (putF "_arcs" (.ref ar) (putF "_orders" (.ref o) (putF "_names" (.ref nm) (putF "_table" (.ref d) [])))))))))) := But.trans B16 But.upd
  have hq17 : (upd H16 q (.ins L.C dx (putF "_asking" (.ref ak) (putF "_units" (.ref un) (putF "_readings" (.ref rd) (putF "_operations" (.ref op) (putF "_arcs" (.ref ar) (putF "_orders" (.ref o) (putF "_names" (.ref nm) (putF "_table" (.ref d) [])))))))))) q = some (.ins L.C dx (putF "_asking" (.ref ak) (putF "_units" (.ref un) (putF "_readings" (.ref rd) (putF "_operations" (.ref op) (putF "_arcs" (.ref ar) (putF "_orders" (.ref o) (putF "_names" (.ref nm) (putF "_table" (.ref d) []))))))))) := upd_same
  have ed17 := ki _ _ ed16 (by intro _ _ _ z; cases z)
  have hN17 := hN16.but ki But.upd neN
  have ho17 := ho16.ki ki
  have har17 := har16.ki ki
  have hnm17 := ki.seqT hnm16
  have hop17 := ki.seqT hop16
  have hrd17 := hrd16.ki ki
  have hun17 := ki.seqT hun16
  have hak17 := ki.seqT hak16
  generalize upd H16 q (.ins L.C dx (putF "_asking" (.ref ak) (putF "_units" (.ref un) (putF "_readings" (.ref rd) (putF "_operations" (.ref op) (putF "_arcs" (.ref ar) (putF "_orders" (.ref o) (putF "_names" (.ref nm) (putF "_table" (.ref d) []))))))))) = H17 at B17 hq17 ed17 hN17 ho17 har17 hnm17 hop17 hrd17 hun17 hak17 ⊢
  clear ki hq16 B16 ed16 hN16 ho16 har16 hnm16 hop16 hrd16 hun16 hak16
  exact k N _ B17 pN ⟨okN, so, hN17, neN, dx, d, nm, o, ar, op, rd, un, ak, as, rs, us, hq17, ed17, hnm17, ho17, har17, srt, l32, hop17, hrd17, srtR, hun17, srtU, hak17⟩
theorem ok_linit (T : T K mg) (U : UX K mg) (L : UL K mg) : SX.FnKw P w K mg base CX0 7 L.fI ["orders"] (fun vs zs H Q E => ∃ as rest, vs = as ++ rest ∧ as.length = 1 ∧ rest.length ≤ sizeLine ∧ ∀ p, H p = none → sp_linit K U.C L.C ((as ++ zs) ++ [V.ref p]) (upd H p (.tup rest)) Q E) := linit_kw L (sp := sp_linit K U.C L.C) (linit_body T U L)
end
end K14
namespace K14
open PySem L2
open PyProof.Rows PySem.Spec
theorem ty_seqT {K : PySem.W.Frag} {H : Hp} {a : Addr} {xs : List V} (h : SqT K H a xs) : TyX K H (.ref a) (.type "tuple") := by
  rcases h with (h | ⟨o, h⟩) | ⟨o, its, n, h1, h2, _⟩
  · exact .base (.tup h)
  · exact .fTuple h
  · exact .kTuple h1 h2
section
variable {P : Program} {w : World} {K : PySem.W.Frag}
                                                      {mg : Str → Option Value} {base : Heap}
def sp_of (K : PySem.W.Frag) (C L : Addr) : Sp := fun vs H Q _ => ∃ (a o : Addr) (M : List OM) (os : List Od), vs = [.ref L, .ref a, .ref o] ∧ SqT K H a (opRefs M) ∧ OpsAt K H C M ∧ LOk M os ∧ RowsT K H o (os.map oK) ∧
  ∀ (q : Addr) (N : List OM) (H' : Hp), Same H H' → H q = none → N.Perm M → LpAt K H' C L q N os → Q (.ref q) H'
theorem made_loop {C L x dx o : Addr} {M : List OM} {os : List Od} {H : Hp} {Q : VK} {E : XK} (hM : OpsAt K H C M) (ok : LOk M os) (ho : RowsT K H o (os.map oK)) (hx : H x = none) (hdx : H dx = none) (nd : dx ≠ x)
    (k : ∀ (q : Addr) (N : List OM) (H' : Hp), Same H H' → H q = none → N.Perm M → LpAt K H' C L q N os → Q (.ref q) H') :
    ∃ as rest, V.ref x :: opRefs M = as ++ rest ∧ as.length = 1 ∧ rest.length ≤ sizeLine ∧ ∀ p, (upd (upd H dx (.own x)) x (.ins L dx [])) p = none → sp_linit K C L ((as ++ [V.ref o]) ++ [V.ref p]) (upd (upd (upd H dx (.own x)) x (.ins L dx [])) p (.tup rest)) (fun v H3 => v = .non ∧ Q (.ref x) H3) E := by
  have lo : (opRefs M).length = M.length := List.length_map ..
  have l8 := ok.l8
  refine ⟨[.ref x], opRefs M, rfl, rfl, by rw [lo, sizeLine_eq]; omega, fun p hp => ?_⟩
  have npx : p ≠ x := fun z => by rw [z, upd_same] at hp; cases hp
  have S1 : Same H (upd (upd H dx (.own x)) x (.ins L dx [])) := Same.trans (Same.new hdx) (Same.new (by rw [upd_ne nd.symm]; exact hx))
  have S2 : Same H (upd (upd (upd H dx (.own x)) x (.ins L dx [])) p (.tup (opRefs M))) := Same.trans S1 (Same.new hp)
  have hq : (upd (upd (upd H dx (.own x)) x (.ins L dx [])) p (.tup (opRefs M))) x = some (.ins L dx []) := by rw [upd_ne npx.symm, upd_same]
  refine ⟨x, o, p, dx, M, os, rfl, hq, SqT.of upd_same, hM.same S2, fun m hm z => ?_, ok, ho.same S2, fun N H' B pN hl => ⟨rfl, ?_⟩⟩
  · obtain ⟨_, d2, x3, x4, h1, _⟩ := hM m hm
    rw [z, hx] at h1
    cases h1
  · exact k x N H' (fun b u e => B b u (fun z => by rw [z, hx] at e; cases e) (S2 _ _ e)) hx pN hl
theorem ok_of (T : T K mg) (U : UX K mg) (L : UL K mg) : FnOk P w K mg base CX0 9 L.fO L.dO ["cls", "operations", "orders"] (sp_of K U.C L.C) := by
  refine L.FO.ok sc_Loop_of (fun vs H Q E h => ?_) (fun cdv A outer s H vs Q E hr h => ?_)
  · obtain ⟨a, o, M, os, rfl, _⟩ := h
    rfl
  · obtain ⟨a, o, M, os, rfl, ha, hM, ok, ho, k⟩ := h
    have hu := hu_of hr
    refine ⟨_, (pss_cons (ps_if (pt_not (pt_val (pe_callB call_isi (by rfl) T.z_isinstance (by decide +kernel) (pa_cons (pv 1) (pa_cons (pe_bltn (v := V.ty "tuple") (u := Value.type "tuple") (by rfl) T.z_tuple (by decide +kernel) rfl) pa_nil)))))
      (pss_one ps_never)
      pss_nil)
      (pss_one (ps_ret (SX.pe_makeSK (i := 0) L.mkI (ok_linit T U L) (hr.mono (by decide)) rfl (Or.inl rfl) pass0 (pv 1) (pk_cons (pv 2) pk_nil))))), ?_⟩
    refine ⟨_, rfl, _, _, _, _, true, rfl, .ty _, ty_seqT ha, kit_ty (a := "tuple") (b := "tuple") (by decide +kernel), _, rfl, iteF ?_⟩
    refine ⟨rfl, _, rfl, a, _, rfl, _, rfl, .inl ha, rfl, fun x dx hx hdx nd => ?_⟩
    exact made_loop hM ok ho hx hdx nd k
end
end K14
namespace K14
open PySem L2
open PyProof.Rows PySem.Spec
theorem picks {α : Type} {e : α → V} (l : List α) : l.filterMap (fun x => some (e x)) = l.map e := by
  induction l with
  | nil => rfl
  | cons a l ih => rw [List.filterMap_cons, List.map_cons, ih]
theorem iteX {b : Bool} {A B : Prop} (e : b = false) (h : B) : if b = true then A else B := by
  rw [e]
  exact iteF h
/-- is the dict a table of these names -/
def tabB (kvs : List (Key × V)) (ns : List Str) (dat : Str → PyData) (lo hi : Int) : Bool := decide (kvs.length = ns.length) && ns.all fun n => (valV kvs (.inr n)).isSome && inD lo hi (dat n)
/-- a value that is asked to be a table: a dict whose values are data, or no dict; and what is said of it -/
def TabV (K : PySem.W.Frag) (ns : List Str) (lo hi : Int) (y : V) (H : Hp) (Q : Bool → Hp → Prop) : Prop :=
  (∃ (d : Addr) (kvs : List (Key × V)) (dat : Str → PyData), y = .ref d ∧ H d = some (.dK kvs) ∧ (∀ n ∈ ns, ∀ v, valV kvs (.inr n) = some v → Dp K H v (dat n)) ∧ ∀ H', Same H H' → Q (tabB kvs ns dat lo hi) H') ∨
    (∃ n, n ∈ ["NoneType", "list", "tuple"] ∧ TyX K H y (.type n) ∧ Q false H)
section
variable {P : Program} {w : World} {K : PySem.W.Frag}
                                                      {mg : Str → Option Value} {base : Heap}
def sp_is_table (K : PySem.W.Frag) : Sp := fun vs H Q _ => ∃ (nm : Addr) (y : V) (ns : List Str) (lo hi : Int), vs = [.ref nm, y, .int lo, .int hi] ∧ SqT K H nm (ns.map V.str) ∧ ns.length ≤ 8 ∧ TabV K ns lo hi y H (fun b => Q (.bl b))
theorem ok_is_table (T : T K mg) : FnOk P w K mg base CX0 3 T.f_is_table T.d_is_table ["names", "value", "low", "high"] (sp_is_table K) := by
  have G_is_between : FnOk P w K mg base CX0 2 T.f_is_between T.d_is_between ["value", "low", "high"] (sp_is_between K) := ok_is_between T
  refine T.F_is_table.ok sc_is_table (fun vs H Q E h => ?_) (fun cdv A outer s H vs Q E hr h => ?_)
  · obtain ⟨nm, y, ns, lo, hi, rfl, _⟩ := h
    rfl
  · obtain ⟨nm, y, ns, lo, hi, rfl, hn, n8, h⟩ := h
    have hu := hu_of hr
    have hr_is_between : Room 2 _ := hr.mono (by decide)
    refine ⟨_, (pss_cons (ps_if (PW.pt (pw_or (pt_not (pt_val (pe_callB call_isi (by rfl) T.z_isinstance (by decide +kernel) (pa_cons (pv 1) (pa_cons (pe_bltn (v := V.ty "dict") (u := Value.type "dict") (by rfl) T.z_dict (by decide +kernel) rfl) pa_nil))))) (pw_or1 (pt_cmpR op_ne (pe_callB call_lenD (by rfl) T.z_len (by decide +kernel) (pa_cons (pv 1) pa_nil)) (pe_callB call_len (by rfl) T.z_len (by decide +kernel) (pa_cons (pv 0) pa_nil)) (nomark _)))))
      (pss_one (ps_ret pe_bl))
      pss_nil)
      (pss_one (ps_ret (pe_callB (cr_all rfl) (by rfl) T.z_all (by decide +kernel) (pa_cons (pe_lc (own := [("name", 4)]) (g := gName 4) rfl sc_is_table.nd (pi_tup (pv 0)) (blkOk_by (N := ["names", "value", "low", "high", "name"]) (sc := defScope s_is_table) (by decide +kernel)) (fun _ _ _ _ _ => (pg_name (i := 4) sc_is_table.nd rfl (Or.inl rfl))) (fun _ _ _ _ _ => pts_nil) (fun _ _ _ _ _ => (pe_and (pe_cmp (pc_din (by exact hu) (pv 4) (pv 1))) (pe_one (pe_call G_is_between hr_is_between rfl T.m_is_between T.F_is_between.kp T.b_is_between .nil pass0 (pa_cons (pe_dget (by exact hu) (pv 1) (pv 4) (fun _ _ => rfl)) (pa_cons (pv 2) (pa_cons (pv 3) pa_nil)))))))) pa_nil))))), ?_⟩
    rcases h with ⟨d, kvs, dat, rfl, hd, hdat, k⟩ | ⟨n, hm, ty, k⟩
    · refine ⟨_, rfl, _, _, _, _, true, rfl, .ty _, .base (.dK hd), kit_ty (by decide +kernel), _, rfl, iteF ?_⟩
      refine ⟨_, rfl, d, kvs, rfl, hd, _, rfl, _, _, rfl, .inr ⟨_, hn, rfl⟩, ?_⟩
      rw [List.length_map]
      refine ⟨rfl, _, rfl, ?_⟩
      by_cases c : kvs.length = ns.length
      · rw [show (!decide (V.int ((kvs.length : Nat) : Int) = V.int ((ns.length : Nat) : Int))) = false by rw [c, decide_eq_true rfl]; rfl]
        refine iteF ?_
        refine ⟨_, rfl, nm, rfl, ⟨_, hn⟩, fun D hD => ?_⟩
        refine lc_pick (e := V.str) (l := ns) (walk_tup (K := K) (a := nm)) (fun n => some (V.bl ((valV kvs (.inr n)).isSome && inD lo hi (dat n)))) (fun G' S => Same.seqT S hn) (by omega) hD ?_ ?_
        · intro n G' hm Sx C Nn post
          refine ⟨rfl, ?_⟩
          refine yesT (iteT ?_)
          have dg := DGet.k (k := Sum.inr n) (Sx _ _ hd)
          refine ⟨_, rfl, _, rfl, d, _, rfl, dg, ?_⟩
          cases e : valV kvs (.inr n) with
          | none =>
            rw [e] at post
            refine ⟨_, rfl, ?_⟩
            exact iteF (post G' (Same.refl _))
          | some v =>
            rw [e] at post
            refine ⟨_, rfl, iteT ?_⟩
            rw [e] at dg
            refine ⟨_, rfl, _, rfl, d, v, rfl, dg, _, rfl, _, rfl, v, dat n, lo, hi, rfl, .inl (dp_same Sx _ _ (hdat n hm v e)), ?_⟩
            exact post G' (Same.refl _)
        · intro G2 S2 eD
          rw [picks (e := fun n => V.bl ((valV kvs (.inr n)).isSome && inD lo hi (dat n)))] at eD
          refine ⟨D, ns.map fun n => (valV kvs (.inr n)).isSome && inD lo hi (dat n), rfl, SqL.of (by rw [eD, List.map_map]; rfl), ?_⟩
          have := k G2 S2
          unfold tabB at this
          rw [decide_eq_true c, Bool.true_and] at this
          rw [List.all_map]
          exact this
      · rw [show (!decide (V.int ((kvs.length : Nat) : Int) = V.int ((ns.length : Nat) : Int))) = true by rw [decide_eq_false (fun z => c (by have := V.int.inj z; omega))]; rfl]
        refine iteT ?_
        have := k H (Same.refl _)
        unfold tabB at this
        rw [decide_eq_false c] at this
        exact this
    · have kt : PySem.W.kitOne K (.type n) (.type "dict") = some false := by
        simp only [List.mem_cons, List.not_mem_nil, or_false] at hm
        rcases hm with rfl | rfl | rfl <;> exact kit_ty (by decide +kernel)
      refine ⟨_, rfl, _, _, _, _, false, rfl, .ty _, ty, kt, _, rfl, iteT ?_⟩
      exact k
end
end K14
namespace OXB
open PySem PySem.W PySem.Calls PyProof.Rows PySem.HandSPX
/-- what the chain behind an error class must have -/
structure Chain (bm : List Value) (B : String) : Prop where
  own : bm.contains (.type B) = true
  noA : bm.contains (.type "AttributeError") = false
  noN : bm.contains (.type "NameError") = false
  obj : bm.contains (.type "object") = true
  go : ∀ x : Value, refuseLoop x "__setattr__" bm = pure ()
section
variable {M : Model} {A : Around} {E : Value → Shared → Prop} {hp : Heap} {gs : Array GenState} {dr : Drawn} {tk : Nat} {os : OsState}
variable {cn cq : Str} {C N : Addr} {bl bm mB : List Value} {hd : Bool} {sl : List Str} {sb : List Value} {ab : Bool} {co : Option Bool} {cd : Option Addr} {j0 j1 j2 j3 j5 : Option Value} {B nI iI : String}
theorem checks (F : ExcBaseFacts B nI iI mB) (T : Chain bm B) {us : List Value} {Q : Unit → Shared → Prop}
    (cl : hp.get? C = some (excClassObj cn cq C N bl bm hd sl sb ab co cd j0 j1 j2 j3 j5 nI)) (k : Q () ⟨hp, gs, dr, tk, os⟩) : wpAny M A (checkBuiltinCall nI ⟨.ref C :: us, []⟩) Q E ⟨hp, gs, dr, tk, os⟩ := by
  have c1 : (Value.ref C :: bm).contains (.type B) = true := by rw [List.contains_cons, T.own, Bool.or_true]
  have star := F.noStar
  simp only [checkBuiltinCall, F.newKind, F.newSplit, F.newRow]
  repeat (first
    | refine wpAny_loadPart_at cl ?_
    | (refine wpAny_isSubtype_exc cl ?_; rw [c1])
    | refine wpAny_staticBase_exc cl ?_
    | refine wpAny_madeBy_exc cl ?_
    | simp only [bne_self_eq_false, Bool.false_eq_true, if_false]
    | wp_step)
  exact k
end
section
variable {pr : Program} {w : World} {A : Around} {E : Value → Shared → Prop} {R : Result → Shared → Prop} {hp : Heap} {gs : Array GenState} {dr : Drawn} {tk : Nat} {os : OsState}
variable {cn cq : Str} {C N : Addr} {bl bm mB : List Value} {hd : Bool} {sl : List Str} {sb : List Value} {ab : Bool} {co : Option Bool} {cd : Option Addr} {j0 j1 j2 j3 j5 : Option Value} {B nI iI : String}
theorem makes (F : ExcBaseFacts B nI iI mB) (T : Chain bm B) {us : List Value}
    (cl : hp.get? C = some (excClassObj cn cq C N bl bm hd sl sb ab co cd j0 j1 j2 j3 j5 nI)) (hz : us.length ≤ sizeLine)
    (k : R (.ok (.ret (.ref (hp.objs.size + 1)))) ⟨(hp.push (PySem.W.kdv_tup us)).push (excO C hp.objs.size), gs, dr, tk, os⟩) :
    codeAny (model pr w) A (.builtin nI ⟨.ref C :: us, []⟩) R ⟨hp, gs, dr, tk, os⟩ := by
  have ends := F.ends
  have c1 : (Value.ref C :: bm).contains (.type B) = true := by rw [List.contains_cons, T.own, Bool.or_true]
  have c2 : (Value.ref C :: bm).contains (.type "AttributeError") = false := by rw [List.contains_cons, T.noA]; rfl
  have c3 : (Value.ref C :: bm).contains (.type "NameError") = false := by rw [List.contains_cons, T.noN]; rfl
  refine codeAny_builtinAt F.entry ?_
  unfold Builtin.«BaseException.__new__»
  refine PySem.wpAt_bind ?_
  show PySem.wpAt _ _ _ (stack >>= _) _ _ _
  refine PySem.wpAt_bind (PySem.wpAt_stack fun _ _ => PySem.wpAt_of_wpAny ?_)
  wp_walk
  refine PySem.wpAt_of_wpAny ?_
  rw [F.owner]
  repeat (first
    | with_reducible refine wpAny_madeHere_exc F.canon cl ?_
    | with_reducible refine wpAny_loadPart_at cl ?_
    | (with_reducible refine wpAny_isSubtype_exc cl ?_; first | rw [c1] | rw [c2] | rw [c3])
    | wp_step)
  show R _ _
  rw [Heap.size_push]
  exact k
theorem tcall (F : ExcBaseFacts B nI iI mB) (T : Chain bm B) {us : List Value} {f : Addr} {Q : Fin → Shared → Prop}
    (cl : hp.get? C = some (excClassObj cn cq C N bl bm hd sl sb ab co cd j0 j1 j2 j3 j5 nI))
    (li : PySem.W.Looks (model pr w) hp (typeLookup (.ref C) "__init__") (some (.ref f))) (lb : ∀ x, PySem.W.Looks (model pr w) hp (bindSpecial (.ref f) x) (.ref f, [x])) (hz : us.length ≤ sizeLine)
    (k : codeAny (model pr w) A (.call (.ref f) ⟨.ref (hp.objs.size + 1) :: us, []⟩)
      (fun r s' => match r with | .ok (.ret v) => v = .none ∧ Q (.done (.ret (.ref (hp.objs.size + 1)))) s' | .ok _ => False | .error e => E e s')
      ⟨(hp.push (PySem.W.kdv_tup us)).push (excO C hp.objs.size), gs, dr, tk, os⟩) :
    wpAny (model pr w) A (Builtin.«type.__call__» ⟨.ref C :: us, []⟩) Q E ⟨hp, gs, dr, tk, os⟩ := by
  repeat (first | with_reducible refine wpAny_loadPart_at cl ?_ | with_reducible refine wpAny_madeBy_exc cl ?_ | wp_step)
  refine codeAny_call_builtin_code (Code.quiet_builtin _ F.quiet) (checks F T cl ?_)
  refine makes F T cl hz ?_
  show wpAny _ _ _ _ _ _
  have up : ∀ b o, hp.get? b = some o → ((hp.push (PySem.W.kdv_tup us)).push (excO C hp.objs.size)).get? b = some o := fun b o z => Heap.get?_push_of_some _ (Heap.get?_push_of_some _ z)
  have cl2 := up _ _ cl
  have at2 : ((hp.push (PySem.W.kdv_tup us)).push (excO C hp.objs.size)).get? (hp.objs.size + 1) = some (excO C hp.objs.size) := by heap_get
  have cC : (Value.ref C :: bm).contains (.ref C) = true := by simp
  have li2 := li.keeps up
  have lb2 := (lb (.ref (hp.objs.size + 1))).keeps up
  unfold isInstance
  repeat (first | with_reducible refine wpAny_loadPart_at at2 ?_ | (with_reducible refine wpAny_isSubtype_exc cl2 ?_; rw [cC]) | wp_step)
  show wpAny _ _ (typeLookup (.ref C) _) _ _ _
  refine li2.at ?_
  refine wpAny_holding (wpAny_bind (lb2.at ?_))
  refine wpAny_bind (wpAny_call (codeAny_mono k fun r s' z => ?_))
  rcases r with e |
                    (v | _ | _ | _) <;> first | exact z | exact z.elim | skip
  obtain ⟨rfl, z⟩ := z
  first
    | exact wpAny_pure (wpAny_pure z)
    | (wp_walk; exact z)
theorem call_any (F : ExcBaseFacts B nI iI mB) (T : Chain bm B) {us : List Value} {f : Addr}
    (cl : hp.get? C = some (excClassObj cn cq C N bl bm hd sl sb ab co cd j0 j1 j2 j3 j5 nI))
    (li : PySem.W.Looks (model pr w) hp (typeLookup (.ref C) "__init__") (some (.ref f))) (lb : ∀ x, PySem.W.Looks (model pr w) hp (bindSpecial (.ref f) x) (.ref f, [x])) (hz : us.length ≤ sizeLine)
    (k : codeAny (model pr w) (A.under (.builtin "type.__call__" ⟨.ref C :: us, []⟩)) (.call (.ref f) ⟨.ref (hp.objs.size + 1) :: us, []⟩) (PySem.W.InitBack (hp.objs.size + 1) R)
      ⟨(hp.push (PySem.W.kdv_tup us)).push (excO C hp.objs.size), gs, dr, tk, os⟩) :
    codeAny (model pr w) A (.call (.ref C) ⟨us, []⟩) R ⟨hp, gs, dr, tk, os⟩ := by
  have t1 := tc_lookup
  have t2 := tc_bind (.ref C)
  have t3 : (⟨hp, gs, dr, tk, os⟩ : Shared).TypeIs (.ref C) "type" := ⟨_, cl, rfl⟩
  refine codeAny_of_tree ?_
  show wpAny _ _ (callAny (.ref C) _) _ _ _
  repeat (any_goals (first | assumption | with_reducible refine wpAny_loadPart_at cl ?_ | wp_step))
  refine ⟨rfl, ?_⟩
  refine codeAny_call_builtin_at (Code.quiet_builtin _ (by decide +kernel)) entry_typeCall (wpAny_check_type_call_sub cl (tcall F T cl li lb hz ?_))
  refine codeAny_mono k fun r s' z => ?_
  rcases r with e | (v | _ | _ | _) <;> exact z
/-- the common beginning of a store into such an object -/
theorem osa_to {K : Frag} {nm : Str} {tn : Tok} {v : Value} {x dx : Addr} {ox : Obj} {od : Option Obj} {kd : ClassData} (X : K.In hp) (I : PySem.W.InstAt hp x ox C od) (hk : PySem.W.clsIn K C = some kd)
    (hm : kd.mro = .ref C :: bm) (T : Chain bm B) (ha : PySem.W.findIn K (.ref C) nm = some none)
    (k : wpAny (model pr w) (A.in1) (Builtin.ObjectAttr.storeInOwnDict (.ref x) (.ref C) (.str nm tn) nm v false)
      (fun fin s' => match fin with | Fin.done f => R (.ok f) s' | Fin.again c' => c'.quiet = true ∧ codeAny (model pr w) A c' R s') (fun e s' => R (.error e) s') ⟨hp, gs, dr, tk, os⟩) :
    codeAny (model pr w) A (.call (.builtin "object.__setattr__") ⟨[.ref x, .str nm tn, v], []⟩) R ⟨hp, gs, dr, tk, os⟩ := by
  have S := F.store_object
  have e1 : kd.mro.isEmpty = false := by rw [hm]; rfl
  have e2 : kd.mro.contains (.type "object") = true := by rw [hm, List.contains_cons, T.obj, Bool.or_true]
  have is : PySem.W.Looks (model pr w) hp (isInstance (.ref x) (.type "object")) true :=
    I.type.andThen (PySem.W.looks_mroIn X (by unfold PySem.W.mroIn; rw [hk, Option.bind_some, if_neg (by rw [e1]; decide), e2]))
  refine codeAny_call_builtin S.slot.plain S.entry (@PySem.W.check_slot (model pr w) _ _ ⟨hp, gs, dr, tk, os⟩ "object.__setattr__" "object" "__setattr__" (.ref x) [.str nm tn, v] [] _
    S.kind S.split is (S.args (.ref x) (.str nm tn) v) ?_)
  have l1 : PySem.W.Looks (model pr w) hp (mroOf (.ref C)) kd.mro := (PySem.W.looks_clsIn X hk).andThen .now
  have l2 : PySem.W.Looks (model pr w) hp (Builtin.ObjectAttr.storeTaker? none) none := .now
  rw [PySem.W.osa_eq, refuse_eq]
  refine wpAny_bind (wpAny_bind (I.type.at (wpAny_bind (l1.at ?_))))
  rw [hm, refuseLoop_ref, T.go]
  refine wpAny_pure (wpAny_bind (I.type.at (wpAny_bind ((PySem.W.looks_findIn X ha).at (wpAny_bind (l2.at ?_))))))
  exact k
theorem osa_one {K : Frag} {nm : Str} {tn : Tok} {v : Value} {x : Addr} {fv : Array Value} {kd : ClassData} (X : K.In hp) (hx : hp.get? x = some { cls := .ref C, data := .fields fv }) (hk : PySem.W.clsIn K C = some kd)
    (hm : kd.mro = .ref C :: bm) (hh : kd.hasDict = true) (T : Chain bm B) (ha : PySem.W.findIn K (.ref C) nm = some none)
    (k : ∀ G tn' dx, (∀ b o, b ≠ x → hp.get? b = some o → G.get? b = some o) → hp.objs.size ≤ dx → dx ≠ x → G.get? x = some { cls := .ref C, dict := some dx, data := .fields fv } →
      G.Ns1 dx (fun y => if y = nm then some v else none) → R (.ok (.ret .none)) ⟨G, gs, dr, tn', os⟩) :
    codeAny (model pr w) A (.call (.builtin "object.__setattr__") ⟨[.ref x, .str nm tn, v], []⟩) R ⟨hp, gs, dr, tk, os⟩ := by
  have lc : PySem.W.Looks (model pr w) hp (classData C) kd := PySem.W.looks_clsIn X hk
  have ne : x ≠ hp.objs.size := Nat.ne_of_lt (Heap.lt_size hx)
  refine osa_to (dx := x) (od := none) X ⟨hx, rfl, rfl, trivial⟩ hk hm T ha ?_
  obtain ⟨_, _, _, _, _, hdd, _, _, _, _, _⟩ := kd
  dsimp only at hh
  subst hh
  unfold Builtin.ObjectAttr.storeInOwnDict Builtin.ObjectAttr.ownDictForStores
  repeat (first
    | with_reducible refine store_in_new ?_ ?_
    | with_reducible refine wpAny_loadPart_at hx ?_
    | with_reducible refine lc.at ?_
    | wp_step)
  · exact ⟨_, #[], _, (Heap.get?_update_ne _ _ _ _ ne.symm).trans (Heap.get?_push_at rfl rfl), rfl, fun e z => absurd z (by simp), fun _ => rfl⟩
  · intro G tn' hn sm
    have hx2 : (hp.push { cls := .type "dict", data := .dict #[] }).get? x = some { cls := .ref C, data := .fields fv } := Heap.get?_push_of_some _ hx
    refine k G tn' hp.objs.size (fun b o hb z => ?_) (Nat.le_refl _) ne.symm ?_ hn
    · exact (sm.2 b (Nat.ne_of_lt (Heap.lt_size z))).trans ((Heap.get?_update_ne _ _ _ _ hb).trans (Heap.get?_push_of_some _ z))
    · exact (sm.2 x ne).trans (Heap.get?_update_self _ hx2 rfl)
theorem osa_more {K : Frag} {nm : Str} {tn : Tok} {v : Value} {x dx : Addr} {fv : Array Value} {kd : ClassData} {m0 : Str → Option Value} {ns : List Str} (X : K.In hp)
    (hx : hp.get? x = some { cls := .ref C, dict := some dx, data := .fields fv }) (hn : hp.Ns1 dx m0) (hw : Within m0 ns) (hz : ns.length ≤ 1000) (hk : PySem.W.clsIn K C = some kd)
    (hm : kd.mro = .ref C :: bm) (hh : kd.hasDict = true) (T : Chain bm B) (ha : PySem.W.findIn K (.ref C) nm = some none)
    (k : ∀ G tn', (∀ b o, b ≠ dx → hp.get? b = some o → G.get? b = some o) → G.Ns1 dx (fun y => if y = nm then some v else m0 y) → R (.ok (.ret .none)) ⟨G, gs, dr, tn', os⟩) :
    codeAny (model pr w) A (.call (.builtin "object.__setattr__") ⟨[.ref x, .str nm tn, v], []⟩) R ⟨hp, gs, dr, tk, os⟩ := by
  obtain ⟨oD, _, _, hoD, _, _⟩ := hn.count hw
  have lc : PySem.W.Looks (model pr w) hp (classData C) kd := PySem.W.looks_clsIn X hk
  refine osa_to (dx := x) (od := some oD) X ⟨hx, rfl, rfl, hoD⟩ hk hm T ha ?_
  obtain ⟨_, _, _, _, _, hdd, _, _, _, _, _⟩ := kd
  dsimp only at hh
  subst hh
  unfold Builtin.ObjectAttr.storeInOwnDict Builtin.ObjectAttr.ownDictForStores
  repeat (first
    | with_reducible refine PySem.OEX.store_in_old hn hw hz ?_
    | with_reducible refine wpAny_loadPart_at hx ?_
    | with_reducible refine lc.at ?_
    | wp_step)
  intro G tn' hn' sm
  exact k G tn' (fun b o hb z => (sm.2 b hb).trans z) hn'
end
end OXB
namespace L2
open PySem PySem.Spec PyProof.Rows
/-- what the written part says of an error class, whatever its base -/
structure OxB (K : PySem.W.Frag) (C : Addr) : Prop where
  cls : ∃ nm q N bs bm sn sub ab col dd k0 k1 k2 k3 k5 B nI iI mB, ExcBaseFacts B nI iI mB ∧ OXB.Chain bm B ∧ K.lookup C = some (excClassObj nm q C N bs bm true sn sub ab col dd k0 k1 k2 k3 k5 nI)
  sa : PySem.W.findIn K (.ref C) "__setattr__" = some
                                                      (some (.builtin "object.__setattr__"))
  exC : PySem.W.subIn K (.ref C)
                                 (.type "BaseException") = some true
  tyC : PySem.W.typeIn K (.ref C) = some (.type "type")
  kC : PySem.W.keepIn K (.ref C) = true
section
variable {X : Cx} {pins : List (Addr × Obj)} {σ : St} {H : Hp} {s : Shared} {a C dx : Addr} {f : Str}
                                                                                                      {y : V} {u : Value} {fs : List (Str × V)} {Q : Unit → Shared → Prop} {E : Value → Shared → Prop} {A : Around}
theorem st_first (T : OxB X.K C) (I : Inv X pins σ H s) (ea : H a = some (exo a C none)) (no : PySem.W.findIn X.K (.ref C) f = some none) (ry : RelV y u)
    (k : ∀ d s', H d = none → d ≠ a → Inv X pins σ (upd (upd H d (exd d [(f, y)])) a (exo a C (some d))) s' → Q () s') : wpAny (model X.prog X.w) A (setAttr (.ref a) f u) Q E s := by
  obtain ⟨nm, q, N, bs, bm, sn, sub, ab, col, dd, k0, k1, k2, k3, k5, B, nI, iI, mB, F, Ch, hC⟩ := T.cls
  have hcl : PySem.W.clsIn X.K C = some { name := nm, bases := bs, mro := .ref C :: bm, ns := N, qualname := q, hasDict := true, slotNames := sn, subclasses := sub, abstract := ab, collection := col, hasDel := false } := by
    unfold PySem.W.clsIn
    rw [hC] <;> rfl
  obtain ⟨t1, ho⟩ := exo_at I.hok ea
  obtain ⟨hp, g, dr, t, os⟩ := s
  refine PySem.W.set_plain I.kIn (od := none) ⟨ho, rfl, rfl, trivial⟩ T.sa ?_
  refine OXB.osa_one I.kIn ho hcl rfl rfl Ch no (fun G tn d keep new ned hx hn => ?_)
  have hd : H d = none := I.hok.fresh new
  have old : ∀ {b : Addr} {o : Obj}, hp.get? b = some o → b ≠ d := fun {b o} z => Nat.ne_of_lt (Nat.lt_of_lt_of_le (Heap.lt_size z) new)
  have nota : ∀ {b : Addr}, H b = none → b ≠ a := fun {b} z e => by
    rw [e, ea] at z
    cases z
  have U : Un X.fs [] H (upd (upd H d (exd d [(f, y)])) a (exo a C (some d))) hp G := {
    keep := fun b o z n _ _ => keep b o (nota n) z
    slot := fun b o z n _ _ => ⟨o.slots, keep b o (nota n) z⟩
    free := fun b o z n _ => by
      rw [upd_ne (nota n), upd_ne (old z)]
      exact n
    there := fun b o z _ => by
      by_cases e : b = a
      · exact ⟨_, by rw [e]; exact hx⟩
      · exact ⟨o, keep b o e z⟩
    tups := fun b xs z => by
      rw [upd_ne (at_ne ea z exo_tup), upd_ne (ne_of_none z hd)]
      exact z
    frzs := fun b o v z => by
      rw [upd_ne (at_ne ea z exo_frz), upd_ne (ne_of_none z hd)]
      exact z
    tbls := fun b ps z => ⟨#[], by
      rw [upd_ne (at_ne ea z exo_tbl), upd_ne (ne_of_none z hd), z]
      simp⟩ }
  refine k d _ hd ned (I.un (t' := tn) U fun b o z => ?_)
  by_cases e1 : b = a
  · subst e1
    rw [upd_same] at z
    cases z
    exact exo_ok hx
  · rw [upd_ne e1] at z
    by_cases e2 : b = d
    · subst e2
      rw [upd_same] at z
      cases z
      exact exd_ok hn (relO_put
                                (fs := []) ry fun g => True.intro)
    · rw [upd_ne e2] at z
      refine (I.hok b o z).stay (fun c v hc y => ?_) (fun c hc => ?_) (fun c xs hc => ?_)
      · refine keep c v ?_ y
        rcases hc with hc | hc
        · rw [hc]
          exact e1
        · exact at_ne ea hc exo_own
      · rw [upd_ne (at_ne ea hc exo_own), upd_ne (ne_of_none hc hd)]
        exact hc
      · rw [upd_ne (at_ne ea hc exo_tup), upd_ne (ne_of_none hc hd)]
        exact hc
theorem st_more (T : OxB X.K C) (I : Inv X pins σ H s) (ea : H a = some (exo a C (some dx))) (ed : H dx = some (exd dx fs)) (hl : fs.length ≤ 900) (no : PySem.W.findIn X.K (.ref C) f = some none) (ry : RelV y u)
    (k : ∀ s', Inv X pins σ (upd H dx (exd dx ((f, y) :: fs))) s' → Q () s') : wpAny (model X.prog X.w) A (setAttr (.ref a) f u) Q E s := by
  obtain ⟨nm, q, N, bs, bm, sn, sub, ab, col, dd, k0, k1, k2, k3, k5, B, nI, iI, mB, F, Ch, hC⟩ := T.cls
  have hcl : PySem.W.clsIn X.K C = some { name := nm, bases := bs, mro := .ref C :: bm, ns := N, qualname := q, hasDict := true, slotNames := sn, subclasses := sub, abstract := ab, collection := col, hasDel := false } := by
    unfold PySem.W.clsIn
    rw [hC] <;> rfl
  obtain ⟨t1, ho⟩ := exo_at I.hok ea
  obtain ⟨mA, hn, rel⟩ := exd_at I.hok ed
  have hw := within_of rel
  obtain ⟨hp, g, dr, t, os⟩ := s
  obtain ⟨oD, _, _, hoD, _, _⟩ := hn.count hw
  refine PySem.W.set_plain I.kIn (od := some oD) ⟨ho, rfl, rfl, hoD⟩ T.sa ?_
  refine OXB.osa_more I.kIn ho hn hw (by rw [List.length_map]; omega) hcl rfl rfl Ch no (fun G tn keep hn2 => ?_)
  have there : ∃ o, G.get? dx = some o := by
    obtain ⟨o, _, _, z, _⟩ := hn2
    exact ⟨o, z⟩
  refine k _ (I.write (t' := tn) (x := dx) (e := dx) (o := exd dx ((f, y) :: fs)) ?_ (.inl rfl) keep there (exd_ok hn2 (relO_put ry rel)))
  rw [ed]
  exact True.intro
end
/-- self.f = e in an error -/
def tOsB (K : PySem.W.Frag) (f : Str) (to te : TE) : TS := fun D σ H => te σ H fun y H1 => to σ H1 fun x H2 => ∃ a C : Addr, x = .ref a ∧ OxB K C ∧ PySem.W.findIn K (.ref C) f = some none ∧
  ((H2 a = some (exo a C none) ∧ ∀ d, H2 d = none → d ≠ a → D.nx σ (upd (upd H2 d (exd d [(f, y)])) a (exo a C (some d)))) ∨
    ∃ (d : Addr) (fs : List (Str × V)), H2 a = some (exo a C (some d)) ∧ H2 d = some (exd d fs) ∧ fs.length ≤ 900 ∧ D.nx σ (upd H2 d (exd d ((f, y) :: fs))))
section
variable {X : Cx} {o e : Expr} {es : List Expr} {to te : TE} {ta : TA} {f : Str} {p p' pos : Pos}
theorem ps_osB (ho : PE X o to) (he : PE X e te) (hs : swapsWith e (some (.Attribute o f p')) pos.line X.env = pure false := by rfl) : PS X (.Assign [.Attribute o f p'] e pos) (tOsB X.K f to te) := by
  refine ⟨fun pins s σ H D I h => plainObj_wpAny_Assign_Attribute (thn (he.run pins s σ H _ I h) fun v s1 ⟨y, H1, I1, r1, q1⟩ => thn (ho.run pins s1 σ H1 _ I1 q1) fun u s2 ⟨x, H2, I2, r2, a, C, ex, T, no, q⟩ => ?_) hs⟩
  subst ex
  cases (show u = Value.ref a from r2)
  rcases q with ⟨ea, q⟩ | ⟨d, fs, ea, ed, hl, q⟩
  · exact st_first T I2 ea no r1 fun d s' n ne J => ⟨σ, _, J, q d n ne⟩
  · exact st_more T I2 ea ed hl no r1 fun s' J => ⟨σ, _, J, q⟩
/-- the object is made, its own __init__ has run -/
theorem made_ox {CX : CXT} {C fI : Addr} {n : Nat} {fd : FuncData} {ps : List Str} {sp : Sp} {ds : List Value} {dvs vs : List V} {us : List Value} {pins : List (Addr × Obj)} {σ : St} {H1 : Hp} {s1 : Shared} {QV : Addr → V → Hp → Prop} {Q : Value → Shared → Prop}
    (T : OxB X.K C) (iC : PySem.W.findIn X.K (.ref C) "__init__" = some (some (.ref fI))) (tI : PySem.W.typeIn X.K (.ref fI) = some (.type "function"))
    (F1 : FnOk X.prog X.w X.K X.mg X.base CX n fI fd ps sp) (hr : Room (n + 1) X.A) (hb : Binds X.K fd ps ds) (hd : Vals dvs ds) (hx : Passes CX X (fun _ _ _ => False)) (I1 : Inv X pins σ H1 s1) (r1 : Vals vs us) (hz : vs.length ≤ 1000)
    (q1 : ∀ a, H1 a = none → sp (.ref a :: (vs ++ dvs)) (upd H1 a (exo a C none)) (QV a) (fun _ _ _ => False))
    (k2 : ∀ (a : Addr) (h2 : Heap) (t2 : Nat) (H2 : Hp) (v : V) (s' : Shared), s1.heap.objs.size ≤ a → H1 a = none → (∀ b o, s1.heap.get? b = some o → h2.get? b = some o) → Inv X pins σ (upd H1 a (exo a C none)) ⟨h2, s1.gens, s1.drawn, t2, s1.os⟩ →
      Un (frs X.stack) [] (upd H1 a (exo a C none)) H2 h2 s'.heap → HOk X.prog X.w H2 s'.heap → s'.os = s1.os → AllBare s'.gens → QV a v H2 → v = .non ∧ Q (.ref a) s') :
    wpAny (model X.prog X.w) X.A (call (.ref C) us) Q X.xe s1 := by
  obtain ⟨nm, q, N, bs, bm, sn, sub, ab, col, dd, k0, k1, k3, k4, k5, B, nI, iI, mB, F, Ch, hC⟩ := T.cls
  obtain ⟨hp, g, dr, tk, os⟩ := s1
  have new : hp.objs.size ≤ hp.objs.size + 1 := Nat.le_succ _
  have hn : H1 (hp.objs.size + 1) = none := I1.hok.fresh new
  have hq := q1 _ hn
  have up : ∀ b o, hp.get? b = some o → ((hp.push (PySem.W.kdv_tup us)).push (PySem.HandSPX.excO C hp.objs.size)).get? b = some o := fun b o z => Heap.get?_push_of_some _ (Heap.get?_push_of_some _ z)
  have at2 : ((hp.push (PySem.W.kdv_tup us)).push (PySem.HandSPX.excO C hp.objs.size)).get? (hp.objs.size + 1) = some (PySem.HandSPX.excO C hp.objs.size) := by heap_get
  have I2 : Inv X pins σ (upd H1 (hp.objs.size + 1) (exo (hp.objs.size + 1) C none))
                                                                                     ⟨(hp.push (PySem.W.kdv_tup us)).push (PySem.HandSPX.excO C hp.objs.size), g, dr, tk, os⟩ :=
    I1.laid (t' := tk) up new (exo_ok at2)
  have r2 : Vals (V.ref (hp.objs.size + 1) :: (vs ++ dvs)) (Value.ref
                                                                      (hp.objs.size + 1) :: (us ++ ds)) := .cons rfl (r1.append hd)
  have len : (Value.ref (hp.objs.size + 1) :: us ++ ds).length = ps.length := by
    have e := r2.length
    rw [F1.len _ _ _ _ hq] at e
    exact e.symm
  have uz : us.length ≤ sizeLine := by
    rw [← Paired.length r1, sizeLine_eq]
    omega
  have run := F1.run _ X.stack _ _ ⟨Value.ref (hp.objs.size + 1) :: us, []⟩ (Value.ref (hp.objs.size + 1) :: (us ++ ds)) _ _ (fun _ _ _ => False) (hr.make C us []) (I2.env0.make C us []) (hb _ (Value.ref (hp.objs.size + 1) :: us) I2.kIn len) r2 hq
  refine wpAny_call (OXB.call_any F Ch (I1.kIn _ _ hC) (PySem.W.looks_findIn I1.kIn iC) (fun x => PySem.W.bind_fn I1.kIn x tI) uz (codeAny_mono run fun r s' z => ?_))
  cases r with
  | error er => exact hx pins σ _ _ er s' I2 z
  | ok fl =>
    cases fl with
    | next => exact False.elim z
    | brk => exact False.elim z
    | cont => exact False.elim z
    | ret u =>
      obtain ⟨v, H2, os2, bare2, un2, hok2, rv, qv⟩ := z
      obtain ⟨ev, z⟩ := k2 _ _ _ H2 v s' new hn up I2 un2 hok2 os2 bare2 qv
      subst ev
      exact ⟨rv, z⟩
/-- raise C(e, ..) -/
theorem pmk_ox {CX : CXT} {x : Str} {C fI : Addr} {k : Nat} {fd : FuncData} {ps : List Str} {sp : Sp} {ds : List Value} {dvs : List V} (T : OxB X.K C) (iC : PySem.W.findIn X.K (.ref C) "__init__" = some (some (.ref fI))) (tI : PySem.W.typeIn X.K (.ref fI) = some (.type "function"))
    (F1 : FnOk X.prog X.w X.K X.mg X.base CX k fI fd ps sp) (hr : Room (k + 1) X.A) (hb : Binds X.K fd ps ds)
                                                                                                              (hd : Vals dvs ds) (hx : Passes CX X (fun _ _ _ => False)) (hg : Gl X x) (hm : X.mg x = some (.ref C)) (ha : PA X (e :: es) ta)
    (hdb : (x == ("__debug__" : Str)) = false := by decide) (he : starEach (e :: es) X.env =
                                                                                             (false, eval e X.env) :: starEach es X.env := by rfl) (hpl : (backTo pos (starEach es X.env)).any (·.1) = false := by rfl) :
    PMk X (.Call (.Name x p)
                             (e :: es) [] pos) (tMkO C sp dvs ta) := by
  intro pins s σ H Q I h
  refine wpAny_Call_Name_kw (ld_glob I hg hm ?_ hdb)
  refine PySem.W.callWith_K (h₀ := X.base) I.ok.mod.kin T.kC (thn
                                                                  (ha.run pos pins s σ H _ I h) fun us s1 ⟨vs, H1, I1, r1, hz, q1⟩ => ⟨I1.kIn, ?_⟩) he hpl
  refine made_ox T iC tI F1 hr hb hd hx I1 r1 hz q1 fun a h2 t2 H2 v s' new hn up I2 un hok os2 bare z => ?_
  obtain ⟨ev, d, fs, ea, ed, hd1, q⟩ := z
  obtain ⟨hp, g, dr, tk, os⟩ := s1
  obtain ⟨h3, g3, d3, t3, os3⟩ := s'
  exact ⟨ev, mk_end (raises_own T.exC T.tyC) I1 new up un hok os2 bare ea ed hd1 q⟩
end
end L2
namespace PySem.W
open PySem PySem.Spec PySem.Calls PyProof.Rows
section
variable {pr : Program} {w : World} {A : Around} {E : Value → Shared → Prop} {s : Shared} {K : Frag} {x D : Addr} {ox : Obj} {oD : Option Obj}
theorem oxb_find {m : Str} {a g : Value} (c : (clsIn K D).isSome = true) (ea : findIn K (.ref D) m = some (some a)) (eg : specialIn K a "__get__" = some (some g)) (et : takesIn K a = some true) : findObj K D oD m = some (.bind g a) := by
  obtain ⟨kd, c⟩ := Option.isSome_iff_exists.mp c
  unfold findObj
  rw [c, Option.bind_some, ea, Option.bind_some]
  simp [eg, et]
theorem oxb_class {Q : Option Value → Shared → Prop} (g1 : findIn K (.ref D) "__getattribute__" = some (some (.builtin "BaseException.__getattribute__"))) (g2 : findIn K (.ref D) "__getattr__" = some none) (g3 : subIn K (.ref D) (.type "BaseException") = some true)
    (g4 : hasDictIn K D = true) (g5 : findIn K (.ref D) "__class__" = some (some (.builtin "object.__class__")))
    (g6 : specialIn K (.builtin "object.__class__") "__get__" = some (some (.builtin "getset_descriptor.__get__"))) (g7 : takesIn K (.builtin "object.__class__") = some true) (g8 : mroIn K D (.type "object") = some true)
    (X : K.In s.heap) (I : InstAt s.heap x ox D oD) (k : Q (some (.ref D)) { s with toks := s.toks + 1 }) : wpAny (model pr w) A (getAttr? (.ref x) "__class__") Q E s := by
  have fo : findObj K D oD "__class__" = some (.bind (.builtin "getset_descriptor.__get__") (.builtin "object.__class__")) :=
    oxb_find (by obtain ⟨kd, c, _⟩ := any_some g4; rw [c]; rfl) g5 g6 g7
  obtain ⟨hp, gs, dr, tk, os⟩ := s
  have l0 := I.type (M := model pr w)
  have l1 := looks_findIn (M := model pr w) X g1
  have l2 := looks_findIn (M := model pr w) X g2
  have l3 := looks_find (M := model pr w) X I fo
  have is : Looks (model pr w) hp (isInstance (.ref x) (.type "BaseException")) true := l0.andThen (looks_subIn X g3)
  have n2 : (Value.builtin "BaseException.__getattribute__" == Value.builtin "object.__getattribute__") = false := by decide +kernel
  have n1 : (onTheHeap (Value.ref D) && Value.builtin "BaseException.__getattribute__" == Value.builtin "object.__getattribute__") = false := by rw [n2]; rfl
  have n0 : (false && onTheHeap (Value.builtin "BaseException.__getattribute__")) = false := rfl
  unfold getAttr? getAttrBy? getAttrBy
  refine wpAny_bind (wpAny_mkText (wpAny_bind (wpAny_attempt (wpAny_holding (wpAny_bind (l0.at (wpAny_bind (l1.at ?_))))))))
  show wpAny _ _ (if (onTheHeap
                                (Value.ref D) && Value.builtin "BaseException.__getattribute__" == Value.builtin "object.__getattribute__") = true then _ else _) _ _ _
  rw [n1, if_neg Bool.false_ne_true]
  unfold getAttrByItsOwn hookBefore
  refine wpAny_bind ?_
  rw [if_pos (show onTheHeap (Value.ref D) = true from rfl)]
  refine l2.at (wpAny_bind (wpAny_attempt (wpAny_holding ?_)))
  unfold callGetattribute
  rw [n0, if_neg Bool.false_ne_true]
  unfold boundAndCalled
  rw [PySem.F.excAttr_ValueError.ga.bind (.ref x)]
  refine wpAny_bind (wpAny_pure ?_)
  show wpAny _ _ (call (.builtin "BaseException.__getattribute__") [.ref x, .str "__class__" tk]) _ _ _
  refine wpAny_call
                    (codeAny_call_builtin PySem.F.excAttr_ValueError.ga.plain PySem.F.entry_bexc_ga ?_)
  refine @check_slot (model pr w) _ _ ⟨hp, gs, dr, tk + 1, os⟩ "BaseException.__getattribute__" "BaseException" "__getattribute__" (.ref x) [.str "__class__" tk] [] _
    (by decide +kernel) (by decide +kernel) is (PySem.F.args_bexc_ga (.ref x) (.str "__class__" tk)) ?_
  unfold Builtin.«object.__getattribute__»
  refine wpAny_bind (wpAny_of_eq (a := ((Value.ref x : Value), [Value.str "__class__" tk])) (by first | rfl | (simp only [slotArgs]; rfl)) ?_)
  refine wpAny_bind (wpAny_pure (wpAny_bind (l0.at (wpAny_bind (l3.at ?_)))))
  show wpAny _ _ (holding [Value.builtin "object.__class__"] (call
                                                                   (.builtin "getset_descriptor.__get__") [.builtin "object.__class__", .ref x, .ref D]) >>= ret) _ _ _
  refine wpAny_bind (wpAny_holding (wpAny_call (class_get (s := ⟨hp, gs, dr, tk + 1, os⟩) (ox := ox) (od := oD) X I g8 ?_)))
  refine wpAny_pure ?_
  show wpAny _ _ (handedOut (.ref D)) _ _ _
  rw [handedOut_of (v := .ref D) rfl]
  first
    | exact wpAny_pure (wpAny_pure k)
    | exact wpAny_pure k
    | exact wpAny_pure (wpAny_bind (wpAny_pure (wpAny_pure k)))
theorem oxb_kit (g1 : findIn K (.ref D) "__getattribute__" = some (some (.builtin "BaseException.__getattribute__"))) (g2 : findIn K (.ref D) "__getattr__" = some none) (g3 : subIn K (.ref D) (.type "BaseException") = some true)
    (g4 : hasDictIn K D = true) (g5 : findIn K (.ref D) "__class__" = some (some (.builtin "object.__class__")))
    (g6 : specialIn K (.builtin "object.__class__") "__get__" = some (some (.builtin "getset_descriptor.__get__"))) (g7 : takesIn K (.builtin "object.__class__") = some true) (g8 : mroIn K D (.type "object") = some true) :
    KitX K (.ref x) (.ref D) (fun h => InstAt h x ox D oD) := by
  obtain ⟨kd, hk, _⟩ := any_some g4
  have at1 : ∃ cc dd sl, K.lookup D = some ⟨cc, dd, .cls kd, sl⟩ := by
    unfold clsIn at hk
    split at hk
    · rename_i ho
      cases hk
      exact ⟨_, _, _, ho⟩
    · cases hk
  obtain ⟨cc, dd, sl, ho⟩ := at1
  exact {
    ty := fun _ _ _ I => I.type
    it := fun _ _ X _ => by
      intro A' Q' E' s' k q
      unfold isType loadHead
      exact wpAny_bind (wpAny_loadPart
                                       (k _ _ (X _ _ ho)) (wpAny_pure q))
    ne := fun h tp _ its n _ X htp => by
      refine Bool.eq_false_iff.mpr fun q => ?_
      have e : D = tp := Value.ref.inj (beq_iff_eq.mp q)
      subst e
      have z := (X _ _ ho).symm.trans htp
      cases z
    ca := fun X I k => oxb_class g1 g2 g3 g4 g5 g6 g7 g8 X I k }
end
end PySem.W
namespace L2
open PySem PySem.Spec PyProof.Rows
/-- C(e, ..) as a value -/
def tMkV (C : Addr) (sp : Sp) (dvs : List V) (ta : TA) : TE := fun σ H Q => ta σ H fun vs H1 => vs.length ≤ 1000 ∧ ∀ a, H1 a = none → sp (.ref a :: (vs ++ dvs)) (upd H1 a (exo a C none)) (fun v H2 => v = .non ∧ Q (.ref a) H2) (fun _ _ _ => False)
/-- an error of a class that isinstance and a field's reading may be asked of -/
def ErrAt (K : PySem.W.Frag) (H : Hp) (x : V) (C : Addr) (fs : List (Str × V)) : Prop := ∃ a d : Addr, x = .ref a ∧ H a = some (exo a C (some d)) ∧ H d = some (exd d fs)
def rIsErr (K : PySem.W.Frag) : List V → Hp → VK → Prop := fun xs H Q => ∃ (x c : V) (u : Value) (C : Addr) (fs : List (Str × V)) (b : Bool), xs = [x, c] ∧ ClsV c u ∧ ErrAt K H x C fs ∧ ExcC K C ∧ PySem.W.kitOne K (.ref C) u = some b ∧ Q (.bl b) H
/-- e.f, e such a value -/
def tErrF (K : PySem.W.Frag) (te : TE) (f : Str) : TE := fun σ H Q => te σ H fun x H1 => ∃ (C : Addr) (fs : List (Str × V)) (v : V), ErrAt K H1 x C fs ∧ XfC K C ∧ PySem.W.findIn K (.ref C) f = some none ∧ fs.lookup f = some v ∧ Q v H1
section
variable {X : Cx} {e : Expr} {es : List Expr} {te : TE} {ta : TA} {f x : Str} {p pos : Pos} {CX : CXT} {C fI : Addr} {k : Nat} {fd : FuncData} {ps : List Str} {sp : Sp} {ds : List Value} {dvs : List V}
theorem pe_mkv (T : OxB X.K C) (iC : PySem.W.findIn X.K (.ref C) "__init__" = some (some (.ref fI))) (tI : PySem.W.typeIn X.K (.ref fI) = some (.type "function"))
    (F1 : FnOk X.prog X.w X.K X.mg X.base CX k fI fd ps sp) (hr : Room (k + 1) X.A) (hb : Binds X.K fd ps ds)
                                                                                                              (hd : Vals dvs ds) (hx : Passes CX X (fun _ _ _ => False)) (hg : Gl X x) (hm : X.mg x = some (.ref C)) (ha : PA X (e :: es) ta)
    (hdb : (x == ("__debug__" : Str)) = false := by decide) (he : starEach (e :: es) X.env =
                                                                                             (false, eval e X.env) :: starEach es X.env := by rfl) (hpl : (backTo pos (starEach es X.env)).any (·.1) = false := by rfl) :
    PE X (.Call (.Name x p) (e :: es) [] pos) (tMkV C sp dvs ta) := by
  refine ⟨fun pins s σ H Q I h => wpAny_Call_Name_kw (ld_glob I hg hm ?_ hdb)⟩
  refine PySem.W.callWith_K (h₀ := X.base) I.ok.mod.kin T.kC (thn
                                                                  (ha.run pos pins s σ H _ I h) fun us s1 ⟨vs, H1, I1, r1, hz, q1⟩ => ⟨I1.kIn, ?_⟩) he hpl
  refine made_ox T iC tI F1 hr hb hd hx I1 r1 hz q1 fun a h2 t2 H2 v s' new hn up I2 un hok os2 bare z => ?_
  obtain ⟨ev, q⟩ := z
  exact ⟨ev, .ref a, H2, I2.call' (ch := []) os2 un hok bare (fun b z => absurd z (by simp)), rfl, q⟩
theorem pe_mkv0 (T : OxB X.K C) (iC : PySem.W.findIn X.K (.ref C) "__init__" = some (some (.ref fI))) (tI : PySem.W.typeIn X.K (.ref fI) = some (.type "function"))
    (F1 : FnOk X.prog X.w X.K X.mg X.base CX k fI fd ps sp) (hr : Room (k + 1) X.A) (hb : Binds X.K fd ps ds) (hd : Vals dvs ds) (hx : Passes CX X (fun _ _ _ => False)) (hg : Gl X x) (hm : X.mg x = some (.ref C))
    (hdb : (x == ("__debug__" : Str)) = false := by decide) : PE X (.Call (.Name x p) [] [] pos) (tMkV C sp dvs tNil) := by
  refine ⟨fun pins s σ H Q I h => wpAny_Call_Name_kw (ld_glob I hg hm ?_ hdb)⟩
  obtain ⟨hz, q1⟩ := h
  refine PySem.W.callWith_K0 I.kIn T.kC (made_ox (us := []) T iC tI F1 hr hb hd hx I .nil hz q1 fun a h2 t2 H2 v s' new hn up I2 un hok os2 bare z => ?_)
  obtain ⟨ev, q⟩ := z
  exact ⟨ev, .ref a, H2, I2.call' (ch := []) os2 un hok bare (fun b z => absurd z (by simp)), rfl, q⟩
theorem err_at {pins : List (Addr × Obj)} {σ : St} {H : Hp} {s : Shared} {a d : Addr} {fs : List (Str × V)} (I : Inv X pins σ H s) (ea : H a = some (exo a C (some d))) (ed : H d = some (exd d fs)) :
    ∃ (ox oD : Obj) (mA : Str → Option Value), PySem.W.InstAt s.heap a ox C (some oD) ∧ s.heap.Ns1 d mA ∧ s.heap.get? d = some oD ∧ (∀ g, RelO (fs.lookup g) (mA g)) := by
  obtain ⟨t1, h1⟩ := exo_at I.hok ea
  obtain ⟨mA, hn, rel⟩ := exd_at I.hok ed
  obtain ⟨oD, _, _, h2, _⟩ := hn.count (within_of rel)
  exact ⟨_, oD, mA, ⟨h1, rfl, rfl, h2⟩, hn, h2, rel⟩
theorem call_isErr : CallR X (.builtin "isinstance") (rIsErr X.K) := by
  intro pins s σ H xs us Q I r h
  obtain ⟨x, c, u, C, fs, b, rfl, k, ⟨a, d, rfl, ea, ed⟩, T, e, q⟩ := h
  obtain ⟨u1, u2, rfl, r1, r2⟩ := vals2 r
  have e2 := k.eq r2
  subst e2
  cases (show u1 = Value.ref a from r1)
  obtain ⟨ox, oD, mA, J, _⟩ := err_at I ea ed
  exact PySem.W.kia_one (PySem.W.oxb_kit T.hg T.hk T.hs T.hd T.ha T.hn T.ht T.hm) I.kIn J e (fun z => nomatch z) fun tk => ⟨.bl b, H, I.tok tk, rfl, q⟩
theorem pe_errF (he : PE X e te) (hb : attributeBase e f X.env (eval e X.env) = eval e X.env := by rfl) : PE X (.Attribute e f pos) (tErrF X.K te f) := by
  refine ⟨fun pins s σ H Q I h => attr_of hb (thn (he.run pins s σ H _ I h) fun u s1 hh => ?_)⟩
  obtain ⟨x, H1, I1, rx, C, fs, v, ⟨a, d, ex, ea, ed⟩, T, no, l, q⟩ := hh
  subst ex
  cases (show u = Value.ref a from rx)
  obtain ⟨ox, oD, mA, J, hn, ho, rel⟩ := err_at I1 ea ed
  obtain ⟨oD2, ho2, hl⟩ := lookIn_ns hn
  cases ho.symm.trans ho2
  obtain ⟨z, hz, rz⟩ := RelO.some_of (v := v) (o := mA f) (by rw [← l]; exact rel f)
  exact HandSPX.exc_get I1.kIn J T.ga T.gg T.exC (PySem.W.findObj_own T.hdC no rfl (by rw [hl, hz])) (handed_of rz) ⟨v, H1, I1.tok _, rz, q⟩
end
end L2
namespace L2
open PySem PySem.Spec PyProof.Rows
/-! ### try with several clauses that name what they catch -/
/-- the ends of a suite that has named it at i -/
def asEnds (i : Nat) (D : Ends) : Ends := { nx := fun st6 H6 => D.nx (st6.set i none) H6, rt := D.rt, bk := fun st6 H6 => D.bk (st6.set i none) H6, ct := fun st6 H6 => D.ct (st6.set i none) H6 }
abbrev AsL := List (Value × Nat × (Addr → Value → Option Addr → TS))
def wAsL (K : PySem.W.Frag) (D : Ends) : AsL → WX
  | [] => fun _ _ _ _ => False
  | (cv, i, wt) :: ls => fun kl dd st6 H6 => ∃ b, PySem.W.exmOne K kl cv = some b ∧ (b = true → ∀ ad, H6 ad = none → wt ad kl dd (asEnds i D) (st6.set i (some (.ref ad))) H6) ∧ (b = false → wAsL K D ls kl dd st6 H6)
inductive PreA (X : Cx) : List ExceptHandler → AsL → Prop
  | rest (gs : List ExceptHandler) : PreA X gs []
  | more {nm nn : Str} {cv : Value} {i : Nat} {wt : Addr → Value → Option Addr → TS} {st0 : Stmt} {sts : List Stmt} {pp qq : Pos} {gs : List ExceptHandler} {ls : AsL}
      (known : Names X nm cv) (place : X.N[i]? = some nn) (kind : X.env.kindOf nn = some .local)
      (suite : ∀ (ad : Addr) (ob : Obj) (kl : Value) (dd : Option Addr) (pins0 : List (Addr × Obj)), Zc kl dd ob → (∃ fv, ob.data = .fields fv) → PSs (X.suite ad ((ad, ob) :: pins0)) (st0 :: sts) (wt ad kl dd))
      (tail : PreA X gs ls) : PreA X (.ExceptHandler (some (.Name nm pp)) (some nn) (st0 :: sts) qq :: gs) ((cv, i, wt) :: ls)
section
variable {X : Cx} {todo : List Stmt} {g : ExceptHandler} {gs : List ExceptHandler} {ls : AsL} {at_ : Pos} {rd : WX → TS}
theorem try_preA (nd : X.N.Nodup) (st : X.stack = X.env :: X.outer) (fr : X.env.frame = some X.env.locals)
    (inner : ∀ (Wx : WX) (pins1 : List (Addr × Obj)) (ex1 : Value → Shared → Prop), Takes (X.tr pins1 ex1) Wx → PassesOwn (model X.prog X.w) X.A X.env ex1 → PSs (X.tr pins1 ex1) todo (rd Wx))
    (cl : PreA X (g :: gs) ls) : PS X (.Try todo (g :: gs) [] [] at_) (fun De st0 He => rd (wAsL X.K De ls) De st0 He) := by
  constructor
  intro pn0 s0 st0 He De inv rdg
  have okx := inv.ok
  have frames : X.A.frames = some (X.env :: X.outer) := by
    rw [okx.frames, st]
  apply wpAny_Try_except
  have run1 := (inner (wAsL X.K De ls) (X.pn ++ pn0)
    (fun ev s1 => wpAny (model X.prog X.w) X.A (noteFrame ev X.env)
      (fun _ s2 => wpAny (model X.prog X.w) X.A (setFlight ev none)
        (fun _ s3 => wpAny (model X.prog X.w) X.A (handleBy ev X.env (g :: gs)) (SP X pn0 De) X.xe s3) X.xe s2) X.xe s1)
    ?caught PassesOwn.looking).run [] s0 st0 He De (inv.toTry _) rdg
  case caught =>
    intro ev sE came
    obtain ⟨ad, gr, sJ, pinsJ, stJ, HJ, kl, dd, evq, invJ0, kept, slotsUp, flies, untracked, osq, bareq, wish⟩ := came
    subst evq
    have invJ : Inv X pn0 stJ HJ sJ := invJ0.ofTry okx
    have flies2 : Sky gr (X.env :: X.outer) ad (Zc kl dd) X.env.locals sE.heap := st ▸ flies
    refine Sky.land Zc.steady frames fr flies2 ?_
    intro hA flA upA
    have invA : Inv X pn0 stJ HJ { sE with heap := hA } := invJ.landed kept flA.1 (slotsUp.trans upA) osq bareq
    obtain ⟨obA, fvA, getA, zA, dataA⟩ := flA.there
    have offFrames : ad ∉ frs (X.env :: X.outer) := by
      intro inside
      obtain ⟨_, ob2, get2, no2⟩ := flA.2.2.1.mem inside
      have same := getA.symm.trans get2
      cases same
      exact no2 _ dataA
    have offLocals : ad ≠ X.env.locals := by
      intro q
      exact offFrames (List.mem_filterMap.mpr ⟨X.env, List.mem_cons_self, fr.trans (congrArg some q.symm)⟩)
    have offFs : ad ∉ X.fs := by
      intro inside
      obtain ⟨en, hen, q⟩ := List.mem_filterMap.mp inside
      exact offFrames (List.mem_filterMap.mpr ⟨en, List.mem_cons_of_mem _ hen, q⟩)
    have invS := invA.suite getA dataA untracked offLocals offFs
    have walk : ∀ {hs : List ExceptHandler} {l2 : AsL}, PreA X hs l2 → wAsL X.K De l2 kl dd stJ HJ →
        wpAny (model X.prog X.w) X.A (handleBy (.ref ad) X.env hs) (SP X pn0 De) X.xe { sE with heap := hA } := by
      intro hs l2 pr
      induction pr with
      | rest _ => exact fun none_ => none_.elim
      | @more nm nn cv ix wt stm sts pp qq hs2 l3 known place kind suite _ ih =>
        rintro ⟨yes, meets, go1, go2⟩
        refine wpAny_handleBy_cons
                                   (codeAny_handlers_test ?_) (by intro q; cases q)
        have typeIs : PySem.W.Looks (model X.prog X.w) hA (typeOf (.ref ad)) kl := fun A0 Q0 E0 sx kp q =>
          wpAny_typeOf_ref (kp _ _ getA) (by rw [zA.1]; exact q)
        have asked := PySem.W.exm_one (M := model X.prog X.w) invA.kIn typeIs meets
        have named : ∀ {Q0 : Value → Shared → Prop} {E0 : Value → Shared → Prop}, Q0 cv { sE with heap := hA } →
            wpAny (model X.prog X.w) (X.A.mark (some (.ref ad))) (eval (.Name nm pp) X.env) Q0 E0 { sE with heap := hA } := by
          intro Q0 E0 q
          obtain ⟨vis, dbg, glob | ⟨glob, boot, nn⟩⟩ := known
          · exact ld_glob (X := X.suite ad ((ad, obA) :: (X.pn ++ pn0))) invS vis glob q dbg
          · exact ld_blt (X := X.suite ad ((ad, obA) :: (X.pn ++ pn0))) invS vis glob boot q nn dbg
        refine named (asked.here ?_)
        cases yes with
        | false => exact ih (go2 rfl)
        | true =>
          refine codeAny_handlers_suite_as (HandSPX.lands_againZ flA ?_)
          intro hB flB upB
          have invB : Inv X pn0 stJ HJ { sE with heap := hB } := invJ.landed kept flB.1 ((slotsUp.trans upA).trans upB) osq bareq
          obtain ⟨obB, fvB, getB, zB, dataB⟩ := flB.there
          have invT := invB.suite getB dataB untracked offLocals offFs
          refine store_ok (X := X.suite ad ((ad, obB) :: (X.pn ++ pn0))) (v := .ref ad) invT nd place (.inl kind) rfl (fun sN invN => ?_) (.inr kind)
          have run2 := (suite ad obB kl dd (X.pn ++ pn0) zB ⟨_, dataB⟩).run [] sN _ HJ _ invN (go1 rfl ad untracked)
          refine wpAny_mono run2 ?_ (fun _ _ q => q.elim)
          intro fl sF ended
          have over : ∀ {stF : St} {HF : Hp} {Q0 : Shared → Prop}, Inv (X.suite ad ((ad, obB) :: (X.pn ++ pn0))) [] stF HF sF → (∀ sG, Inv X pn0 (stF.set ix none) HF sG → Q0 sG) →
              wpAny (model X.prog X.w) X.A (do bindName X.env nn .none; unbindBehindTheSuite X.env nn qq) (fun _ sG => Q0 sG) X.xe sF :=
            fun invF q => gone_ok (invF.unsuite okx) nd place kind q
          cases fl with
          | ret uv =>
            obtain ⟨vv, stF, HF, invF, rel, q⟩ := ended
            exact over invF fun sG invG => ⟨_, _, _, invG, rel, q⟩
          | next =>
            obtain ⟨stF, HF, invF, q⟩ := ended
            exact over invF fun sG invG => ⟨_, _, invG, q⟩
          | brk =>
            obtain ⟨stF, HF, invF, q⟩ := ended
            exact over invF fun sG invG => ⟨_, _, invG, q⟩
          | cont =>
            obtain ⟨stF, HF, invF, q⟩ := ended
            exact over invF fun sG invG => ⟨_, _, invG, q⟩
    exact walk cl wish
  refine wpAny_mono run1 ?_ (fun _ _ q => q)
  intro fl sF ended
  cases fl with
  | ret uv =>
    obtain ⟨vv, stF, HF, invF, rel, q⟩ := ended
    exact ⟨vv, stF, HF, invF.ofTry okx, rel, q⟩
  | next =>
    obtain ⟨stF, HF, invF, q⟩ := ended
    exact wpAny_execs_nil ⟨stF, HF, invF.ofTry okx, q⟩
  | brk =>
    obtain ⟨stF, HF, invF, q⟩ := ended
    exact ⟨stF, HF, invF.ofTry okx, q⟩
  | cont =>
    obtain ⟨stF, HF, invF, q⟩ := ended
    exact ⟨stF, HF, invF.ofTry okx, q⟩
end
end L2
namespace K14
open PySem L2
open PyProof.Rows PySem.Spec
theorem TabV.imp {K : PySem.W.Frag} {ns : List Str} {lo hi : Int} {y : V} {H : Hp} {Q Q' : Bool → Hp → Prop} (h : TabV K ns lo hi y H Q) (f : ∀ b H', Q b H' → Q' b H') : TabV K ns lo hi y H Q' := by
  rcases h with ⟨d, kvs, dat, e1, e2, e3, e4⟩ | ⟨n, e1, e2, e3⟩
  · exact .inl ⟨d, kvs, dat, e1, e2, e3, fun H' S => f _ H' (e4 H' S)⟩
  · exact .inr ⟨n, e1, e2, f _ H e3⟩
/-- where values stand for names -/
def StAt (H : Hp) (d : Addr) (ns : List Str) (val : Str → Int) : Prop := ∃ kvs, H d = some (.dK kvs) ∧ kvs.length = ns.length ∧ ∀ n ∈ ns, valV kvs (.inr n) = some (.int (val n)) ∧ 0 ≤ val n ∧ val n ≤ 1000000
theorem StAt.same {H H' : Hp} {d : Addr} {ns : List Str} {val : Str → Int} (s : Same H H') (h : StAt H d ns val) : StAt H' d ns val := by
  obtain ⟨kvs, h1, h2, h3⟩ := h
  exact ⟨kvs, s _ _ h1, h2, h3⟩
theorem inD_st {i : Int} (h : 0 ≤ i ∧ i ≤ 1000000) : inD 0 1000000 (.int i) = true := by
  show ((decide (-1000000000000 < i) && decide (i < 1000000000000)) && (decide (0 ≤ i) && decide (i ≤ 1000000))) = true
  rw [decide_eq_true (by omega), decide_eq_true (by omega), decide_eq_true h.1, decide_eq_true h.2]
  rfl
theorem StAt.tab {K : PySem.W.Frag} {H : Hp} {d : Addr} {ns : List Str} {val : Str → Int} {Q : Bool → Hp → Prop} (h : StAt H d ns val) (k : ∀ H', Same H H' → Q true H') : TabV K ns 0 1000000 (.ref d) H Q := by
  obtain ⟨kvs, h1, h2, h3⟩ := h
  refine .inl ⟨d, kvs, fun n => .int (val n), rfl, h1, fun n hn v e => ?_, fun H' S => ?_⟩
  · rw [(h3 n hn).1] at e
    cases e
    exact .int _
  · have : tabB kvs ns (fun n => .int (val n)) 0 1000000 = true := by
      unfold tabB
      rw [decide_eq_true h2, Bool.true_and, List.all_eq_true]
      intro n hn
      rw [(h3 n hn).1, inD_st (h3 n hn).2]
      rfl
    rw [this]
    exact k H' S
/-- ticks to spare at an arc -/
def spare (iv : Int) (val : Str → Int) (o : Od) : Int := val o.2.1 - val o.1 - o.2.2.1 + iv * o.2.2.2
theorem Od.small {names : List Str} {o : Od} (h : OdOk names o) : (0 ≤ o.2.2.1 ∧ o.2.2.1 ≤ 4) ∧ (0 ≤ o.2.2.2 ∧ o.2.2.2 ≤ 3) := ⟨h.d, h.e⟩
/-- what an error class says that has RoundError's maker -/
structure EB (K : PySem.W.Frag) (mg : Str → Option Value) (x : Str) (C fI : Addr) (fld : Str) : Prop where
  mg : mg x = some (.ref C)
  ox : OxB K C
  init : PySem.W.findIn K
                          (.ref C) "__init__" = some (some (.ref fI))
  ty : PySem.W.typeIn K (.ref fI) = some (.type "function")
  no : PySem.W.findIn K (.ref C) fld = some none
def sp_E (fld : Str) (K : PySem.W.Frag) : Sp := fun vs H Q _ => ∃ (a C : Addr) (v : V), vs = [.ref a, v] ∧ OxB K C ∧ PySem.W.findIn K (.ref C) fld = some none ∧ H a = some (exo a C none) ∧
  ∀ d, H d = none → d ≠ a → Q .non (upd (upd H d (exd d [(fld, v)])) a (exo a C (some d)))
/-- the error C leaves, and keeps v as fld -/
def Er (C : Addr) (fld : Str) (H : Hp) (v : V) (E : XK) : Prop := ∀ (d : Addr) (H' : Hp), Same H H' → H' d = some (.xd [(fld, v)]) → E (.ref C) (some d) H'
theorem Er.same {C : Addr} {fld : Str} {H H1 : Hp} {v : V} {E : XK} (s : Same H H1) (h : Er C fld H v E) : Er C fld H1 v E := fun d H' S e => h d H' (Same.trans s S) e
theorem er_out {K : PySem.W.Frag} {mg : Str → Option Value} {x fld : Str} {C fI : Addr} (T : EB K mg x C fI fld) {H : Hp} {v : V} {a : Addr} {Q : XK} (na : H a = none) (k : Er C fld H v Q) :
    sp_E fld K (.ref a :: ([v] ++ [])) (upd H a (exo a C none)) (fun v H2 => v = .non ∧ ∃ (d : Addr) (fs : List (Str × V)), H2 a = some (exo a C (some d)) ∧ H2 d = some (exd d fs) ∧ H d = none ∧ Q (.ref C) (some d) (upd (del H2 a) d (.xd fs))) (fun _ _ _ => False) := by
  refine ⟨a, C, v, rfl, T.ox, T.no, upd_same, fun d hd nd => ⟨rfl, d, _, upd_same, (upd_ne nd).trans upd_same, ?_, k d _ (fun b o e => ?_) upd_same⟩⟩
  · rw [upd_ne nd] at hd
    exact hd
  · have nba : b ≠ a := ne_of_none e na
    have nbd : b ≠ d := by
      refine ne_of_none e ?_
      rw [upd_ne nd] at hd
      exact hd
    rw [upd_ne nbd, del_ne nba, upd_ne nba, upd_ne nbd, upd_ne nba]
    exact e
/-- the error that the program raises for an argument -/
structure UA (K : PySem.W.Frag) (mg : Str → Option Value) where
  fR : Addr
  dR : FuncData
  FR : FunD K "__init__" "RoundError.__init__" (defArgs s_RoundError_init) (defBody s_RoundError_init) (defScope s_RoundError_init) [.non] [] fR dR
  bR : Binds K dR ["self", "told"] []
  A : Addr
  a : EB K mg "InvalidArgument" A fR "told"
  xA : XfC K A
section
variable {P : Program} {w : World} {K : PySem.W.Frag}
                                                      {mg : Str → Option Value} {base : Heap}
theorem ok_R (Z : UA K mg) : FnOk P w K mg base CX0 1 Z.fR Z.dR ["self", "told"] (sp_E "told" K) := by
  refine Z.FR.ok (CX := CX0) sc_RoundError_init (fun vs H Q E h => ?_) (fun cdv A outer s H vs Q E hr h => ?_)
  · obtain ⟨a, C, v, rfl, _⟩ := h
    rfl
  · obtain ⟨a, C, v, rfl, hC, hn, ha, k⟩ := h
    exact ⟨_, pss_one (ps_osB (pv 0) (pv 1)), _, rfl, _, rfl, a, C, rfl, hC, hn, .inl ⟨ha, fun d hd nd => k d hd nd⟩⟩
def sp_check_between (K : PySem.W.Frag) : Sp := fun vs H Q _ => ∃ (i lo hi : Int), vs = [.int i, .int lo, .int hi] ∧ inD lo hi (.int i) = true ∧ Q .non H
theorem ok_check_between (T : T K mg) : FnOk P w K mg base CX0 3 T.f_check_between T.d_check_between ["value", "low", "high"] (sp_check_between K) := by
  have G_is_between : FnOk P w K mg base CX0 2 T.f_is_between T.d_is_between ["value", "low", "high"] (sp_is_between K) := ok_is_between T
  refine T.F_check_between.ok sc_check_between (fun vs H Q E h => ?_) (fun cdv A outer s H vs Q E hr h => ?_)
  · obtain ⟨i, lo, hi, rfl, _⟩ := h
    rfl
  · obtain ⟨i, lo, hi, rfl, hb, k⟩ := h
    have hu := hu_of hr
    have hr_is_between : Room 2 _ := hr.mono (by decide)
    refine ⟨_, (pss_one (ps_if (pt_not (pt_val (pe_call G_is_between hr_is_between rfl T.m_is_between T.F_is_between.kp T.b_is_between .nil pass0 (pa_cons (pv 0) (pa_cons (pv 1) (pa_cons (pv 2) pa_nil))))))
      (pss_one ps_never)
      pss_nil)), ?_⟩
    refine ⟨_, rfl, _, rfl, _, rfl, .int i, .int i, lo, hi, rfl, .inl (.int i), _, rfl, ?_⟩
    rw [hb]
    exact iteF k
def sp_check_interval (K : PySem.W.Frag) : Sp := fun vs H Q _ => ∃ (i : Int), vs = [.int i] ∧ 1 ≤ i ∧ i ≤ 32 ∧ Q .non H
theorem ok_check_interval (T : T K mg) : FnOk P w K mg base CX0 4 T.f_check_interval T.d_check_interval ["value"] (sp_check_interval K) := by
  have G_check_between : FnOk P w K mg base CX0 3 T.f_check_between T.d_check_between ["value", "low", "high"] (sp_check_between K) := ok_check_between T
  refine T.F_check_interval.ok sc_check_interval (fun vs H Q E h => ?_) (fun cdv A outer s H vs Q E hr h => ?_)
  · obtain ⟨i, rfl, _⟩ := h
    rfl
  · obtain ⟨i, rfl, i1, i2, k⟩ := h
    have hu := hu_of hr
    have hr_check_between : Room 3 _ := hr.mono (by decide)
    obtain ⟨_, c_MAX_INTERVAL⟩ := T.c_MAX_INTERVAL
    refine ⟨_, (pss_one (ps_expr (pe_call G_check_between hr_check_between rfl T.m_check_between T.F_check_between.kp T.b_check_between .nil pass0 (pa_cons (pv 0) (pa_cons pe_int (pa_cons (pe_glob (v := V.int 32) rfl c_MAX_INTERVAL ⟨_, rfl⟩) pa_nil)))))), ?_⟩
    refine ⟨_, rfl, i, 1, 32, rfl, ?_, k⟩
    show ((decide (-1000000000000 < i) && decide (i < 1000000000000)) && (decide (1 ≤ i) && decide (i ≤ 32))) = true
    rw [decide_eq_true (by omega), decide_eq_true (by omega), decide_eq_true i1, decide_eq_true i2]
    rfl
def sp_check_loop (K : PySem.W.Frag) (C L : Addr) : Sp := fun vs H Q _ => ∃ (q : Addr) (N : List OM) (os : List Od), vs = [.ref q] ∧ LpAt K H C L q N os ∧ Q .non H
theorem ok_check_loop (T : T K mg) (L : UL K mg) {C : Addr} : FnOk P w K mg base CX0 1 T.f_check_loop T.d_check_loop ["value"] (sp_check_loop K C L.C) := by
  refine T.F_check_loop.ok sc_check_loop (fun vs H Q E h => ?_) (fun cdv A outer s H vs Q E hr h => ?_)
  · obtain ⟨q, N, os, rfl, _⟩ := h
    rfl
  · obtain ⟨q, N, os, rfl, ⟨ok, so, hN, ne, dx, d, nm, o, ar, op, rd, un, ak, as, rs, us, a1, _⟩, k⟩ := h
    have hu := hu_of hr
    refine ⟨_, (pss_one (ps_if (pt_not (pt_val (pe_callB call_isi (by rfl) T.z_isinstance (by decide +kernel) (pa_cons (pv 0) (pa_cons (pe_glob (v := V.ref L.C) rfl L.mC rfl) pa_nil)))))
      (pss_one ps_never)
      pss_nil)), ?_⟩
    refine ⟨_, rfl, _, _, _, _, true, rfl, .own _, .base (.ins a1 L.cl L.ca L.cg L.ct L.mo), (by unfold PySem.W.kitOne; rw [if_pos (beq_self_eq_true _)]), _, rfl, iteF k⟩
def sp_is_starts (K : PySem.W.Frag) (C L : Addr) : Sp := fun vs H Q _ => ∃ (q : Addr) (N : List OM) (os : List Od) (y : V), vs = [.ref q, y] ∧ LpAt K H C L q N os ∧ TabV K (nms N) 0 1000000 y H (fun b => Q (.bl b))
theorem ok_is_starts (T : T K mg) (L : UL K mg) {C : Addr} : FnOk P w K mg base CX0 4 T.f_is_starts T.d_is_starts ["loop", "value"] (sp_is_starts K C L.C) := by
  have G_check_loop : FnOk P w K mg base CX0 1 T.f_check_loop T.d_check_loop ["value"] (sp_check_loop K C L.C) := ok_check_loop T L
  have G_is_table : FnOk P w K mg base CX0 3 T.f_is_table T.d_is_table ["names", "value", "low", "high"] (sp_is_table K) := ok_is_table T
  have Gn : FnOk P w K mg base CX0 1 L.pn.g L.pn.d ["self"] (getSp L.C "_names") := ok_get L.cl L.pn sc_Loop_names L.n2 ⟨_, _, _, rfl⟩
  refine T.F_is_starts.ok sc_is_starts (fun vs H Q E h => ?_) (fun cdv A outer s H vs Q E hr h => ?_)
  · obtain ⟨q, N, os, y, rfl, _⟩ := h
    rfl
  · obtain ⟨q, N, os, y, rfl, lp, k⟩ := h
    have hu := hu_of hr
    obtain ⟨_, c_MAX_START⟩ := T.c_MAX_START
    refine ⟨_, (pss_cons (ps_expr (pe_call G_check_loop (hr.mono (by decide)) rfl T.m_check_loop T.F_check_loop.kp T.b_check_loop .nil pass0 (pa_cons (pv 0) pa_nil)))
      (pss_one (ps_ret (pe_call G_is_table (hr.mono (by decide)) rfl T.m_is_table T.F_is_table.kp T.b_is_table .nil pass0 (pa_cons (pe_prop (pv 0) L.cl L.pn.pr Gn (hr.mono (by decide)) L.pn.b .nil pass0 rfl) (pa_cons (pv 1) (pa_cons pe_int (pa_cons (pe_glob (v := V.int 1000000) rfl c_MAX_START ⟨_, rfl⟩) pa_nil)))))))), ?_⟩
    refine ⟨_, rfl, q, N, os, rfl, lp, ?_⟩
    obtain ⟨ok, so, hN, ne, dx, d, nm, o, ar, op, rd, un, ak, as, rs, us, a1, a2, a3, _⟩ := id lp
    exact ⟨_, rfl, q, dx, _, rfl, a1, q, dx, _, .ref nm, rfl, a1, rfl, _, rfl, nm, y, nms N, 0, 1000000, rfl, a3, by unfold nms; rw [List.length_map]; exact ok.l8, k⟩
def sp_check_starts (K : PySem.W.Frag) (C L : Addr) : Sp := fun vs H Q _ => ∃ (q d : Addr) (N : List OM) (os : List Od) (val : Str → Int), vs = [.ref q, .ref d] ∧ LpAt K H C L q N os ∧ StAt H d (nms N) val ∧ ∀ H', Same H H' → Q .non H'
theorem ok_check_starts (T : T K mg) (L : UL K mg) {C : Addr} : FnOk P w K mg base CX0 5 T.f_check_starts T.d_check_starts ["loop", "value"] (sp_check_starts K C L.C) := by
  have G_is_starts : FnOk P w K mg base CX0 4 T.f_is_starts T.d_is_starts ["loop", "value"] (sp_is_starts K C L.C) := ok_is_starts T L
  refine T.F_check_starts.ok sc_check_starts (fun vs H Q E h => ?_) (fun cdv A outer s H vs Q E hr h => ?_)
  · obtain ⟨q, d, N, os, val, rfl, _⟩ := h
    rfl
  · obtain ⟨q, d, N, os, val, rfl, lp, st, k⟩ := h
    have hu := hu_of hr
    have hr_is_starts : Room 4 _ := hr.mono (by decide)
    refine ⟨_, (pss_one (ps_if (pt_not (pt_val (pe_call G_is_starts hr_is_starts rfl T.m_is_starts T.F_is_starts.kp T.b_is_starts .nil pass0 (pa_cons (pv 0) (pa_cons (pv 1) pa_nil)))))
      (pss_one ps_never)
      pss_nil)), ?_⟩
    exact ⟨_, rfl, _, rfl, q, N, os, .ref d, rfl, lp, st.tab fun H' S => ⟨_, rfl, iteF (k H' S)⟩⟩
def sp_check_startsB (K : PySem.W.Frag) (C L A : Addr) : Sp := fun vs H _ E => ∃ (q : Addr) (N : List OM) (os : List Od) (y : V), vs = [.ref q, y] ∧ LpAt K H C L q N os ∧ TabV K (nms N) 0 1000000 y H (fun b H' => b = false ∧ Same H H') ∧ Er A "told" H y E
theorem ok_check_startsB (T : T K mg) (L : UL K mg) (Z : UA K mg) {C : Addr} : FnOk P w K mg base (L2.CX P w) 5 T.f_check_starts T.d_check_starts ["loop", "value"] (sp_check_startsB K C L.C Z.A) := by
  have G_is_starts : FnOk P w K mg base CX0 4 T.f_is_starts T.d_is_starts ["loop", "value"] (sp_is_starts K C L.C) := ok_is_starts T L
  have G_R : FnOk P w K mg base CX0 1 Z.fR Z.dR ["self", "told"] (sp_E "told" K) := ok_R Z
  refine T.F_check_starts.okX sc_check_starts (fun vs H Q E h => ?_) (fun cdv A outer s H vs Q E hr h => ?_)
  · obtain ⟨q, N, os, y, rfl, _⟩ := h
    rfl
  · obtain ⟨q, N, os, y, rfl, lp, tv, k⟩ := h
    have hu := hu_of hr
    have hr_is_starts : Room 4 _ := hr.mono (by decide)
    refine ⟨_, (pss_one (ps_if (pt_not (pt_val (pe_call G_is_starts hr_is_starts rfl T.m_is_starts T.F_is_starts.kp T.b_is_starts .nil pass0 (pa_cons (pv 0) (pa_cons (pv 1) pa_nil)))))
      (pss_one (ps_raise rfl (takes_of rfl rfl rfl rfl) (pmk_ox Z.a.ox Z.a.init Z.a.ty G_R (hr.mono (by decide)) Z.bR .nil pass0 rfl Z.a.mg (pa_cons (pv 1) pa_nil))))
      pss_nil)), ?_⟩
    refine ⟨_, rfl, _, rfl, q, N, os, y, rfl, lp, ?_⟩
    refine tv.imp fun b H' ⟨e, S⟩ => ?_
    subst e
    exact ⟨_, rfl, iteT ⟨_, rfl, Nat.le_of_ble_eq_true rfl, fun a ha => er_out Z.a ha (k.same S)⟩⟩
end
end K14
namespace K14
open PySem L2
open PyProof.Rows PySem.Spec
theorem rows_mem {K : PySem.W.Frag} {H : Hp} {a : Addr} {as : List Od} (h : RowsT K H a (as.map oK)) : ∃ ms : List (Addr × Od), SqT K H a (ms.map fun m => V.ref m.1) ∧ (∀ m ∈ ms, SqT K H m.1 [.str m.2.1, .str m.2.2.1, .int m.2.2.2.1, .int m.2.2.2.2]) ∧ ms.map (·.2) = as := by
  obtain ⟨ms, h1, h2, h3⟩ := h
  have key : ∀ (ms : List (Addr × List Key)) (as : List Od), ms.map (·.2) = as.map oK → ∃ ns : List (Addr × Od), ns.map (fun n => (n.1, oK n.2)) = ms ∧ ns.map (·.2) = as := by
    intro ms
    induction ms with
    | nil =>
      intro as e
      cases as with
      | nil => exact ⟨[], rfl, rfl⟩
      | cons a as => cases e
    | cons m ms ih =>
      intro as e
      cases as with
      | nil => cases e
      | cons a as =>
        rw [List.map_cons, List.map_cons] at e
        obtain ⟨e1, e2⟩ := List.cons.inj e
        obtain ⟨ns, e3, e4⟩ := ih as e2
        refine ⟨(m.1, a) :: ns, by rw [List.map_cons, e3]; show (m.1, oK a) :: ms = m :: ms; rw [← e1], by rw [List.map_cons, e4]⟩
  obtain ⟨ns, rfl, e4⟩ := key ms as h3
  refine ⟨ns, by rw [List.map_map] at h1; exact h1, fun m hm => ?_, e4⟩
  exact h2 (m.1, oK m.2) (List.mem_map.mpr ⟨m, hm, rfl⟩)
theorem as_ok {N : List OM} {os as : List Od} (ok : LOk N os) (okN : ∀ m ∈ N, m.2.Ok) (srt : KS.SrtK ((arcsOf N N ++ os).map oK) (as.map oK)) : ∀ x ∈ as, OdOk (nms N) x := fun x hx => by
  have e := (srt.2.2 (oK x)).mp (List.mem_map.mpr ⟨x, hx, rfl⟩)
  obtain ⟨y, hy, ey⟩ := List.mem_map.mp e
  obtain rfl := oK_inj ey
  rcases List.mem_append.mp hy with hy | hy
  · obtain ⟨m, hm, p, hp, rfl⟩ := arcs_mem.mp hy
    obtain ⟨m2, hm2, e2⟩ := List.mem_map.mp (ok.rd m hm p hp)
    have e3 : tkOf N p.1 = m2.2.t := by rw [← e2]; exact tkOf_at ok.nd hm2
    have t2 := (okN m2 hm2).t
    have t3 := ((okN m hm).rs p hp).2
    refine ⟨ok.rd m hm p hp, List.mem_map.mpr ⟨m, hm, rfl⟩, ?_, t3⟩
    show 0 ≤ tkOf N p.1 ∧ tkOf N p.1 ≤ 4
    rw [e3]
    omega
  · exact ok.ok _ hy
theorem oKs_inj : ∀ {os ps : List Od}, os.map oK = ps.map oK → os = ps
  | [], [], _ => rfl
  | [], _ :: _, h => by cases h
  | _ :: _, [], h => by cases h
  | o :: os, p :: ps, h => by
    rw [List.map_cons, List.map_cons] at h
    obtain ⟨h1, h2⟩ := List.cons.inj h
    rw [oK_inj h1, oKs_inj h2]
section
variable {P : Program} {w : World} {K : PySem.W.Frag}
                                                      {mg : Str → Option Value} {base : Heap}
def sp_leeway (K : PySem.W.Frag) (C L : Addr) : Sp := fun vs H Q _ => ∃ (q d : Addr) (iv : Int) (N : List OM) (os as : List Od) (val : Str → Int), vs = [.ref q, .int iv, .ref d] ∧ 1 ≤ iv ∧ iv ≤ 32 ∧ LpAt K H C L q N os ∧ KS.SrtK ((arcsOf N N ++ os).map oK) (as.map oK) ∧ StAt H d (nms N) val ∧
  ∀ t H', Same H H' → SqT K H' t ((as.map (spare iv val)).map V.int) → Q (.ref t) H'
theorem ok_leeway (T : T K mg) (L : UL K mg) {C : Addr} : FnOk P w K mg base CX0 6 T.f_leeway T.d_leeway ["loop", "interval", "starts"] (sp_leeway K C L.C) := by
  have G_check_loop : FnOk P w K mg base CX0 1 T.f_check_loop T.d_check_loop ["value"] (sp_check_loop K C L.C) := ok_check_loop T L
  have G_check_interval : FnOk P w K mg base CX0 4 T.f_check_interval T.d_check_interval ["value"] (sp_check_interval K) := ok_check_interval T
  have G_check_starts : FnOk P w K mg base CX0 5 T.f_check_starts T.d_check_starts ["loop", "value"] (sp_check_starts K C L.C) := ok_check_starts T L
  have Ga : FnOk P w K mg base CX0 1 L.pa.g L.pa.d ["self"] (getSp L.C "_arcs") := ok_get L.cl L.pa sc_Loop_arcs L.n4 ⟨_, _, _, rfl⟩
  refine T.F_leeway.ok sc_leeway (fun vs H Q E h => ?_) (fun cdv A outer s H vs Q E hr h => ?_)
  · obtain ⟨q, d, iv, N, os, as, val, rfl, _⟩ := h
    rfl
  · obtain ⟨q, d, iv, N, os, as0, val, rfl, i1, i2, lp, srt, st, k⟩ := h
    have hu := hu_of hr
    refine ⟨_, (pss_cons (ps_expr (pe_call G_check_loop (hr.mono (by decide)) rfl T.m_check_loop T.F_check_loop.kp T.b_check_loop .nil pass0 (pa_cons (pv 0) pa_nil)))
      (pss_cons (ps_expr (pe_call G_check_interval (hr.mono (by decide)) rfl T.m_check_interval T.F_check_interval.kp T.b_check_interval .nil pass0 (pa_cons (pv 1) pa_nil)))
      (pss_cons (ps_expr (pe_call G_check_starts (hr.mono (by decide)) rfl T.m_check_starts T.F_check_starts.kp T.b_check_starts .nil pass0 (pa_cons (pv 0) (pa_cons (pv 2) pa_nil))))
      (pss_one (ps_ret (pe_callTy call_tuple_of (by rfl) T.z_tuple (by decide +kernel) (pa_cons (pe_lc (own := [("source", 3), ("target", 4), ("delay", 5), ("distance", 6)]) (g := gTup K 4 (gCons (gName 3) (gCons (gName 4) (gCons (gName 5) (gCons (gName 6) gNil))))) rfl sc_leeway.nd (pi_tup (pe_prop (pv 0) L.cl L.pa.pr Ga (hr.mono (by decide)) L.pa.b .nil pass0 rfl)) (blkOk_by (N := ["loop", "interval", "starts", "source", "target", "delay", "distance"]) (sc := defScope s_leeway) (by decide +kernel)) (fun _ _ _ _ _ => (pg_tup rfl (pgs_cons (pg_name (i := 3) sc_leeway.nd rfl (Or.inl rfl)) (pgs_cons (pg_name (i := 4) sc_leeway.nd rfl (Or.inl rfl)) (pgs_cons (pg_name (i := 5) sc_leeway.nd rfl (Or.inl rfl)) (pgs_cons (pg_name (i := 6) sc_leeway.nd rfl (Or.inl rfl)) pgs_nil)))))) (fun _ _ _ _ _ => pts_nil)
        (fun _ _ _ _ _ => (pe_op op_add (pe_op op_sub (pe_op op_sub (pe_dget (by exact hu) (pv 2) (pv 4) (fun _ _ => rfl)) (pe_dget (by exact hu) (pv 2) (pv 3) (fun _ _ => rfl))) (pv 5)) (pe_op op_mul (pv 1) (pv 6))))) pa_nil))))))), ?_⟩
    refine ⟨_, rfl, q, N, os, rfl, lp, ?_⟩
    refine ⟨_, rfl, iv, rfl, i1, i2, ?_⟩
    refine ⟨_, rfl, _, rfl, q, d, N, os, val, rfl, lp, st, fun H1 S1 => ?_⟩
    obtain ⟨ok, so, hN, ne, dx, d', nm, o, ar, op, rd, un, ak, as, rs, us, a1, a2, a3, a4, a5, a6, a7, a8, a9, b1, b2, b3, b4⟩ := lp.same S1
    obtain rfl := oKs_inj (KS.SrtK.eq (oK_one _) (fun _ => Iff.rfl) a6 srt)
    have aok := as_ok ok (fun m hm => (hN m hm).1) a6
    obtain ⟨ms, m1, m2, m3⟩ := rows_mem a5
    obtain ⟨kvs, s1, s2, s3⟩ := st.same S1
    have lm : ms.length ≤ 32 := by
      have := congrArg List.length m3
      rw [List.length_map] at this
      omega
    refine ⟨_, rfl, q, dx, _, rfl, a1, q, dx, _, .ref ar, rfl, a1, rfl, ar, rfl, ⟨_, m1⟩, fun D hD => ?_⟩
    refine lc_pick (e := fun m : Addr × Od => V.ref m.1) (l := ms) (walk_tup (K := K) (a := ar)) (fun m => some (V.int (spare iv val m.2))) (fun G' S => Same.seqT S m1) (by omega) hD ?_ ?_
    · intro m G' hm Sx C Nn post
      have mo : m.2 ∈ as := by rw [← m3]; exact List.mem_map.mpr ⟨m, hm, rfl⟩
      have oo := aok _ mo
      have e1 := s3 _ oo.s
      have e2 := s3 _ oo.t
      have dg : ∀ {n : Str}, n ∈ nms N → DGet G' d (V.str n) (some (.int (val n))) := fun {n} hn => by
        have := DGet.k (k := Sum.inr n) (Sx _ _ s1)
        rw [(s3 n hn).1] at this
        exact this
      refine ⟨m.1, _, rfl, Same.seqT Sx (m2 m hm), rfl, _, _, rfl, _, _, rfl, _, _, rfl, _, _, rfl, rfl, ?_⟩
      refine ⟨rfl, ?_⟩
      refine yesT (iteT ?_)
      refine ⟨_, rfl, _, rfl, d, _, rfl, dg oo.t, _, rfl, _, rfl, d, _, rfl, dg oo.s, _, _, rfl, rfl, _, rfl, _, _, rfl, rfl, ?_⟩
      refine ⟨_, rfl, _, rfl, _, _, rfl, rfl, .inl ⟨by omega, by omega⟩, _, _, rfl, rfl, ?_⟩
      exact post G' (Same.refl _)
    · intro G2 S2 eD
      rw [picks (e := fun m : Addr × Od => V.int (spare iv val m.2))] at eD
      have e9 : (ms.map fun m => V.int (spare iv val m.2)) = (as.map (spare iv val)).map V.int := by
        rw [← m3, List.map_map, List.map_map]
        rfl
      rw [e9] at eD
      refine ⟨D, _, rfl, .inl ⟨SqL.of eD, fun t ht => ?_⟩⟩
      exact k t _ (Same.trans S1 (Same.trans S2 (Same.new ht))) (SqT.of upd_same)
def sp_leewayB (K : PySem.W.Frag) (C L A : Addr) : Sp := fun vs H _ E => ∃ (q : Addr) (iv : Int) (N : List OM) (os : List Od) (y : V), vs = [.ref q, .int iv, y] ∧ 1 ≤ iv ∧ iv ≤ 32 ∧ LpAt K H C L q N os ∧ TabV K (nms N) 0 1000000 y H (fun b H' => b = false ∧ Same H H') ∧ Er A "told" H y E
theorem ok_leewayB (T : T K mg) (L : UL K mg) (Z : UA K mg) {C : Addr} : FnOk P w K mg base (L2.CX P w) 6 T.f_leeway T.d_leeway ["loop", "interval", "starts"] (sp_leewayB K C L.C Z.A) := by
  have G_check_loop : FnOk P w K mg base CX0 1 T.f_check_loop T.d_check_loop ["value"] (sp_check_loop K C L.C) := ok_check_loop T L
  have G_check_interval : FnOk P w K mg base CX0 4 T.f_check_interval T.d_check_interval ["value"] (sp_check_interval K) := ok_check_interval T
  have G_check_starts : FnOk P w K mg base (L2.CX P w) 5 T.f_check_starts T.d_check_starts ["loop", "value"] (sp_check_startsB K C L.C Z.A) := ok_check_startsB T L Z
  refine T.F_leeway.okX sc_leeway (fun vs H Q E h => ?_) (fun cdv A outer s H vs Q E hr h => ?_)
  · obtain ⟨q, iv, N, os, y, rfl, _⟩ := h
    rfl
  · obtain ⟨q, iv, N, os, y, rfl, i1, i2, lp, tv, k⟩ := h
    have hu := hu_of hr
    refine ⟨_, (pss_cons (ps_expr (pe_call G_check_loop (hr.mono (by decide)) rfl T.m_check_loop T.F_check_loop.kp T.b_check_loop .nil pass0 (pa_cons (pv 0) pa_nil)))
      (pss_cons (ps_expr (pe_call G_check_interval (hr.mono (by decide)) rfl T.m_check_interval T.F_check_interval.kp T.b_check_interval .nil pass0 (pa_cons (pv 1) pa_nil)))
      (pss_cons (ps_expr (pe_callS G_check_starts (hr.mono (by decide)) rfl T.m_check_starts T.F_check_starts.kp T.b_check_starts (fun σ => passAt (takes_of rfl rfl rfl rfl) σ) (pa_cons (pv 0) (pa_cons (pv 2) pa_nil))))
      (pss_one ps_never)))), ?_⟩
    refine ⟨_, rfl, q, N, os, rfl, lp, ?_⟩
    refine ⟨_, rfl, iv, rfl, i1, i2, ?_⟩
    exact ⟨_, rfl, _, rfl, q, N, os, y, rfl, lp, tv, k⟩
def sp_is_fitting (K : PySem.W.Frag) (C L : Addr) : Sp := fun vs H Q _ => ∃ (q : Addr) (iv : Int) (N : List OM) (os : List Od) (y : V), vs = [.ref q, .int iv, y] ∧ 1 ≤ iv ∧ iv ≤ 32 ∧ LpAt K H C L q N os ∧
  ((∃ (d : Addr) (as : List Od) (val : Str → Int), y = .ref d ∧ KS.SrtK ((arcsOf N N ++ os).map oK) (as.map oK) ∧ StAt H d (nms N) val ∧ ∀ H', Same H H' → Q (.bl ((as.map (spare iv val)).all fun s => decide (0 ≤ s))) H') ∨
    TabV K (nms N) 0 1000000 y H (fun b H' => b = false ∧ Q (.bl false) H'))
theorem ok_is_fitting (T : T K mg) (L : UL K mg) {C : Addr} : FnOk P w K mg base CX0 7 T.f_is_fitting T.d_is_fitting ["loop", "interval", "value"] (sp_is_fitting K C L.C) := by
  have G_check_loop : FnOk P w K mg base CX0 1 T.f_check_loop T.d_check_loop ["value"] (sp_check_loop K C L.C) := ok_check_loop T L
  have G_check_interval : FnOk P w K mg base CX0 4 T.f_check_interval T.d_check_interval ["value"] (sp_check_interval K) := ok_check_interval T
  have G_is_starts : FnOk P w K mg base CX0 4 T.f_is_starts T.d_is_starts ["loop", "value"] (sp_is_starts K C L.C) := ok_is_starts T L
  have G_leeway : FnOk P w K mg base CX0 6 T.f_leeway T.d_leeway ["loop", "interval", "starts"] (sp_leeway K C L.C) := ok_leeway T L
  refine T.F_is_fitting.ok sc_is_fitting (fun vs H Q E h => ?_) (fun cdv A outer s H vs Q E hr h => ?_)
  · obtain ⟨q, iv, N, os, y, rfl, _⟩ := h
    rfl
  · obtain ⟨q, iv, N, os, y, rfl, i1, i2, lp, alt⟩ := h
    have hu := hu_of hr
    refine ⟨_, (pss_cons (ps_expr (pe_call G_check_loop (hr.mono (by decide)) rfl T.m_check_loop T.F_check_loop.kp T.b_check_loop .nil pass0 (pa_cons (pv 0) pa_nil)))
      (pss_cons (ps_expr (pe_call G_check_interval (hr.mono (by decide)) rfl T.m_check_interval T.F_check_interval.kp T.b_check_interval .nil pass0 (pa_cons (pv 1) pa_nil)))
      (pss_one (ps_ret (pe_and (pe_call G_is_starts (hr.mono (by decide)) rfl T.m_is_starts T.F_is_starts.kp T.b_is_starts .nil pass0 (pa_cons (pv 0) (pa_cons (pv 2) pa_nil))) (pe_one (pe_callB (cr_all rfl) (by rfl) T.z_all (by decide +kernel) (pa_cons (pe_lc (own := [("ticks", 3)]) (g := gName 3) rfl sc_is_fitting.nd (pi_tup (pe_call G_leeway (hr.mono (by decide)) rfl T.m_leeway T.F_leeway.kp T.b_leeway .nil pass0 (pa_cons (pv 0) (pa_cons (pv 1) (pa_cons (pv 2) pa_nil))))) (blkOk_by (N := ["loop", "interval", "value", "ticks"]) (sc := defScope s_is_fitting) (by decide +kernel)) (fun _ _ _ _ _ => (pg_name (i := 3) sc_is_fitting.nd rfl (Or.inl rfl))) (fun _ _ _ _ _ => pts_nil) (fun _ _ _ _ _ => (pe_cmpR op_ge (pv 3) pe_int (nomark _)))) pa_nil)))))))), ?_⟩
    refine ⟨_, rfl, q, N, os, rfl, lp, ?_⟩
    refine ⟨_, rfl, iv, rfl, i1, i2, ?_⟩
    rcases alt with ⟨d, as, val, rfl, srt, st, k⟩ | tv
    · refine ⟨_, rfl, _, rfl, q, N, os, .ref d, rfl, lp, st.tab fun H1 S1 => ?_⟩
      refine ⟨_, rfl, iteT ?_⟩
      refine ⟨_, rfl, _, rfl, _, rfl, q, d, iv, N, os, as, val, rfl, i1, i2, lp.same S1, srt, st.same S1, fun t H2 S2 ht => ?_⟩
      refine ⟨t, rfl, ⟨_, ht⟩, fun D hD => ?_⟩
      have l32 : as.length ≤ 32 := by
        obtain ⟨ok, so, hN, ne, dx, d', nm, o, ar, op, rd, un, ak, as2, rs, us, a1, a2, a3, a4, a5, a6, a7, _⟩ := id lp
        obtain rfl := oKs_inj (KS.SrtK.eq (oK_one _) (fun _ => Iff.rfl) a6 srt)
        exact a7
      refine lc_pick (e := V.int) (l := as.map (spare iv val)) (walk_tup (K := K) (a := t)) (fun i => some (V.bl (decide (0 ≤ i)))) (fun G' S => Same.seqT S ht) (by rw [List.length_map]; omega) hD ?_ ?_
      · intro i G' hm Sx C Nn post
        refine ⟨rfl, ?_⟩
        refine yesT (iteT ?_)
        refine ⟨_, rfl, _, _, rfl, rfl, ?_⟩
        exact post G' (Same.refl _)
      · intro G2 S3 eD
        rw [picks (e := fun i => V.bl (decide (0 ≤ i)))] at eD
        refine ⟨D, (as.map (spare iv val)).map fun i => decide (0 ≤ i), rfl, SqL.of (by rw [eD, List.map_map (g := V.bl)]; rfl), ?_⟩
        rw [List.all_map]
        exact k G2 (Same.trans S1 (Same.trans S2 S3))
    · refine ⟨_, rfl, _, rfl, q, N, os, y, rfl, lp, tv.imp fun b H' ⟨e, kq⟩ => ?_⟩
      subst e
      exact ⟨_, rfl, iteF kq⟩
end
end K14
namespace K14
open PySem L2
open PyProof.Rows PySem.Spec
/-- the dice: a list of three ints, the second small -/
def Dl (H : Hp) (r : Addr) : Prop := ∃ a b c : Int, (0 ≤ b ∧ b < 2147483648) ∧ H r = some (.lst [.int a, .int b, .int c])
theorem Dl.rl {H : Hp} {r : Addr} (h : Dl H r) : Rl H r := by
  obtain ⟨a, b, c, _, e⟩ := h
  exact ⟨a, b, c, e⟩
theorem Dl.same {H H' : Hp} {r : Addr} (s : Same H H') (h : Dl H r) : Dl H' r := by
  obtain ⟨a, b, c, hb, e⟩ := h
  exact ⟨a, b, c, hb, s _ _ e⟩
theorem Dl.put {H : Hp} {r p : Addr} {o : HO} (n : p ≠ r) (h : Dl H r) : Dl (upd H p o) r := by
  obtain ⟨a, b, c, hb, e⟩ := h
  exact ⟨a, b, c, hb, (upd_ne (Ne.symm n)).trans e⟩
theorem Dl.off {H : Hp} {r p : Addr} (h : Dl H r) (e : H p = none) : p ≠ r := fun z => by
  obtain ⟨_, _, _, _, q⟩ := h
  rw [← z, e] at q
  cases q
section
variable {P : Program} {w : World} {K : PySem.W.Frag}
                                                      {mg : Str → Option Value} {base : Heap}
def sp_w_dice (K : PySem.W.Frag) : Sp := fun vs H Q _ => ∃ (i : Int), vs = [.int i] ∧ ∀ p H', H p = none → Same H H' → Dl H' p → Q (.ref p) H'
theorem ok_w_dice (T : T K mg) : FnOk P w K mg base CX0 1 T.f_w_dice T.d_w_dice ["cell"] (sp_w_dice K) := by
  refine T.F_w_dice.ok sc_w_dice (fun vs H Q E h => ?_) (fun cdv A outer s H vs Q E hr h => ?_)
  · obtain ⟨i, rfl, _⟩ := h
    rfl
  · obtain ⟨i, rfl, k⟩ := h
    have hu := hu_of hr
    refine ⟨_, (pss_cons (ps_set (i := 1) sc_w_dice.nd rfl (Or.inl rfl) (pe_callTy call_int1 (by rfl) T.z_int (by decide +kernel) (pa_cons (pe_callB call_abs (by rfl) T.z_abs (by decide +kernel) (pa_cons (pv 0) pa_nil)) pa_nil)))
      (pss_one (ps_ret (pe_lst (pa_cons (pe_callB (call_max2 rfl) (by rfl) T.z_max (by decide +kernel) (pa_cons pe_int (pa_cons (pe_op op_sub (pv 1) (pe_op op_pow pe_int pe_int)) pa_nil))) (pa_cons (pe_op op_mod (pe_callTy call_int1 (by rfl) T.z_int (by decide +kernel) (pa_cons (pe_op op_add (pe_op op_mul (pv 1) pe_int) (pe_callTy call_int1 (by rfl) T.z_int (by decide +kernel) (pa_cons (pe_cmpR op_lt (pv 0) pe_int (nomark _)) pa_nil))) pa_nil)) pe_int) (pa_cons pe_int pa_nil))))))), ?_⟩
    refine ⟨_, rfl, _, rfl, .inl ⟨_, rfl, ?_⟩⟩
    refine ⟨_, rfl, _, _, rfl, rfl, ⟨by decide, by decide, by decide⟩, _, _, rfl, rfl, _, _, rfl, ?_⟩
    refine ⟨_, rfl, _, _, rfl, rfl, .inr ⟨by decide, by decide⟩, _, rfl, _, _, rfl, rfl, .inr ⟨_, rfl, ?_⟩⟩
    refine ⟨_, _, rfl, rfl, .inl ⟨_, rfl, ?_⟩⟩
    refine ⟨_, _, rfl, rfl, (by show (0 : Int) < _; decide), (by show 3 ≤ sizeLine; decide), fun p hp => ?_⟩
    refine k p _ hp (Same.new hp) ⟨_, _, _, ⟨Int.emod_nonneg _ (by decide), ?_⟩, upd_same⟩
    exact Int.lt_trans (Int.emod_lt_of_pos _ (by decide)) (by decide)
def sp_w_next (K : PySem.W.Frag) : Sp := fun vs H Q _ => ∃ (r : Addr) (n : Int), vs = [.ref r, .int n] ∧ Dl H r ∧ 0 < n ∧ n.natAbs.log2 < 9000 ∧ ∀ v H', 0 ≤ v → v < n → Dl H' r → Only r H H' → Q (.int v) H'
theorem ok_w_next (T : T K mg) : FnOk P w K mg base CX0 1 T.f_w_next T.d_w_next ["dice", "many"] (sp_w_next K) := by
  refine T.F_w_next.ok sc_w_next (fun vs H Q E h => ?_) (fun cdv A outer s H vs Q E hr h => ?_)
  · obtain ⟨r, n, rfl, _⟩ := h
    rfl
  · obtain ⟨r, n, rfl, ⟨a, b, c, hb, e⟩, h0, h9, k⟩ := h
    have hu := hu_of hr
    refine ⟨_, (pss_cons (ps_if (pt_cmpR op_gt (pe_ix ix_seq (pv 0) pe_int (fun _ _ => rfl)) pe_int (nomark _))
      (pss_cons (ps_set (i := 2) sc_w_next.nd rfl (Or.inl rfl) (pe_op op_mod (pe_callTy call_int1 (by rfl) T.z_int (by decide +kernel) (pa_cons (pe_ix ix_seq (pv 0) pe_int (fun _ _ => rfl)) pa_nil)) (pv 1)))
      (pss_cons (ps_asg (pe_op op_fdivW (pe_ix ix_seq (pv 0) pe_int (fun _ _ => rfl)) (pv 1)) (pg_sub (pv 0) pe_int set_list))
      (pss_one (ps_ret (pv 2)))))
      pss_nil)
      (pss_cons (ps_asg (pe_op op_add (pe_ix ix_seq (pv 0) pe_int (fun _ _ => rfl)) pe_int) (pg_sub (pv 0) pe_int set_list))
      (pss_cons (ps_set (i := 3) sc_w_next.nd rfl (Or.inl rfl) (pe_op op_mod (pe_callTy call_int1 (by rfl) T.z_int (by decide +kernel) (pa_cons (pe_op op_mul (pe_op op_add (pe_ix ix_seq (pv 0) pe_int (fun _ _ => rfl)) pe_int) (pe_op op_add (pe_op op_mul (pe_ix ix_seq (pv 0) pe_int (fun _ _ => rfl)) pe_int) pe_int)) pa_nil)) pe_int))
      (pss_cons (ps_set (i := 3) sc_w_next.nd rfl (Or.inl rfl) (pe_op op_mod (pe_callTy call_int1 (by rfl) T.z_int (by decide +kernel) (pa_cons (pe_op op_add (pe_op op_mul (pv 3) (pv 3)) (pe_op op_mul (pe_ix ix_seq (pv 0) pe_int (fun _ _ => rfl)) pe_int)) pa_nil)) pe_int))
      (pss_one (ps_ret (pe_op op_mod (pe_callTy call_int1 (by rfl) T.z_int (by decide +kernel) (pa_cons (pe_op op_fdivW (pv 3) pe_int) pa_nil)) (pv 1)))))))), ?_⟩
    have u3 : ∀ {x y z : V} {G : Hp}, G r = some (.lst [x, y, z]) → SqL K G r [x, y, z] := fun g => SqL.of g
    refine ⟨_, rfl, .inl ⟨_, _, _, _, rfl, rfl, u3 e, rfl, ?_⟩⟩
    refine ⟨_, _, rfl, rfl, _, rfl, ?_⟩
    refine ite2 (fun c1 => ?_) (fun c1 => ?_)
    · refine ⟨_, rfl, .inl ⟨_, _, _, _, rfl, rfl, u3 e, rfl, .inl ⟨_, rfl, ?_⟩⟩⟩
      refine ⟨_, rfl, _, _, rfl, rfl, h0, ?_⟩
      refine ⟨_, rfl, .inl ⟨_, _, _, _, rfl, rfl, u3 e, rfl, ?_⟩⟩
      refine ⟨_, rfl, _, _, rfl, rfl, ⟨h0, h9⟩, _, rfl, _, _, _, 0, rfl, rfl, e, rfl, ?_⟩
      refine ⟨_, rfl, ?_⟩
      exact k _ _ (Int.emod_nonneg _ (by omega)) (Int.emod_lt_of_pos _ h0) ⟨_, _, _, hb, upd_same⟩ Only.upd
    · refine ⟨_, rfl, .inl ⟨_, _, _, _, rfl, rfl, u3 e, rfl, ?_⟩⟩
      refine ⟨_, _, rfl, rfl, _, rfl, _, _, _, 2, rfl, rfl, e, rfl, ?_⟩
      have e2 : (upd H r (.lst [.int a, .int b, .int (c + 1)])) r = some (.lst [.int a, .int b, .int (c + 1)]) := upd_same
      refine ⟨_, rfl, .inl ⟨_, _, _, _, rfl, rfl, u3 e2, rfl, ?_⟩⟩
      refine ⟨_, _, rfl, rfl, ?_⟩
      refine ⟨_, rfl, .inl ⟨_, _, _, _, rfl, rfl, u3 e2, rfl, ?_⟩⟩
      refine ⟨_, _, rfl, rfl, .inr ⟨by decide, by decide⟩, _, _, rfl, rfl, _, _, rfl, rfl, .inl ⟨by omega, by omega⟩, .inl ⟨_, rfl, ?_⟩⟩
      refine ⟨_, _, rfl, rfl, (by show (0 : Int) < _; decide), ?_⟩
      have o1 : -(2 ^ 64) < ((b + 40503) * ((c + 1) * 69621 + 1013)) % 2147483587 ∧ ((b + 40503) * ((c + 1) * 69621 + 1013)) % 2147483587 < 2 ^ 64 := by
        have h1 := Int.emod_nonneg ((b + 40503) * ((c + 1) * 69621 + 1013)) (show (2147483587 : Int) ≠ 0 by decide)
        have h2 := Int.emod_lt_of_pos ((b + 40503) * ((c + 1) * 69621 + 1013)) (show (0 : Int) < 2147483587 by decide)
        omega
      refine ⟨_, rfl, _, rfl, _, _, rfl, rfl, .inl o1, ?_⟩
      refine ⟨_, rfl, .inl ⟨_, _, _, _, rfl, rfl, u3 e2, rfl, ?_⟩⟩
      refine ⟨_, _, rfl, rfl, .inr ⟨by decide, by decide⟩, _, _, rfl, rfl, .inl ⟨_, rfl, ?_⟩⟩
      refine ⟨_, _, rfl, rfl, (by show (0 : Int) < _; decide), ?_⟩
      refine ⟨_, rfl, _, _, rfl, rfl, ⟨by decide, by decide⟩, .inl ⟨_, rfl, ?_⟩⟩
      refine ⟨_, rfl, _, _, rfl, rfl, h0, ?_⟩
      exact k _ _ (Int.emod_nonneg _ (by omega)) (Int.emod_lt_of_pos _ h0) ⟨_, _, _, hb, e2⟩ Only.upd
end
end K14
namespace K14
open PySem L2
open PyProof.Rows PySem.Spec
abbrev tx (cs : List Nat) : Str := ⟨cs.toArray⟩
abbrev chV (c : Nat) : V := V.str ⟨#[c]⟩
def LETC : List Nat := [97, 98, 99, 100, 101, 102, 103, 104, 105, 106, 107, 108, 109, 110, 111, 112, 113, 114, 115, 116, 117, 118, 119, 120, 121, 122]
def low (cs : List Nat) : Prop := ∀ c ∈ cs, 97 ≤ c ∧ c ≤ 122
theorem low_letc : low LETC := by
  show ∀ c ∈ LETC, 97 ≤ c ∧ c ≤ 122
  decide
theorem nd_letc : LETC.Nodup := by decide
theorem letters_eq : ((Str.ofString "abcdefghijklmnopqrstuvwxyz").cps.toList.map fun c => V.str ⟨#[c]⟩) = LETC.map chV := by rfl
theorem tx_inj {a b : List Nat} (h : tx a = tx b) : a = b := by
  have : a.toArray = b.toArray := congrArg Str.cps h
  exact congrArg Array.toList this
theorem ch_inj {a b : Nat} (h : chV a = chV b) : a = b := by
  have h1 : (⟨#[a]⟩ : Str) = ⟨#[b]⟩ := V.str.inj h
  have h2 : (#[a] : Array Nat) = #[b] := congrArg Str.cps h1
  simpa using h2
theorem join_ones : ∀ cs : List Nat, Txt.join (Str.ofString "") (cs.map fun c => (⟨#[c]⟩ : Str)) = tx cs := by
  have e0 : Str.ofString "" = Str.empty := by rfl
  have key : ∀ cs : List Nat, Str.join Str.empty (cs.map fun c => (⟨#[c]⟩ : Str)) = tx cs := by
    intro cs
    induction cs with
    | nil => rfl
    | cons c cs ih =>
      cases cs with
      | nil => rfl
      | cons d cs =>
        show (⟨#[c]⟩ : Str) ++ Str.empty ++ Str.join Str.empty ((d :: cs).map fun c => (⟨#[c]⟩ : Str)) = _
        rw [ih]
        show (⟨(#[c] ++ (#[] : Array Nat)) ++ (d :: cs).toArray⟩ : Str) = ⟨(c :: d :: cs).toArray⟩
        simp
  intro cs
  rw [TL.join_eq, e0, key]
theorem nmC_tx {cs : List Nat} (h1 : 1 ≤ cs.length) (h2 : cs.length ≤ 8) (h : low cs) : nmC (tx cs) = true := by
  unfold nmC
  have e : (tx cs).length = cs.length := by show (cs.toArray).size = _; simp
  rw [e, decide_eq_true ⟨h1, h2⟩, Bool.true_and, List.all_eq_true]
  intro c hc
  have hc' : c ∈ cs := by simpa using hc
  rw [decide_eq_true (h c hc').1, decide_eq_true (h c hc').2]
  rfl
theorem chs_map (cs : List Nat) : cs.map chV = (cs.map fun c => (⟨#[c]⟩ : Str)).map V.str := by
  rw [List.map_map]
  rfl
theorem ones_len (cs : List Nat) : ((cs.map fun c => (⟨#[c]⟩ : Str)).map (·.length)).sum = cs.length := by
  induction cs with
  | nil => rfl
  | cons c cs ih =>
    rw [List.map_cons, List.map_cons, List.sum_cons, ih, List.length_cons]
    show 1 + cs.length = cs.length + 1
    omega
theorem letters_cps : (Str.ofString "abcdefghijklmnopqrstuvwxyz").cps.toList = LETC := by rfl
def letS : Str := Str.ofString "abcdefghijklmnopqrstuvwxyz"
theorem free_letter {ns : List Str} (h : ns.length ≤ 25) : ∃ c l, (LETC.filter fun c => !decide ((⟨#[c]⟩ : Str) ∈ ns)) = c :: l := by
  cases e : LETC.filter fun c => !decide ((⟨#[c]⟩ : Str) ∈ ns) with
  | cons c l => exact ⟨c, l, rfl⟩
  | nil =>
    exfalso
    have all : ∀ c ∈ LETC, (⟨#[c]⟩ : Str) ∈ ns := fun c hc => by
      have := List.filter_eq_nil_iff.mp e c hc
      simpa using this
    have nd : (LETC.map fun c => (⟨#[c]⟩ : Str)).Nodup := by decide +kernel
    have := nd.length_le_of_subset (l₂ := ns) fun z hz => by
      obtain ⟨c, hc, rfl⟩ := List.mem_map.mp hz
      exact all c hc
    rw [List.length_map] at this
    have l26 : LETC.length = 26 := rfl
    omega
section
variable {P : Program} {w : World} {K : PySem.W.Frag}
                                                      {mg : Str → Option Value} {base : Heap}
def sp_w_words (K : PySem.W.Frag) : Sp := fun vs H Q _ => ∃ (r : Addr) (many : Nat), vs = [.ref r, .int (many : Int)] ∧ Dl H r ∧ many ≤ 9 ∧
  ∀ l (ns : List Str) H', Dl H' r → Only r H H' → H l = none → H' l = some (.lst (ns.map V.str)) → ns.Nodup → ns.length = many → (∀ n ∈ ns, nmC n = true) → Q (.ref l) H'
theorem ok_w_words (T : T K mg) : FnOk P w K mg base CX0 2 T.f_w_words T.d_w_words ["dice", "many"] (sp_w_words K) := by
  have G_w_next : FnOk P w K mg base CX0 1 T.f_w_next T.d_w_next ["dice", "many"] (sp_w_next K) := ok_w_next T
  refine T.F_w_words.ok sc_w_words (fun vs H Q E h => ?_) (fun cdv A outer s H vs Q E hr h => ?_)
  · obtain ⟨r, many, rfl, _⟩ := h
    rfl
  · obtain ⟨r, many, rfl, hR, m9, k⟩ := h
    have hu := hu_of hr
    have hr_w_next : Room 1 _ := hr.mono (by decide)
    refine ⟨_, (pss_cons (ps_asg (pe_tup (pa_cons pe_str (pa_cons (pe_lst pa_nil) pa_nil))) (pg_tup rfl (pgs_cons (pg_name (i := 2) sc_w_words.nd rfl (Or.inr rfl)) (pgs_cons (pg_name (i := 3) sc_w_words.nd rfl (Or.inr rfl)) pgs_nil))))
      (pss_cons (ps_for PassesOwn.never rfl (pi_range1 (by rfl) T.z_range (pa_cons (pv 1) pa_nil)) (pg_name (i := 4) sc_w_words.nd rfl (Or.inl rfl))
      (pss_cons (ps_set (i := 5) sc_w_words.nd rfl (Or.inl rfl) (pe_join pe_str (pe_lc (own := [("at", 6)]) (g := gName 6) rfl sc_w_words.nd (pi_range1 (by rfl) T.z_range (pa_cons (pe_op op_add pe_int (pe_call G_w_next hr_w_next rfl T.m_w_next T.F_w_next.kp T.b_w_next .nil pass0 (pa_cons (pv 0) (pa_cons pe_int pa_nil)))) pa_nil)) (blkOk_by (N := ["dice", "many", "letters", "found", "turn", "word", "at", "letter"]) (sc := defScope s_w_words) (by decide +kernel)) (fun _ _ _ _ _ => (pg_name (i := 6) sc_w_words.nd rfl (Or.inl rfl))) (fun _ _ _ _ _ => pts_nil) (fun _ _ _ _ _ => (pe_ix (r := rIx K) ix_seq (pv 2) (pe_call G_w_next hr_w_next rfl T.m_w_next T.F_w_next.kp T.b_w_next .nil pass0 (pa_cons (pv 0) (pa_cons pe_int pa_nil))) (fun _ _ => rfl))))))
      (pss_cons (ps_if (pt_cmpR op_in_seq (pv 5) (pv 3) rfl)
      (pss_one (ps_set (i := 5) sc_w_words.nd rfl (Or.inl rfl) (pe_ix ix_seq (pe_lc (own := [("letter", 7)]) (g := gName 7) rfl sc_w_words.nd (pi_str (pv 2)) (blkOk_by (N := ["dice", "many", "letters", "found", "turn", "word", "at", "letter"]) (sc := defScope s_w_words) (by decide +kernel)) (fun _ _ _ _ _ => (pg_name (i := 7) sc_w_words.nd rfl (Or.inl rfl))) (fun _ _ _ _ _ => pts_one (pt_cmpR (r := rIn K true) op_notIn_seq (pv 7) (pv 3) (by with_unfolding_all rfl))) (fun _ _ _ _ _ => (pv 7))) pe_int (fun _ _ => rfl))))
      pss_nil)
      (pss_one (ps_expr (pe_bm PySem.F.plainAttrs_list PySem.F.slot_list_append PySem.F.type_list_append mt_append (pv 3) (pa_cons (pv 5) pa_nil)))))))
      (pss_one (ps_ret (pv 3))))), ?_⟩
    refine ⟨by show 0 ≤ sizeLine; decide, fun f hf => ?_⟩
    refine ⟨by show 2 ≤ sizeLine; decide, fun t ht => ?_⟩
    refine ⟨t, _, rfl, SqT.of upd_same, rfl, _, _, rfl, _, _, rfl, rfl, ?_⟩
    have S0 : Same H (upd (upd H f (.lst [])) t (.tup [V.str letS, .ref f])) := Same.trans (Same.new hf) (Same.new ht)
    have ef0 : (upd (upd H f (.lst [])) t (.tup [V.str letS, .ref f])) f = some (.lst (([] : List Str).map V.str)) := by
      have : f ≠ t := fun z => by rw [← z, upd_same] at ht; cases ht
      rw [upd_ne this, upd_same]
      rfl
    have nfr : f ≠ r := hR.off hf
    refine ⟨_, rfl, (many : Int), rfl, by omega, by omega, ?_⟩
    refine for_range (n := many) (fun i σ H' => ∃ v4 v5, σ = [some (.ref r), some (.int (many : Int)), some (.str letS), some (.ref f), v4, v5, none, none] ∧ Dl H' r ∧ Only r H H' ∧ ∃ ns : List Str, H' f = some (.lst (ns.map V.str)) ∧ ns.Nodup ∧ ns.length = i ∧ ∀ n ∈ ns, nmC n = true)
      ⟨none, none, rfl, hR.same S0, Same.only S0, [], ef0, List.nodup_nil, rfl, fun n hn => by cases hn⟩ ?_ ?_
    · rintro i σ G hi ⟨v4, v5, rfl, RG, OG, ns, eF, nd, ln, okn⟩
      refine ⟨⟨_, rfl⟩, ?_⟩
      refine ⟨_, rfl, r, 8, rfl, RG, by decide, by decide +kernel, fun v G1 v0 v1 R1 O1 => ?_⟩
      have ev : (1 : Int) + v = ((1 + v.toNat : Nat) : Int) := by omega
      have l8 : 1 + v.toNat ≤ 8 := by omega
      refine ⟨_, _, rfl, rfl, ⟨((1 + v.toNat : Nat) : Int), by rw [← ev], by omega, by omega, fun D hD => ?_⟩⟩
      generalize hm : 1 + v.toNat = m at l8
      have m1 : 1 ≤ m := by omega
      have eF1 := O1 _ _ nfr eF
      have nDf : f ≠ D := ne_of_none eF1 hD
      have nDr : D ≠ r := R1.off hD
      refine lc_range (n := m) (fun j H' => ∃ cs : List Nat, cs.length = j ∧ low cs ∧ H' D = some (.lst (cs.map chV)) ∧ Dl H' r ∧ Only r G1 H') ⟨[], rfl, (fun _ h => by cases h), upd_same, R1.put nDr, Only.new hD⟩ ?_ ?_
      · rintro j G2 hj ⟨cs, lc, lw, eD, R2, O2⟩
        refine ⟨rfl, ?_⟩
        refine yesT (iteT ?_)
        refine ⟨_, rfl, _, rfl, r, 26, rfl, R2, by decide, by decide +kernel, fun u G3 u0 u1 R3 O3 => ?_⟩
        obtain ⟨c, hc, hcm⟩ : ∃ c, atI letS.cps.toList u = some c ∧ c ∈ LETC := by
          have hu2 : u.toNat < LETC.length := by show u.toNat < 26; omega
          refine ⟨LETC[u.toNat], ?_, List.getElem_mem hu2⟩
          have h3 : ((u.toNat : Nat) : Int) = u := Int.toNat_of_nonneg u0
          have h4 := atI_nat (xs := LETC) (List.getElem?_eq_getElem hu2)
          rw [h3] at h4
          exact h4
        refine .inr (.inr ⟨letS, u, c, rfl, rfl, by decide +kernel, hc, ?_⟩)
        refine ⟨_, O3 _ _ nDr eD, by rw [List.length_map, lc, sizeLine_eq]; omega, cs ++ [c], by rw [List.length_append, lc]; rfl, ?_, by rw [upd_same, List.map_append]; rfl, R3.put nDr, ?_⟩
        · intro d hd
          rcases List.mem_append.mp hd with hd | hd
          · exact lw d hd
          · rw [List.mem_singleton.mp hd]
            exact low_letc c hcm
        · intro b o nb e
          rw [upd_ne (ne_of_none e hD)]
          exact O3 _ _ nb (O2 _ _ nb e)
      rintro G2 ⟨cs, lc, lw, eD, R2, O2⟩
      refine ⟨_, D, cs.map fun c => (⟨#[c]⟩ : Str), rfl, rfl, .inl (SqL.of (by rw [eD, chs_map])), by rw [ones_len, lc, List.length_map, lc]; show m + m * 0 ≤ 16777216; omega, ?_⟩
      rw [join_ones]
      have okw : nmC (tx cs) = true := nmC_tx (by omega) (by omega) lw
      have eF2 := O2 _ _ nfr eF1
      have O12 : Only r H G2 := Only.trans OG (Only.trans O1 O2)
      refine ⟨_, rfl, _, rfl, f, _, rfl, .inl (SqL.of eF2), rfl, flat_strs _, ?_⟩
      rw [inV_strs]
      refine ⟨_, rfl, ?_⟩
      by_cases cin : tx cs ∈ ns
      · rw [decide_eq_true cin]
        refine iteT ?_
        refine ⟨_, rfl, _, rfl, fun D2 hD2 => ?_⟩
        have nD2r : D2 ≠ r := R2.off hD2
        have nfD2 : f ≠ D2 := ne_of_none eF2 hD2
        refine lc_it walk_str (fun j H' => H' D2 = some (.lst (((LETC.take j).filter fun c => !decide ((⟨#[c]⟩ : Str) ∈ ns)).map chV)) ∧ Same G2 H') ⟨upd_same, Same.new hD2⟩ (fun _ _ _ _ => trivial) ?_ ?_
        · rintro j y Ga Gb hj ⟨eD2, S⟩ ⟨rfl, c, hc, rfl⟩
          have tk := tk_succ hc
          have tk : LETC.take (j + 1) = LETC.take j ++ [c] := tk
          refine ⟨rfl, ?_⟩
          refine ⟨_, rfl, _, rfl, f, _, rfl, .inl (SqL.of (S _ _ eF2)), rfl, flat_strs _, ?_⟩
          rw [inV_strs]
          refine ⟨_, rfl, ?_⟩
          have lz : ((LETC.take j).filter fun c => !decide ((⟨#[c]⟩ : Str) ∈ ns)).length ≤ 26 := Nat.le_trans (List.length_filter_le _ _) (by rw [List.length_take]; exact Nat.min_le_right _ _)
          by_cases cc : (⟨#[c]⟩ : Str) ∈ ns
          · rw [decide_eq_true cc]
            refine iteF ⟨?_, S⟩
            rw [tk, List.filter_append, eD2]
            simp [cc]
          · rw [decide_eq_false cc]
            refine iteT ⟨_, rfl, _, eD2, by rw [List.length_map, sizeLine_eq]; omega, ?_, Same.at hD2 S⟩
            rw [upd_same, tk, List.filter_append]
            simp [cc]
        rintro G3 ⟨eD2, S3⟩
        obtain ⟨c, l, ecl⟩ := free_letter (ns := ns) (by omega)
        have tk26 : LETC.take letS.length = LETC := by rfl
        rw [show (LETC.take letS.cps.size) = LETC from rfl, ecl] at eD2
        refine .inl ⟨D2, _, 0, chV c, rfl, rfl, SqL.of eD2, atI_nat (xs := (c :: l).map chV) (j := 0) rfl, ?_⟩
        have hcf : c ∈ LETC.filter fun c => !decide ((⟨#[c]⟩ : Str) ∈ ns) := by rw [ecl]; exact List.mem_cons_self
        obtain ⟨hcm, hcn⟩ := List.mem_filter.mp hcf
        have hcn : (⟨#[c]⟩ : Str) ∉ ns := by simpa using hcn
        have eF3 := S3 _ _ eF2
        refine ⟨_, rfl, .inl ⟨rfl, _, SqL.of eF3⟩, _, rfl, f, ns.map V.str, V.str (tx [c]), rfl, rfl, eF3, by rw [List.length_map, sizeLine_eq]; omega, ?_⟩
        refine ⟨_, _, rfl, (R2.same S3).put nfr, ?_, ns ++ [tx [c]], by rw [upd_same, List.map_append]; rfl, ?_, by rw [List.length_append, ln]; rfl, ?_⟩
        · intro b o nb e
          rw [upd_ne (ne_of_none e hf)]
          exact S3 _ _ (O12 _ _ nb e)
        · exact List.nodup_append.mpr ⟨nd, by simp, fun a ha b hb e => hcn (by rw [List.mem_singleton.mp hb] at e; rw [e] at ha; exact ha)⟩
        · intro n hn
          rcases List.mem_append.mp hn with hn | hn
          · exact okn n hn
          · rw [List.mem_singleton.mp hn]
            exact nmC_tx (cs := [c]) (Nat.le_refl 1) (Nat.le_of_ble_eq_true rfl) (fun d hd => by rw [List.mem_singleton.mp hd]; exact low_letc c hcm)
      · rw [decide_eq_false cin]
        refine iteF ?_
        refine ⟨_, rfl, .inl ⟨rfl, _, SqL.of eF2⟩, _, rfl, f, ns.map V.str, V.str (tx cs), rfl, rfl, eF2, by rw [List.length_map, sizeLine_eq]; omega, ?_⟩
        refine ⟨_, _, rfl, R2.put nfr, ?_, ns ++ [tx cs], by rw [upd_same, List.map_append]; rfl, ?_, by rw [List.length_append, ln]; rfl, ?_⟩
        · intro b o nb e
          rw [upd_ne (ne_of_none e hf)]
          exact O12 _ _ nb e
        · exact List.nodup_append.mpr ⟨nd, by simp, fun a ha b hb e => cin (by rw [List.mem_singleton.mp hb] at e; rw [e] at ha; exact ha)⟩
        · intro n hn
          rcases List.mem_append.mp hn with hn | hn
          · exact okn n hn
          · rw [List.mem_singleton.mp hn]
            exact okw
    · rintro σ G ⟨v4, v5, rfl, RG, OG, ns, eF, nd, ln, okn⟩
      exact ⟨_, rfl, k f ns G RG OG hf eF nd ln okn⟩
end
end K14
namespace K14
open PySem L2
open PyProof.Rows PySem.Spec
/-- what a drawn reading may be: from an earlier name at distance nought, else from any -/
def RdOk (ns : List Str) (at_ : Nat) (p : Str × Int) : Prop := 0 ≤ p.2 ∧ p.2 ≤ 3 ∧ ∃ j, ns[j]? = some p.1 ∧ (p.2 = 0 → j < at_)
theorem Dl.nol {r : Addr} {H H' : Hp} (o : Only r H H') (h : Dl H r) : NoL H H' := NoL.only o h.rl
/-- a drawn row: a tuple of a name, ticks, readings, uses -/
def DRow (K : PySem.W.Frag) (H : Hp) (p : Addr) (r : Rw) : Prop := r.Ok ∧ ∃ x3 x4, SqT K H p [.str r.n, .int r.t, x3, x4] ∧ Dp K H x3 (tD r.rs) ∧ Dp K H x4 (tD r.us)
theorem dpt_nol {K : PySem.W.Frag} {H H' : Hp} (s : NoL H H') {x : V} {ps : Prs} (h : Dp K H x (tD ps)) : Dp K H' x (tD ps) := by
  unfold tD at h ⊢
  cases h with
  | tup a b => exact .tup (NoL.seqT s a) (pairs_nol s b)
theorem DRow.nol {K : PySem.W.Frag} {H H' : Hp} {p : Addr} {r : Rw} (s : NoL H H') (h : DRow K H p r) : DRow K H' p r := by
  obtain ⟨ok, x3, x4, h1, h2, h3⟩ := h
  exact ⟨ok, x3, x4, NoL.seqT s h1, dpt_nol s h2, dpt_nol s h3⟩
section
variable {P : Program} {w : World} {K : PySem.W.Frag}
                                                      {mg : Str → Option Value} {base : Heap}
def sp_w_reads (K : PySem.W.Frag) : Sp := fun vs H Q _ => ∃ (r nl : Addr) (ns : List Str) (at_ : Nat), vs = [.ref r, .ref nl, .int (at_ : Int)] ∧ Dl H r ∧ H nl = some (.lst (ns.map V.str)) ∧ nl ≠ r ∧ 1 ≤ ns.length ∧ ns.length ≤ 8 ∧ (∀ n ∈ ns, nmC n = true) ∧
  ∀ t (rs : Prs) H', Dl H' r → Only r H H' → H t = none → Dp K H' (.ref t) (tD rs) → rs.length ≤ 3 → (∀ p ∈ rs, RdOk ns at_ p) → Q (.ref t) H'
theorem ok_w_reads (T : T K mg) : FnOk P w K mg base CX0 2 T.f_w_reads T.d_w_reads ["dice", "names", "at"] (sp_w_reads K) := by
  have G_w_next : FnOk P w K mg base CX0 1 T.f_w_next T.d_w_next ["dice", "many"] (sp_w_next K) := ok_w_next T
  refine T.F_w_reads.ok sc_w_reads (fun vs H Q E h => ?_) (fun cdv A outer s H vs Q E hr h => ?_)
  · obtain ⟨r, nl, ns, at_, rfl, _⟩ := h
    rfl
  · obtain ⟨r, nl, ns, at_, rfl, hR, hn, nlr, l1, l8, okn, k⟩ := h
    have hu := hu_of hr
    have hr_w_next : Room 1 _ := hr.mono (by decide)
    refine ⟨_, (pss_cons (ps_set (i := 3) sc_w_reads.nd rfl (Or.inl rfl) (pe_lst pa_nil))
      (pss_cons (ps_for PassesOwn.never rfl (pi_range1 (by rfl) T.z_range (pa_cons (pe_call G_w_next hr_w_next rfl T.m_w_next T.F_w_next.kp T.b_w_next .nil pass0 (pa_cons (pv 0) (pa_cons pe_int pa_nil))) pa_nil)) (pg_name (i := 4) sc_w_reads.nd rfl (Or.inl rfl))
      (pss_cons (ps_set (i := 5) sc_w_reads.nd rfl (Or.inl rfl) (pe_call G_w_next hr_w_next rfl T.m_w_next T.F_w_next.kp T.b_w_next .nil pass0 (pa_cons (pv 0) (pa_cons (pe_callB call_len (by rfl) T.z_len (by decide +kernel) (pa_cons (pv 1) pa_nil)) pa_nil))))
      (pss_cons (ps_set (i := 6) sc_w_reads.nd rfl (Or.inl rfl) (pe_ifExp (pt_cmpR op_lt (pv 5) (pv 2) (nomark _)) (pe_call G_w_next hr_w_next rfl T.m_w_next T.F_w_next.kp T.b_w_next .nil pass0 (pa_cons (pv 0) (pa_cons pe_int pa_nil))) (pe_op op_add pe_int (pe_call G_w_next hr_w_next rfl T.m_w_next T.F_w_next.kp T.b_w_next .nil pass0 (pa_cons (pv 0) (pa_cons pe_int pa_nil))))))
      (pss_one (ps_expr (pe_bm PySem.F.plainAttrs_list PySem.F.slot_list_append PySem.F.type_list_append mt_append (pv 3) (pa_cons (pe_tup (pa_cons (pe_ix ix_seq (pv 1) (pv 5) (fun _ _ => rfl)) (pa_cons (pv 6) pa_nil))) pa_nil)))))))
      (pss_one (ps_ret (pe_callTy call_tuple_of (by rfl) T.z_tuple (by decide +kernel) (pa_cons (pv 3) pa_nil)))))), ?_⟩
    refine ⟨by show 0 ≤ sizeLine; decide, fun f hf => ?_⟩
    have nfr : f ≠ r := hR.off hf
    have nnf : nl ≠ f := fun z => by rw [z, hf] at hn; cases hn
    have S1 : Same H (upd H f (.lst [])) := Same.new hf
    have R2 := hR.same S1
    refine ⟨_, rfl, r, 4, rfl, R2, by decide, by decide +kernel, fun v H1 v0 v1 R1 O1 => ?_⟩
    have O01 : Only r H H1 := fun c o n e => O1 _ _ n (S1 _ _ e)
    have eF1 : H1 f = some (.lst []) := O1 _ _ nfr upd_same
    have ev : ((v.toNat : Nat) : Int) = v := Int.toNat_of_nonneg v0
    refine ⟨((v.toNat : Nat) : Int), by rw [ev], by omega, by omega, ?_⟩
    have l3 : v.toNat ≤ 3 := by omega
    generalize v.toNat = m at l3
    refine for_range (n := m) (fun i σ H' => ∃ v4 v5 v6, σ = [some (.ref r), some (.ref nl), some (.int at_), some (.ref f), v4, v5, v6] ∧ Dl H' r ∧ Only r H H' ∧ ∃ (ys : List V) (rs : Prs), H' f = some (.lst ys) ∧ DpAll K H' ys (rs.map pD) ∧ rs.length = i ∧ ∀ p ∈ rs, RdOk ns at_ p)
      ⟨none, none, none, rfl, R1, O01, [], [], eF1, .nil, rfl, fun p hp => by cases hp⟩ ?_ ?_
    · rintro i σ G hi ⟨v4, v5, v6, rfl, RG, OG, ys, rs, eF, dF, lr, okr⟩
      have eN : G nl = some (.lst (ns.map V.str)) := OG _ _ nlr hn
      have ln : (ns.map V.str).length = ns.length := List.length_map ..
      have lys := dpa_len dF
      rw [List.length_map] at lys
      refine ⟨_, rfl, _, rfl, _, _, rfl, .inl ⟨_, SqL.of eN, rfl⟩, r, _, rfl, RG, by rw [ln]; omega, ?_, fun o G1 v0 v1 R4 O4 => ?_⟩
      · exact Nat.lt_trans (lg (b := 63) (by omega) (by rw [ln]; omega) (by decide)) (by decide)
      rw [ln] at v1
      have hj : o.toNat < ns.length := by omega
      have ej : ns[o.toNat]? = some ns[o.toNat] := List.getElem?_eq_getElem hj
      generalize ns[o.toNat] = z at ej
      have eA : atI (ns.map V.str) o = some (.str z) := by
        have h3 : ((o.toNat : Nat) : Int) = o := Int.toNat_of_nonneg v0
        rw [← h3]
        exact atI_nat (by rw [List.getElem?_map, ej]; rfl)
      have eN1 : G1 nl = some (.lst (ns.map V.str)) := O4 _ _ nlr eN
      have eF1' : G1 f = some (.lst ys) := O4 _ _ nfr eF
      refine ⟨_, rfl, _, rfl, _, _, rfl, rfl, _, rfl, ?_⟩
      have fin : ∀ (d : Int) (G3 : Hp), 0 ≤ d → d ≤ 3 → (d = 0 → o.toNat < at_) → Dl G3 r → Only r G1 G3 → ∀ tq, G3 tq = none → ∃ v4 v5 v6, (([some (V.ref r), some (.ref nl), some (.int at_), some (.ref f), some (.int (0 + (i : Nat))), some (.int o), some (.int d)] : L2.St)) = [some (.ref r), some (.ref nl), some (.int at_), some (.ref f), v4, v5, v6] ∧ Dl (upd (upd G3 tq (.tup [.str z, .int d])) f (.lst (ys ++ [.ref tq]))) r ∧ Only r H (upd (upd G3 tq (.tup [.str z, .int d])) f (.lst (ys ++ [.ref tq]))) ∧
          ∃ (ys' : List V) (rs : Prs), (upd (upd G3 tq (.tup [.str z, .int d])) f (.lst (ys ++ [.ref tq]))) f = some (.lst ys') ∧ DpAll K (upd (upd G3 tq (.tup [.str z, .int d])) f (.lst (ys ++ [.ref tq]))) ys' (rs.map pD) ∧ rs.length = i + 1 ∧ ∀ p ∈ rs, RdOk ns at_ p := by
        intro d G3 d0 d3 dz R6 O6 tq htq
        have eF3 : G3 f = some (.lst ys) := O6 _ _ nfr eF1'
        have ntf : tq ≠ f := fun z => by rw [z, eF3] at htq; cases htq
        have eF4 : (upd G3 tq (.tup [.str z, .int d])) f = some (.lst ys) := by rw [upd_ne (Ne.symm ntf)]; exact eF3
        have Nn : NoL G (upd (upd G3 tq (.tup [.str z, .int d])) f (.lst (ys ++ [.ref tq]))) := NoL.trans (RG.nol O4) (NoL.trans (R4.nol O6) (NoL.trans (NoL.same (Same.new htq)) (NoL.put eF4)))
        refine ⟨_, _, _, rfl, (R6.put (R6.off htq)).put nfr, ?_, ys ++ [.ref tq], rs ++ [(z, d)], upd_same, ?_, by rw [List.length_append, lr]; rfl, fun p hp => ?_⟩
        · intro b u nb e
          have nbf : b ≠ f := ne_of_none e hf
          have e3 := O6 _ _ nb (O4 _ _ nb (OG _ _ nb e))
          rw [upd_ne nbf, upd_ne (ne_of_none e3 htq)]
          exact e3
        · rw [List.map_append]
          exact dpa_snoc (pairs_nol Nn dF) (.tup (SqT.of (by rw [upd_ne ntf, upd_same])) (.cons (.str z) (.cons (.int d) .nil)))
        · rcases List.mem_append.mp hp with h | h
          · exact okr p h
          · rw [List.mem_singleton.mp h]
            exact ⟨d0, d3, o.toNat, ej, dz⟩
      refine ite2 (fun c => ?_) (fun c => ?_)
      · have hat : o.toNat < at_ := by have := of_decide_eq_true c; omega
        refine ⟨_, rfl, r, 4, rfl, R4, by decide, by decide +kernel, fun d G3 d0 d3 R6 O6 => ?_⟩
        refine ⟨_, rfl, .inl ⟨rfl, _, SqL.of (O6 _ _ nfr eF1')⟩, ?_⟩
        refine ⟨_, rfl, _, rfl, .inl ⟨_, _, _, _, rfl, rfl, SqL.of (O6 _ _ nlr eN1), eA, _, rfl, ?_⟩⟩
        refine ⟨by show 2 ≤ sizeLine; decide, fun tq htq => ?_⟩
        have eF3 : G3 f = some (.lst ys) := O6 _ _ nfr eF1'
        have ntf : tq ≠ f := fun z => by rw [z, eF3] at htq; cases htq
        have eF4 : (upd G3 tq (.tup [.str z, .int d])) f = some (.lst ys) := by rw [upd_ne (Ne.symm ntf)]; exact eF3
        exact ⟨f, ys, .ref tq, rfl, rfl, eF4, by rw [sizeLine_eq]; omega, fin d G3 d0 (by omega) (fun _ => hat) R6 O6 tq htq⟩
      · refine ⟨_, rfl, r, 3, rfl, R4, by decide, by decide +kernel, fun d G3 d0 d3 R6 O6 => ?_⟩
        refine ⟨_, _, rfl, rfl, ?_⟩
        refine ⟨_, rfl, .inl ⟨rfl, _, SqL.of (O6 _ _ nfr eF1')⟩, ?_⟩
        refine ⟨_, rfl, _, rfl, .inl ⟨_, _, _, _, rfl, rfl, SqL.of (O6 _ _ nlr eN1), eA, _, rfl, ?_⟩⟩
        refine ⟨by show 2 ≤ sizeLine; decide, fun tq htq => ?_⟩
        have eF3 : G3 f = some (.lst ys) := O6 _ _ nfr eF1'
        have ntf : tq ≠ f := fun z => by rw [z, eF3] at htq; cases htq
        have eF4 : (upd G3 tq (.tup [.str z, .int (1 + d)])) f = some (.lst ys) := by rw [upd_ne (Ne.symm ntf)]; exact eF3
        exact ⟨f, ys, .ref tq, rfl, rfl, eF4, by rw [sizeLine_eq]; omega, fin (1 + d) G3 (by omega) (by omega) (fun z => by omega) R6 O6 tq htq⟩
    · rintro σ G ⟨v4, v5, v6, rfl, RG, OG, ys, rs, eF, dF, lr, okr⟩
      refine ⟨_, rfl, f, ys, rfl, .inl ⟨SqL.of eF, fun t ht => ?_⟩⟩
      have St := Same.new (o := .tup ys) ht
      refine k t rs _ (RG.same St) (fun c o n e => St _ _ (OG _ _ n e)) ?_ (.tup (SqT.of upd_same) (dpa_same St _ _ dF)) (by omega) okr
      cases z : H t with
      | none => rfl
      | some o =>
        by_cases c : t = r
        · exact absurd c (RG.off ht)
        · rw [OG _ _ c z] at ht
          cases ht
def sp_w_uses (K : PySem.W.Frag) : Sp := fun vs H Q _ => ∃ (r u : Addr), vs = [.ref r, .ref u] ∧ H u = some (.lst []) ∧ ∀ t H', Same H H' → H t = none → SqT K H' t [] → Q (.ref t) H'
theorem ok_w_uses (T : T K mg) : FnOk P w K mg base CX0 2 T.f_w_uses T.d_w_uses ["dice", "units"] (sp_w_uses K) := by
  refine T.F_w_uses.ok sc_w_uses (fun vs H Q E h => ?_) (fun cdv A outer s H vs Q E hr h => ?_)
  · obtain ⟨r, u, rfl, _⟩ := h
    rfl
  · obtain ⟨r, u, rfl, hu1, k⟩ := h
    have hu := hu_of hr
    refine ⟨_, (pss_cons (ps_if (pt_cmpR (op_eqD (un64 hr)) (pv 1) (pe_lst pa_nil) (nomark _))
      (pss_one (ps_ret (pe_tup pa_nil)))
      pss_nil)
      (pss_cons ps_never (pss_one ps_never))), ?_⟩
    refine ⟨_, rfl, by show 0 ≤ sizeLine; decide, fun e he => ?_⟩
    have S1 := Same.new (o := .lst []) he
    refine ⟨.list [], .list [], .lst (SqL.of (S1 _ _ hu1)) .nil, .lst (SqL.of upd_same) .nil, by decide +kernel, by decide +kernel, _, rfl, iteT ?_⟩
    refine ⟨by show 0 ≤ sizeLine; decide, fun t ht => ?_⟩
    exact k t _ (Same.trans S1 (Same.new ht)) (none_of S1 ht) (SqT.of upd_same)
end
end K14
namespace K14
open PySem L2
open PyProof.Rows PySem.Spec
theorem none_at {r : Addr} {H G : Hp} {t : Addr} (o : Only r H G) (n : t ≠ r) (e : G t = none) : H t = none := by
  cases z : H t with
  | none => rfl
  | some u =>
    rw [o _ _ n z] at e
    cases e
section
variable {P : Program} {w : World} {K : PySem.W.Frag}
                                                      {mg : Str → Option Value} {base : Heap}
def sp_w_rows (K : PySem.W.Frag) : Sp := fun vs H Q _ => ∃ (r nl u : Addr) (ns : List Str), vs = [.ref r, .ref nl, .ref u] ∧ Dl H r ∧ H nl = some (.lst (ns.map V.str)) ∧ nl ≠ r ∧ 1 ≤ ns.length ∧ ns.length ≤ 8 ∧ (∀ n ∈ ns, nmC n = true) ∧ H u = some (.lst []) ∧
  ∀ l (D : List OM) H', Dl H' r → Only r H H' → H l = none → H' l = some (.lst (opRefs D)) → (∀ m ∈ D, DRow K H' m.1 m.2) → nms D = ns → (∀ j m, D[j]? = some m → ∀ p ∈ m.2.rs, RdOk ns j p) → Q (.ref l) H'
theorem ok_w_rows (T : T K mg) : FnOk P w K mg base CX0 3 T.f_w_rows T.d_w_rows ["dice", "names", "units"] (sp_w_rows K) := by
  have G_w_next : FnOk P w K mg base CX0 1 T.f_w_next T.d_w_next ["dice", "many"] (sp_w_next K) := ok_w_next T
  have G_w_reads : FnOk P w K mg base CX0 2 T.f_w_reads T.d_w_reads ["dice", "names", "at"] (sp_w_reads K) := ok_w_reads T
  have G_w_uses : FnOk P w K mg base CX0 2 T.f_w_uses T.d_w_uses ["dice", "units"] (sp_w_uses K) := ok_w_uses T
  refine T.F_w_rows.ok sc_w_rows (fun vs H Q E h => ?_) (fun cdv A outer s H vs Q E hr h => ?_)
  · obtain ⟨r, nl, u, ns, rfl, _⟩ := h
    rfl
  · obtain ⟨r, nl, u, ns, rfl, hR, hn, nlr, l1, l8, okn, hu0, k⟩ := h
    have hu := hu_of hr
    have hr_w_next : Room 1 _ := hr.mono (by decide)
    have hr_w_reads : Room 2 _ := hr.mono (by decide)
    have hr_w_uses : Room 2 _ := hr.mono (by decide)
    refine ⟨_, (pss_cons (ps_set (i := 3) sc_w_rows.nd rfl (Or.inl rfl) (pe_lst pa_nil))
      (pss_cons (ps_for PassesOwn.never rfl (pi_enum (by rfl) T.z_enumerate (pa_cons (pv 1) pa_nil)) (pg_tup rfl (pgs_cons (pg_name (i := 4) sc_w_rows.nd rfl (Or.inl rfl)) (pgs_cons (pg_name (i := 5) sc_w_rows.nd rfl (Or.inl rfl)) pgs_nil)))
      (pss_cons (ps_set (i := 6) sc_w_rows.nd rfl (Or.inl rfl) (pe_op op_add pe_int (pe_call G_w_next hr_w_next rfl T.m_w_next T.F_w_next.kp T.b_w_next .nil pass0 (pa_cons (pv 0) (pa_cons pe_int pa_nil)))))
      (pss_one (ps_expr (pe_bm PySem.F.plainAttrs_list PySem.F.slot_list_append PySem.F.type_list_append mt_append (pv 3) (pa_cons (pe_tup (pa_cons (pv 5) (pa_cons (pv 6) (pa_cons (pe_call G_w_reads hr_w_reads rfl T.m_w_reads T.F_w_reads.kp T.b_w_reads .nil pass0 (pa_cons (pv 0) (pa_cons (pv 1) (pa_cons (pv 4) pa_nil)))) (pa_cons (pe_call G_w_uses hr_w_uses rfl T.m_w_uses T.F_w_uses.kp T.b_w_uses .nil pass0 (pa_cons (pv 0) (pa_cons (pv 2) pa_nil))) pa_nil))))) pa_nil))))))
      (pss_one (ps_ret (pv 3))))), ?_⟩
    refine ⟨by show 0 ≤ sizeLine; decide, fun f hf => ?_⟩
    have nfr : f ≠ r := hR.off hf
    have nur : u ≠ r := fun z => by obtain ⟨_, _, _, _, q⟩ := hR; rw [← z, hu0] at q; cases q
    have S1 : Same H (upd H f (.lst [])) := Same.new hf
    have ef1 : (upd H f (.lst [])) f = some (.lst (opRefs [])) := upd_same
    refine ⟨_, rfl, nl, ns.map V.str, rfl, SqL.of (S1 _ _ hn), ?_⟩
    have lns : (ns.map V.str).length = ns.length := List.length_map ..
    refine for_it (walk_enum (K := K) (a := nl) (xs := ns.map V.str)) (fun i σ G => ∃ v4 v5 v6, σ = [some (.ref r), some (.ref nl), some (.ref u), some (.ref f), v4, v5, v6] ∧ Dl G r ∧ Only r H G ∧ ∃ D : List OM, G f = some (.lst (opRefs D)) ∧ (∀ m ∈ D, DRow K G m.1 m.2) ∧ nms D = ns.take i ∧ ∀ j m, D[j]? = some m → ∀ p ∈ m.2.rs, RdOk ns j p)
      ⟨none, none, none, rfl, hR.same S1, Same.only S1, [], ef1, (fun m hm => by cases hm), rfl, fun j m e => by simp at e⟩ (fun i σ G _ ⟨_, _, _, _, _, O, _⟩ => SqL.of (O _ _ nlr hn)) ?_ ?_
    · rintro i x σ G G' hi ⟨v4, v5, v6, rfl, RG, OG, D, eF, hD, nD, okD⟩ ⟨T0, x1, x2, rfl, hT0, rfl, e1, e2⟩
      cases e1
      rw [lns] at hi
      have ei : ns[i]? = some ns[i] := List.getElem?_eq_getElem hi
      have nmi : ns[i] ∈ ns := List.getElem_mem hi
      have tk : ns.take (i + 1) = ns.take i ++ [ns[i]] := by rw [List.take_add_one, ei]; rfl
      have e2 : (ns.map V.str)[i]? = some x2 := e2
      rw [List.getElem?_map, ei] at e2
      cases e2
      generalize ns[i] = z at ei nmi tk ⊢
      have lD : D.length = i := by
        have e := congrArg List.length nD
        rw [List.length_take] at e
        have : (nms D).length = D.length := List.length_map ..
        omega
      have ST : Same G (upd G T0 (.tup [.int (i : Nat), .str z])) := Same.new hT0
      refine ⟨T0, _, rfl, SqT.of upd_same, rfl, _, _, rfl, _, _, rfl, rfl, ?_⟩
      refine ⟨_, rfl, r, 4, rfl, RG.same ST, by decide, by decide +kernel, fun v G1 v0 v1 R1 O1 => ⟨_, _, rfl, rfl, ?_⟩⟩
      have O01 : Only r G G1 := fun c o n e => O1 _ _ n (ST _ _ e)
      refine ⟨_, rfl, .inl ⟨rfl, _, SqL.of (O01 _ _ nfr eF)⟩, ?_⟩
      refine ⟨_, rfl, _, rfl, _, rfl, _, rfl, _, rfl, r, nl, ns, i, rfl, R1, O01 _ _ nlr (OG _ _ nlr hn), nlr, l1, l8, okn, fun t1 rs G2 R2 O2 ht1 d1 l3 ok1 => ?_⟩
      have O02 : Only r G G2 := Only.trans O01 O2
      refine ⟨_, rfl, _, rfl, r, u, rfl, O02 _ _ nur (OG _ _ nur hu0), fun t2 G3 S3 ht2 e2 => ?_⟩
      have eF3 := S3 _ _ (O02 _ _ nfr eF)
      refine ⟨by show 4 ≤ sizeLine; decide, fun tq htq => ?_⟩
      have S4 := Same.new (o := .tup [V.str z, .int (1 + v), .ref t1, .ref t2]) htq
      have eF4 := S4 _ _ eF3
      have ntf : tq ≠ f := fun z => by rw [z, eF3] at htq; cases htq
      refine ⟨f, opRefs D, .ref tq, rfl, rfl, eF4, by unfold opRefs; rw [List.length_map, sizeLine_eq]; omega, ?_⟩
      have N4 : NoL G (upd G3 tq (.tup [V.str z, .int (1 + v), .ref t1, .ref t2])) := NoL.trans (RG.nol O02) (NoL.same (Same.trans S3 S4))
      have Np : NoL (upd G3 tq (.tup [V.str z, .int (1 + v), .ref t1, .ref t2])) (upd (upd G3 tq (.tup [V.str z, .int (1 + v), .ref t1, .ref t2])) f (.lst (opRefs D ++ [.ref tq]))) := NoL.put eF4
      have okz : (⟨z, 1 + v, rs, []⟩ : Rw).Ok := by
        refine ⟨okn z nmi, ⟨by show 1 ≤ 1 + v; omega, by show 1 + v ≤ 4; omega⟩, l3, Nat.zero_le _, fun p hp => ?_, (fun p hp => by cases hp), List.Pairwise.nil⟩
        obtain ⟨p0, p3, j, ej, _⟩ := ok1 p hp
        exact ⟨okn _ (List.mem_of_getElem? ej), p0, p3⟩
      refine ⟨_, _, _, rfl, ((R2.same S3).same S4).put nfr, ?_, D ++ [(tq, ⟨z, 1 + v, rs, []⟩)], ?_, ?_, ?_, ?_⟩
      · intro c o n e
        rw [upd_ne (ne_of_none e hf)]
        exact S4 _ _ (S3 _ _ (O02 _ _ n (OG _ _ n e)))
      · rw [upd_same]
        unfold opRefs
        rw [List.map_append]
        rfl
      · intro m hm
        rcases List.mem_append.mp hm with hm | hm
        · exact (hD m hm).nol (NoL.trans N4 Np)
        · rw [List.mem_singleton.mp hm]
          refine ⟨okz, .ref t1, .ref t2, SqT.of ((upd_ne ntf).trans upd_same), dpt_nol Np (dp_same (Same.trans S3 S4) _ _ d1), dpt_nol Np (dp_same S4 _ _ (.tup e2 .nil))⟩
      · unfold nms at nD ⊢
        rw [List.map_append, nD, tk]
        rfl
      · intro j m e p hp
        rcases Nat.lt_or_ge j D.length with c | c
        · rw [List.getElem?_append_left c] at e
          exact okD j m e p hp
        · rw [List.getElem?_append_right c] at e
          have c2 : j - D.length = 0 := by
            cases e3 : j - D.length with
            | zero => rfl
            | succ q => rw [e3] at e; simp at e
          rw [c2] at e
          cases e
          have : j = i := by omega
          subst this
          exact ok1 p hp
    · rintro σ G ⟨v4, v5, v6, rfl, RG, OG, D, eF, hD, nD, okD⟩
      rw [lns, List.take_length] at nD
      exact ⟨_, rfl, k f D G RG OG hf eF hD nD okD⟩
/-- a bond that the law draws -/
def BdOk (fd : List Str) (o : Od) : Prop := ∃ j k : Nat, fd[j]? = some o.1 ∧ fd[k]? = some o.2.1 ∧ (0 ≤ o.2.2.1 ∧ o.2.2.1 ≤ 4) ∧ (0 ≤ o.2.2.2 ∧ o.2.2.2 ≤ 3) ∧ (o.2.2.2 = 0 → j < k)
def sp_w_rules (K : PySem.W.Frag) : Sp := fun vs H Q _ => ∃ (r nl : Addr) (ns : List Str) (most : Nat), vs = [.ref r, .ref nl, .int (most : Int)] ∧ Dl H r ∧ H nl = some (.lst (ns.map V.str)) ∧ nl ≠ r ∧ 1 ≤ ns.length ∧ ns.length ≤ 8 ∧ most ≤ 8 ∧
  ∀ t (os : List Od) H', Dl H' r → Only r H H' → RowsT K H' t (os.map oK) → os.length ≤ 8 → (∀ o ∈ os, BdOk ns o) → (os.map oK).Pairwise (fun p q => KS.kLt p q = true) → Q (.ref t) H'
theorem ok_w_rules (T : T K mg) : FnOk P w K mg base CX0 3 T.f_w_rules T.d_w_rules ["dice", "names", "most"] (sp_w_rules K) := by
  have G_w_next : FnOk P w K mg base CX0 1 T.f_w_next T.d_w_next ["dice", "many"] (sp_w_next K) := ok_w_next T
  refine T.F_w_rules.ok sc_w_rules (fun vs H Q E h => ?_) (fun cdv A outer s H vs Q E hr h => ?_)
  · obtain ⟨r, nl, ns, most, rfl, _⟩ := h
    rfl
  · obtain ⟨r, nl, ns, most, rfl, hR, hn, nlr, l1, l8, m8, k⟩ := h
    have hu := hu_of hr
    have hr_w_next : Room 1 _ := hr.mono (by decide)
    refine ⟨_, (pss_cons (ps_set (i := 3) sc_w_rules.nd rfl (Or.inl rfl) (pe_lst pa_nil))
      (pss_cons (ps_for PassesOwn.never rfl (pi_range1 (by rfl) T.z_range (pa_cons (pe_call G_w_next hr_w_next rfl T.m_w_next T.F_w_next.kp T.b_w_next .nil pass0 (pa_cons (pv 0) (pa_cons (pe_op op_add (pv 2) pe_int) pa_nil))) pa_nil)) (pg_name (i := 4) sc_w_rules.nd rfl (Or.inl rfl))
      (pss_cons (ps_par (i := 5) (j := 6) (by rfl) sc_w_rules.nd rfl rfl (by decide) rfl rfl (pa_cons (pe_call G_w_next hr_w_next rfl T.m_w_next T.F_w_next.kp T.b_w_next .nil pass0 (pa_cons (pv 0) (pa_cons (pe_callB call_len (by rfl) T.z_len (by decide +kernel) (pa_cons (pv 1) pa_nil)) pa_nil))) (pa_cons (pe_call G_w_next hr_w_next rfl T.m_w_next T.F_w_next.kp T.b_w_next .nil pass0 (pa_cons (pv 0) (pa_cons (pe_callB call_len (by rfl) T.z_len (by decide +kernel) (pa_cons (pv 1) pa_nil)) pa_nil))) pa_nil)) (by rfl))
      (pss_cons (ps_set (i := 7) sc_w_rules.nd rfl (Or.inl rfl) (pe_ifExp (pt_cmpR op_lt (pv 5) (pv 6) (nomark _)) (pe_call G_w_next hr_w_next rfl T.m_w_next T.F_w_next.kp T.b_w_next .nil pass0 (pa_cons (pv 0) (pa_cons pe_int pa_nil))) (pe_op op_add pe_int (pe_call G_w_next hr_w_next rfl T.m_w_next T.F_w_next.kp T.b_w_next .nil pass0 (pa_cons (pv 0) (pa_cons pe_int pa_nil))))))
      (pss_one (ps_expr (pe_bm PySem.F.plainAttrs_list PySem.F.slot_list_append PySem.F.type_list_append mt_append (pv 3) (pa_cons (pe_tup (pa_cons (pe_ix ix_seq (pv 1) (pv 5) (fun _ _ => rfl)) (pa_cons (pe_ix ix_seq (pv 1) (pv 6) (fun _ _ => rfl)) (pa_cons (pe_call G_w_next hr_w_next rfl T.m_w_next T.F_w_next.kp T.b_w_next .nil pass0 (pa_cons (pv 0) (pa_cons pe_int pa_nil))) (pa_cons (pv 7) pa_nil))))) pa_nil)))))))
      (pss_one (ps_ret (pe_callTy call_tuple_of (by rfl) T.z_tuple (by decide +kernel) (pa_cons (pe_callB (KS.cr_sortedK (KS.linkTup _) (enc := KS.encK) rfl KS.rd_tup (un_row hr)) (by rfl) T.z_sorted (by decide +kernel) (pa_cons (pe_callTy (KS.cr_setOf (KS.linkTup _) rfl (un3 hr)) (by rfl) T.z_set (by decide +kernel) (pa_cons (pv 3) pa_nil)) pa_nil)) pa_nil)))))), ?_⟩
    refine ⟨by show 0 ≤ sizeLine; decide, fun b hb => ?_⟩
    have nbr : b ≠ r := hR.off hb
    have S1 : Same H (upd H b (.lst [])) := Same.new hb
    have lns : (ns.map V.str).length = ns.length := List.length_map ..
    refine ⟨_, rfl, _, rfl, _, _, rfl, rfl, r, _, rfl, hR.same S1, by omega, Nat.lt_trans (lg (b := 63) (by omega) (by omega) (by decide)) (by decide), fun v H1 v0 v1 R1 O1 => ?_⟩
    have ev : ((v.toNat : Nat) : Int) = v := Int.toNat_of_nonneg v0
    have O01 : Only r H H1 := fun c o n e => O1 _ _ n (S1 _ _ e)
    have eB1 : H1 b = some (.lst []) := O1 _ _ nbr upd_same
    refine ⟨((v.toNat : Nat) : Int), by rw [ev], by omega, by omega, ?_⟩
    have l9 : v.toNat ≤ 8 := by omega
    generalize v.toNat = m at l9
    refine for_range (n := m) (fun i σ G2 => ∃ v4 v5 v6 v7, σ = [some (.ref r), some (.ref nl), some (.int most), some (.ref b), v4, v5, v6, v7] ∧ Dl G2 r ∧ Only r H G2 ∧ ∃ (ms : List Mm) (os : List Od), G2 b = some (.lst (mrefs ms)) ∧ (∀ m ∈ ms, SqT K G2 m.1 (m.2.map kV)) ∧ ms.map (·.2) = os.map oK ∧ os.length = i ∧ ∀ o ∈ os, BdOk ns o)
      ⟨none, none, none, none, rfl, R1, O01, [], [], eB1, (fun m hm => by cases hm), rfl, rfl, fun o ho => by cases ho⟩ ?_ ?_
    · rintro i σ G2 hi ⟨v4, v5, v6, v7, rfl, R2, O2, ms, os, eB2, hms, ems, los, bos⟩
      have eN2 := O2 _ _ nlr hn
      have lg8 : (((ns.map V.str).length : Nat) : Int).natAbs.log2 < 9000 := Nat.lt_trans (lg (b := 63) (by omega) (by rw [lns]; omega) (by decide)) (by decide)
      refine ⟨_, rfl, _, rfl, _, _, rfl, .inl ⟨_, SqL.of eN2, rfl⟩, r, _, rfl, R2, by rw [lns]; omega, lg8, fun o1 G3 a0 a1 R3 O3 => ?_⟩
      refine ⟨_, rfl, _, rfl, _, _, rfl, .inl ⟨_, SqL.of (O3 _ _ nlr eN2), rfl⟩, r, _, rfl, R3, by rw [lns]; omega, lg8, fun o2 G4 b0 b1 R4 O4 => ?_⟩
      rw [lns] at a1 b1
      have ez1 : ns[o1.toNat]? = some ns[o1.toNat] := List.getElem?_eq_getElem (by omega)
      have ez2 : ns[o2.toNat]? = some ns[o2.toNat] := List.getElem?_eq_getElem (by omega)
      generalize ns[o1.toNat] = z1 at ez1
      generalize ns[o2.toNat] = z2 at ez2
      have at1 : atI (ns.map V.str) o1 = some (.str z1) := by
        rw [← show ((o1.toNat : Nat) : Int) = o1 from Int.toNat_of_nonneg a0]
        exact atI_nat (by rw [List.getElem?_map, ez1]; rfl)
      have at2 : atI (ns.map V.str) o2 = some (.str z2) := by
        rw [← show ((o2.toNat : Nat) : Int) = o2 from Int.toNat_of_nonneg b0]
        exact atI_nat (by rw [List.getElem?_map, ez2]; rfl)
      have O24 : Only r G2 G4 := Only.trans O3 O4
      have lms : ms.length = os.length := by
        have := congrArg List.length ems
        rwa [List.length_map, List.length_map] at this
      have fin : ∀ (ds dl : Int) (G6 : Hp), 0 ≤ ds → ds ≤ 3 → (ds = 0 → o1.toNat < o2.toNat) → 0 ≤ dl → dl ≤ 4 → Dl G6 r → Only r G4 G6 → ∀ tq, G6 tq = none → ∃ v4 v5 v6 v7, (([some (V.ref r), some (.ref nl), some (.int most), some (.ref b), some (.int (0 + (i : Nat))), some (.int o1), some (.int o2), some (.int ds)] : L2.St)) = [some (.ref r), some (.ref nl), some (.int most), some (.ref b), v4, v5, v6, v7] ∧ Dl (upd (upd G6 tq (.tup [.str z1, .str z2, .int dl, .int ds])) b (.lst (mrefs ms ++ [.ref tq]))) r ∧ Only r H (upd (upd G6 tq (.tup [.str z1, .str z2, .int dl, .int ds])) b (.lst (mrefs ms ++ [.ref tq]))) ∧
          ∃ (ms' : List Mm) (os : List Od), (upd (upd G6 tq (.tup [.str z1, .str z2, .int dl, .int ds])) b (.lst (mrefs ms ++ [.ref tq]))) b = some (.lst (mrefs ms')) ∧ (∀ m ∈ ms', SqT K (upd (upd G6 tq (.tup [.str z1, .str z2, .int dl, .int ds])) b (.lst (mrefs ms ++ [.ref tq]))) m.1 (m.2.map kV)) ∧ ms'.map (·.2) = os.map oK ∧ os.length = i + 1 ∧ ∀ o ∈ os, BdOk ns o := by
        intro ds dl G6 d0 d3 dz q0 q1 R7 O6 tq htq
        have O26 : Only r G2 G6 := Only.trans O24 O6
        have S8 : Same G6 (upd G6 tq (.tup [.str z1, .str z2, .int dl, .int ds])) := Same.new htq
        have eB7 := S8 _ _ (O26 _ _ nbr eB2)
        have ntb : tq ≠ b := fun z => by rw [z, O26 _ _ nbr eB2] at htq; cases htq
        have Nn : NoL G2 (upd (upd G6 tq (.tup [.str z1, .str z2, .int dl, .int ds])) b (.lst (mrefs ms ++ [.ref tq]))) := NoL.trans (R2.nol O26) (NoL.trans (NoL.same S8) (NoL.put eB7))
        refine ⟨_, _, _, _, rfl, (R7.same S8).put nbr, ?_, ms ++ [(tq, oK (z1, z2, dl, ds))], os ++ [(z1, z2, dl, ds)], ?_, ?_, ?_, ?_, ?_⟩
        · intro c o n e
          rw [upd_ne (ne_of_none e hb)]
          exact S8 _ _ (O26 _ _ n (O2 _ _ n e))
        · rw [upd_same]
          unfold mrefs
          rw [List.map_append]
          rfl
        · intro m hm
          rcases List.mem_append.mp hm with h | h
          · exact NoL.seqT Nn (hms m h)
          · rw [List.mem_singleton.mp h]
            exact SqT.of (by rw [upd_ne ntb, upd_same]; rfl)
        · rw [List.map_append, List.map_append, ems]
          rfl
        · rw [List.length_append, los]
          rfl
        · intro o ho
          rcases List.mem_append.mp ho with h | h
          · exact bos o h
          · rw [List.mem_singleton.mp h]
            exact ⟨o1.toNat, o2.toNat, ez1, ez2, ⟨q0, q1⟩, ⟨d0, d3⟩, dz⟩
      refine ⟨_, _, rfl, ?_⟩
      refine ⟨_, rfl, _, rfl, _, _, rfl, rfl, _, rfl, ?_⟩
      have rest : ∀ (ds : Int) (G5 : Hp), 0 ≤ ds → ds ≤ 3 → (ds = 0 → o1.toNat < o2.toNat) → Dl G5 r → Only r G4 G5 → True := fun _ _ _ _ _ _ _ => trivial
      refine ite2 (fun c => ?_) (fun c => ?_)
      · have hat : o1.toNat < o2.toNat := by have := of_decide_eq_true c; omega
        refine ⟨_, rfl, r, 4, rfl, R4, by decide, by decide +kernel, fun ds G5 d0 d3 R5 O5 => ?_⟩
        have O25 : Only r G2 G5 := Only.trans O24 O5
        refine ⟨_, rfl, .inl ⟨rfl, _, SqL.of (O25 _ _ nbr eB2)⟩, ?_⟩
        refine ⟨_, rfl, _, rfl, .inl ⟨_, _, _, _, rfl, rfl, SqL.of (O25 _ _ nlr eN2), at1, ?_⟩⟩
        refine ⟨_, rfl, _, rfl, .inl ⟨_, _, _, _, rfl, rfl, SqL.of (O25 _ _ nlr eN2), at2, ?_⟩⟩
        refine ⟨_, rfl, r, 5, rfl, R5, by decide, by decide +kernel, fun dl G6 q0 q1 R7 O7 => ?_⟩
        refine ⟨_, rfl, by show 4 ≤ sizeLine; decide, fun tq htq => ?_⟩
        have eB7 := Same.new (o := .tup [V.str z1, .str z2, .int dl, .int ds]) htq _ _ ((Only.trans O25 O7) _ _ nbr eB2)
        exact ⟨b, mrefs ms, .ref tq, rfl, rfl, eB7, by unfold mrefs; rw [List.length_map, sizeLine_eq]; omega, fin ds dl G6 d0 (by omega) (fun _ => hat) q0 (by omega) R7 (Only.trans O5 O7) tq htq⟩
      · refine ⟨_, rfl, r, 3, rfl, R4, by decide, by decide +kernel, fun ds G5 d0 d3 R5 O5 => ?_⟩
        refine ⟨_, _, rfl, rfl, ?_⟩
        have O25 : Only r G2 G5 := Only.trans O24 O5
        refine ⟨_, rfl, .inl ⟨rfl, _, SqL.of (O25 _ _ nbr eB2)⟩, ?_⟩
        refine ⟨_, rfl, _, rfl, .inl ⟨_, _, _, _, rfl, rfl, SqL.of (O25 _ _ nlr eN2), at1, ?_⟩⟩
        refine ⟨_, rfl, _, rfl, .inl ⟨_, _, _, _, rfl, rfl, SqL.of (O25 _ _ nlr eN2), at2, ?_⟩⟩
        refine ⟨_, rfl, r, 5, rfl, R5, by decide, by decide +kernel, fun dl G6 q0 q1 R7 O7 => ?_⟩
        refine ⟨_, rfl, by show 4 ≤ sizeLine; decide, fun tq htq => ?_⟩
        have eB7 := Same.new (o := .tup [V.str z1, .str z2, .int dl, .int (1 + ds)]) htq _ _ ((Only.trans O25 O7) _ _ nbr eB2)
        exact ⟨b, mrefs ms, .ref tq, rfl, rfl, eB7, by unfold mrefs; rw [List.length_map, sizeLine_eq]; omega, fin (1 + ds) dl G6 (by omega) (by omega) (fun z => by omega) q0 (by omega) R7 (Only.trans O5 O7) tq htq⟩
    · rintro σ G2 ⟨v4, v5, v6, v7, rfl, R2, O2, ms, os, eB2, hms, ems, los, bos⟩
      have lms : ms.length = os.length := by
        have := congrArg List.length ems
        rwa [List.length_map, List.length_map] at this
      refine ⟨_, rfl, ?_⟩
      unfold tNil
      dsimp only
      refine KS.sorted_set (X := (cxOf CX0 P w K mg base ["dice", "names", "most", "found", "turn", "one", "other", "far"] "_law_rules" (defScope s_w_rules) T.f_w_rules cdv A outer s H E).nox) (ms := ms) (SqL.of eB2) hms (by omega) (by rw [ems]; exact oK_one _) (fun m hm e => ?_) fun zs p H' S hp srt mem ln ep => ?_
      · have : m.2 ∈ os.map oK := by rw [← ems]; exact List.mem_map.mpr ⟨m, hm, rfl⟩
        obtain ⟨o, _, eo⟩ := List.mem_map.mp this
        rw [e] at eo
        cases eo
      · rw [ems] at srt
        obtain ⟨os', eos, mos⟩ := map_ex (L := os) fun z hz => (srt.2.2 z).mp hz
        have l' : os'.length = zs.length := by
          have := congrArg List.length eos
          rwa [List.length_map, List.length_map] at this
        refine ⟨p, _, rfl, .inl ⟨SqL.of ep, fun t ht => ?_⟩⟩
        have S9 : Same G2 (upd H' t (.tup (zs.map fun m => V.ref m.1))) := Same.trans S (Same.new ht)
        exact k t os' _ (R2.same S9) (fun c o n e => S9 _ _ (O2 _ _ n e)) ⟨zs, SqT.of upd_same, fun m hm => Same.seqT S9 (hms m (mem m hm)), eos.symm⟩ (by omega) (fun o ho => bos o (mos o ho)) (by rw [eos]; exact KS.SrtK.asc (oK_one _) srt)
end
end K14
namespace K14
open PySem L2
open PyProof.Rows PySem.Spec
theorem nms_map {M N : List OM} (h : M.map (·.2) = N.map (·.2)) : nms M = nms N := by
  have e := congrArg (List.map Rw.n) h
  rw [List.map_map, List.map_map] at e
  exact e
theorem tk_map {M N : List OM} (h : M.map (·.2) = N.map (·.2)) (nd : (nms M).Nodup) {n : Str} (hn : n ∈ nms M) : tkOf M n = tkOf N n := by
  obtain ⟨m, hm, rfl⟩ := List.mem_map.mp hn
  have hm2 : m.2 ∈ N.map (·.2) := by rw [← h]; exact List.mem_map.mpr ⟨m, hm, rfl⟩
  obtain ⟨m', hm', e⟩ := List.mem_map.mp hm2
  show tkOf M m.2.n = tkOf N m.2.n
  rw [tkOf_at nd hm, ← e, tkOf_at (by rw [← nms_map h]; exact nd) hm']
theorem mem_map2 {M N : List OM} (h : M.map (·.2) = N.map (·.2)) {m : OM} (hm : m ∈ M) : ∃ m' ∈ N, m'.2 = m.2 := by
  have hm2 : m.2 ∈ N.map (·.2) := by rw [← h]; exact List.mem_map.mpr ⟨m, hm, rfl⟩
  obtain ⟨m', hm', e⟩ := List.mem_map.mp hm2
  exact ⟨m', hm', e⟩
theorem arcs_map {M N : List OM} (h : M.map (·.2) = N.map (·.2)) (nd : (nms M).Nodup) (rd : ∀ m ∈ M, ∀ p ∈ m.2.rs, p.1 ∈ nms M) (o : Od) : o ∈ arcsOf M M → o ∈ arcsOf N N := by
  rw [arcs_mem, arcs_mem]
  rintro ⟨m, hm, q, hq, e⟩
  obtain ⟨m', hm', em⟩ := mem_map2 h hm
  exact ⟨m', hm', q, by rw [em]; exact hq, by rw [e, em, tk_map h nd (rd m hm q hq)]⟩
theorem LOk.map {M N : List OM} {os : List Od} (h : M.map (·.2) = N.map (·.2)) (k : LOk M os) : LOk N os := by
  have en := nms_map h
  have el : M.length = N.length := by
    have := congrArg List.length h
    rwa [List.length_map, List.length_map] at this
  have rdN : ∀ m ∈ N, ∀ p ∈ m.2.rs, p.1 ∈ nms N := fun m hm q hq => by
    obtain ⟨m', hm', em⟩ := mem_map2 h.symm hm
    rw [← en]
    exact k.rd m' hm' q (by rw [em]; exact hq)
  refine ⟨by rw [← el]; exact k.l1, by rw [← el]; exact k.l8, by rw [← en]; exact k.nd, rdN, k.o8, fun o ho => by rw [← en]; exact k.ok o ho, k.asc, ?_⟩
  obtain ⟨rank, hr⟩ := k.rk
  refine ⟨rank, fun o ho => hr o ?_⟩
  rcases List.mem_append.mp ho with ho | ho
  · exact List.mem_append_left _ (arcs_map h.symm (by rw [← en]; exact k.nd) rdN o ho)
  · exact List.mem_append_right _ ho
theorem rank_of : ∀ {fd : List Str}, fd.Nodup → ∃ rank : Str → Nat, ∀ (j : Nat) (n : Str), fd[j]? = some n → rank n = j
  | [], _ => ⟨fun _ => 0, fun j n h => by simp at h⟩
  | x :: fd, nd => by
    obtain ⟨h1, h2⟩ := List.nodup_cons.mp nd
    obtain ⟨rank, hr⟩ := rank_of h2
    refine ⟨fun n => if n = x then 0 else rank n + 1, fun j n h => ?_⟩
    cases j with
    | zero =>
      cases h
      exact if_pos rfl
    | succ j =>
      have h' : fd[j]? = some n := by simpa using h
      have ne : n ≠ x := fun z => h1 (by rw [← z]; exact List.mem_of_getElem? h')
      show (if n = x then 0 else rank n + 1) = j + 1
      rw [if_neg ne, hr j n h']
theorem plain_ok {fd : List Str} {D : List OM} {os : List Od} (nd : fd.Nodup) (f1 : 1 ≤ fd.length) (f8 : fd.length ≤ 8) (nD : nms D = fd) (rD : ∀ j m, D[j]? = some m → ∀ p ∈ m.2.rs, RdOk fd j p) (l3 : os.length ≤ 8) (bo : ∀ o ∈ os, BdOk fd o) (asc : (os.map oK).Pairwise fun p q => KS.kLt p q = true) : LOk D os := by
  have lD : D.length = fd.length := by rw [← nD]; exact (List.length_map ..).symm
  have at_ : ∀ m ∈ D, ∃ j, D[j]? = some m ∧ fd[j]? = some m.2.n := fun m hm => by
    obtain ⟨j, hj, e⟩ := List.getElem_of_mem hm
    refine ⟨j, by rw [List.getElem?_eq_getElem hj, e], ?_⟩
    rw [← nD]
    show (D.map fun m => m.2.n)[j]? = _
    rw [List.getElem?_map, List.getElem?_eq_getElem hj, e]
    rfl
  obtain ⟨rank, hr⟩ := rank_of nd
  refine ⟨by omega, by omega, by rw [nD]; exact nd, fun m hm p hp => ?_, l3, fun o ho => ?_, asc, rank, fun o ho z => ?_⟩
  · obtain ⟨j, e1, _⟩ := at_ m hm
    obtain ⟨_, _, i, e, _⟩ := rD j m e1 p hp
    rw [nD]
    exact List.mem_of_getElem? e
  · obtain ⟨j, k, e1, e2, h3, h4, _⟩ := bo o ho
    exact ⟨by rw [nD]; exact List.mem_of_getElem? e1, by rw [nD]; exact List.mem_of_getElem? e2, h3, h4⟩
  · rcases List.mem_append.mp ho with ho | ho
    · obtain ⟨m, hm, p, hp, rfl⟩ := arcs_mem.mp ho
      obtain ⟨j, e1, e2⟩ := at_ m hm
      obtain ⟨_, _, i, e, lt⟩ := rD j m e1 p hp
      show rank p.1 < rank m.2.n
      rw [hr i _ e, hr j _ e2]
      exact lt z
    · obtain ⟨j, k, e1, e2, _, _, lt⟩ := bo o ho
      rw [hr j _ e1, hr k _ e2]
      exact lt z
theorem OpAt.nol {K : PySem.W.Frag} {H H' : Hp} {C p : Addr} {r : Rw} (s : NoL H H') (h : OpAt K H C p r) : OpAt K H' C p r := by
  obtain ⟨ok, dx, x3, x4, h1, h2, h3⟩ := h
  have go : ∀ (ps : Prs) x, Dp K H x (tD ps) → Dp K H' x (tD ps) := fun ps x h => by
    unfold tD at h ⊢
    cases h with
    | tup a b => exact .tup (NoL.seqT s a) (pairs_nol s b)
  exact ⟨ok, dx, x3, x4, s _ _ h1 (by intro _ z; cases z), go _ _ h2, go _ _ h3⟩
theorem sw_rows {ms : List Mm} {rows : List (List Key)} (h : ms.map (·.2) = rows) (ne : ∀ r ∈ rows, r ≠ []) : ∀ m ∈ ms, m.2 ≠ [] := fun m hm => ne _ (by rw [← h]; exact List.mem_map.mpr ⟨m, hm, rfl⟩)
/-- orders as a list -/
def BoL (K : PySem.W.Frag) (H : Hp) (b : Addr) (os : List Od) : Prop := ∃ ms : List Mm, H b = some (.lst (mrefs ms)) ∧ (∀ m ∈ ms, SqT K H m.1 (m.2.map kV)) ∧ ms.map (·.2) = os.map oK
theorem BoL.same {K : PySem.W.Frag} {H H' : Hp} {b : Addr} {os : List Od} (s : Same H H') (h : BoL K H b os) : BoL K H' b os := by
  obtain ⟨ms, h1, h2, h3⟩ := h
  exact ⟨ms, s _ _ h1, fun m hm => Same.seqT s (h2 m hm), h3⟩
theorem DRow.same {K : PySem.W.Frag} {H H' : Hp} {p : Addr} {r : Rw} (s : Same H H') (h : DRow K H p r) : DRow K H' p r := h.nol (NoL.same s)
section
variable {P : Program} {w : World} {K : PySem.W.Frag}
                                                      {mg : Str → Option Value} {base : Heap}
def sp_w_loop (K : PySem.W.Frag) (C L : Addr) : Sp := fun vs H Q _ => ∃ (rw ro : Addr) (D : List OM) (os : List Od), vs = [.ref rw, .ref ro] ∧ H rw = some (.lst (opRefs D)) ∧ (∀ m ∈ D, DRow K H m.1 m.2) ∧ RowsT K H ro (os.map oK) ∧ LOk D os ∧
  ∀ (q : Addr) (N : List OM) H', Same H H' → (N.map (·.2)).Perm (D.map (·.2)) → LpAt K H' C L q N os → Q (.ref q) H'
theorem ok_w_loop (T : T K mg) (U : UX K mg) (L : UL K mg) : FnOk P w K mg base CX0 10 T.f_w_loop T.d_w_loop ["rows", "rules"] (sp_w_loop K U.C L.C) := by
  have G_init : FnOk P w K mg base CX0 5 U.fI U.dI ["self", "name", "ticks", "reads", "uses"] (sp_init K U.C) := ok_init T U
  refine T.F_w_loop.ok sc_w_loop (fun vs H Q E h => ?_) (fun cdv A outer s H vs Q E hr h => ?_)
  · obtain ⟨rw_, ro, D, os, rfl, _⟩ := h
    rfl
  · obtain ⟨rw_, ro, D, os, rfl, h1, hD, ho, lok, k⟩ := h
    have hu := hu_of hr
    obtain ⟨mv, hb⟩ := kb_all U
    refine ⟨_, (pss_cons (ps_setLc (i := 2) (own := [("row", 3)]) (g := gName 3) rfl sc_w_loop.nd rfl rfl (sw_true rfl rfl rfl (by decide +kernel)) (pi_list (pv 0)) (blkOk_by (N := ["rows", "rules", "made", "row"]) (sc := defScope s_w_loop) (by decide +kernel)) (fun _ _ _ _ _ => (pg_name (i := 3) sc_w_loop.nd rfl (Or.inl rfl))) (fun _ _ _ _ _ => pts_nil) (fun _ _ _ _ _ => (pe_makeK U.mkI G_init (hr.mono (by decide)) rfl U.mC hb pass0 (pa_cons (pe_ix (r := rIx K) ix_seq (pv 3) pe_int (fun _ _ => rfl)) pa_nil) (pk_cons (pe_ix (r := rIx K) ix_seq (pv 3) pe_int (fun _ _ => rfl)) (pk_cons (pe_ix (r := rIx K) ix_seq (pv 3) pe_int (fun _ _ => rfl)) (pk_cons (pe_ix (r := rIx K) ix_seq (pv 3) pe_int (fun _ _ => rfl)) pk_nil))))))
      (pss_one (ps_ret (SX.pe_cmethK (pe_glob (v := V.ref L.C) rfl L.mC rfl) L.cr L.cO (of_kw L (ok_of T U L)) (hr.mono (by decide)) pass0 (pa_cons (pe_callTy call_tuple_of (by rfl) T.z_tuple (by decide +kernel) (pa_cons (pv 2) pa_nil)) pa_nil) (pk_cons (pv 1) pk_nil))))), ?_⟩
    have l8 := lok.l8
    refine ⟨_, rfl, rw_, rfl, ⟨_, SqL.of h1⟩, fun mk hmk => ?_⟩
    refine lc_it (walk_list (K := K) (a := rw_) (xs := opRefs D)) (fun i G => Same H G ∧ ∃ M : List OM, G mk = some (.lst (opRefs M)) ∧ OpsAt K G U.C M ∧ M.map (·.2) = (D.take i).map (·.2)) ⟨Same.new hmk, [], upd_same, (fun m hm => by cases hm), rfl⟩ (fun i G _ h => SqL.of (h.1 _ _ h1)) ?_ ?_
    · rintro i x Ga G hi ⟨S, M, eM, oM, mM⟩ ⟨rfl, hx⟩
      unfold opRefs at hx hi
      rw [List.length_map] at hi
      have em : D[i]? = some D[i] := List.getElem?_eq_getElem hi
      have hm : D[i] ∈ D := List.getElem_mem hi
      rw [List.getElem?_map, em] at hx
      cases hx
      generalize D[i] = m at em hm
      obtain ⟨okm, x3, x4, p1, d3, d4⟩ := (hD m hm).same S
      refine ⟨rfl, ?_⟩
      refine yesT (iteT ?_)
      refine ⟨_, rfl, .inr (.inl ⟨m.1, _, 0, _, rfl, rfl, p1, rfl, ?_⟩)⟩
      refine ⟨_, rfl, .inr (.inl ⟨m.1, _, 1, _, rfl, rfl, p1, rfl, ?_⟩)⟩
      refine ⟨_, rfl, .inr (.inl ⟨m.1, _, 2, _, rfl, rfl, p1, rfl, ?_⟩)⟩
      refine ⟨_, rfl, .inr (.inl ⟨m.1, _, 3, _, rfl, rfl, p1, rfl, ?_⟩)⟩
      refine ⟨rfl, rfl, fun q dq hq hdq ne => ?_⟩
      have S5 : Same G (upd (upd G dq (.own q)) q (.ins U.C dq [])) := fun b o e => by
        rw [upd_ne (ne_of_none e hq), upd_ne (ne_of_none e hdq)]
        exact e
      refine ⟨q, dq, x3, x4, m.2, rfl, okm, upd_same, dp_same S5 _ _ d3, dp_same S5 _ _ d4, fun H' S' => ⟨rfl, ?_⟩⟩
      have S6 := Same.at hq (Same.trans S5 S') (o := .ins U.C dq (opF (.str m.2.n) (.int m.2.t) x3 x4))
      have nq : OpAt K (upd H' q (.ins U.C dq (opF (.str m.2.n) (.int m.2.t) x3 x4))) U.C q m.2 := ⟨okm, dq, x3, x4, upd_same, dp_same S6 _ _ d3, dp_same S6 _ _ d4⟩
      generalize upd H' q (.ins U.C dq (opF (.str m.2.n) (.int m.2.t) x3 x4)) = G3 at S6 nq ⊢
      have lM : M.length = i := by
        have := congrArg List.length mM
        rw [List.length_map, List.length_map, List.length_take] at this
        omega
      have eM3 := S6 _ _ eM
      have Np : NoL G3 (upd G3 mk (.lst (opRefs M ++ [.ref q]))) := NoL.put eM3
      refine ⟨opRefs M, eM3, by rw [show (opRefs M).length = M.length from List.length_map .., sizeLine_eq]; omega, Same.at hmk (Same.trans S S6), M ++ [(q, m.2)], ?_, ?_, ?_⟩
      · rw [upd_same]
        unfold opRefs
        rw [List.map_append]
        rfl
      · intro y hy
        rcases List.mem_append.mp hy with h | h
        · exact ((oM y h).same S6).nol Np
        · rw [List.mem_singleton.mp h]
          exact nq.nol Np
      · rw [List.map_append, mM, List.take_succ, em, List.map_append]
        rfl
    · rintro G ⟨S, M, eM, oM, mM⟩
      unfold opRefs at mM
      rw [List.length_map, List.take_length] at mM
      refine ⟨rfl, _, rfl, mk, _, rfl, .inl ⟨SqL.of eM, fun ta hta => ?_⟩⟩
      have T1 : Same G (upd G ta (.tup (opRefs M))) := Same.new hta
      refine ⟨_, rfl, ?_⟩
      refine ⟨rfl, rfl, ta, ro, M, os, rfl, SqT.of upd_same, oM.same T1, lok.map mM.symm, ho.same (Same.trans S T1), fun q N H' S' hq pN lp => ?_⟩
      refine k q N H' (Same.trans S (Same.trans T1 S')) ?_ lp
      rw [← mM]
      exact pN.map _
end
end K14
namespace K14
open PySem L2
open PyProof.Rows PySem.Spec
/-- a comprehension whose items are new tuples -/
theorem lc_rows {α : Type} {e : α → V} {l : List α} {J : It} {G : Hp → Prop} (w : Walk J (l.map e).length G (YAt (l.map e))) {g : TG} {tt : TT} {te : TE} {vs : List Nat} {σ : L2.St} {H1 : Hp} {D : Addr} {Qd : Hp → Prop} (f : α → List Key) (hG : ∀ H', Same H1 H' → G H') (few : l.length ≤ 1000) (hD : H1 D = none)
    (hs : ∀ x H', x ∈ l → Same H1 H' → ∀ (C : VK) (N : Hp → Prop), (∀ t H'', Same H' H'' → H'' t = some (.tup ((f x).map kV)) → C (.ref t) H'') → g (e x) (wipe σ vs) H' fun σ2 H2 => wipe σ2 vs = wipe σ vs ∧ tt σ2 H2 fun b H3 => if b = true then te σ2 H3 C else N H3)
    (hd : ∀ H' (ts : List Mm), Same H1 H' → H' D = some (.lst (mrefs ts)) → MsN H' ts → ts.map (·.2) = l.map f → Qd H') :
    ∃ W : Nat → Nat → Hp → Prop, (∃ m, W 0 m
                                             (upd H1 D (.lst []))) ∧ ∀ i m H, W i m H →
      (J.stop i H ∧ Qd H) ∨ (J.go i H ∧ ∃ Nx : Hp → Prop, (∀ H', Nx H' → ∃ m', m' < m ∧ W
                                                                                          (i + 1) m' H') ∧ ∀ x H', J.yld i H x H' → g x (wipe σ vs) H' fun σ2 H2 => wipe σ2 vs = wipe σ vs ∧ tt σ2 H2 fun b H3 =>
        if b = true then te σ2 H3 fun y H4 => ∃ acc, H4 D = some
                                                                 (.lst acc) ∧ acc.length < sizeLine ∧ Nx (upd H4 D (.lst (acc ++ [y]))) else Nx H3) := by
  refine lc_it w (fun i H' => Same H1 H' ∧ ∃ ts : List Mm, H' D = some (.lst (mrefs ts)) ∧ MsN H' ts ∧ ts.map (·.2) = (l.take i).map f) ⟨Same.new hD, [], upd_same, (fun _ h => by cases h), rfl⟩ (fun i H' _ h => hG H' h.1) ?_ (fun H' ⟨h1, ts, h2, h3, h4⟩ => hd H' ts h1 h2 h3 (by rw [List.length_map, List.take_length] at h4; exact h4))
  rintro i x Ha Hb hi ⟨Sa, ts, eD, hts, ets⟩ ⟨rfl, hx⟩
  rw [List.getElem?_map] at hx
  cases ey : l[i]? with
  | none => rw [ey] at hx; cases hx
  | some y =>
    rw [ey] at hx
    cases hx
    refine hs y _ (List.mem_of_getElem? ey) Sa _ _ fun t Hc Sc et => ?_
    have eD1 := Sc _ _ eD
    have hts1 := hts.keep fun a xs e => Sc _ _ e
    have kt : ∀ a xs, Hc a = some (.tup xs) → (upd Hc D (.lst (mrefs ts ++ [V.ref t]))) a = some (.tup xs) := fun a xs e => (upd_ne (fun z => by rw [z, eD1] at e; cases e)).trans e
    refine ⟨_, eD1, ?_, Same.at hD (Same.trans Sa Sc), ts ++ [(t, f y)], by rw [upd_same]; unfold mrefs; rw [List.map_append]; rfl, ?_, ?_⟩
    · have e1 := congrArg List.length ets
      rw [List.length_map, List.length_map, List.length_take] at e1
      unfold mrefs
      rw [List.length_map, sizeLine_eq]
      omega
    · intro q hq
      rcases List.mem_append.mp hq with hq | hq
      · exact kt _ _ (hts1 q hq)
      · rw [List.mem_singleton.mp hq]
        exact kt _ _ et
    · rw [List.take_add_one, ey, List.map_append, ets, List.map_append]
      rfl
/-- names with numbers, as a dict holds them -/
def Vls (ns : List Str) (val : Str → Int) : List (Key × V) := ns.map fun n => (Sum.inr n, V.int (val n))
theorem vls_len (ns : List Str) (val : Str → Int) : (Vls ns val).length = ns.length := List.length_map ..
theorem vls_keys (ns : List Str) (val : Str → Int) : (Vls ns val).map (·.1) = ns.map Sum.inr := by
  unfold Vls
  rw [List.map_map]
  rfl
theorem vls_at {val : Str → Int} : ∀ {ns : List Str} {n : Str}, n ∈ ns → valV (Vls ns val) (.inr n) = some (.int (val n))
  | m :: ns, n, h => by
    by_cases e : m = n
    · subst e
      exact valV_pos (p := (Sum.inr m, V.int (val m))) rfl
    · have ne : ¬ (Sum.inr m : Key) = Sum.inr n := fun z => e (Sum.inr.inj z)
      rcases List.mem_cons.mp h with h | h
      · exact absurd h.symm e
      · exact (valV_neg (p := (Sum.inr m, V.int (val m))) ne).trans (vls_at h)
theorem vls_no {val : Str → Int} {ns : List Str} {n : Str} (h : n ∉ ns) : valV (Vls ns val) (.inr n) = none := by
  cases e : valV (Vls ns val) (.inr n) with
  | none => rfl
  | some v =>
    refine absurd ?_ h
    have := valV_in e
    rw [vls_keys] at this
    obtain ⟨m, hm, q⟩ := List.mem_map.mp this
    rw [← Sum.inr.inj q]
    exact hm
theorem mergeK_nd : ∀ (M L : List (Key × V)), ((L ++ M).map (·.1)).Nodup → mergeK L M = L ++ M
  | [], L, _ => by rw [List.append_nil]; rfl
  | (n, t) :: M, L, nd => by
    have hn : n ∉ L.map (·.1) := fun h => by
      rw [List.map_append, List.map_cons] at nd
      exact (List.nodup_append.mp nd).2.2 n h n List.mem_cons_self rfl
    have hv : valV L n = none := by
      cases e : valV L n with
      | none => rfl
      | some v => exact absurd (valV_in e) hn
    have e : mergeK L ((n, t) :: M) = mergeK (putK L n t) M := rfl
    rw [e, putK_new _ hv, mergeK_nd M (L ++ [(n, t)]) (by rw [List.append_assoc]; exact nd), List.append_assoc]
    rfl
theorem pairs_of {α : Type} {K : PySem.W.Frag} {H : Hp} {a : α → Str} {b : α → Int} : ∀ {ts : List Mm} {l : List α}, MsN H ts → ts.map (·.2) = l.map (fun x => [Sum.inr (a x), Sum.inl (b x)]) → Paired (fun p kv => SqT K H p [kV kv.1, kv.2]) (ts.map (·.1)) (l.map fun x => ((Sum.inr (a x) : Key), V.int (b x)))
  | [], [], _, _ => .nil
  | [], _ :: _, _, e => by cases e
  | _ :: _, [], _, e => by cases e
  | t :: ts, x :: l, h, e => by
    rw [List.map_cons, List.map_cons] at e
    obtain ⟨e1, e2⟩ := List.cons.inj e
    refine .cons ?_ (pairs_of (fun m hm => h m (List.mem_cons_of_mem _ hm)) e2)
    have := h t List.mem_cons_self
    rw [e1] at this
    exact SqT.of this
theorem mrefs_ref (ts : List Mm) : mrefs ts = (ts.map (·.1)).map V.ref := by
  unfold mrefs
  rw [List.map_map]
  rfl
section
variable {P : Program} {w : World} {K : PySem.W.Frag}
                                                      {mg : Str → Option Value} {base : Heap}
def sp_w_readings (K : PySem.W.Frag) : Sp := fun vs H Q _ => ∃ (rw : Addr) (D : List OM), vs = [.ref rw] ∧ H rw = some (.lst (opRefs D)) ∧ (∀ m ∈ D, DRow K H m.1 m.2) ∧ D.length ≤ 8 ∧
  ∀ l (rs : List (Str × Str × Int)) (zs : List Mm) H', Same H H' → H' l = some (.lst (mrefs zs)) → (∀ m ∈ zs, SqT K H' m.1 (m.2.map kV)) → zs.map (·.2) = rs.map rK → KS.SrtK ((rdsOf D).map rK) (rs.map rK) → rs.length ≤ 24 → Q (.ref l) H'
theorem ok_w_readings (T : T K mg) : FnOk P w K mg base CX0 3 T.f_w_readings T.d_w_readings ["rows"] (sp_w_readings K) := by
  refine T.F_w_readings.ok sc_w_readings (fun vs H Q E h => ?_) (fun cdv A outer s H vs Q E hr h => ?_)
  · obtain ⟨rw_, D, rfl, _⟩ := h
    rfl
  · obtain ⟨rw_, D, rfl, h1, hD, n8, k⟩ := h
    have hu := hu_of hr
    refine ⟨_, (pss_cons (ps_set (i := 1) sc_w_readings.nd rfl (Or.inl rfl) (pe_lst pa_nil))
      (pss_cons (ps_for PassesOwn.never rfl (pi_list (pv 0)) (pg_name (i := 2) sc_w_readings.nd rfl (Or.inr rfl))
      (pss_one (ps_expr (pe_bm PySem.F.plainAttrs_list PySem.F.slot_list_extend PySem.F.type_list_extend mt_extend (pv 1) (pa_cons (pe_lc (own := [("name", 3), ("far", 4)]) (g := gTup K 2 (gCons (gName 3) (gCons (gName 4) gNil))) rfl sc_w_readings.nd (pi_tup (pe_ix ix_seq (pv 2) pe_int (fun _ _ => rfl))) (blkOk_by (N := ["rows", "found", "row", "name", "far"]) (sc := defScope s_w_readings) (by decide +kernel)) (fun _ _ _ _ _ => (pg_tup rfl (pgs_cons (pg_name (i := 3) sc_w_readings.nd rfl (Or.inl rfl)) (pgs_cons (pg_name (i := 4) sc_w_readings.nd rfl (Or.inl rfl)) pgs_nil)))) (fun _ _ _ _ _ => pts_nil) (fun _ _ _ _ _ => (pe_tup (pa_cons (pv 3) (pa_cons (pe_ix (r := rIx K) ix_seq (pv 2) pe_int (fun _ _ => rfl)) (pa_cons (pv 4) pa_nil)))))) pa_nil)))))
      (pss_one (ps_ret (pe_callB (KS.cr_sortedK (KS.linkTup _) (enc := KS.encK) rfl KS.rd_tup (un_row hr)) (by rfl) T.z_sorted (by decide +kernel) (pa_cons (pe_callTy (KS.cr_setOf (KS.linkTup _) rfl (un3 hr)) (by rfl) T.z_set (by decide +kernel) (pa_cons (pv 1) pa_nil)) pa_nil)))))), ?_⟩
    refine ⟨by show 0 ≤ sizeLine; decide, fun mk hmk => ?_⟩
    have S2 := Same.new (o := .lst []) hmk
    have e2 : (upd H mk (.lst [])) mk = some (.lst (mrefs [])) := upd_same
    have rl3 : ∀ m ∈ D, m.2.rs.length ≤ 3 := fun m hm => (hD m hm).1.rl
    have al : ∀ i, (rdsOf (D.take i)).length ≤ 24 := fun i => by
      have := rds_len (N := D.take i) fun m hm => rl3 m (List.mem_of_mem_take hm)
      rw [List.length_take] at this
      omega
    have lo : (opRefs D).length = D.length := List.length_map ..
    refine ⟨_, rfl, rw_, rfl, ⟨_, SqL.of (S2 _ _ h1)⟩, ?_⟩
    refine for_list (K := K) (a := rw_) (xs := opRefs D) (fun i σ G => ∃ v2, σ = [some (.ref rw_), some (.ref mk), v2, none, none] ∧ Same H G ∧ ∃ ns : List Mm, G mk = some (.lst (mrefs ns)) ∧ MsN G ns ∧ ns.map (·.2) = (rdsOf (D.take i)).map rK)
      ⟨none, rfl, S2, [], e2, (fun _ h => by cases h), rfl⟩ (fun j σ G _ ⟨_, _, S, _⟩ => SqL.of (S _ _ h1)) ?_ ?_
    · rintro i x σ G hx ⟨v2, rfl, S, ns, eM, hns, ens⟩
      unfold opRefs at hx
      rw [List.getElem?_map] at hx
      cases em : D[i]? with
      | none => rw [em] at hx; cases hx
      | some m =>
        rw [em] at hx
        cases hx
        have tk := rds_take em
        have mD : m ∈ D := List.mem_of_getElem? em
        obtain ⟨okm, x3, x4, p1, d3, d4⟩ := (hD m mD).same S
        obtain ⟨ra, ys, rfl, hra, hys⟩ : ∃ ra ys, x3 = .ref ra ∧ SqT K G ra ys ∧ DpAll K G ys (m.2.rs.map pD) := by
          cases d3 with
          | tup t1 t2 => exact ⟨_, _, rfl, t1, t2⟩
        have lys : ys.length = m.2.rs.length := by
          have := dpa_len hys
          rw [List.length_map] at this
          omega
        have l3 := rl3 m mD
        refine ⟨_, rfl, .inl ⟨rfl, _, SqL.of eM⟩, ?_⟩
        refine ⟨_, rfl, .inr (.inl ⟨m.1, _, 2, _, rfl, rfl, p1, rfl, ?_⟩)⟩
        refine ⟨ra, rfl, ⟨_, hra⟩, fun D1 hD1 => ?_⟩
        refine lc_it (walk_tup (K := K) (a := ra) (xs := ys)) (fun j F => Same G F ∧ ∃ ts : List Mm, F D1 = some (.lst (mrefs ts)) ∧ MsN F ts ∧ ts.map (·.2) = ((rds1 m).take j).map rK) ⟨Same.new hD1, [], upd_same, (fun _ h => by cases h), rfl⟩ (fun j F _ h => Same.seqT h.1 hra) ?_ ?_
        · rintro j y Hc Hd hj ⟨Sc, ts, eT, hts, ets⟩ ⟨rfl, hy⟩
          obtain ⟨pr, bb, epr, rfl, hb⟩ := dpa_pairs hys hy
          have aj : (rds1 m).take (j + 1) = (rds1 m).take j ++ [(pr.1, m.2.n, pr.2)] := by
            rw [List.take_add_one]
            unfold rds1
            rw [List.getElem?_map, epr]
            rfl
          refine ⟨bb, _, rfl, Same.seqT Sc hb, rfl, _, _, rfl, _, _, rfl, rfl, ?_⟩
          refine ⟨rfl, ?_⟩
          refine yesT (iteT ?_)
          refine ⟨_, rfl, _, rfl, .inr (.inl ⟨m.1, _, 0, _, rfl, rfl, Same.seqT Sc p1, rfl, _, rfl, ?_⟩)⟩
          refine ⟨by show 3 ≤ sizeLine; decide, fun t ht => ?_⟩
          have St := Same.new (o := .tup [V.str pr.1, .str m.2.n, .int pr.2]) ht
          have et : (upd Hd t (.tup [V.str pr.1, .str m.2.n, .int pr.2])) t = some (.tup ((rK (pr.1, m.2.n, pr.2)).map kV)) := upd_same
          have eT1 := St _ _ eT
          have SH := Same.trans Sc St
          have hts1 := hts.keep fun a xs e => St _ _ e
          have lt : ts.length ≤ 3 := by
            have e1 := congrArg List.length ets
            rw [List.length_map, List.length_map, List.length_take] at e1
            have l1 : (rds1 m).length = m.2.rs.length := List.length_map ..
            omega
          generalize upd Hd t (.tup [V.str pr.1, .str m.2.n, .int pr.2]) = He at St et eT1 SH hts1 ⊢
          refine ⟨mrefs ts, eT1, by unfold mrefs; rw [List.length_map, sizeLine_eq]; omega, Same.at hD1 SH, ts ++ [(t, rK (pr.1, m.2.n, pr.2))], by rw [upd_same]; unfold mrefs; rw [List.map_append]; rfl, ?_, ?_⟩
          · have kt : ∀ a xs, He a = some (.tup xs) → (upd He D1 (.lst (mrefs ts ++ [V.ref t]))) a = some (.tup xs) := fun a xs e => (upd_ne (fun z => by rw [z, eT1] at e; cases e)).trans e
            intro q hq
            rcases List.mem_append.mp hq with hq | hq
            · exact kt _ _ (hts1 q hq)
            · rw [List.mem_singleton.mp hq]
              exact kt _ _ et
          · rw [aj, List.map_append, ets]
            simp
        · rintro G4 ⟨S4, ts, eT, hts, ets⟩
          have e9 : (rds1 m).take ys.length = rds1 m := List.take_of_length_le (by unfold rds1; rw [List.length_map, lys]; exact Nat.le_refl _)
          rw [e9] at ets
          have ln : ns.length ≤ 24 := by
            have e1 := congrArg List.length ens
            rw [List.length_map, List.length_map] at e1
            have := al i
            omega
          have lt : ts.length ≤ 3 := by
            have e1 := congrArg List.length ets
            rw [List.length_map, List.length_map] at e1
            have l1 : (rds1 m).length = m.2.rs.length := List.length_map ..
            omega
          have eM4 := S4 _ _ eM
          refine ⟨mk, D1, mrefs ns, mrefs ts, rfl, rfl, eM4, eT, by unfold mrefs; rw [List.length_map, List.length_map, sizeLine_eq]; omega, ?_⟩
          have kt : ∀ a xs, G4 a = some (.tup xs) → (upd G4 mk (.lst (mrefs ns ++ mrefs ts))) a = some (.tup xs) := fun a xs e => (upd_ne (fun z => by rw [z, eM4] at e; cases e)).trans e
          refine ⟨_, rfl, Same.at hmk (Same.trans S S4), ns ++ ts, by rw [upd_same]; unfold mrefs; rw [List.map_append], ?_, ?_⟩
          · intro q hq
            rcases List.mem_append.mp hq with hq | hq
            · exact kt _ _ (S4 _ _ (hns q hq))
            · exact kt _ _ (hts q hq)
          · rw [tk, List.map_append, ens, ets, List.map_append]
    · rintro σ G1 ⟨v2, rfl, SH, ns, eM1, hns1, ens⟩
      rw [lo, List.take_length] at ens
      have ln : ns.length ≤ 24 := by
        have e := congrArg List.length ens
        rw [List.length_map, List.length_map] at e
        have := al D.length
        rw [List.take_length] at this
        omega
      refine ⟨_, rfl, ?_⟩
      unfold tNil
      dsimp only
      refine KS.sorted_set (X := (cxOf CX0 P w K mg base ["rows", "found", "row", "name", "far"] "_law_readings" (defScope s_w_readings) T.f_w_readings cdv A outer s H E).nox) (ms := ns) (SqL.of eM1) (fun m hm => SqT.of (hns1 m hm)) (by omega) (by rw [ens]; exact rK_one _) (sw_rows ens fun r hr e => ?_) fun zs p H' S hp srt mem lz ep => ?_
      · obtain ⟨o, _, eo⟩ := List.mem_map.mp hr
        rw [e] at eo
        cases eo
      · rw [ens] at srt
        obtain ⟨as, eas⟩ := map_exR (L := rdsOf D) fun z hz => (srt.2.2 z).mp hz
        refine k p as zs _ (Same.trans SH S) ep (fun m h => Same.seqT S (SqT.of (hns1 m (mem m h)))) eas.symm (by rw [eas]; exact srt) ?_
        have e1 := congrArg List.length eas
        rw [List.length_map, List.length_map] at e1
        omega
end
end K14
namespace K14
open PySem L2
open PyProof.Rows PySem.Spec
theorem rds_mem {N : List OM} {x : Str × Str × Int} : x ∈ rdsOf N ↔ ∃ r ∈ N.map (·.2), ∃ p ∈ r.rs, x = (p.1, r.n, p.2) := by
  unfold rdsOf rds1
  rw [List.mem_flatMap]
  constructor
  · rintro ⟨m, hm, h⟩
    obtain ⟨p, hp, e⟩ := List.mem_map.mp h
    exact ⟨m.2, List.mem_map.mpr ⟨m, hm, rfl⟩, p, hp, e.symm⟩
  · rintro ⟨r, hr, p, hp, e⟩
    obtain ⟨m, hm, rfl⟩ := List.mem_map.mp hr
    exact ⟨m, hm, List.mem_map.mpr ⟨p, hp, e.symm⟩⟩
theorem split_mm {β : Type} {f : β → List Key} : ∀ {zs : List Mm} {rs : List β}, zs.map (·.2) = rs.map f → ∃ ns : List (Addr × β), ns.map (fun n => (n.1, f n.2)) = zs ∧ ns.map (·.2) = rs
  | [], [], _ => ⟨[], rfl, rfl⟩
  | [], _ :: _, h => by cases h
  | _ :: _, [], h => by cases h
  | z :: zs, r :: rs, h => by
    rw [List.map_cons, List.map_cons] at h
    obtain ⟨e1, e2⟩ := List.cons.inj h
    obtain ⟨ns, e3, e4⟩ := split_mm e2
    exact ⟨(z.1, r) :: ns, by rw [List.map_cons, e3]; show (z.1, f r) :: zs = z :: zs; rw [← e1], by rw [List.map_cons, e4]⟩
theorem rK_inj {x y : Str × Str × Int} (h : rK x = rK y) : x = y := by
  obtain ⟨x1, x2, x3⟩ := x
  obtain ⟨y1, y2, y3⟩ := y
  simp only [rK, List.cons.injEq, Sum.inr.injEq, Sum.inl.injEq, and_true] at h
  obtain ⟨rfl, rfl, rfl⟩ := h
  rfl
theorem last_vls {D : List OM} (nd : (nms D).Nodup) : D.map (fun m => ((Sum.inr m.2.n : Key), V.int m.2.t)) = Vls (nms D) (tkOf D) := by
  unfold Vls nms
  rw [List.map_map]
  refine List.map_congr_left fun m hm => ?_
  show (Sum.inr m.2.n, V.int m.2.t) = (Sum.inr m.2.n, V.int (tkOf D m.2.n))
  rw [tkOf_at nd hm]
/-- a reading as an arc -/
def arcR (D : List OM) (x : Str × Str × Int) : Od := (x.1, x.2.1, tkOf D x.1, x.2.2)
theorem arcR_mem {D : List OM} {rs : List (Str × Str × Int)} (h : ∀ x, x ∈ rs ↔ x ∈ rdsOf D) (o : Od) : o ∈ rs.map (arcR D) ↔ o ∈ arcsOf D D := by
  rw [List.mem_map, arcs_mem]
  constructor
  · rintro ⟨x, hx, rfl⟩
    obtain ⟨r, hr, p, hp, rfl⟩ := rds_mem.mp ((h x).mp hx)
    obtain ⟨m, hm, rfl⟩ := List.mem_map.mp hr
    exact ⟨m, hm, p, hp, rfl⟩
  · rintro ⟨m, hm, p, hp, rfl⟩
    exact ⟨(p.1, m.2.n, p.2), (h _).mpr (rds_mem.mpr ⟨m.2, List.mem_map.mpr ⟨m, hm, rfl⟩, p, hp, rfl⟩), rfl⟩
section
variable {P : Program} {w : World} {K : PySem.W.Frag}
                                                      {mg : Str → Option Value} {base : Heap}
def sp_w_arcs (K : PySem.W.Frag) : Sp := fun vs H Q _ => ∃ (rw ro : Addr) (D : List OM) (os : List Od), vs = [.ref rw, .ref ro] ∧ H rw = some (.lst (opRefs D)) ∧ (∀ m ∈ D, DRow K H m.1 m.2) ∧ RowsT K H ro (os.map oK) ∧ LOk D os ∧
  ∀ l (as : List Od) H', Same H H' → BoL K H' l as → KS.SrtK ((arcsOf D D ++ os).map oK) (as.map oK) → as.length ≤ 32 → Q (.ref l) H'
theorem ok_w_arcs (T : T K mg) : FnOk P w K mg base CX0 4 T.f_w_arcs T.d_w_arcs ["rows", "rules"] (sp_w_arcs K) := by
  have G_w_readings : FnOk P w K mg base CX0 3 T.f_w_readings T.d_w_readings ["rows"] (sp_w_readings K) := ok_w_readings T
  refine T.F_w_arcs.ok sc_w_arcs (fun vs H Q E h => ?_) (fun cdv A outer s H vs Q E hr h => ?_)
  · obtain ⟨rw_, ro, D, os, rfl, _⟩ := h
    rfl
  · obtain ⟨rw_, ro, D, os, rfl, h1, hD, ho, lok, k⟩ := h
    have hu := hu_of hr
    have hr_w_readings : Room 3 _ := hr.mono (by decide)
    refine ⟨_, (pss_cons (ps_set (i := 2) sc_w_arcs.nd rfl (Or.inr rfl) (pe_callTy (call_dictP rfl) (by rfl) T.z_dict (by decide +kernel) (pa_cons (pe_lc (own := [("row", 4)]) (g := gName 4) rfl sc_w_arcs.nd (pi_list (pv 0)) (blkOk_by (N := ["rows", "rules", "lasting", "found", "row", "name", "reader", "far"]) (sc := defScope s_w_arcs) (by decide +kernel)) (fun _ _ _ _ _ => (pg_name (i := 4) sc_w_arcs.nd rfl (Or.inl rfl))) (fun _ _ _ _ _ => pts_nil) (fun _ _ _ _ _ => (pe_tup (pa_cons (pe_ix (r := rIx K) ix_seq (pv 4) pe_int (fun _ _ => rfl)) (pa_cons (pe_ix (r := rIx K) ix_seq (pv 4) pe_int (fun _ _ => rfl)) pa_nil))))) pa_nil)))
      (pss_cons (ps_setLc (i := 3) (own := [("name", 5), ("reader", 6), ("far", 7)]) (g := gTup K 3 (gCons (gName 5) (gCons (gName 6) (gCons (gName 7) gNil)))) rfl sc_w_arcs.nd rfl rfl (sw_true rfl rfl rfl (by decide +kernel)) (pi_list (pe_call G_w_readings hr_w_readings rfl T.m_w_readings T.F_w_readings.kp T.b_w_readings .nil pass0 (pa_cons (pv 0) pa_nil))) (blkOk_by (N := ["rows", "rules", "lasting", "found", "row", "name", "reader", "far"]) (sc := defScope s_w_arcs) (by decide +kernel)) (fun _ _ _ _ _ => (pg_tup rfl (pgs_cons (pg_name (i := 5) sc_w_arcs.nd rfl (Or.inl rfl)) (pgs_cons (pg_name (i := 6) sc_w_arcs.nd rfl (Or.inl rfl)) (pgs_cons (pg_name (i := 7) sc_w_arcs.nd rfl (Or.inl rfl)) pgs_nil))))) (fun _ _ _ _ _ => pts_nil) (fun _ _ _ _ _ => (pe_tup (pa_cons (pv 5) (pa_cons (pv 6) (pa_cons (pe_dget (by exact hu) (pv 2) (pv 5) (fun _ _ => rfl)) (pa_cons (pv 7) pa_nil)))))))
      (pss_one (ps_ret (pe_callB (KS.cr_sortedK (KS.linkTup _) (enc := KS.encK) rfl KS.rd_tup (un_row hr)) (by rfl) T.z_sorted (by decide +kernel) (pa_cons (pe_callTy (KS.cr_setOf (KS.linkTup _) rfl (un3 hr)) (by rfl) T.z_set (by decide +kernel) (pa_cons (pe_op op_cat (pv 3) (pe_callTy call_list_of (by rfl) T.z_list (by decide +kernel) (pa_cons (pv 1) pa_nil))) pa_nil)) pa_nil)))))), ?_⟩
    have nd := lok.nd
    have n8 := lok.l8
    refine ⟨_, rfl, rw_, rfl, ⟨_, SqL.of h1⟩, fun D1 hD1 => ?_⟩
    refine lc_rows (e := fun m : OM => V.ref m.1) (l := D) (walk_list (K := K) (a := rw_)) (fun m => [Sum.inr m.2.n, Sum.inl m.2.t]) (fun G' S => SqL.of (S _ _ h1)) (by omega) hD1 ?_ ?_
    · intro m G' hm Sx C Nn post
      obtain ⟨okm, x3, x4, p1, d3, d4⟩ := (hD m hm).same Sx
      refine ⟨rfl, ?_⟩
      refine yesT (iteT ?_)
      refine ⟨_, rfl, .inr (.inl ⟨m.1, _, 0, _, rfl, rfl, p1, rfl, _, rfl, .inr (.inl ⟨m.1, _, 1, _, rfl, rfl, p1, rfl, ?_⟩)⟩)⟩
      exact ⟨by show 2 ≤ sizeLine; decide, fun t ht => post t _ (Same.new ht) upd_same⟩
    intro H1 ts S1 eD1 hts ets
    have ts_pairs := pairs_of (K := K) (a := fun m : OM => m.2.n) (b := fun m : OM => m.2.t) hts ets
    rw [last_vls nd] at ts_pairs
    refine ⟨D1, ts.map (fun m : Mm => m.1), Vls (nms D) (tkOf D), rfl, SqL.of (by rw [eD1, mrefs_ref]), ts_pairs, fun d hd => ?_⟩
    have mk : mergeK [] (Vls (nms D) (tkOf D)) = Vls (nms D) (tkOf D) := mergeK_nd _ [] (by
      rw [List.nil_append, vls_keys]
      exact List.pairwise_map.mpr (List.Pairwise.imp (fun {a b} h e => h (Sum.inr.inj e)) nd))
    rw [mk]
    have S2 : Same H (upd H1 d (.dK (Vls (nms D) (tkOf D)))) := Same.trans S1 (Same.new hd)
    have ed : (upd H1 d (.dK (Vls (nms D) (tkOf D)))) d = some (.dK (Vls (nms D) (tkOf D))) := upd_same
    generalize upd H1 d (.dK (Vls (nms D) (tkOf D))) = H2 at S2 ed ⊢
    refine ⟨_, rfl, rw_, D, rfl, S2 _ _ h1, fun m hm => (hD m hm).same S2, n8, fun l rs zs H3 S3 el hz ez srt l24 => ?_⟩
    have S23 := Same.trans S2 S3
    have ed3 := S3 _ _ ed
    obtain ⟨ns, rfl, en⟩ := split_mm ez
    have rs_mem : ∀ x, x ∈ rs ↔ x ∈ rdsOf D := fun x => by
      have e := srt.2.2 (rK x)
      constructor
      · intro hx
        obtain ⟨y, hy, ey⟩ := List.mem_map.mp (e.mp (List.mem_map.mpr ⟨x, hx, rfl⟩))
        rw [← rK_inj ey]
        exact hy
      · intro hx
        obtain ⟨y, hy, ey⟩ := List.mem_map.mp (e.mpr (List.mem_map.mpr ⟨x, hx, rfl⟩))
        rw [← rK_inj ey]
        exact hy
    have lns : ns.length = rs.length := by rw [← en, List.length_map]
    have eln : H3 l = some (.lst (ns.map fun n => V.ref n.1)) := by
      rw [el]
      unfold mrefs
      rw [List.map_map]
      rfl
    refine ⟨l, rfl, ⟨_, SqL.of eln⟩, fun D3 hD3 => ?_⟩
    refine lc_rows (e := fun n : Addr × (Str × Str × Int) => V.ref n.1) (l := ns) (walk_list (K := K) (a := l)) (fun n => oK (arcR D n.2)) (fun G' S => SqL.of (S _ _ eln)) (by omega) hD3 ?_ ?_
    · intro n G' hn Sx C Nn post
      have hnr : n.2 ∈ rs := by rw [← en]; exact List.mem_map.mpr ⟨n, hn, rfl⟩
      have hnm : n.2.1 ∈ nms D := by
        obtain ⟨r, hr, p, hp, e⟩ := rds_mem.mp ((rs_mem _).mp hnr)
        obtain ⟨m, hm, rfl⟩ := List.mem_map.mp hr
        rw [e]
        exact lok.rd m hm p hp
      have hb : SqT K G' n.1 [.str n.2.1, .str n.2.2.1, .int n.2.2.2] := Same.seqT Sx (hz (n.1, rK n.2) (List.mem_map.mpr ⟨n, hn, rfl⟩))
      have dg : DGet G' d (V.str n.2.1) (some (.int (tkOf D n.2.1))) := by
        have := DGet.k (k := Sum.inr n.2.1) (Sx _ _ ed3)
        rw [vls_at hnm] at this
        exact this
      refine ⟨n.1, _, rfl, hb, rfl, _, _, rfl, _, _, rfl, _, _, rfl, rfl, ?_⟩
      refine ⟨rfl, ?_⟩
      refine yesT (iteT ?_)
      refine ⟨_, rfl, _, rfl, _, rfl, _, rfl, d, _, rfl, dg, _, rfl, ?_⟩
      exact ⟨by show 4 ≤ sizeLine; decide, fun t ht => post t _ (Same.new ht) upd_same⟩
    intro H4 tt S4 eD3 htt ett
    obtain ⟨om, o1, o2, o3⟩ := ho.same (Same.trans S23 S4)
    have lo : om.length = os.length := by
      have := congrArg List.length o3
      simpa using this
    have ltt : tt.length = rs.length := by
      have := congrArg List.length ett
      simp only [List.length_map] at this
      omega
    have o8 := lok.o8
    refine ⟨_, rfl, _, rfl, ro, _, rfl, .inr o1, fun lr hlr => ?_⟩
    have S5 := Same.new (o := .lst (om.map fun m => V.ref m.1)) hlr
    refine ⟨D3, lr, mrefs tt, om.map (fun m => V.ref m.1), rfl, rfl, S5 _ _ eD3, upd_same, by unfold mrefs; rw [List.length_map, List.length_map, sizeLine_eq]; omega, fun lz hlz => ?_⟩
    have S6 := Same.trans S5 (Same.new (o := .lst (mrefs tt ++ om.map fun m => V.ref m.1)) hlz)
    have elz : (upd (upd H4 lr (.lst (om.map fun m => V.ref m.1))) lz (.lst (mrefs tt ++ om.map fun m => V.ref m.1))) lz = some (.lst (mrefs (tt ++ om))) := by
      rw [upd_same]
      unfold mrefs
      rw [List.map_append]
    have rows : (tt ++ om).map (·.2) = (rs.map (arcR D) ++ os).map oK := by
      rw [List.map_append, ett, o3, List.map_append, ← en, List.map_map, List.map_map]
      rfl
    have hm : ∀ m ∈ tt ++ om, SqT K (upd (upd H4 lr (.lst (om.map fun m => V.ref m.1))) lz (.lst (mrefs tt ++ om.map fun m => V.ref m.1))) m.1 (m.2.map kV) := fun m hm => by
      rcases List.mem_append.mp hm with hm | hm
      · exact SqT.of (S6 _ _ (htt m hm))
      · exact Same.seqT S6 (o2 m hm)
    generalize upd (upd H4 lr (.lst (om.map fun m => V.ref m.1))) lz (.lst (mrefs tt ++ om.map fun m => V.ref m.1)) = H6 at S6 elz hm ⊢
    have S06 : Same H H6 := Same.trans S23 (Same.trans S4 S6)
    have lall : (tt ++ om).length ≤ 32 := by rw [List.length_append]; omega
    unfold tNil
    dsimp only
    refine KS.sorted_set (X := (cxOf CX0 P w K mg base ["rows", "rules", "lasting", "found", "row", "name", "reader", "far"] "_law_arcs" (defScope s_w_arcs) T.f_w_arcs cdv A outer s H E).nox) (ms := tt ++ om) (SqL.of elz) hm (by omega) (by rw [rows]; exact oK_one _) (sw_rows rows fun r hr e => ?_) fun ks p H' S hp srt mem lk ep => ?_
    · obtain ⟨o, _, eo⟩ := List.mem_map.mp hr
      rw [e] at eo
      cases eo
    · rw [rows] at srt
      obtain ⟨as, eas, _⟩ := map_ex (L := rs.map (arcR D) ++ os) fun z hz => (srt.2.2 z).mp hz
      refine k p as _ (Same.trans S06 S) ⟨ks, ep, fun m h => Same.seqT S (hm m (mem m h)), eas.symm⟩ ?_ ?_
      · rw [eas]
        refine ⟨srt.1, srt.2.1, fun z => (srt.2.2 z).trans ?_⟩
        rw [List.map_append, List.map_append, List.mem_append, List.mem_append, List.mem_map (l := rs.map (arcR D)), List.mem_map (l := arcsOf D D)]
        constructor
        · rintro (⟨o, ho, e⟩ | h)
          · exact .inl ⟨o, (arcR_mem rs_mem o).mp ho, e⟩
          · exact .inr h
        · rintro (⟨o, ho, e⟩ | h)
          · exact .inl ⟨o, (arcR_mem rs_mem o).mpr ho, e⟩
          · exact .inr h
      · have e1 := congrArg List.length eas
        rw [List.length_map, List.length_map] at e1
        omega
/-- a dict of names with numbers -/
def StD (H : Hp) (d : Addr) (ns : List Str) (val : Str → Int) : Prop := H d = some (.dK (Vls ns val))
theorem StD.at_ {H : Hp} {d : Addr} {ns : List Str} {val : Str → Int} (h : StD H d ns val) {n : Str} (hn : n ∈ ns) : DGet H d (V.str n) (some (.int (val n))) := by
  have := DGet.k (k := Sum.inr n) h
  rw [vls_at hn] at this
  exact this
def sp_w_spares (K : PySem.W.Frag) : Sp := fun vs H Q _ => ∃ (al d : Addr) (iv : Int) (ns : List Str) (as : List Od) (val : Str → Int), vs = [.ref al, .int iv, .ref d] ∧ 1 ≤ iv ∧ iv ≤ 32 ∧ BoL K H al as ∧ (∀ o ∈ as, OdOk ns o) ∧ as.length ≤ 32 ∧ StD H d ns val ∧
  ∀ l H', Same H H' → H' l = some (.lst ((as.map (spare iv val)).map V.int)) → Q (.ref l) H'
theorem ok_w_spares (T : T K mg) : FnOk P w K mg base CX0 1 T.f_w_spares T.d_w_spares ["arcs", "interval", "begins"] (sp_w_spares K) := by
  refine T.F_w_spares.ok sc_w_spares (fun vs H Q E h => ?_) (fun cdv A outer s H vs Q E hr h => ?_)
  · obtain ⟨al, d, iv, ns, as, val, rfl, _⟩ := h
    rfl
  · obtain ⟨al, d, iv, ns, as, val, rfl, i1, i2, hal, aok, l32, st, k⟩ := h
    have hu := hu_of hr
    refine ⟨_, (pss_one (ps_ret (pe_lc (own := [("source", 3), ("target", 4), ("delay", 5), ("far", 6)]) (g := gTup K 4 (gCons (gName 3) (gCons (gName 4) (gCons (gName 5) (gCons (gName 6) gNil))))) rfl sc_w_spares.nd (pi_list (pv 0)) (blkOk_by (N := ["arcs", "interval", "begins", "source", "target", "delay", "far"]) (sc := defScope s_w_spares) (by decide +kernel)) (fun _ _ _ _ _ => (pg_tup rfl (pgs_cons (pg_name (i := 3) sc_w_spares.nd rfl (Or.inl rfl)) (pgs_cons (pg_name (i := 4) sc_w_spares.nd rfl (Or.inl rfl)) (pgs_cons (pg_name (i := 5) sc_w_spares.nd rfl (Or.inl rfl)) (pgs_cons (pg_name (i := 6) sc_w_spares.nd rfl (Or.inl rfl)) pgs_nil)))))) (fun _ _ _ _ _ => pts_nil) (fun _ _ _ _ _ => (pe_op op_add (pe_op op_sub (pe_op op_sub (pe_dget (by exact hu) (pv 2) (pv 4) (fun _ _ => rfl)) (pe_dget (by exact hu) (pv 2) (pv 3) (fun _ _ => rfl))) (pv 5)) (pe_op op_mul (pv 1) (pv 6))))))), ?_⟩
    obtain ⟨zs, z1, z2, z3⟩ := hal
    obtain ⟨ms, rfl, m3⟩ := split_mm z3
    have z1' : H al = some (.lst (ms.map fun m => V.ref m.1)) := by
      rw [z1]
      unfold mrefs
      rw [List.map_map]
      rfl
    have lm : ms.length ≤ 32 := by rw [← m3, List.length_map] at l32; exact l32
    refine ⟨_, rfl, al, rfl, ⟨_, SqL.of z1'⟩, fun D hD => ?_⟩
    refine lc_pick (e := fun m : Addr × Od => V.ref m.1) (l := ms) (walk_list (K := K) (a := al)) (fun m => some (V.int (spare iv val m.2))) (fun G' S => SqL.of (S _ _ z1')) (by omega) hD ?_ ?_
    · intro m G' hm Sx C Nn post
      have mo : m.2 ∈ as := by rw [← m3]; exact List.mem_map.mpr ⟨m, hm, rfl⟩
      have oo := aok _ mo
      have hb : SqT K G' m.1 [.str m.2.1, .str m.2.2.1, .int m.2.2.2.1, .int m.2.2.2.2] := Same.seqT Sx (z2 (m.1, oK m.2) (List.mem_map.mpr ⟨m, hm, rfl⟩))
      have stG : StD G' d ns val := Sx _ _ st
      refine ⟨m.1, _, rfl, hb, rfl, _, _, rfl, _, _, rfl, _, _, rfl, _, _, rfl, rfl, ?_⟩
      refine ⟨rfl, ?_⟩
      refine yesT (iteT ?_)
      refine ⟨_, rfl, _, rfl, d, _, rfl, stG.at_ oo.t, _, rfl, _, rfl, d, _, rfl, stG.at_ oo.s, _, _, rfl, rfl, _, rfl, _, _, rfl, rfl, ?_⟩
      refine ⟨_, rfl, _, rfl, _, _, rfl, rfl, .inl ⟨by omega, by omega⟩, _, _, rfl, rfl, ?_⟩
      exact post G' (Same.refl _)
    · intro G2 S2 eD
      rw [picks (e := fun m : Addr × Od => V.int (spare iv val m.2))] at eD
      have e9 : (ms.map fun m => V.int (spare iv val m.2)) = (as.map (spare iv val)).map V.int := by
        rw [← m3, List.map_map, List.map_map]
        rfl
      rw [e9] at eD
      exact k D _ S2 eD
end
end K14
/-! == of dicts of data in one order; in, of a value that is no text, in a tuple of texts -/
namespace RL
open PySem PySem.Spec PyProof.Rows L2
/-- all values equal, place by place -/
def allE : List (PyData × PyData) → List (PyData × PyData) → Bool
  | (_, d) :: es, (_, e) :: fs => PyData.eqv d e && allE es fs
  | _, _ => true
section
variable {X : Cx} {pins : List (Addr × Obj)}
                                             {σ : L2.St} {H : Hp} {s : Shared}
theorem dic_hits (I : Inv X pins σ H s) {A : Around} (hu : A.units + 60 < cLine) {ls : List (Key × V)} {vb : List (Key × Value)} (rb : KV ls vb) :
    ∀ {es' fs' : List (PyData × PyData)} {ks' ls' : List (Key × V)} {va' : List (Key × Value)}, DSk X.K H ks' es' → DSk X.K H ls' fs' → KV ks' va' → ks'.map (·.1) = ls'.map (·.1) → (∀ p ∈ ls', valV ls p.1 = some p.2) →
      PyData.plainAll (es'.map (·.2)) = true → PyData.plainAll (fs'.map (·.2)) = true → PyData.depthAll (es'.map (·.2)) ≤ 60 → PySem.W.KeqHitsP X.prog X.w A s vb va' (allE es' fs')
  | [], _, _, _, _, h1, h2, r, e, _, _, _, _ => by
    cases h1
    unfold KV at r
    cases r
    simp only [allE]
    exact .nil
  | (kd, d) :: es', _, _, _, _, h1, h2, r, e, hv, p1, p2, hd => by
    cases h1 with
    | @cons k v ks' _ _ hd1 hk1 =>
      cases h2 with
      | nil => cases e
      | @cons k2 v2 ls' d2 fs' hd2 hk2 =>
        obtain ⟨rfl, e2⟩ := List.cons.inj e
        unfold KV at r
        cases r with
        | @cons _ q _ qs h t =>
          obtain ⟨hq1, hq2⟩ := h
          obtain ⟨qk, qv⟩ := q
          obtain rfl : k = qk := hq1
          have rr : RelO (some v2) (valueAt vb k) := by
            rw [← hv _ List.mem_cons_self]
            exact rb.val k
          obtain ⟨y, hy, ry⟩ := rr.some_of
          have p1' : d.plain = true ∧ PyData.plainAll (es'.map (·.2)) = true := by simpa [PyData.plainAll] using p1
          have p2' : d2.plain = true ∧ PyData.plainAll (fs'.map (·.2)) = true := by simpa [PyData.plainAll] using p2
          have hdd : d.depth ≤ 60 ∧ PyData.depthAll (es'.map (·.2)) ≤ 60 := by
            simp only [List.map_cons, PyData.depthAll] at hd
            omega
          obtain ⟨as, ra⟩ := DS.reads I _ _ _ hd1 hq2
          obtain ⟨bs, rb'⟩ := DS.reads I _ _ _ hd2 ry
          refine .hit hy (SeqAt.EqAt.eqP (SeqAt.eqAt_plain d d2 A s qv y as bs ra rb' p1'.1 p2'.1 (by have := Nat.min_le_left d.depth d2.depth; omega))) ?_
          exact dic_hits I hu rb hk1 hk2 t e2 (fun p hp => hv p (List.mem_cons_of_mem _ hp)) p1'.2 p2'.2 hdd.2
/-- a == b, two dicts with the same keys in one order -/
def rEqDic (K : PySem.W.Frag) : R2 := fun x y H Q => ∃ a b ks ls es fs, x = .ref a ∧ y = .ref b ∧ H a = some (.dK ks) ∧ H b = some (.dK ls) ∧ DSk K H ks es ∧ DSk K H ls fs ∧ ks.map (·.1) = ls.map (·.1) ∧ (∀ p ∈ ls, valV ls p.1 = some p.2) ∧
  PyData.plainAll (es.map (·.2)) = true ∧ PyData.plainAll (fs.map (·.2)) = true ∧ PyData.depthAll (es.map (·.2)) ≤ 60 ∧ Q (.bl (allE es fs)) H
theorem op_eqDic (hu : X.A.units + 64 < cLine) : OpR X (compareOp .Eq) (rEqDic X.K) := by
  intro pins s σ H x y v u Q I rx ry h
  obtain ⟨a, b, ks, ls, es, fs, rfl, rfl, ha, hb, h1, h2, e, hv, p1, p2, hd, q⟩ := h
  cases rx
  cases ry
  obtain ⟨_, ya, va, ra, da⟩ :=
                                (show ObjOk X.prog X.w H s.heap a (.dK ks) from I.hok a _ ha)
  obtain ⟨_, yb, vb, rb, db⟩ :=
                                (show ObjOk X.prog X.w H s.heap b (.dK ls) from I.hok b _ hb)
  have hl : va.length = vb.length := by
    rw [← ra.length, ← rb.length, ← List.length_map (f := (·.1)) (as := ks), e, List.length_map]
  refine PySem.W.rcP_dicts (knd := mixKind X.prog X.w) (r := allE es fs) ya yb da db (by omega) (fun _ => dic_hits I (by show X.A.units + 1 + 60 < cLine; omega) rb h1 h2 ra e hv p1 p2 hd) _ _ ?_
  rw [show (va.length == vb.length && allE es fs) = allE es fs from by rw [hl]; simp]
  exact ⟨.bl _, H, I, rfl, q⟩
end
/-! ### in a tuple of texts -/
section
open AutoSeq1 (wpAny_loadPart')
open SeqAt MeetsSeq MeetsSeq2 MeetsSeq3 SeqRoads2
variable {prog : Program} {w : World}
theorem tuple_containsJ (l : Addr) (items : Array Value) (n : Nat) (dd : Option Addr) (sl : Array (Option Value)) (x : Value) (J : Shared → Prop) :
    MeetsIn prog w (Builtin.«tuple.__contains__» ⟨[.ref l, x], []⟩)
      (fun A R s => s.heap.get? l = some { cls := .type "tuple", dict := dd, data := .seq items n, slots := sl } ∧ J s ∧ (∀ y, y ∈ items → ∀ s', J s' → wpAny (model prog w) A.in1 (eqBool y x) (fun b s'' => b = false ∧ J s'') (fun e s' => R (.error e) s') s') ∧ ∀ s', J s' → R (.ok (.ret (.bool false))) s') :=
  .of_wp fun A R s h => by
    obtain ⟨hp, g, d, tk, os⟩ := s; obtain ⟨hl, hj, he, h⟩ := h
    wp_walk using wpAny_loadPart' hl, wpAny_forIn_array _ (fun rest b s' => b.1 = none ∧ J s' ∧ (∀ y, y ∈ rest → y ∈ items)) _
    case turn =>
      rintro y rest b s' ⟨hb, hj', hmem⟩
      refine wpAny_bind (wpAny_mono (he y (hmem y (List.mem_cons_self ..)) s' hj') (fun b' s'' z => ?_) fun _ _ z => z)
      obtain ⟨rfl, hj2⟩ := z
      wp_walk
      exact ⟨rfl, hj2, fun z hz => hmem z (List.mem_cons_of_mem _ hz)⟩
    case fin =>
      rintro ⟨b1, b2⟩ s' ⟨hb, hj', -⟩
      simp only at hb
      subst hb
      wp_walk
      exact ⟨_, rfl, h _ hj'⟩
    case h =>
      exact ⟨rfl, hj, fun y hy => by simpa using hy⟩
end
end RL
/-! ### a text beside a dict, beside an instance -/
namespace RL
open PySem PySem.Spec PyProof.Rows L2
open AutoSeq1 (wpAny_loadPart')
theorem str_declines_dict (b : Str) (u : Tok) (l : Addr) (c : Value) (es : Array DictEntry) (n : Nat) (dd : Option Addr) (sl : Array (Option Value)) :
    Meets (Builtin.«str.__eq__» ⟨[.str b u, .ref l], []⟩) (fun _ R s => s.heap.get? l = some { cls := c, dict := dd, data := .dict es n, slots := sl } ∧ R (.ok (.ret .notImplemented)) s) :=
  .of_wp fun prog w A R s h => by obtain ⟨hp, g, d, tk, os⟩ := s; obtain
                                                                         ⟨hl, h⟩ := h; wp_walk using wpAny_loadPart' hl, wpAny_load hl; exact ⟨_, rfl, h⟩
theorem str_declines_plain (b : Str) (u : Tok) (l : Addr) (c : Value) (dd : Option Addr) (sl : Array (Option Value)) :
    Meets (Builtin.«str.__eq__» ⟨[.str b u, .ref l], []⟩) (fun _ R s => s.heap.get? l = some { cls := c, dict := dd, data := .plain, slots := sl } ∧ R (.ok (.ret .notImplemented)) s) :=
  .of_wp fun prog w A R s h => by obtain ⟨hp, g, d, tk, os⟩ := s; obtain
                                                                         ⟨hl, h⟩ := h; wp_walk using wpAny_loadPart' hl, wpAny_load hl; exact ⟨_, rfl, h⟩
section
variable {prog : Program}
                          {w : World} {A : Around} {s : Shared}
theorem dict_declines_str {K : Type} [DecidableEq K] {knd : KeyKind prog w K} {a : Addr} {ka : List (K × Value)} {z : Str} {t : Tok} {E Q : Value → Shared → Prop} (da : s.heap.DictOf knd a ka) (h : Q .notImplemented s) :
    wpAny (model prog w) A (call (.builtin "dict.__eq__") [.ref a, .str z t]) Q E s := by
  refine wpAny_call_entry PySem.F.slot_dict_eq da.typeIs PySem.F.entry_dict_eq ?_ (PySem.F.args_dict_eq_2 _ _)
  show wpAny _ _ (Builtin.Dict.dictSlotArgs "__eq__" ⟨[.ref a, .str z t], []⟩ >>= _) _ _ s
  refine wpAny_bind ?_
  unfold Builtin.Dict.dictSlotArgs
  refine wpAny_bind (wpAny_notOrdered_dict da.typeIs ?_)
  show wpAny _ _ (pure (Value.ref a, Value.str z t)) _ _ s
  refine wpAny_pure ?_
  refine wpAny_bind (wpAny_isInstance (T := "str") (typeIs_str s z t) PySem.F.sub_str_dict ?_)
  simp only [Bool.not_false, if_true]
  refine wpAny_bind (wpAny_rule ?_)
  exact wpAny_pure ⟨_, rfl, h⟩
end
end RL
namespace RL
open PySem PySem.Spec PyProof.Rows L2
open AutoSeq1 (wpAny_loadPart')
section
variable {prog : Program}
                          {w : World} {A : Around} {s : Shared}
theorem eqb_of_rc {z : Str} {t : Tok} {a : Addr} {E : Value → Shared → Prop} {Q : Bool → Shared → Prop} (h : wpAny (model prog w) A (richCompare .Eq (.str z t) (.ref a)) (fun v s' => ∃ b, v = .bool b ∧ Q b s') E s) : wpAny (model prog w) A (eqBool (.str z t) (.ref a)) Q E s := by
  unfold eqBool
  refine wpAny_holding ?_
  refine wpAny_ite_split (fun hab => absurd
                                            (eq_of_beq hab) nofun) (fun _ => ?_)
  refine wpAny_bind (wpAny_mono h (fun v s' z => ?_) fun _ _ z => z)
  obtain ⟨b, rfl, q⟩ := z
  exact wpAny_truthy_bool q
theorem rc_str_dict {K : Type} [DecidableEq K] {knd : KeyKind prog w K} {a : Addr} {ka : List (K × Value)} {z : Str} {t : Tok} {E Q : Value → Shared → Prop} (hu : A.units < cLine) (da : s.heap.DictOf knd a ka) (h : Q (.bool false) s) :
    wpAny (model prog w) A (richCompare .Eq (.str z t) (.ref a)) Q E s := by
  obtain ⟨⟨cls, dd, data, sl⟩, es, ep, ho, hx, hd, hr⟩ := id da
  have hc := hx.1
  simp only at hc hd
  subst hc hd
  exact SeqAt.rc_eq_decline_or (k := false) (typeIs_str s z t) da.typeIs (by decide) PySem.F.sub_dict_str PySem.F.slot_str_eq PySem.F.slot_dict_eq
    (fun _ hq => call_meets PySem.F.slot_str_eq (typeIs_str s z t) PySem.F.entry_str_eq (PySem.F.args_str_eq_2 _ _) (str_declines_dict z t a (.type "dict") es ep dd sl) ⟨ho, hq⟩)
    (fun _ hq => dict_declines_str da hq)
    (fun _ hq => wpAny_of_eq (rfl : isSame (.str z t) (.ref a) = pure false) hq) (.inr hu) h
theorem rc_str_inst {K : PySem.W.Frag} {x C dx f : Addr} {od : Option Obj} {z : Str} {t : Tok} {E Q : Value → Shared → Prop} (hu : A.units < cLine) (X : K.In s.heap) (ho : s.heap.get? x = some (PySem.W.instObj C dx)) (I : PySem.W.InstAt s.heap x (PySem.W.instObj C dx) C od)
    (hn : PySem.W.subIn K (.ref C) (.type "str") = some false) (hs : PySem.W.findIn K (.ref C) "__eq__" = some (some (.ref f))) (hf : PySem.W.isFn K (.ref f) = true)
    (h : wpAny (model prog w) A (call (.ref f) [.ref x, .str z t]) (fun v s' => v ≠ .notImplemented ∧ Q v s') E s) : wpAny (model prog w) A (richCompare .Eq (.str z t) (.ref x)) Q E s := by
  have ha := typeIs_str s z t
  simp only [richCompare, ha.oneThing_none]
  try with_reducible refine wpAny_holding ?_
  refine wpAny_bind (wpAny_cRoomFor hu ?_)
  refine wpAny_bind (wpAny_typeOf ha (wpAny_bind (wpAny_typeOf_ref ho ?_)))
  have hne : (Value.type "str" != (PySem.W.instObj C dx).cls) = true := rfl
  simp only [hne, if_true]
  refine wpAny_bind ((PySem.W.looks_subIn X hn).here ?_)
  simp only [Bool.false_eq_true, if_false, Bool.not_false, if_true]
  refine wpAny_bind (m := tryCompare (.str z t) _ (.ref x)) (wpAny_tryCompare_declines ha PySem.F.slot_str_eq (call_meets PySem.F.slot_str_eq ha PySem.F.entry_str_eq (PySem.F.args_str_eq_2 _ _) (str_declines_plain z t x (.ref C) (some dx) #[]) ⟨ho, rfl, ?_⟩))
  refine wpAny_bind (m := tryCompare (.ref x) _ (.str z t)) ?_
  unfold tryCompare
  refine wpAny_bind (PySem.W.ifBound_K X I hs hf (wpAny_mono h (fun v s' y => ?_) fun _ _ e => e))
  obtain ⟨y1, y2⟩ := y
  cases v <;> first | exact absurd rfl y1 | exact wpAny_pure (wpAny_pure y2)
end
section
variable {X : Cx} {CX : CXT} {n : Nat} {C f : Addr} {fd : FuncData} {ps : List Str} {sp : Sp} {E : XK}
/-- x in y, y a tuple of texts, x no text -/
def rInOdd (K : PySem.W.Frag) (C : Addr) (sp : Sp) (E : XK) : R2 := fun x y H Q => ∃ (p : Addr) (ns : List Str), y = .ref p ∧ SqT K H p (ns.map V.str) ∧ Q (.bl false) H ∧
  ((∃ d, DS K H x d ∧ d.plain = true ∧ d.depth ≤ 60 ∧ ∀ z, PyData.eqv (.str z) d = false) ∨ (∃ a kvs, x = .ref a ∧ H a = some (.dK kvs)) ∨
    ∃ a dx fs, x = .ref a ∧ H a = some (.ins C dx fs) ∧ ∀ z : Str, sp [x, .str z] H (fun v H' => v = .bl false ∧ H' = H) E)
theorem strs_vals : ∀ {ns : List Str} {its : List Value}, Vals (ns.map V.str) its → ∀ y ∈ its, ∃ z t, y = Value.str z t
  | [], _, h, y, hy => by
    cases h
    cases hy
  | n :: ns, _, h, y, hy => by
    cases h with
    | cons h1 h2 =>
      rcases List.mem_cons.mp hy with rfl | hy
      · obtain ⟨t, e⟩ := h1
        exact ⟨n, t, e⟩
      · exact strs_vals h2 y hy
theorem op_inOdd (F : FnOk X.prog X.w X.K X.mg X.base CX n f fd ps sp) (o : OW.OwnEq X C f) (hsub : PySem.W.subIn X.K (.ref C) (.type "str") = some false) (hr : Room (n + 2) X.A) (hun : X.A.units + 64 < cLine) (hb : Binds X.K fd ps []) (hx : Passes CX X E) :
    OpR X (compareOp .In) (rInOdd X.K C sp E) := by
  intro pins s σ H x y v u Q I rx ry h
  obtain ⟨p, ns, rfl, hq, q, hk⟩ := h
  cases ry
  obtain ⟨its, rv, ⟨⟨cls, dd, data, sl⟩, ho, hc, m, hd⟩, _⟩ := I.tuple hq
  simp only at hc hd
  subst hc hd
  have hT : s.TypeIs (.ref p) "tuple" := ⟨_, ho, rfl⟩
  have key : wpAny (model X.prog X.w) X.A (call (.builtin "tuple.__contains__") [.ref p, v]) (fun r s' => r = Value.bool false ∧ Inv X pins σ H s') X.xe s := by
    refine call_meetsIn PySem.F.slot_tuple_contains hT PySem.F.entry_tuple_contains (PySem.F.args_tuple_contains_2 _ _) (tuple_containsJ p its.toArray m dd sl v (fun s' => Inv X pins σ H s')) ⟨ho, I, ?_, fun s' I' => ⟨rfl, I'⟩⟩
    intro y hy s' I'
    obtain ⟨z, t, rfl⟩ := strs_vals rv y (by simpa using hy)
    have hu1 : X.A.in1.units < cLine := by show X.A.units + 1 < cLine; omega
    rcases hk with ⟨d, h1, h2, h3, h4⟩ | ⟨a, kvs, rfl, ha⟩ | ⟨a, dx, fs, rfl, ha, hsp⟩
    · obtain ⟨as, rd⟩ := DS.reads I' _ _ _ h1 rx
      have g := SeqAt.eqAt_plain (.str z) d X.A.in1 s' (.str z t) v _ as (Reads.str z t) rd rfl h2 (by show X.A.units + 1 + _ < cLine; have := Nat.min_le_right (PyData.str z).depth d.depth; omega)
      rw [h4 z] at g
      exact g X.prog X.w _ _ ⟨rfl, I'⟩
    · cases rx
      obtain ⟨_, _, va, _, da⟩ := dk_of I'.hok ha
      exact eqb_of_rc (rc_str_dict hu1 da ⟨false, rfl, rfl, I'⟩)
    · cases rx
      obtain ⟨mA, O, _⟩ := ins_get I'.hok ha
      obtain ⟨od, J, _⟩ := O.look
      have ho' : s'.heap.get? a = some (PySem.W.instObj C dx) := by
        obtain ⟨_, _, _, e, _⟩ := (show ObjOk X.prog X.w H s'.heap a (.ins C dx fs) from I'.hok a _ ha)
        exact e
      refine eqb_of_rc (rc_str_inst hu1 I'.kIn ho' J hsub o.fs o.fn (wpAny_mono (OW.run_at F ⟨hr.in1.mono (by omega), rfl⟩ hb hx I' (vs := [.ref a, .str z]) (.cons rfl (.cons ⟨t, rfl⟩ .nil)) (hsp z)) (fun r s2 y => ?_) fun _ _ e => ?_))
      · obtain ⟨zv, H', I2, r2, rfl, rfl⟩ := y
        cases r2
        exact ⟨(fun e => nomatch e), false, rfl, rfl, I2⟩
      · exact e
  show wpAny _ X.A (do return Value.bool (← contains (.ref p) v)) _ _ s
  refine wpAny_bind (wpAny_contains_slot hT PySem.F.slot_tuple_contains (wpAny_mono key (fun r s' z => ?_) fun _ _ e => e))
  obtain ⟨rfl, I'⟩ := z
  exact wpAny_truthy_bool (wpAny_pure ⟨.bl false, H, I', rfl, q⟩)
end
end RL
namespace RL
open PySem PySem.Spec PyProof.Rows L2 OW
section
variable {X : Cx}
/-- an own == beside a dict -/
def rOwnEqD (K : PySem.W.Frag) (C : Addr) (sp : Sp) (E : XK) : R2 := fun x y H Q => ∃ a dx fs b kvs, x = .ref a ∧ H a = some (.ins C dx fs) ∧ y = .ref b ∧ H b = some (.dK kvs) ∧ PySem.W.notFirst K C (.type "dict") = true ∧ sp [x, y] H Q E
theorem dict_looks {pins : List (Addr × Obj)} {σ : L2.St} {H : Hp} {s : Shared} {b : Addr} {kvs : List (Key × V)} (I : Inv X pins σ H s) (hb : H b = some (.dK kvs)) : PySem.W.Looks (model X.prog X.w) s.heap (typeOf (.ref b)) (.type "dict") := by
  obtain ⟨_, _, va, _, da⟩ := dk_of I.hok hb
  obtain ⟨o, es, ep, ho, hx, _⟩ := da
  exact tyd_at ho hx.1
theorem op_ownEqD {CX : CXT} {n : Nat} {C f : Addr} {fd : FuncData} {ps : List Str} {sp : Sp} {E : XK} (F : FnOk X.prog X.w X.K X.mg X.base CX n f fd ps sp) (o : OwnEq X C f) (hr : Room n X.A) (hb : Binds X.K fd ps []) (hx : Passes CX X E) :
    OpR X (compareOp .Eq) (rOwnEqD X.K C sp E) := by
  intro pins s σ H x y v u Q I rx ry h
  obtain ⟨a, dx, fs, b, kvs, rfl, ha, rfl, hb', nf, q⟩ := h
  cases rx
  cases ry
  obtain ⟨mA, O, _⟩ := ins_get I.hok ha
  obtain ⟨od, J, _⟩ := O.look
  show wpAny _ _ (richCompare .Eq (.ref a) (.ref b)) _ _ _
  refine cmp_left hr.units0 I.kIn J (dict_looks I hb') nf ?_
  unfold tryCompare
  refine wpAny_bind (PySem.W.ifBound_K I.kIn J o.fs o.fn (wpAny_mono (run_at F ⟨hr, rfl⟩ hb hx I (vs := [.ref a, .ref b]) (.cons rfl (.cons rfl .nil)) q) (fun v s' z => ?_) fun _ _ e => e))
  obtain ⟨zv, H', I', r', q'⟩ := z
  refine not_ni r' fun ne => ?_
  cases v <;> first | exact absurd rfl ne | exact wpAny_pure ⟨_, rfl, zv, H', I', r', q'⟩
def rOwnNeD (K : PySem.W.Frag) (C : Addr) (sp : Sp) (E : XK) : R2 := fun x y H Q => ∃ a dx fs b kvs, x = .ref a ∧ H a = some (.ins C dx fs) ∧ y = .ref b ∧ H b = some (.dK kvs) ∧ PySem.W.notFirst K C (.type "dict") = true ∧ sp [x, y] H (fun v H' => ∃ b, v = .bl b ∧ Q (.bl (!b)) H') E
theorem op_ownNeD {CX : CXT} {n : Nat} {C f : Addr} {fd : FuncData} {ps : List Str} {sp : Sp} {E : XK} (F : FnOk X.prog X.w X.K X.mg X.base CX n f fd ps sp) (o : OwnEq X C f) (hm : PySem.W.mroIn X.K C (.type "object") = some true)
    (hn : PySem.W.findIn X.K (.ref C) "__ne__" = some (some (.builtin "object.__ne__"))) (hr : Room (n + 1) X.A) (hb : Binds X.K fd ps []) (hx : Passes CX X E) :
    OpR X (compareOp .NotEq) (rOwnNeD X.K C sp E) := by
  intro pins s σ H x y v u Q I rx ry h
  obtain ⟨a, dx, fs, b, kvs, rfl, ha, rfl, hb', nf, q⟩ := h
  cases rx
  cases ry
  obtain ⟨mA, O, _⟩ := ins_get I.hok ha
  obtain ⟨od, J, _⟩ := O.look
  show wpAny _ _ (richCompare .NotEq (.ref a) (.ref b)) _ _ _
  refine cmp_left hr.units0 I.kIn J (dict_looks I hb') nf ?_
  refine ne_left hr.in1.units0 I.kIn J hm hn o.fs o.fn (wpAny_mono (run_at F ⟨hr.in1, rfl⟩ hb hx I (vs := [.ref a, .ref b]) (.cons rfl (.cons rfl .nil)) q) (fun v s' z => ?_) fun _ _ e => e)
  obtain ⟨zv, H', I', r', b, rfl, q'⟩ := z
  cases r'
  exact ⟨b, rfl, .bl (!b), H', I', rfl, q'⟩
end
end RL
namespace K14
open PySem L2
open PyProof.Rows PySem.Spec
theorem put_vls {val : Str → Int} {i : Int} {ns : List Str} {n : Str} (h : n ∈ ns) : putK (Vls ns val) (.inr n) (.int i) = Vls ns (fun m => if m = n then i else val m) := by
  unfold putK
  have hany : ((Vls ns val).any fun kv => decide (kv.1 = Sum.inr n)) = true := List.any_eq_true.mpr ⟨(Sum.inr n, V.int (val n)), List.mem_map.mpr ⟨n, h, rfl⟩, decide_eq_true rfl⟩
  rw [if_pos hany]
  unfold Vls
  rw [List.map_map]
  refine List.map_congr_left fun k hk => ?_
  show (if (Sum.inr k : Key) = Sum.inr n then ((Sum.inr k : Key), V.int i) else (Sum.inr k, V.int (val k))) = (Sum.inr k, V.int (if k = n then i else val k))
  by_cases e : k = n
  · rw [if_pos (by rw [e]), if_pos e]
  · rw [if_neg (fun z => e (Sum.inr.inj z)), if_neg e]
theorem allE_vls {val v0 : Str → Int} : ∀ ns : List Str, RL.allE (ns.map fun n => (PyData.str n, PyData.int (val n))) (ns.map fun n => (PyData.str n, PyData.int (v0 n))) = ns.all fun n => decide (val n = v0 n)
  | [] => rfl
  | n :: ns => by
    rw [List.map_cons, List.map_cons, List.all_cons]
    show (PyData.eqv (.int (val n)) (.int (v0 n)) && RL.allE _ _) = _
    rw [allE_vls ns]
    congr 1
theorem dsk_vls {K : PySem.W.Frag} {H : Hp} {val : Str → Int} : ∀ ns : List Str, RL.DSk K H (Vls ns val) (ns.map fun n => (PyData.str n, PyData.int (val n)))
  | [] => .nil
  | n :: ns => .cons (k := Sum.inr n) (.int _) (dsk_vls ns)
theorem plain_vls {val : Str → Int} : ∀ ns : List Str, PyData.plainAll ((ns.map fun n => (PyData.str n, PyData.int (val n))).map (·.2)) = true ∧ PyData.depthAll ((ns.map fun n => (PyData.str n, PyData.int (val n))).map (·.2)) ≤ 60
  | [] => ⟨by simp [PyData.plainAll], by simp [PyData.depthAll]⟩
  | n :: ns => by
    obtain ⟨h1, h2⟩ := plain_vls (val := val) ns
    rw [List.map_cons, List.map_cons]
    refine ⟨?_, ?_⟩
    · simp only [PyData.plainAll, Bool.and_eq_true]
      exact ⟨by simp [PyData.plain], h1⟩
    · simp only [PyData.depthAll, PyData.depth]
      omega
/-- found == before, two dicts of names with numbers in one order -/
theorem eq_vls {K : PySem.W.Frag} {H : Hp} {a b : Addr} {ns : List Str} {val v0 : Str → Int} {Q : VK} (ha : StD H a ns val) (hb : StD H b ns v0) (k : Q (.bl (ns.all fun n => decide (val n = v0 n))) H) : RL.rEqDic K (.ref a) (.ref b) H Q := by
  refine ⟨a, b, _, _, _, _, rfl, rfl, ha, hb, dsk_vls ns, dsk_vls ns, by rw [vls_keys, vls_keys], fun p hp => ?_, (plain_vls ns).1, (plain_vls ns).1, (plain_vls ns).2, by rw [allE_vls]; exact k⟩
  unfold Vls at hp
  obtain ⟨n, hn, rfl⟩ := List.mem_map.mp hp
  exact vls_at hn
section
variable {P : Program} {w : World} {K : PySem.W.Frag}
                                                      {mg : Str → Option Value} {base : Heap}
def sp_w_fitting (K : PySem.W.Frag) : Sp := fun vs H Q _ => ∃ (al d : Addr) (iv : Int) (ns : List Str) (as : List Od) (val : Str → Int), vs = [.ref al, .int iv, .ref d] ∧ 1 ≤ iv ∧ iv ≤ 32 ∧ BoL K H al as ∧ (∀ o ∈ as, OdOk ns o) ∧ as.length ≤ 32 ∧ ns.Nodup ∧ ns.length ≤ 8 ∧ StD H d ns val ∧ (∀ n ∈ ns, 0 ≤ val n ∧ val n ≤ 12) ∧
  (∀ H', Same H H' → Q .non H') ∧ ∀ p (val' : Str → Int) H', Same H H' → StD H' p ns val' → (∀ o ∈ as, 0 ≤ spare iv val' o) → (∀ n ∈ ns, 0 ≤ val' n ∧ val' n ≤ 2000) → Q (.ref p) H'
theorem ok_w_fitting (T : T K mg) : FnOk P w K mg base CX0 1 T.f_w_fitting T.d_w_fitting ["arcs", "interval", "floors"] (sp_w_fitting K) := by
  refine T.F_w_fitting.ok sc_w_fitting (fun vs H Q E h => ?_) (fun cdv A outer s H vs Q E hr h => ?_)
  · obtain ⟨al, d, iv, ns, as, val, rfl, _⟩ := h
    rfl
  · obtain ⟨al, d, iv, ns, as, val, rfl, i1, i2, hal, aok, l32, nd, n8, st, vb, k1, k2⟩ := h
    have hu := hu_of hr
    refine ⟨_, (pss_cons (ps_set (i := 3) sc_w_fitting.nd rfl (Or.inl rfl) (pe_callTy call_dictD (by rfl) T.z_dict (by decide +kernel) (pa_cons (pv 2) pa_nil)))
      (pss_cons (ps_for PassesOwn.never rfl (pi_range1 (by rfl) T.z_range (pa_cons (pe_op op_add (pe_callB call_lenD (by rfl) T.z_len (by decide +kernel) (pa_cons (pv 2) pa_nil)) pe_int) pa_nil)) (pg_name (i := 4) sc_w_fitting.nd rfl (Or.inl rfl))
      (pss_cons (ps_set (i := 5) sc_w_fitting.nd rfl (Or.inl rfl) (pe_callTy call_dictD (by rfl) T.z_dict (by decide +kernel) (pa_cons (pv 3) pa_nil)))
      (pss_cons (ps_for PassesOwn.never rfl (pi_list (pv 0)) (pg_tup rfl (pgs_cons (pg_name (i := 6) sc_w_fitting.nd rfl (Or.inl rfl)) (pgs_cons (pg_name (i := 7) sc_w_fitting.nd rfl (Or.inl rfl)) (pgs_cons (pg_name (i := 8) sc_w_fitting.nd rfl (Or.inl rfl)) (pgs_cons (pg_name (i := 9) sc_w_fitting.nd rfl (Or.inl rfl)) pgs_nil)))))
      (pss_one (ps_dput (by exact hu) (pv 3) (pv 7) (pe_callB (call_max2 rfl) (by rfl) T.z_max (by decide +kernel) (pa_cons (pe_dget (by exact hu) (pv 3) (pv 7) (fun _ _ => rfl)) (pa_cons (pe_op op_sub (pe_op op_add (pe_dget (by exact hu) (pv 3) (pv 6) (fun _ _ => rfl)) (pv 8)) (pe_op op_mul (pv 1) (pv 9))) pa_nil))) rfl)))
      (pss_one (ps_if (pt_cmpR (RL.op_eqDic (un64 hr)) (pv 3) (pv 5) (nomark _))
      (pss_one (ps_ret (pv 3)))
      pss_nil)))))
      (pss_one (ps_ret pe_non)))), ?_⟩
    obtain ⟨zs, z1, z2, z3⟩ := hal
    obtain ⟨ms, rfl, m3⟩ := split_mm z3
    have z1' : H al = some (.lst (ms.map fun m => V.ref m.1)) := by
      rw [z1]
      unfold mrefs
      rw [List.map_map]
      rfl
    have lm : ms.length ≤ 32 := by rw [← m3, List.length_map] at l32; exact l32
    refine ⟨_, rfl, d, _, rfl, .inl st, fun f hf => ?_⟩
    have S1 : Same H (upd H f (.dK (Vls ns val))) := Same.new hf
    have sf : StD (upd H f (.dK (Vls ns val))) f ns val := upd_same
    generalize upd H f (.dK (Vls ns val)) = H1 at S1 sf ⊢
    refine ⟨_, rfl, d, _, rfl, S1 _ _ st, _, _, rfl, rfl, ((((ns.length + 1 : Nat)) : Int)), by rw [vls_len]; push_cast; rfl, by omega, by omega, ?_⟩
    refine for_range (n := ns.length + 1) (fun i σ G => ∃ v4 v5 v6 v7 v8 v9 val, σ = [some (.ref al), some (.int iv), some (.ref d), some (.ref f), v4, v5, v6, v7, v8, v9] ∧ Same H G ∧ StD G f ns val ∧ ∀ n ∈ ns, 0 ≤ val n ∧ val n ≤ 12 + 128 * (i : Int))
      ⟨none, none, none, none, none, none, val, rfl, S1, sf, fun n hn => by have := vb n hn; omega⟩ ?_ ?_
    · rintro i σ G hi ⟨v4, v5, v6, v7, v8, v9, val, rfl, S, sg, bd⟩
      refine ⟨_, rfl, f, _, rfl, .inl sg, fun b hb => ?_⟩
      have Sb : Same G (upd G b (.dK (Vls ns val))) := Same.new hb
      have sb : StD (upd G b (.dK (Vls ns val))) b ns val := upd_same
      have sg1 : StD (upd G b (.dK (Vls ns val))) f ns val := Sb _ _ sg
      have nbf : b ≠ f := fun z => by rw [z, sg] at hb; cases hb
      have S2 := Same.trans S Sb
      generalize upd G b (.dK (Vls ns val)) = G1 at sb sg1 S2 ⊢
      refine ⟨_, rfl, al, rfl, ⟨_, SqL.of (S2 _ _ z1')⟩, ?_⟩
      refine for_list (K := K) (a := al) (xs := ms.map fun m => V.ref m.1) (fun j σ G => ∃ v6 v7 v8 v9 v1, σ = [some (.ref al), some (.int iv), some (.ref d), some (.ref f), some (.int (0 + (i : Nat))), some (.ref b), v6, v7, v8, v9] ∧ Same H G ∧ StD G b ns val ∧ StD G f ns v1 ∧ (∀ n ∈ ns, val n ≤ v1 n ∧ v1 n ≤ 12 + 128 * (i : Int) + 4 * (j : Int)) ∧ ((∀ n ∈ ns, v1 n = val n) → ∀ m ∈ ms.take j, 0 ≤ spare iv val m.2))
        ⟨_, _, _, _, val, rfl, S2, sb, sg1, fun n hn => by have := bd n hn; omega, fun _ m hm => by cases hm⟩ (fun j σ G _ ⟨_, _, _, _, _, _, S, _⟩ => SqL.of (S _ _ z1')) ?_ ?_
      · rintro j x σ G2 hx ⟨v6, v7, v8, v9, v1, rfl, S3, sb2, sf2, mono, good⟩
        rw [List.getElem?_map] at hx
        cases em : ms[j]? with
        | none => rw [em] at hx; cases hx
        | some m =>
          rw [em] at hx
          cases hx
          have mm := List.mem_of_getElem? em
          have mo : m.2 ∈ as := by rw [← m3]; exact List.mem_map.mpr ⟨m, mm, rfl⟩
          have oo := aok _ mo
          have tk : ms.take (j + 1) = ms.take j ++ [m] := by rw [List.take_add_one, em]; rfl
          have hb2 : SqT K G2 m.1 [.str m.2.1, .str m.2.2.1, .int m.2.2.2.1, .int m.2.2.2.2] := Same.seqT S3 (z2 (m.1, oK m.2) (List.mem_map.mpr ⟨m, mm, rfl⟩))
          obtain ⟨⟨d0, d4⟩, ⟨e0, e3⟩⟩ := Od.small oo
          refine ⟨m.1, _, rfl, hb2, rfl, _, _, rfl, _, _, rfl, _, _, rfl, _, _, rfl, rfl, ?_⟩
          refine ⟨_, rfl, _, rfl, f, _, rfl, sf2.at_ oo.t, ?_⟩
          refine ⟨_, rfl, _, rfl, f, _, rfl, sf2.at_ oo.s, _, rfl, _, _, rfl, rfl, _, rfl, _, rfl, _, _, rfl, rfl, .inl ⟨by omega, by omega⟩, _, _, rfl, rfl, _, _, rfl, ?_⟩
          refine ⟨_, rfl, _, rfl, f, _, rfl, DPut.k (k := Sum.inr m.2.2.1) sf2 (by rw [vls_len, sizeLine_eq]; omega), ?_⟩
          rw [put_vls oo.t]
          have ht := mono _ oo.t
          have hs := mono _ oo.s
          have vt := bd _ oo.t
          have vs := bd _ oo.s
          have ivm : 0 ≤ iv * m.2.2.2.2 := Int.mul_nonneg (by omega) e0
          obtain ⟨X, hX, x1, x2, x3⟩ : ∃ X : Int, X = (if v1 m.2.1 + m.2.2.2.1 - iv * m.2.2.2.2 > v1 m.2.2.1 then v1 m.2.1 + m.2.2.2.1 - iv * m.2.2.2.2 else v1 m.2.2.1) ∧ v1 m.2.2.1 ≤ X ∧ v1 m.2.1 + m.2.2.2.1 - iv * m.2.2.2.2 ≤ X ∧ X ≤ 12 + 128 * (i : Int) + 4 * (j : Int) + 4 := by
            refine ⟨_, rfl, ?_, ?_, ?_⟩
            · split <;> omega
            · split <;> omega
            · split <;> omega
          rw [← hX]
          refine ⟨_, _, _, _, (fun k => if k = m.2.2.1 then X else v1 k), rfl, Same.at hf S3, (upd_ne nbf).trans sb2, upd_same, fun n hn => ?_, fun e mm2 hmm => ?_⟩
          · have := mono n hn
            show val n ≤ (if n = m.2.2.1 then X else v1 n) ∧ (if n = m.2.2.1 then X else v1 n) ≤ _
            by_cases c : n = m.2.2.1
            · rw [if_pos c]
              subst c
              push_cast
              omega
            · rw [if_neg c]
              push_cast
              omega
          · have et : X = val m.2.2.1 := by
              have := e _ oo.t
              dsimp only at this
              rwa [if_pos rfl] at this
            have ev : ∀ n ∈ ns, v1 n = val n := fun n hn => by
              by_cases c : n = m.2.2.1
              · subst c
                omega
              · have := e n hn
                dsimp only at this
                rwa [if_neg c] at this
            rw [tk] at hmm
            rcases List.mem_append.mp hmm with h | h
            · exact good ev mm2 h
            · rw [List.mem_singleton.mp h]
              have es := ev _ oo.s
              show 0 ≤ val m.2.2.1 - val m.2.1 - m.2.2.2.1 + iv * m.2.2.2.2
              omega
      · rintro σ G2 ⟨v6, v7, v8, v9, v1, rfl, S3, sb2, sf2, mono, good⟩
        rw [List.length_map, List.take_length] at good
        have lmm : (ms.map fun m => V.ref m.1).length ≤ 32 := by rw [List.length_map]; exact lm
        refine ⟨_, rfl, _, rfl, eq_vls sf2 sb2 ⟨_, rfl, ?_⟩⟩
        by_cases c : ∀ n ∈ ns, v1 n = val n
        · rw [show (ns.all fun n => decide (v1 n = val n)) = true from List.all_eq_true.mpr fun n hn => decide_eq_true (c n hn)]
          refine iteT ⟨_, rfl, k2 f v1 G2 S3 sf2 (fun o ho => ?_) fun n hn => ?_⟩
          · have oo := aok o ho
            rw [← m3] at ho
            obtain ⟨m, hm, rfl⟩ := List.mem_map.mp ho
            have := good c m hm
            unfold spare at this ⊢
            rw [c _ oo.s, c _ oo.t]
            exact this
          · have h1 := mono n hn
            have h2 := bd n hn
            omega
        · rw [show (ns.all fun n => decide (v1 n = val n)) = false from by
            cases e : ns.all fun n => decide (v1 n = val n) with
            | false => rfl
            | true => exact absurd (fun n hn => of_decide_eq_true (List.all_eq_true.mp e n hn)) c]
          refine iteF ⟨_, _, _, _, _, _, v1, rfl, S3, sf2, fun n hn => ?_⟩
          have h1 := mono n hn
          have h2 := bd n hn
          push_cast
          omega
    · rintro σ G ⟨v4, v5, v6, v7, v8, v9, val, rfl, S, sg, bd⟩
      exact k1 G S
end
end K14
namespace K14
open PySem L2
open PyProof.Rows PySem.Spec
theorem lay_ints {is : List Int} : PyData.canLayAll0 (is.map PyData.int) = true ∧ PyData.depthAll (is.map PyData.int) ≤ 0 := by
  induction is with
  | nil => exact ⟨by simp [PyData.canLayAll0], by simp [PyData.depthAll]⟩
  | cons i is ih =>
    refine ⟨?_, ?_⟩
    · simp [PyData.canLayAll0, PyData.canLay0, ih.1]
    · have := ih.2
      simp [PyData.depthAll, PyData.depth]
      omega
theorem shaped_ints {is : List Int} : SeqAt.shaped (.tuple (is.map PyData.int)) = true := by
  obtain ⟨k1, k2⟩ := lay_ints (is := is)
  unfold SeqAt.shaped
  rw [Bool.and_eq_true]
  refine ⟨by simpa [PyData.canLay0] using k1, decide_eq_true ?_⟩
  rw [PyData.depth]
  omega
theorem dpa_ints {K : PySem.W.Frag} {H : Hp} : ∀ is : List Int, DpAll K H (is.map V.int) (is.map PyData.int)
  | [] => .nil
  | i :: is => .cons (.int i) (dpa_ints is)
theorem eqD_same {K : PySem.W.Frag} {x y : V} {H : Hp} {Q : VK} {d : PyData} (hx : Dp K H x d) (hy : Dp K H y d) (s : SeqAt.shaped d = true) (k : Q (.bl true) H) : rEqD K x y H Q := by
  have c : d.canLay0 = true := by
    unfold SeqAt.shaped at s
    exact (Bool.and_eq_true_iff.mp s).1
  exact ⟨d, d, hx, hy, s, s, by rw [SeqAt.eqv_refl d c]; exact k⟩
theorem cut_ints (is : List Int) (lo hi : Option Int) : ∃ cs : List Int, cutV (is.map V.int) lo hi = cs.map V.int := by
  unfold cutV
  exact ⟨_, by rw [← List.map_drop, ← List.map_take]⟩
section
variable {P : Program} {w : World} {K : PySem.W.Frag}
                                                      {mg : Str → Option Value} {base : Heap}
def sp_w_cells (K : PySem.W.Frag) : Sp := fun vs H Q _ => ∃ (s : Addr) (is : List Int) (most : Int), vs = [.ref s, .int most] ∧ SqL K H s (is.map V.int) ∧ ∀ l (cs : List Int) H', Same H H' → H' l = some (.lst (cs.map V.int)) → Q (.ref l) H'
theorem ok_w_cells (T : T K mg) : FnOk P w K mg base CX0 1 T.f_w_cells T.d_w_cells ["script", "most"] (sp_w_cells K) := by
  refine T.F_w_cells.ok sc_w_cells (fun vs H Q E h => ?_) (fun cdv A outer s H vs Q E hr h => ?_)
  · obtain ⟨sa, is, most, rfl, _⟩ := h
    rfl
  · obtain ⟨sa, is, most, rfl, hs, k⟩ := h
    have hu := hu_of hr
    refine ⟨_, (pss_one (ps_ret (pe_ifExp (pt_cmpR op_gt (pe_callB call_len (by rfl) T.z_len (by decide +kernel) (pa_cons (pv 0) pa_nil)) pe_int (nomark _)) (pe_callTy call_list_of (by rfl) T.z_list (by decide +kernel) (pa_cons (pe_slice sl_list (pv 0) po_none (po_some (pv 1))) pa_nil)) (pe_lst (pa_cons pe_int pa_nil))))), ?_⟩
    refine ⟨_, rfl, _, _, rfl, .inl ⟨_, hs, rfl⟩, _, _, rfl, rfl, _, rfl, ?_⟩
    refine ite2 (fun c => ?_) (fun c => ?_)
    · obtain ⟨cs, ec⟩ := cut_ints is none (some most)
      refine ⟨_, rfl, _, rfl, most, rfl, sa, _, rfl, hs, fun p hp => ?_⟩
      rw [ec]
      have S1 : Same H (upd H p (.lst (cs.map V.int))) := Same.new hp
      exact ⟨p, _, rfl, .inl (SqL.of upd_same), fun l hl => k l cs _ (Same.trans S1 (Same.new hl)) upd_same⟩
    · exact ⟨by show 1 ≤ sizeLine; decide, fun p hp => k p [7] _ (Same.new hp) upd_same⟩
def sp_w_is_count (K : PySem.W.Frag) : Sp := fun vs H Q _ => ∃ (i : Int), vs = [.int i] ∧ Q (.bl true) H
theorem ok_w_is_count (T : T K mg) : FnOk P w K mg base CX0 1 T.f_w_is_count T.d_w_is_count ["value"] (sp_w_is_count K) := by
  refine T.F_w_is_count.ok sc_w_is_count (fun vs H Q E h => ?_) (fun cdv A outer s H vs Q E hr h => ?_)
  · obtain ⟨i, rfl, _⟩ := h
    rfl
  · obtain ⟨i, rfl, k⟩ := h
    have hu := hu_of hr
    refine ⟨_, (pss_one (ps_ret (pe_and (pe_callB call_isi (by rfl) T.z_isinstance (by decide +kernel) (pa_cons (pv 0) (pa_cons (pe_bltn (v := V.ty "int") (u := Value.type "int") (by rfl) T.z_int (by decide +kernel) rfl) pa_nil))) (pe_one (pe_not (pe_callB call_isi (by rfl) T.z_isinstance (by decide +kernel) (pa_cons (pv 0) (pa_cons (pe_bltn (v := V.ty "bool") (u := Value.type "bool") (by rfl) T.z_bool (by decide +kernel) rfl) pa_nil)))))))), ?_⟩
    refine ⟨_, rfl, _, _, _, _, true, rfl, .ty _, .base (.int _), kit_ty (by decide +kernel), _, rfl, iteT ?_⟩
    exact ⟨_, rfl, _, _, _, _, false, rfl, .ty _, .base (.int _), kit_ty (by decide +kernel), _, rfl, k⟩
def sp_w_is_truth (K : PySem.W.Frag) : Sp := fun vs H Q _ => ∃ (b : Bool), vs = [.bl b, .bl b] ∧ Q (.bl true) H
theorem ok_w_is_truth (T : T K mg) : FnOk P w K mg base CX0 1 T.f_w_is_truth T.d_w_is_truth ["value", "due"] (sp_w_is_truth K) := by
  refine T.F_w_is_truth.ok sc_w_is_truth (fun vs H Q E h => ?_) (fun cdv A outer s H vs Q E hr h => ?_)
  · obtain ⟨b, rfl, _⟩ := h
    rfl
  · obtain ⟨b, rfl, k⟩ := h
    have hu := hu_of hr
    refine ⟨_, (pss_one (ps_ret (pe_and (pe_callB call_isi (by rfl) T.z_isinstance (by decide +kernel) (pa_cons (pv 0) (pa_cons (pe_bltn (v := V.ty "bool") (u := Value.type "bool") (by rfl) T.z_bool (by decide +kernel) rfl) pa_nil))) (pe_one (pe_cmpR op_eq (pv 0) (pv 1) (nomark _)))))), ?_⟩
    refine ⟨_, rfl, _, _, _, _, true, rfl, .ty _, .base (.bl _), kit_ty (by decide +kernel), _, rfl, iteT ?_⟩
    refine ⟨_, rfl, _, rfl, rfl, ?_⟩
    rw [decide_eq_true (rfl : V.bl b = V.bl b)]
    exact k
def sp_w_are_counts (K : PySem.W.Frag) : Sp := fun vs H Q _ => ∃ (t l : Addr) (is : List Int), vs = [.ref t, .ref l] ∧ SqT K H t (is.map V.int) ∧ H l = some (.lst (is.map V.int)) ∧ is.length ≤ 32 ∧ ∀ H', Same H H' → Q (.bl true) H'
theorem ok_w_are_counts (T : T K mg) : FnOk P w K mg base CX0 2 T.f_w_are_counts T.d_w_are_counts ["value", "due"] (sp_w_are_counts K) := by
  have G_w_is_count : FnOk P w K mg base CX0 1 T.f_w_is_count T.d_w_is_count ["value"] (sp_w_is_count K) := ok_w_is_count T
  refine T.F_w_are_counts.ok sc_w_are_counts (fun vs H Q E h => ?_) (fun cdv A outer s H vs Q E hr h => ?_)
  · obtain ⟨t, l, is, rfl, _⟩ := h
    rfl
  · obtain ⟨t, l, is, rfl, ht, hl, l32, k⟩ := h
    have hu := hu_of hr
    have hr_w_is_count : Room 1 _ := hr.mono (by decide)
    refine ⟨_, (pss_one (ps_ret (pe_and (pe_callB call_isi (by rfl) T.z_isinstance (by decide +kernel) (pa_cons (pv 0) (pa_cons (pe_bltn (v := V.ty "tuple") (u := Value.type "tuple") (by rfl) T.z_tuple (by decide +kernel) rfl) pa_nil))) (pe_and (pe_callB (cr_all rfl) (by rfl) T.z_all (by decide +kernel) (pa_cons (pe_lc (own := [("one", 2)]) (g := gName 2) rfl sc_w_are_counts.nd (pi_tup (pv 0)) (blkOk_by (N := ["value", "due", "one"]) (sc := defScope s_w_are_counts) (by decide +kernel)) (fun _ _ _ _ _ => (pg_name (i := 2) sc_w_are_counts.nd rfl (Or.inl rfl))) (fun _ _ _ _ _ => pts_nil) (fun _ _ _ _ _ => (pe_call G_w_is_count hr_w_is_count rfl T.m_w_is_count T.F_w_is_count.kp T.b_w_is_count .nil pass0 (pa_cons (pv 2) pa_nil)))) pa_nil)) (pe_one (pe_cmpR (op_eqD (un64 hr)) (pv 0) (pe_callTy call_tuple_of (by rfl) T.z_tuple (by decide +kernel) (pa_cons (pv 1) pa_nil)) (nomark _))))))), ?_⟩
    refine ⟨_, rfl, _, _, _, _, true, rfl, .ty _, ty_seqT ht, kit_ty (by decide +kernel), _, rfl, iteT ?_⟩
    refine ⟨_, rfl, t, rfl, ⟨_, ht⟩, fun D hD => ?_⟩
    refine lc_pick (e := V.int) (l := is) (walk_tup (K := K) (a := t)) (fun _ => some (V.bl true)) (fun G' S => Same.seqT S ht) (by omega) hD ?_ ?_
    · intro i G' hm Sx C Nn post
      refine ⟨rfl, ?_⟩
      refine yesT (iteT ?_)
      exact ⟨_, rfl, i, rfl, post G' (Same.refl _)⟩
    intro G2 S2 eD
    rw [trues] at eD
    refine ⟨D, _, rfl, SqL.of eD, ?_⟩
    rw [all_true]
    refine ⟨_, rfl, iteT ?_⟩
    refine ⟨_, rfl, _, rfl, l, _, rfl, .inl ⟨SqL.of (S2 _ _ hl), fun q hq => ?_⟩⟩
    have S3 : Same G2 (upd G2 q (.tup (is.map V.int))) := Same.new hq
    exact eqD_same (d := .tuple (is.map PyData.int)) (.tup (Same.seqT (Same.trans S2 S3) ht) (dpa_ints _)) (.tup (SqT.of upd_same) (dpa_ints _)) shaped_ints (k _ (Same.trans S2 S3))
def sp_w_turned (K : PySem.W.Frag) : Sp := fun vs H Q _ => ∃ (d : Addr) (ns : List Str) (val : Str → Int), vs = [.ref d] ∧ StD H d ns val ∧ ns.Nodup ∧ ns.length ≤ 8 ∧ ∀ p H', Same H H' → StD H' p ns.reverse val → Q (.ref p) H'
theorem ok_w_turned (T : T K mg) : FnOk P w K mg base CX0 1 T.f_w_turned T.d_w_turned ["table"] (sp_w_turned K) := by
  refine T.F_w_turned.ok sc_w_turned (fun vs H Q E h => ?_) (fun cdv A outer s H vs Q E hr h => ?_)
  · obtain ⟨d, ns, val, rfl, _⟩ := h
    rfl
  · obtain ⟨d, ns, val, rfl, st, nd, n8, k⟩ := h
    have hu := hu_of hr
    refine ⟨_, (pss_one (ps_ret (pe_callTy (call_dictP rfl) (by rfl) T.z_dict (by decide +kernel) (pa_cons (pe_lc (own := [("key", 1)]) (g := gName 1) rfl sc_w_turned.nd (pi_list (pe_revL (pe_callTy (call_listD rfl) (by rfl) T.z_list (by decide +kernel) (pa_cons (pv 0) pa_nil)))) (blkOk_by (N := ["table", "key"]) (sc := defScope s_w_turned) (by decide +kernel)) (fun _ _ _ _ _ => (pg_name (i := 1) sc_w_turned.nd rfl (Or.inl rfl))) (fun _ _ _ _ _ => pts_nil) (fun _ _ _ _ _ => (pe_tup (pa_cons (pv 1) (pa_cons (pe_dget (by exact hu) (pv 0) (pv 1) (fun _ _ => rfl)) pa_nil))))) pa_nil)))), ?_⟩
    refine ⟨_, rfl, d, _, rfl, .inl st, fun p hp => ?_⟩
    have ek : ((Vls ns val).map fun kv => kV kv.1) = ns.map V.str := by
      unfold Vls
      rw [List.map_map]
      rfl
    rw [ek]
    have S1 : Same H (upd H p (.lst (ns.map V.str))) := Same.new hp
    refine ⟨p, _, rfl, SqL.of upd_same, fun q hq => ?_⟩
    have S2 := Same.trans S1 (Same.new (o := .lst (ns.map V.str).reverse) hq)
    have eq : (upd (upd H p (.lst (ns.map V.str))) q (.lst (ns.map V.str).reverse)) q = some (.lst (ns.reverse.map V.str)) := by rw [upd_same, List.map_reverse]
    generalize upd (upd H p (.lst (ns.map V.str))) q (.lst (ns.map V.str).reverse) = H2 at S2 eq ⊢
    have lr : ns.reverse.length ≤ 8 := by rw [List.length_reverse]; exact n8
    refine ⟨q, rfl, ⟨_, SqL.of eq⟩, fun D hD => ?_⟩
    refine lc_rows (e := V.str) (l := ns.reverse) (walk_list (K := K) (a := q)) (fun n => [Sum.inr n, Sum.inl (val n)]) (fun G' S => SqL.of (S _ _ eq)) (by omega) hD ?_ ?_
    · intro n G' hn Sx C Nn post
      have hn : n ∈ ns := List.mem_reverse.mp hn
      have sg : StD G' d ns val := Sx _ _ (S2 _ _ st)
      refine ⟨rfl, ?_⟩
      refine yesT (iteT ?_)
      refine ⟨_, rfl, _, rfl, _, rfl, d, _, rfl, sg.at_ hn, ?_⟩
      exact ⟨by show 2 ≤ sizeLine; decide, fun t ht => post t _ (Same.new ht) upd_same⟩
    intro H3 ts S3 eD3 hts ets
    have tp := pairs_of (K := K) (a := fun n : Str => n) (b := val) hts ets
    refine ⟨D, ts.map (fun m : Mm => m.1), Vls ns.reverse val, rfl, SqL.of (by rw [eD3, mrefs_ref]), tp, fun z hz => ?_⟩
    have mk : mergeK [] (Vls ns.reverse val) = Vls ns.reverse val := mergeK_nd _ [] (by
      rw [List.nil_append, vls_keys]
      exact List.pairwise_map.mpr (List.Pairwise.imp (fun {a b} h e => h (Sum.inr.inj e)) ((List.reverse_perm ns).nodup_iff.mpr nd)))
    rw [mk]
    exact k z _ (Same.trans S2 (Same.trans S3 (Same.new hz))) upd_same
end
end K14
namespace K14
open PySem L2
open PyProof.Rows PySem.Spec
/-! ### try with several clauses, of which the exceptions that come meet one of the first -/
inductive Pre (X : Cx) : List ExceptHandler → List (Value × (Addr → Value → Option Addr → TS)) → Prop
  | rest (gs : List ExceptHandler) : Pre X gs []
  | more {nm : Str} {cv : Value} {wt : Addr → Value → Option Addr → TS} {st0 : Stmt} {sts : List Stmt} {pp qq : Pos} {gs : List ExceptHandler} {ls : List (Value × (Addr → Value → Option Addr → TS))}
      (known : Names X nm cv)
      (suite : ∀ (ad : Addr) (ob : Obj) (kl : Value) (dd : Option Addr) (pins0 : List (Addr × Obj)), Zc kl dd ob → (∃ fv, ob.data = .fields fv) → PSs (X.suite ad ((ad, ob) :: pins0)) (st0 :: sts) (wt ad kl dd))
      (tail : Pre X gs ls) : Pre X (.ExceptHandler (some (.Name nm pp)) none (st0 :: sts) qq :: gs) ((cv, wt) :: ls)
def wNo : WX := fun _ _ _ _ => False
section
variable {X : Cx} {todo : List Stmt} {g : ExceptHandler} {gs : List ExceptHandler} {ls : List (Value × (Addr → Value → Option Addr → TS))} {at_ : Pos} {rd : WX → TS}
theorem try_pre (st : X.stack = X.env :: X.outer) (fr : X.env.frame = some X.env.locals)
    (inner : ∀ (Wx : WX) (pins1 : List (Addr × Obj)) (ex1 : Value → Shared → Prop), Takes (X.tr pins1 ex1) Wx → PassesOwn (model X.prog X.w) X.A X.env ex1 → PSs (X.tr pins1 ex1) todo (rd Wx))
    (cl : Pre X (g :: gs) ls) : PS X (.Try todo (g :: gs) [] [] at_) (fun De st0 He => rd (wMany X.K wNo De ls) De st0 He) := by
  constructor
  intro pn0 s0 st0 He De inv rdg
  have okx := inv.ok
  have frames : X.A.frames = some (X.env :: X.outer) := by
    rw [okx.frames, st]
  apply wpAny_Try_except
  have run1 := (inner (wMany X.K wNo De ls) (X.pn ++ pn0)
    (fun ev s1 => wpAny (model X.prog X.w) X.A (noteFrame ev X.env)
      (fun _ s2 => wpAny (model X.prog X.w) X.A (setFlight ev none)
        (fun _ s3 => wpAny (model X.prog X.w) X.A (handleBy ev X.env (g :: gs)) (SP X pn0 De) X.xe s3) X.xe s2) X.xe s1)
    ?caught PassesOwn.looking).run [] s0 st0 He De (inv.toTry _) rdg
  case caught =>
    intro ev sE came
    obtain ⟨ad, gr, sJ, pinsJ, stJ, HJ, kl, dd, evq, invJ0, kept, slotsUp, flies, untracked, osq, bareq, wish⟩ := came
    subst evq
    have invJ : Inv X pn0 stJ HJ sJ := invJ0.ofTry okx
    have flies2 : Sky gr (X.env :: X.outer) ad (Zc kl dd) X.env.locals sE.heap := st ▸ flies
    refine Sky.land Zc.steady frames fr flies2 ?_
    intro hA flA upA
    have invA : Inv X pn0 stJ HJ { sE with heap := hA } := invJ.landed kept flA.1 (slotsUp.trans upA) osq bareq
    obtain ⟨obA, fvA, getA, zA, dataA⟩ := flA.there
    have offFrames : ad ∉ frs (X.env :: X.outer) := by
      intro inside
      obtain ⟨_, ob2, get2, no2⟩ := flA.2.2.1.mem inside
      have same := getA.symm.trans get2
      cases same
      exact no2 _ dataA
    have offLocals : ad ≠ X.env.locals := by
      intro q
      exact offFrames (List.mem_filterMap.mpr ⟨X.env, List.mem_cons_self, fr.trans (congrArg some q.symm)⟩)
    have offFs : ad ∉ X.fs := by
      intro inside
      obtain ⟨en, hen, q⟩ := List.mem_filterMap.mp inside
      exact offFrames (List.mem_filterMap.mpr ⟨en, List.mem_cons_of_mem _ hen, q⟩)
    have invS := invA.suite getA dataA untracked offLocals offFs
    have walk : ∀ {hs : List ExceptHandler} {l2 : List (Value × (Addr → Value → Option Addr → TS))}, Pre X hs l2 → wMany X.K wNo De l2 kl dd stJ HJ →
        wpAny (model X.prog X.w) X.A (handleBy (.ref ad) X.env hs) (SP X pn0 De) X.xe { sE with heap := hA } := by
      intro hs l2 pr
      induction pr with
      | rest _ => exact fun none_ => none_.elim
      | @more nm cv wt stm sts pp qq hs2 l3 known suite _ ih =>
        rintro ⟨yes, meets, go1, go2⟩
        refine wpAny_handleBy_cons
                                   (codeAny_handlers_test ?_) (by intro q; cases q)
        have typeIs : PySem.W.Looks (model X.prog X.w) hA (typeOf (.ref ad)) kl := fun A0 Q0 E0 sx kp q =>
          wpAny_typeOf_ref (kp _ _ getA) (by rw [zA.1]; exact q)
        have asked := PySem.W.exm_one (M := model X.prog X.w) invA.kIn typeIs meets
        have named : ∀ {Q0 : Value → Shared → Prop} {E0 : Value → Shared → Prop}, Q0 cv { sE with heap := hA } →
            wpAny (model X.prog X.w) (X.A.mark (some (.ref ad))) (eval (.Name nm pp) X.env) Q0 E0 { sE with heap := hA } := by
          intro Q0 E0 q
          obtain ⟨vis, dbg, glob | ⟨glob, boot, nn⟩⟩ := known
          · exact ld_glob (X := X.suite ad ((ad, obA) :: (X.pn ++ pn0))) invS vis glob q dbg
          · exact ld_blt (X := X.suite ad ((ad, obA) :: (X.pn ++ pn0))) invS vis glob boot q nn dbg
        refine named (asked.here ?_)
        cases yes with
        | false => exact ih (go2 rfl)
        | true =>
          refine codeAny_handlers_suite (HandSPX.lands_againZ flA ?_)
          intro hB flB upB
          have invB : Inv X pn0 stJ HJ { sE with heap := hB } := invJ.landed kept flB.1 ((slotsUp.trans upA).trans upB) osq bareq
          obtain ⟨obB, fvB, getB, zB, dataB⟩ := flB.there
          have invT := invB.suite getB dataB untracked offLocals offFs
          have run2 := (suite ad obB kl dd (X.pn ++ pn0) zB ⟨_, dataB⟩).run [] _ _ HJ _ invT (go1 rfl ad untracked)
          refine wpAny_mono run2 ?_ (fun _ _ q => q.elim)
          intro fl sF ended
          cases fl with
          | ret uv =>
            obtain ⟨vv, stF, HF, invF, rel, q⟩ := ended
            exact ⟨_, _, _, invF.unsuite okx, rel, q⟩
          | next =>
            obtain ⟨stF, HF, invF, q⟩ := ended
            exact ⟨_, _, invF.unsuite okx, q⟩
          | brk =>
            obtain ⟨stF, HF, invF, q⟩ := ended
            exact ⟨_, _, invF.unsuite okx, q⟩
          | cont =>
            obtain ⟨stF, HF, invF, q⟩ := ended
            exact ⟨_, _, invF.unsuite okx, q⟩
    exact walk cl wish
  refine wpAny_mono run1 ?_ (fun _ _ q => q)
  intro fl sF ended
  cases fl with
  | ret uv =>
    obtain ⟨vv, stF, HF, invF, rel, q⟩ := ended
    exact ⟨vv, stF, HF, invF.ofTry okx, rel, q⟩
  | next =>
    obtain ⟨stF, HF, invF, q⟩ := ended
    exact wpAny_execs_nil ⟨stF, HF, invF.ofTry okx, q⟩
  | brk =>
    obtain ⟨stF, HF, invF, q⟩ := ended
    exact ⟨stF, HF, invF.ofTry okx, q⟩
  | cont =>
    obtain ⟨stF, HF, invF, q⟩ := ended
    exact ⟨stF, HF, invF.ofTry okx, q⟩
end
/-- the classes that the law's word asks for, before the one that comes -/
structure WC (K : PySem.W.Frag) (mg : Str → Option Value) (A : Addr) where
  L : Addr
  mL : mg "InvalidLoop" = some (.ref L)
  M : Addr
  mM : mg "InvalidMachine" = some (.ref M)
  al : PySem.W.exmOne K (.ref A) (.ref L) = some false
  am : PySem.W.exmOne K (.ref A) (.ref M) = some false
  aa : PySem.W.exmOne K (.ref A) (.ref A) = some true
/-- the word for a call that is refused -/
def TTW (A : Addr) : (XK → Hp → VK → Prop) → Hp → VK → Prop := fun tl H Q =>
  tl (fun cls _ H' => cls = .ref A ∧ ∀ t, H' t = none → Q (.ref t) (upd H' t (.tup [.str "argument"]))) H (fun _ H' => [V.str "fine"].length ≤ sizeLine ∧ ∀ t, H' t = none → Q (.ref t) (upd H' t (.tup [V.str "fine"])))
open LamX in
theorem word_gives {X : Cx} {A g : Addr} {cdg : Value} {q : Str} (mA : X.mg "InvalidArgument" = some (.ref A)) (C : WC X.K X.mg A) :
    GivesTo X ["call", "error"] "_law_word" (defScope s_w_word) g cdg (defBody s_w_word) "call" q (TTW A) := by
  intro f c' s H Q tl act hc h
  refine ⟨_, pss_cons (try_pre (X := (cxOf C8.CX0 X.prog X.w X.K X.mg X.base ["call", "error"] "_law_word" (defScope s_w_word) g cdg X.A X.stack s H C8.E0).nox)
      (rd := fun W D σ H => ∃ Ech : XK, (∀ cls d σ' H', Ech cls d H' → W cls d σ' H') ∧ σ[0]? = some (some (.ref f)) ∧ H c' = some (CodeO c' q) ∧ tl Ech H (fun _ H1 => D.nx σ H1))
      rfl rfl (fun W pn xe tk _ => ?_)
      (.more (cv := .ref C.L) (wt := fun _ _ _ => tRet (tTup (tCons (tC (.str "loop")) tNil))) ⟨rfl, by decide, .inl C.mL⟩ (fun a oe cls d pn _ _ => pss_one (ps_ret (pe_tup (pa_cons pe_str pa_nil))))
      (.more (cv := .ref C.M) (wt := fun _ _ _ => tRet (tTup (tCons (tC (.str "machine")) tNil))) ⟨rfl, by decide, .inl C.mM⟩ (fun a oe cls d pn _ _ => pss_one (ps_ret (pe_tup (pa_cons pe_str pa_nil))))
      (.more (cv := .ref A) (wt := fun _ _ _ => tRet (tTup (tCons (tC (.str "argument")) tNil))) ⟨rfl, by decide, .inl mA⟩ (fun a oe cls d pn _ _ => pss_one (ps_ret (pe_tup (pa_cons pe_str pa_nil))))
      (.rest _))))) (pss_one (ps_ret (pe_tup (pa_cons pe_str pa_nil)))), ?_⟩
  · refine ⟨fun pins s' σ H' D I h' => ?_⟩
    obtain ⟨Ech, hW, h1, h2, h3⟩ := h'
    exact (pss_one (ps_expr (act W pn xe Ech _ _ tk hW))).run pins s' σ H' D I ⟨h1, h2, h3⟩
  · refine ⟨fun cls _ H' => cls = .ref A ∧ ∀ t, H' t = none → Q (.ref t) (upd H' t (.tup [.str "argument"])), fun cls d σ' H' hh => ?_, rfl, hc, h⟩
    obtain ⟨rfl, q1⟩ := hh
    exact ⟨false, C.al, (fun e => by cases e), fun _ => ⟨false, C.am, (fun e => by cases e), fun _ => ⟨true, C.aa, fun _ a _ => ⟨by show 1 ≤ sizeLine; decide, fun t ht => q1 t ht⟩, (fun e => by cases e)⟩⟩⟩
/-- a def whose code object is known -/
structure FunC (K : PySem.W.Frag) (x qual : Str) (st : Stmt) (f : Addr) (fd : FuncData) (c : Addr) : Prop where
  ex : ∃ (oc : Value) (od : Option Addr) (kV doc pm : Value) (an : Option Addr) (ct : Value) (osl : Array (Option Value)),
    fd = PySem.W.fnOf x qual (defArgs st) (defBody st) (defScope st) .none kV doc pm an (.ref c) ct ∧ K.lookup f = some ⟨oc, od, .func fd, osl⟩ ∧ PySem.W.codeIn K (.ref c) qual = true
section
variable {P : Program} {w : World} {K : PySem.W.Frag}
                                                      {mg : Str → Option Value} {base : Heap}
theorem FunC.ok {x qual : Str} {st : Stmt} {f : Addr} {fd : FuncData} {N ps : List Str} {k : Nat} {sp : Sp} {c : Addr} (F : FunC K x qual st f fd c) (S : FnScope N ps (defScope st)) (len : ∀ vs H Q E, sp vs H Q E → vs.length = ps.length)
    (hbody : ∀ (A : Around) (outer : List Env) (s : Shared) (H : Hp) (vs : List V) (Q : VK) (E : XK), Room k (A.deeper (PyProof.Rows.envOfC qual (defScope st) s.heap.objs.size f (.ref c))) → sp vs H Q E →
      ∃ t, PSs (cxOf CX0 P w K mg base N qual (defScope st) f (.ref c) A outer s H E).nox (defBody st) t ∧ t { nx := fun _ H' => Q .non H', rt := Q } (L2.start N vs) H) : FnOk P w K mg base CX0 (k + 1) f fd ps sp := by
  obtain ⟨oc, od, kV, doc, pm, an, ct, osl, rfl, lk, hcd⟩ := F.ex
  refine fn_of lk hcd S len fun A outer s H vs Q E hr hsp => ?_
  obtain ⟨t, h, q⟩ := hbody A outer s H vs Q E hr hsp
  exact ⟨t, h.nox, q⟩
end
open LamX in
theorem ext_kp {H H' : Hp} (e : ExtN H H') : Kp H H' := fun b o h _ n => e b o h n
open LamX in
theorem ext_same {H H' : Hp} (e : Same H H') : ExtN H H' := fun b o h _ => e b o h
open LamX in
theorem OpAt.ext {K : PySem.W.Frag} {H H' : Hp} {C p : Addr} {r : Rw} (s : ExtN H H') (h : OpAt K H C p r) : OpAt K H' C p r := by
  obtain ⟨ok, dx, x3, x4, h1, h2, h3⟩ := h
  exact ⟨ok, dx, x3, x4, s _ _ h1 (by intro _ z; cases z), dp_kp (ext_kp s) _ _ h2, dp_kp (ext_kp s) _ _ h3⟩
open LamX in
theorem RowsT.ext {K : PySem.W.Frag} {H H' : Hp} {a : Addr} {rows : List (List Key)} (s : ExtN H H') (h : RowsT K H a rows) : RowsT K H' a rows := by
  obtain ⟨ms, h1, h2, h3⟩ := h
  exact ⟨ms, Kp.seqT (ext_kp s) h1, fun m hm => Kp.seqT (ext_kp s) (h2 m hm), h3⟩
open LamX in
theorem LpAt.ext {K : PySem.W.Frag} {H H' : Hp} {C L q : Addr} {N : List OM} {os : List Od} (s : ExtN H H') (h : LpAt K H C L q N os) : LpAt K H' C L q N os := by
  obtain ⟨h1, h2, h3, h4, dx, d, nm, o, ar, op, rd, un, ak, as, rs, us, a1, a2, a3, a4, a5, a6, a7, a8, a9, b1, b2, b3, b4⟩ := h
  have kp := ext_kp s
  exact ⟨h1, h2, fun m hm => (h3 m hm).ext s, h4, dx, d, nm, o, ar, op, rd, un, ak, as, rs, us, s _ _ a1 (by intro _ z; cases z), s _ _ a2 (by intro _ z; cases z), Kp.seqT kp a3, a4.ext s, a5.ext s, a6, a7, Kp.seqT kp a8, a9.ext s, b1, Kp.seqT kp b2, b3, Kp.seqT kp b4⟩
open LamX in
theorem StAt.ext {H H' : Hp} {d : Addr} {ns : List Str} {val : Str → Int} (s : ExtN H H') (h : StAt H d ns val) : StAt H' d ns val := by
  obtain ⟨kvs, h1, h2, h3⟩ := h
  exact ⟨kvs, s _ _ h1 (by intro _ z; cases z), h2, h3⟩
/-- no starts: judged so wherever it is looked at -/
def Bad (K : PySem.W.Frag) (ns : List Str) (y : V) (H : Hp) : Prop := ∀ M, LamX.ExtN H M → TabV K ns 0 1000000 y M (fun b H' => b = false ∧ Same M H')
theorem Bad.ext {K : PySem.W.Frag} {ns : List Str} {y : V} {H H' : Hp} (s : LamX.ExtN H H') (h : Bad K ns y H) : Bad K ns y H' := fun M e => h M (LamX.ExtN.trans s e)
/-- the lambda's code in the def that asks for the word -/
abbrev qR : Str := ("_law_is_refused" ++ ".<locals>.") ++ "<lambda>"
abbrev T1 (P1 : Addr) : List (Addr × Str) := [(P1, qR)]
section
variable {P : Program} {w : World} {K : PySem.W.Frag}
                                                      {mg : Str → Option Value} {base : Heap}
def sp_w_is_refused (K : PySem.W.Frag) (C L P1 : Addr) : Sp := fun vs H Q _ => ∃ (q : Addr) (iv : Int) (N : List OM) (os : List Od) (y : V), vs = [.ref q, .int iv, y] ∧ 1 ≤ iv ∧ iv ≤ 32 ∧ LpAt K H C L q N os ∧ Bad K (nms N) y H ∧ LamX.Tabs (T1 P1) H ∧
  ∀ M, LamX.ExtN H M → LamX.Tabs (T1 P1) M → Q (.bl true) M
open LamX in
theorem ok_w_is_refused (T : T K mg) (L : UL K mg) (Z : UA K mg) (W : WC K mg Z.A) {C c1 P1 : Addr} (TB1 : TabB base mg c1 P1) (F : FunC K "_law_is_refused" "_law_is_refused" s_w_is_refused T.f_w_is_refused T.d_w_is_refused c1) : FnOk P w K mg base CX0 9 T.f_w_is_refused T.d_w_is_refused ["loop", "interval", "value"] (sp_w_is_refused K C L.C P1) := by
  have G_is_fitting : FnOk P w K mg base CX0 7 T.f_is_fitting T.d_is_fitting ["loop", "interval", "value"] (sp_is_fitting K C L.C) := ok_is_fitting T L
  have G_is_starts : FnOk P w K mg base CX0 4 T.f_is_starts T.d_is_starts ["loop", "value"] (sp_is_starts K C L.C) := ok_is_starts T L
  have G_leewayB : FnOk P w K mg base (L2.CX P w) 6 T.f_leeway T.d_leeway ["loop", "interval", "starts"] (sp_leewayB K C L.C Z.A) := ok_leewayB T L Z
  obtain ⟨oc, od, kV, doc, pm, an, cdw, ct, osl, ed, lk0, hcg⟩ := T.F_w_word.ex
  have lk : K.lookup T.f_w_word = some ⟨oc, od, .func (PySem.W.fnOf "_law_word" "_law_word" (defArgs s_w_word) (defBody s_w_word) (defScope s_w_word) .none kV doc pm an cdw ct), osl⟩ := by rw [← ed]; exact lk0
  have bw : L2.Binds K (PySem.W.fnOf "_law_word" "_law_word" (defArgs s_w_word) (defBody s_w_word) (defScope s_w_word) .none kV doc pm an cdw ct) ["call"] [] := by rw [← ed]; exact T.b_w_word
  have hm1 : (P1, qR) ∈ T1 P1 := List.mem_cons_self
  have hu1 : ∀ p ∈ T1 P1, p.1 = P1 → p.2 = qR := fun p hp e => by
    obtain rfl := List.mem_singleton.mp hp
    rfl
  refine F.ok sc_w_is_refused (fun vs H Q E h => ?_) (fun A outer s H vs Q E hr h => ?_)
  · obtain ⟨q, iv, N, os, y, rfl, _⟩ := h
    rfl
  · obtain ⟨q, iv, N, os, y, rfl, i1, i2, lp, bad, hT, k⟩ := h
    have hu := hu_of hr
    have hr_is_fitting : Room 7 _ := hr.mono (by decide)
    have hr_is_starts : Room 4 _ := hr.mono (by decide)
    have hr8 : Room (6 + 2) _ := hr
    refine ⟨_, (pss_cons (ps_if (PW.pt (pw_or (pt_cmpR op_isnot_bl (pe_call G_is_starts hr_is_starts rfl T.m_is_starts T.F_is_starts.kp T.b_is_starts .nil pass0 (pa_cons (pv 0) (pa_cons (pv 2) pa_nil))) pe_bl (nomark _)) (pw_or1 (pt_cmpR op_isnot_bl (pe_call G_is_fitting hr_is_fitting rfl T.m_is_fitting T.F_is_fitting.kp T.b_is_fitting .nil pass0 (pa_cons (pv 0) (pa_cons (pv 1) (pa_cons (pv 2) pa_nil)))) pe_bl (nomark _)))))
      (pss_one (ps_ret pe_bl))
      pss_nil)
      (pss_one (ps_ret (pe_cmpR (op_eqD hr.units) (pe_lamcall (T := T1 P1) (TT := TTW Z.A) (t := fun E => tCall (sp_leewayB K C L.C Z.A) [] E (tCons (tVar 0) (tCons (tVar 1) (tCons (tVar 2) tNil)))) rfl T.m_w_word T.F_w_word.kp lk hcg bw sc_w_word rfl (Or.inl rfl) (word_gives Z.a.mg W) TB1 rfl hm1 hu1 hr8 (lamS_by (by rfl)) rfl (fun _ _ _ _ _ => rfl) (fun A outer s H E f c2 hr2 => (pe_call G_leewayB (hr2.mono (by decide)) rfl T.m_leeway T.F_leeway.kp T.b_leeway .nil (passes_call (takes_of rfl rfl rfl rfl) (fun _ _ _ _ h => h)) (pa_cons (pv 0) (pa_cons (pv 1) (pa_cons (pv 2) pa_nil)))))) (pe_tup (pa_cons pe_str pa_nil)) (nomark _))))), ?_⟩
    refine ⟨_, rfl, _, rfl, q, N, os, y, rfl, lp, (bad H (ExtN.refl H)).imp fun b H1 ⟨e, S1⟩ => ?_⟩
    subst e
    refine ⟨_, _, rfl, rfl, _, rfl, iteF ?_⟩
    have X1 := ext_same S1
    refine ⟨_, rfl, _, rfl, _, rfl, q, iv, N, os, y, rfl, i1, i2, lp.same S1, .inr ((bad H1 X1).imp fun b H2 ⟨e, S2⟩ => ⟨e, ?_⟩)⟩
    subst e
    refine ⟨_, _, rfl, rfl, _, rfl, iteF ?_⟩
    have X2 := ExtN.trans X1 (ext_same S2)
    refine ⟨Tabs.ext hT (Same.trans S1 S2), fun M X3 TM => ?_⟩
    have X4 := ExtN.trans X2 X3
    refine ⟨_, rfl, _, rfl, _, rfl, q, iv, N, os, y, rfl, i1, i2, lp.ext X4, bad M X4, fun d H5 S5 _ => ⟨rfl, fun t ht => ?_⟩⟩
    refine ⟨by show 1 ≤ sizeLine; decide, fun t2 ht2 => ?_⟩
    have Sa := Same.new (o := .tup [.str "argument"]) ht
    have Sb := Same.new (o := .tup [.str "argument"]) ht2
    have X6 := ExtN.trans X4 (ext_same (Same.trans S5 (Same.trans Sa Sb)))
    refine eqD_same (d := .tuple [.str "argument"]) (.tup (SqT.of (Sb _ _ upd_same)) (.cons (.str _) .nil)) (.tup (SqT.of upd_same) (.cons (.str _) .nil)) (by decide +kernel) ?_
    exact k _ X6 (Tabs.ext TM (Same.trans S5 (Same.trans Sa Sb)))
end
end K14
namespace K14
open PySem L2
open PyProof.Rows PySem.Spec
/-- starts told in some order of a loop's names -/
structure Sts (H : Hp) (d : Addr) (N : List OM) (ns : List Str) (val : Str → Int) : Prop where
  d : StD H d ns val
  p : ns.Perm (nms N)
  v : ∀ n ∈ ns, 0 ≤ val n ∧ val n ≤ 1000000
theorem Sts.same {H H' : Hp} {d : Addr} {N : List OM} {ns : List Str} {val : Str → Int} (s : Same H H') (h : Sts H d N ns val) : Sts H' d N ns val := ⟨s _ _ h.d, h.p, h.v⟩
theorem Sts.at_ {H : Hp} {d : Addr} {N : List OM} {ns : List Str} {val : Str → Int} (h : Sts H d N ns val) : StAt H d (nms N) val :=
  ⟨_, h.d, by rw [vls_len, h.p.length_eq], fun n hn => ⟨vls_at (h.p.mem_iff.mpr hn), h.v n (h.p.mem_iff.mpr hn)⟩⟩
theorem LpAt.arcs {K : PySem.W.Frag} {H : Hp} {C L q : Addr} {N : List OM} {os as : List Od} (lp : LpAt K H C L q N os) (srt : KS.SrtK ((arcsOf N N ++ os).map oK) (as.map oK)) : as.length ≤ 32 ∧ (∀ x ∈ as, OdOk (nms N) x) := by
  obtain ⟨ok, so, hN, ne, dx, d', nm, o, ar, op, rd, un, ak, as2, rs, us, a1, a2, a3, a4, a5, a6, a7, _⟩ := lp
  obtain rfl := oKs_inj (KS.SrtK.eq (oK_one _) (fun _ => Iff.rfl) a6 srt)
  exact ⟨a7, as_ok ok (fun m hm => (hN m hm).1) a6⟩
theorem LpAt.nd {K : PySem.W.Frag} {H : Hp} {C L q : Addr} {N : List OM} {os : List Od} (lp : LpAt K H C L q N os) : (nms N).Nodup ∧ (nms N).length ≤ 8 := ⟨lp.1.nd, by unfold nms; rw [List.length_map]; exact lp.1.l8⟩
section
variable {P : Program} {w : World} {K : PySem.W.Frag}
                                                      {mg : Str → Option Value} {base : Heap}
def sp_w_is_met (K : PySem.W.Frag) (C L : Addr) : Sp := fun vs H Q _ => ∃ (q al d : Addr) (iv : Int) (N : List OM) (os as : List Od) (ns : List Str) (val : Str → Int), vs = [.ref q, .ref al, .int iv, .ref d] ∧ 1 ≤ iv ∧ iv ≤ 32 ∧ LpAt K H C L q N os ∧ KS.SrtK ((arcsOf N N ++ os).map oK) (as.map oK) ∧ BoL K H al as ∧ Sts H d N ns val ∧
  ∀ H', Same H H' → Q (.bl true) H'
theorem ok_w_is_met (T : T K mg) (L : UL K mg) {C : Addr} : FnOk P w K mg base CX0 8 T.f_w_is_met T.d_w_is_met ["loop", "arcs", "interval", "begins"] (sp_w_is_met K C L.C) := by
  have G_w_are_counts : FnOk P w K mg base CX0 2 T.f_w_are_counts T.d_w_are_counts ["value", "due"] (sp_w_are_counts K) := ok_w_are_counts T
  have G_w_is_truth : FnOk P w K mg base CX0 1 T.f_w_is_truth T.d_w_is_truth ["value", "due"] (sp_w_is_truth K) := ok_w_is_truth T
  have G_w_spares : FnOk P w K mg base CX0 1 T.f_w_spares T.d_w_spares ["arcs", "interval", "begins"] (sp_w_spares K) := ok_w_spares T
  have G_w_turned : FnOk P w K mg base CX0 1 T.f_w_turned T.d_w_turned ["table"] (sp_w_turned K) := ok_w_turned T
  have G_is_fitting : FnOk P w K mg base CX0 7 T.f_is_fitting T.d_is_fitting ["loop", "interval", "value"] (sp_is_fitting K C L.C) := ok_is_fitting T L
  have G_is_starts : FnOk P w K mg base CX0 4 T.f_is_starts T.d_is_starts ["loop", "value"] (sp_is_starts K C L.C) := ok_is_starts T L
  have G_leeway : FnOk P w K mg base CX0 6 T.f_leeway T.d_leeway ["loop", "interval", "starts"] (sp_leeway K C L.C) := ok_leeway T L
  refine T.F_w_is_met.ok sc_w_is_met (fun vs H Q E h => ?_) (fun cdv A outer s H vs Q E hr h => ?_)
  · obtain ⟨q, al, d, iv, N, os, as, ns, val, rfl, _⟩ := h
    rfl
  · obtain ⟨q, al, d, iv, N, os, as, ns, val, rfl, i1, i2, lp, srt, ba, st, k⟩ := h
    have hu := hu_of hr
    have hr_w_are_counts : Room 2 _ := hr.mono (by decide)
    have hr_w_is_truth : Room 1 _ := hr.mono (by decide)
    have hr_w_spares : Room 1 _ := hr.mono (by decide)
    have hr_w_turned : Room 1 _ := hr.mono (by decide)
    have hr_is_fitting : Room 7 _ := hr.mono (by decide)
    have hr_is_starts : Room 4 _ := hr.mono (by decide)
    have hr_leeway : Room 6 _ := hr.mono (by decide)
    refine ⟨_, (pss_cons (ps_set (i := 4) sc_w_is_met.nd rfl (Or.inl rfl) (pe_call G_w_spares hr_w_spares rfl T.m_w_spares T.F_w_spares.kp T.b_w_spares .nil pass0 (pa_cons (pv 1) (pa_cons (pv 2) (pa_cons (pv 3) pa_nil)))))
      (pss_cons (ps_set (i := 5) sc_w_is_met.nd rfl (Or.inl rfl) (pe_call G_w_turned hr_w_turned rfl T.m_w_turned T.F_w_turned.kp T.b_w_turned .nil pass0 (pa_cons (pv 3) pa_nil)))
      (pss_cons (ps_if (PW.pt (pw_or (pt_not (pt_val (pe_call G_w_are_counts hr_w_are_counts rfl T.m_w_are_counts T.F_w_are_counts.kp T.b_w_are_counts .nil pass0 (pa_cons (pe_call G_leeway hr_leeway rfl T.m_leeway T.F_leeway.kp T.b_leeway .nil pass0 (pa_cons (pv 0) (pa_cons (pv 2) (pa_cons (pv 5) pa_nil)))) (pa_cons (pv 4) pa_nil))))) (pw_or1 (pt_cmpR (op_ne_dictA (by exact Nat.lt_of_succ_lt hu)) (pv 5) (pv 3) (nomark _)))))
      (pss_one (ps_ret pe_bl))
      pss_nil)
      (pss_cons (ps_if (PW.pt (pw_or (pt_not (pt_val (pe_call G_w_are_counts hr_w_are_counts rfl T.m_w_are_counts T.F_w_are_counts.kp T.b_w_are_counts .nil pass0 (pa_cons (pe_call G_leeway hr_leeway rfl T.m_leeway T.F_leeway.kp T.b_leeway .nil pass0 (pa_cons (pv 0) (pa_cons (pv 2) (pa_cons (pe_callTy call_dictD (by rfl) T.z_dict (by decide +kernel) (pa_cons (pv 3) pa_nil)) pa_nil)))) (pa_cons (pv 4) pa_nil))))) (pw_or1 (pt_cmpR op_isnot_bl (pe_call G_is_starts hr_is_starts rfl T.m_is_starts T.F_is_starts.kp T.b_is_starts .nil pass0 (pa_cons (pv 0) (pa_cons (pv 5) pa_nil))) pe_bl (nomark _)))))
      (pss_one (ps_ret pe_bl))
      pss_nil)
      (pss_one (ps_ret (pe_call G_w_is_truth hr_w_is_truth rfl T.m_w_is_truth T.F_w_is_truth.kp T.b_w_is_truth .nil pass0 (pa_cons (pe_call G_is_fitting hr_is_fitting rfl T.m_is_fitting T.F_is_fitting.kp T.b_is_fitting .nil pass0 (pa_cons (pv 0) (pa_cons (pv 2) (pa_cons (pv 5) pa_nil)))) (pa_cons (pe_callB (cr_all rfl) (by rfl) T.z_all (by decide +kernel) (pa_cons (pe_lc (own := [("spare", 6)]) (g := gName 6) rfl sc_w_is_met.nd (pi_list (pv 4)) (blkOk_by (N := ["loop", "arcs", "interval", "begins", "due", "handed", "spare"]) (sc := defScope s_w_is_met) (by decide +kernel)) (fun _ _ _ _ _ => (pg_name (i := 6) sc_w_is_met.nd rfl (Or.inl rfl))) (fun _ _ _ _ _ => pts_nil) (fun _ _ _ _ _ => (pe_cmpR op_ge (pv 6) pe_int (nomark _)))) pa_nil)) pa_nil))))))))), ?_⟩
    obtain ⟨a32, aok⟩ := lp.arcs srt
    have aok2 : ∀ o ∈ as, OdOk ns o := fun o ho => by
      have := aok o ho
      exact ⟨st.p.mem_iff.mpr this.s, st.p.mem_iff.mpr this.t, this.d, this.e⟩
    have nd := lp.nd
    have nd2 : ns.Nodup := st.p.nodup_iff.mpr nd.1
    have n8 : ns.length ≤ 8 := by rw [st.p.length_eq]; exact nd.2
    refine ⟨_, rfl, _, rfl, _, rfl, al, d, iv, ns, as, val, rfl, i1, i2, ba, aok2, a32, st.d, fun l H1 S1 el1 => ?_⟩
    refine ⟨_, rfl, d, ns, val, rfl, (st.same S1).d, nd2, n8, fun p H2 S2 sp2 => ?_⟩
    have S02 := Same.trans S1 S2
    have el2 := S2 _ _ el1
    have st2 : Sts H2 p N ns.reverse val := ⟨sp2, (List.reverse_perm ns).trans st.p, fun n hn => st.v n (List.mem_reverse.mp hn)⟩
    have lk : (as.map (spare iv val)).length ≤ 32 := by rw [List.length_map]; exact a32
    refine ⟨_, rfl, _, rfl, _, rfl, q, p, iv, N, os, as, val, rfl, i1, i2, lp.same S02, srt, st2.at_, fun t H3 S3 ht => ?_⟩
    refine ⟨_, rfl, t, l, _, rfl, ht, S3 _ _ el2, lk, fun H4 S4 => ?_⟩
    refine ⟨_, rfl, ?_⟩
    have S24 := Same.trans S3 S4
    have S04 := Same.trans S02 S24
    have st4 := st2.same S24
    refine iteF ?_
    refine ⟨_, rfl, _, rfl, p, d, _, _, rfl, rfl, st4.d, (st.same S04).d, by rw [vls_len, vls_len, List.length_reverse], fun kv hk => ?_, ?_⟩
    · obtain ⟨n, hn, rfl⟩ := List.mem_map.mp hk
      exact ⟨vls_at (List.mem_reverse.mp hn), rfl⟩
    refine ⟨_, rfl, iteF ?_⟩
    have el4 := S24 _ _ el2
    refine ⟨_, rfl, _, rfl, _, rfl, d, _, rfl, .inl (st.same S04).d, fun z hz => ?_⟩
    have S5 := Same.new (o := .dK (Vls ns val)) hz
    have st5 : Sts (upd H4 z (.dK (Vls ns val))) z N ns val := ⟨upd_same, st.p, st.v⟩
    generalize upd H4 z (.dK (Vls ns val)) = H5 at S5 st5 ⊢
    have S05 := Same.trans S04 S5
    refine ⟨q, z, iv, N, os, as, val, rfl, i1, i2, lp.same S05, srt, st5.at_, fun t2 H6 S6 ht2 => ?_⟩
    refine ⟨_, rfl, t2, l, _, rfl, ht2, S6 _ _ (S5 _ _ el4), lk, fun H7 S7 => ?_⟩
    refine ⟨_, rfl, iteF ?_⟩
    have S57 := Same.trans S6 S7
    have S07 := Same.trans S05 S57
    have st7 := st4.same (Same.trans S5 S57)
    refine ⟨_, rfl, _, rfl, q, N, os, .ref p, rfl, lp.same S07, st7.at_.tab fun H8 S8 => ?_⟩
    refine ⟨_, _, rfl, rfl, _, rfl, iteF ?_⟩
    have S08 := Same.trans S07 S8
    have st8 := st7.same S8
    have el8 := S8 _ _ (S57 _ _ (S5 _ _ el4))
    refine ⟨_, rfl, _, rfl, _, rfl, q, iv, N, os, .ref p, rfl, i1, i2, lp.same S08, .inl ⟨p, as, val, rfl, srt, st8.at_, fun H9 S9 => ?_⟩⟩
    have el9 := S9 _ _ el8
    refine ⟨_, rfl, l, rfl, ⟨_, SqL.of el9⟩, fun D hD => ?_⟩
    refine lc_pick (e := V.int) (l := as.map (spare iv val)) (walk_list (K := K) (a := l)) (fun i => some (V.bl (decide (0 ≤ i)))) (fun G' S => SqL.of (S _ _ el9)) (by omega) hD ?_ ?_
    · intro i G' hm Sx C Nn post
      refine ⟨rfl, ?_⟩
      refine yesT (iteT ?_)
      refine ⟨_, rfl, _, _, rfl, rfl, ?_⟩
      exact post G' (Same.refl _)
    · intro G2 S10 eD
      rw [picks (e := fun i => V.bl (decide (0 ≤ i)))] at eD
      refine ⟨D, (as.map (spare iv val)).map fun i => decide (0 ≤ i), rfl, SqL.of (by rw [eD, List.map_map (g := V.bl)]; rfl), ?_⟩
      have e9 : (((as.map (spare iv val)).map fun i => decide (0 ≤ i)).all id) = (as.map (spare iv val)).all fun s => decide (0 ≤ s) := by rw [List.all_map]; rfl
      rw [e9]
      refine ⟨_, rfl, ?_⟩
      exact k G2 (Same.trans S08 (Same.trans S9 S10))
end
end K14
namespace K14
open PySem L2
open PyProof.Rows PySem.Spec
open LamX in
theorem ext_off {Gd G : Hp} {l : Addr} {o : HO} (e : ExtN Gd G) (n : ∀ o, Gd l = some o → ∃ ps, o = .tbl ps) : ExtN Gd (upd G l o) := fun b u h m => by
  have hb : b ≠ l := fun z => by
    rw [z] at h
    obtain ⟨ps, e2⟩ := n _ h
    exact m ps e2
  rw [upd_ne hb]
  exact e b u h m
open LamX in
theorem off_new {Gd G : Hp} {l : Addr} (e : ExtN Gd G) (n : G l = none) : ∀ o, Gd l = some o → ∃ ps, o = .tbl ps := fun o h => by
  by_cases c : ∃ ps, o = .tbl ps
  · exact c
  · exact absurd (e l o h fun ps z => c ⟨ps, z⟩) (by rw [n]; intro z; cases z)
open LamX in
theorem tabs_put {T : List (Addr × Str)} {G : Hp} {l : Addr} {o u : HO} (t : Tabs T G) (h : G l = some u) (n1 : ∀ ps, u ≠ .tbl ps) (n2 : ∀ c q, u ≠ CodeO c q) : Tabs T (upd G l o) := fun p hp => by
  obtain ⟨ps, h1, h2, h3⟩ := t p hp
  refine ⟨ps, ?_, h2, fun pos cv hc => ?_⟩
  · rw [upd_ne (fun z => by rw [z, h] at h1; exact n1 ps (Option.some.inj h1))]
    exact h1
  · obtain ⟨c, e1, e2⟩ := h3 pos cv hc
    exact ⟨c, e1, by rw [upd_ne (fun z => by rw [z, h] at e2; exact n2 l _ (Option.some.inj e2))]; exact e2⟩
theorem lst_tbl {xs : List V} : ∀ ps, HO.lst xs ≠ .tbl ps := fun _ z => by cases z
theorem lst_code {xs : List V} : ∀ c q, HO.lst xs ≠ LamX.CodeO c q := fun c q z => by
  unfold LamX.CodeO at z
  cases z
theorem dK_tbl {xs : List (Key × V)} : ∀ ps, HO.dK xs ≠ .tbl ps := fun _ z => by cases z
theorem dK_code {xs : List (Key × V)} : ∀ c q, HO.dK xs ≠ LamX.CodeO c q := fun c q z => by
  unfold LamX.CodeO at z
  cases z
theorem bad_dict {K : PySem.W.Frag} {H : Hp} {d : Addr} {kvs : List (Key × V)} {ns : List Str} (dat : Str → PyData) (hd : H d = some (.dK kvs)) (hdat : ∀ n ∈ ns, ∀ v, valV kvs (.inr n) = some v → Dp K H v (dat n)) (hf : tabB kvs ns dat 0 1000000 = false) : Bad K ns (.ref d) H := fun M e => by
  refine .inl ⟨d, kvs, dat, rfl, e _ _ hd dK_tbl, fun n hn v h => dp_kp (ext_kp e) _ _ (hdat n hn v h), fun H' S => ?_⟩
  exact ⟨hf, S⟩
theorem bad_ty {K : PySem.W.Frag} {H : Hp} {y : V} {ns : List Str} {n : String} (hm : n ∈ ["NoneType", "list", "tuple"]) (h : ∀ M, LamX.ExtN H M → TyX K M y (.type n)) : Bad K ns y H := fun M e => .inr ⟨n, hm, h M e, rfl, Same.refl _⟩
theorem tab_len {kvs : List (Key × V)} {ns : List Str} {dat : Str → PyData} {lo hi : Int} (h : kvs.length ≠ ns.length) : tabB kvs ns dat lo hi = false := by
  unfold tabB
  rw [decide_eq_false h, Bool.false_and]
theorem tab_no {kvs : List (Key × V)} {ns : List Str} {dat : Str → PyData} {lo hi : Int} {n : Str} (hn : n ∈ ns) (h : valV kvs (.inr n) = none ∨ inD lo hi (dat n) = false) : tabB kvs ns dat lo hi = false := by
  unfold tabB
  have : (ns.all fun n => (valV kvs (.inr n)).isSome && inD lo hi (dat n)) = false := by
    rw [List.all_eq_false]
    refine ⟨n, hn, ?_⟩
    rcases h with h | h
    · rw [h]
      simp
    · rw [h, Bool.and_false]
      simp
  rw [this, Bool.and_false]
theorem put_len {kvs : List (Key × V)} {k : Key} {v : V} (h : valV kvs k = none) : (putK kvs k v).length = kvs.length + 1 := by
  unfold putK
  rw [valV_any, h]
  rw [if_neg (by simp), List.length_append]
  rfl
theorem put_len2 {kvs : List (Key × V)} {k : Key} {v : V} : (putK kvs k v).length ≤ kvs.length + 1 := by
  unfold putK
  split
  · rw [List.length_map]
    omega
  · rw [List.length_append]
    exact Nat.le_refl _
theorem vls_val {val : Str → Int} {ns : List Str} {n : Str} {v : V} (h : valV (Vls ns val) (.inr n) = some v) : n ∈ ns ∧ v = .int (val n) := by
  by_cases c : n ∈ ns
  · rw [vls_at c] at h
    exact ⟨c, (Option.some.inj h).symm⟩
  · rw [vls_no c] at h
    cases h
/-- values that are no start -/
abbrev ODD (t : Addr) : List V := [.int (-1), .int (10 ^ (6 : Int).toNat + 1), .bl true, .non, .str "1", .ref t, .int (10 ^ (30 : Int).toNat), .int (-(10 ^ (12 : Int).toNat))]
theorem odd_data {K : PySem.W.Frag} {H : Hp} {t : Addr} (ht : H t = some (.tup [.int 1])) : ∀ x ∈ ODD t, ∃ dv, Dp K H x dv ∧ inD 0 1000000 dv = false := fun x hx => by
  simp only [List.mem_cons, List.not_mem_nil, or_false] at hx
  rcases hx with rfl | rfl | rfl | rfl | rfl | rfl | rfl | rfl
  · exact ⟨_, .int _, by decide +kernel⟩
  · exact ⟨_, .int _, by decide +kernel⟩
  · exact ⟨_, .bl _, by decide +kernel⟩
  · exact ⟨_, .non, by decide +kernel⟩
  · exact ⟨_, .str _, by decide +kernel⟩
  · exact ⟨.tuple [.int 1], .tup (SqT.of ht) (.cons (.int _) .nil), rfl⟩
  · exact ⟨_, .int _, by decide +kernel⟩
  · exact ⟨_, .int _, by decide +kernel⟩
/-- a name's value is no start -/
theorem bad_put {K : PySem.W.Frag} {H : Hp} {d : Addr} {ms ns : List Str} {val : Str → Int} {n : Str} {v : V} {dv : PyData} (hd : H d = some (.dK (putK (Vls ms val) (.inr n) v))) (hn : n ∈ ns) (hv : Dp K H v dv) (hf : inD 0 1000000 dv = false) : Bad K ns (.ref d) H := by
  refine bad_dict (fun m => if m = n then dv else .int (val m)) hd (fun m hm x h => ?_) (tab_no hn (.inr ?_))
  · rw [valV_put] at h
    by_cases c : m = n
    · subst c
      rw [if_pos rfl] at h
      obtain rfl := Option.some.inj h
      rw [if_pos rfl]
      exact hv
    · rw [if_neg (fun z => c (Sum.inr.inj z))] at h
      rw [if_neg c, (vls_val h).2]
      exact .int _
  · show inD 0 1000000 (if n = n then dv else .int (val n)) = false
    rw [if_pos rfl]
    exact hf
/-- other names, or another number of them -/
theorem bad_names {K : PySem.W.Frag} {H : Hp} {d : Addr} {ms ns : List Str} {val : Str → Int} {n : Str} {i : Int} (hd : H d = some (.dK (putK (Vls ms val) (.inr n) (.int i)))) (h : (putK (Vls ms val) (.inr n) (.int i)).length ≠ ns.length ∨ ∃ m ∈ ns, m ∉ ms ∧ m ≠ n) : Bad K ns (.ref d) H := by
  refine bad_dict (fun m => .int (if m = n then i else val m)) hd (fun m hm x h => ?_) ?_
  · rw [valV_put] at h
    by_cases c : m = n
    · subst c
      rw [if_pos rfl] at h
      obtain rfl := Option.some.inj h
      rw [if_pos rfl]
      exact .int _
    · rw [if_neg (fun z => c (Sum.inr.inj z))] at h
      rw [if_neg c, (vls_val h).2]
      exact .int _
  · rcases h with h | ⟨m, hm, h1, h2⟩
    · exact tab_len h
    · refine tab_no hm (.inl ?_)
      rw [valV_put, if_neg (fun z => h2 (Sum.inr.inj z)), vls_no h1]
theorem bad_len {K : PySem.W.Frag} {H : Hp} {d : Addr} {ms ns : List Str} {val : Str → Int} (hd : H d = some (.dK (Vls ms val))) (h : ms.length ≠ ns.length) : Bad K ns (.ref d) H :=
  bad_dict (fun m => .int (val m)) hd (fun m hm x h => by rw [(vls_val h).2]; exact .int _) (tab_len (by rw [vls_len]; exact h))
theorem unlock_same {H H' : Hp} {d : Addr} {u : HO} {od : Obj} (h : H d = some u) (s : Same (upd H d (.frz od u)) H') : Same H (upd H' d u) := fun b o e => by
  by_cases c : b = d
  · rw [c, h] at e
    rw [c, upd_same]
    exact e
  · rw [upd_ne c]
    exact s _ _ ((upd_ne c).trans e)
section
variable {P : Program} {w : World} {K : PySem.W.Frag}
                                                      {mg : Str → Option Value} {base : Heap}
def sp_w_is_spoilt (K : PySem.W.Frag) (C L P1 : Addr) : Sp := fun vs H Q _ => ∃ (q d : Addr) (iv : Int) (name spare : Str) (N : List OM) (os : List Od) (ns : List Str) (val : Str → Int), vs = [.ref q, .int iv, .ref d, .str name, .str spare] ∧ 1 ≤ iv ∧ iv ≤ 32 ∧ LpAt K H C L q N os ∧ Sts H d N ns val ∧ name ∈ ns ∧ spare ∉ ns ∧ LamX.Tabs (T1 P1) H ∧
  ∀ M, LamX.ExtN H M → LamX.Tabs (T1 P1) M → Q (.bl true) M
open LamX in
theorem ok_w_is_spoilt (T : T K mg) (L : UL K mg) (Z : UA K mg) (W : WC K mg Z.A) {C c1 P1 : Addr} (TB1 : TabB base mg c1 P1) (F : FunC K "_law_is_refused" "_law_is_refused" s_w_is_refused T.f_w_is_refused T.d_w_is_refused c1) : FnOk P w K mg base CX0 10 T.f_w_is_spoilt T.d_w_is_spoilt ["loop", "interval", "begins", "name", "spare"] (sp_w_is_spoilt K C L.C P1) := by
  have G_w_is_refused : FnOk P w K mg base CX0 9 T.f_w_is_refused T.d_w_is_refused ["loop", "interval", "value"] (sp_w_is_refused K C L.C P1) := ok_w_is_refused T L Z W TB1 F
  refine T.F_w_is_spoilt.ok sc_w_is_spoilt (fun vs H Q E h => ?_) (fun cdv A outer s H vs Q E hr h => ?_)
  · obtain ⟨q, d, iv, name, spare, N, os, ns, val, rfl, _⟩ := h
    rfl
  · obtain ⟨q, d, iv, name, spare, N, os, ns, val, rfl, i1, i2, lp, st, hn, hsp, hT, k⟩ := h
    have hu := hu_of hr
    have hr_w_is_refused : Room 9 _ := hr.mono (by decide)
    refine ⟨_, (pss_cons (ps_set (i := 5) sc_w_is_spoilt.nd rfl (Or.inl rfl) (pe_lst (pa_cons (pe_un un_neg pe_int) (pa_cons (pe_op op_add (pe_op op_pow pe_int pe_int) pe_int) (pa_cons pe_bl (pa_cons pe_non (pa_cons pe_str (pa_cons (pe_tup (pa_cons pe_int pa_nil)) (pa_cons (pe_op op_pow pe_int pe_int) (pa_cons (pe_un un_neg (pe_op op_pow pe_int pe_int)) pa_nil))))))))))
      (pss_cons (ps_for PassesOwn.never rfl (pi_list (pv 5)) (pg_name (i := 6) sc_w_is_spoilt.nd rfl (Or.inl rfl))
      (pss_cons (ps_set (i := 7) sc_w_is_spoilt.nd rfl (Or.inl rfl) (pe_callTy call_dictD (by rfl) T.z_dict (by decide +kernel) (pa_cons (pv 2) pa_nil)))
      (pss_cons (ps_dput (by exact hu) (pv 7) (pv 3) (pv 6) rfl)
      (pss_one (ps_if (pt_not (pt_val (pe_call G_w_is_refused hr_w_is_refused rfl T.m_w_is_refused T.F_w_is_refused.kp T.b_w_is_refused .nil pass0 (pa_cons (pv 0) (pa_cons (pv 1) (pa_cons (pv 7) pa_nil))))))
      (pss_one (ps_ret pe_bl))
      pss_nil)))))
      (pss_cons (ps_set (i := 8) sc_w_is_spoilt.nd rfl (Or.inl rfl) (pe_callTy (call_dictP rfl) (by rfl) T.z_dict (by decide +kernel) (pa_cons (pe_lock (pe_lc (own := [("key", 11)]) (g := gName 11) rfl sc_w_is_spoilt.nd (pi_keys (pv 2)) (blkOk_by (N := ["loop", "interval", "begins", "name", "spare", "odd", "value", "wrong", "less", "more", "other", "key"]) (sc := defScope s_w_is_spoilt) (by decide +kernel)) (fun _ _ _ _ _ => (pg_name (i := 11) sc_w_is_spoilt.nd rfl (Or.inl rfl))) (fun _ _ _ _ _ => pts_one (pt_cmpR op_ne (pv 11) (pv 3) (nomark _))) (fun _ _ _ _ _ => (pe_tup (pa_cons (pv 11) (pa_cons (pe_dget (by exact hu) (pv 2) (pv 11) (fun _ _ => rfl)) pa_nil)))))) pa_nil)))
      (pss_cons (ps_set (i := 9) sc_w_is_spoilt.nd rfl (Or.inl rfl) (pe_callTy call_dictD (by rfl) T.z_dict (by decide +kernel) (pa_cons (pv 2) pa_nil)))
      (pss_cons (ps_dput (by exact hu) (pv 9) (pv 4) pe_int rfl)
      (pss_cons (ps_set (i := 10) sc_w_is_spoilt.nd rfl (Or.inl rfl) (pe_callTy call_dictD (by rfl) T.z_dict (by decide +kernel) (pa_cons (pv 8) pa_nil)))
      (pss_cons (ps_dput (by exact hu) (pv 10) (pv 4) (pe_dget (by exact hu) (pv 2) (pv 3) (fun _ _ => rfl)) rfl)
      (pss_one (ps_ret (pe_callB (cr_all rfl) (by rfl) T.z_all (by decide +kernel) (pa_cons (pe_lc (own := [("value", 6)]) (g := gName 6) rfl sc_w_is_spoilt.nd (pi_tup (pe_tup (pa_cons (pv 8) (pa_cons (pv 9) (pa_cons (pv 10) (pa_cons pe_dnewK (pa_cons (pe_lst pa_nil) (pa_cons pe_non (pa_cons (pe_callTy (RL.cr_tupD rfl) (by rfl) T.z_tuple (by decide +kernel) (pa_cons (pv 2) pa_nil)) pa_nil))))))))) (blkOk_by (N := ["loop", "interval", "begins", "name", "spare", "odd", "value", "wrong", "less", "more", "other", "key"]) (sc := defScope s_w_is_spoilt) (by decide +kernel)) (fun _ _ _ _ _ => (pg_name (i := 6) sc_w_is_spoilt.nd rfl (Or.inl rfl))) (fun _ _ _ _ _ => pts_nil) (fun _ _ _ _ _ => (pe_call G_w_is_refused hr_w_is_refused rfl T.m_w_is_refused T.F_w_is_refused.kp T.b_w_is_refused .nil pass0 (pa_cons (pv 0) (pa_cons (pv 1) (pa_cons (pv 6) pa_nil)))))) pa_nil))))))))))), ?_⟩
    have nd := lp.nd
    have nd2 : ns.Nodup := st.p.nodup_iff.mpr nd.1
    have n8 : ns.length ≤ 8 := by rw [st.p.length_eq]; exact nd.2
    have hnN : name ∈ nms N := st.p.mem_iff.mp hn
    have hline : (Vls ns val).length < sizeLine := by rw [vls_len, sizeLine_eq]; omega
    refine ⟨_, rfl, _, _, rfl, rfl, ⟨by decide, by decide, by decide⟩, _, _, rfl, rfl, ?_⟩
    refine ⟨by show 1 ≤ sizeLine; decide, fun t ht => ?_⟩
    refine ⟨_, _, rfl, rfl, ⟨by decide, by decide, by decide⟩, _, _, rfl, rfl, ⟨by decide, by decide, by decide⟩, _, rfl, ?_⟩
    refine ⟨by show 8 ≤ sizeLine; decide, fun l hl => ?_⟩
    have Sl : Same (upd H t (.tup [.int 1])) (upd (upd H t (.tup [.int 1])) l (.lst (ODD t))) := Same.new hl
    have S1 : Same H (upd (upd H t (.tup [.int 1])) l (.lst (ODD t))) := Same.trans (Same.new ht) Sl
    have el : (upd (upd H t (.tup [.int 1])) l (.lst (ODD t))) l = some (.lst (ODD t)) := upd_same
    have hodd := odd_data (K := K) (Sl _ _ upd_same)
    refine ⟨_, rfl, l, rfl, ⟨ODD t, SqL.of el⟩, ?_⟩
    refine for_list (K := K) (a := l) (xs := ODD t) (fun i σ G => ∃ v6 v7, σ = [some (.ref q), some (.int iv), some (.ref d), some (.str name), some (.str spare), some (.ref l), v6, v7, none, none, none, none] ∧ ExtN (upd (upd H t (.tup [.int 1])) l (.lst (ODD t))) G ∧ Tabs (T1 P1) G)
      ⟨none, none, rfl, ExtN.refl _, Tabs.ext hT S1⟩ (fun j σ G _ ⟨_, _, _, X, _⟩ => SqL.of (X _ _ el lst_tbl)) ?_ ?_
    · rintro i x σ G hx ⟨v6, v7, rfl, X, TG⟩
      obtain ⟨dv, hdv, hf⟩ := hodd x (List.mem_of_getElem? hx)
      have XG := ExtN.trans (ext_same S1) X
      have hdG := XG _ _ st.d dK_tbl
      refine ⟨_, rfl, d, _, rfl, .inl hdG, fun z hz => ?_⟩
      refine ⟨_, rfl, _, rfl, _, rfl, z, _, rfl, DPut.k (k := Sum.inr name) upd_same hline, ?_⟩
      have X1 := ext_off (o := .dK (Vls ns val)) X (off_new X hz)
      have X2 := ext_off (o := .dK (putK (Vls ns val) (.inr name) x)) X1 (off_new X hz)
      have T2 := tabs_put (o := .dK (putK (Vls ns val) (.inr name) x)) (Tabs.ext TG (Same.new (o := .dK (Vls ns val)) hz)) upd_same dK_tbl dK_code
      have e2 : (upd (upd G z (.dK (Vls ns val))) z (.dK (putK (Vls ns val) (.inr name) x))) z = some (.dK (putK (Vls ns val) (.inr name) x)) := upd_same
      generalize upd (upd G z (.dK (Vls ns val))) z (.dK (putK (Vls ns val) (.inr name) x)) = G2 at X2 T2 e2 ⊢
      refine ⟨_, rfl, _, rfl, _, rfl, q, iv, N, os, .ref z, rfl, i1, i2, lp.ext (ExtN.trans (ext_same S1) X2), bad_put e2 hnN (dp_kp (ext_kp X2) _ _ hdv) hf, T2, fun M X3 TM => ?_⟩
      refine ⟨_, rfl, iteF ?_⟩
      exact ⟨_, _, rfl, ExtN.trans X2 X3, TM⟩
    · rintro σ G ⟨v6, v7, rfl, X, TG⟩
      have XG := ExtN.trans (ext_same S1) X
      clear X el hodd Sl S1
      have hdG := XG _ _ st.d dK_tbl
      refine ⟨d, _, hdG, trivial, fun od => ?_⟩
      refine ⟨_, rfl, d, od, rfl, .inl ⟨Vls ns val, upd_same, fun D hD => ?_⟩⟩
      refine lc_it walk_keys (fun i H' => Same (upd G d (.frz od (.dK (Vls ns val)))) H' ∧ ∃ ts : List Mm, H' D = some (.lst (mrefs ts)) ∧ MsN H' ts ∧ ts.map (·.2) = ((ns.take i).filter fun n => decide (n ≠ name)).map fun n => [Sum.inr n, Sum.inl (val n)])
        ⟨Same.new hD, [], upd_same, (fun _ h => by cases h), rfl⟩ (fun i H' _ h => h.1 _ _ upd_same) ?_ ?_
      · rintro i x Ha Hb hi ⟨Sa, ts, eD, hts, ets⟩ ⟨rfl, k', v', ekv, rfl⟩
        unfold Vls at ekv
        rw [List.getElem?_map] at ekv
        cases en : ns[i]? with
        | none => rw [en] at ekv; cases ekv
        | some n =>
          rw [en] at ekv
          cases ekv
          have hnn := List.mem_of_getElem? en
          have tk : ns.take (i + 1) = ns.take i ++ [n] := by rw [List.take_add_one, en]; rfl
          refine ⟨rfl, ?_⟩
          refine ⟨_, rfl, _, rfl, rfl, _, rfl, ?_⟩
          have hs : (!decide (V.str n = V.str name)) = decide (n ≠ name) := by
            by_cases c : n = name
            · rw [c]; simp
            · rw [decide_eq_false (fun z => c (V.str.inj z)), decide_eq_true c]; rfl
          dsimp only
          rw [show (!decide (kV (Sum.inr n) = V.str name)) = decide (n ≠ name) from hs]
          have lts : ts.length ≤ 8 := by
            have e1 := congrArg List.length ets
            rw [List.length_map, List.length_map] at e1
            have := List.length_filter_le (fun n => decide (n ≠ name)) (ns.take i)
            rw [List.length_take] at this
            omega
          by_cases c : n = name
          · rw [show decide (n ≠ name) = false by simp [c]]
            refine iteF ⟨Sa, ts, eD, hts, ?_⟩
            rw [ets, tk, List.filter_append, show List.filter (fun n => decide (n ≠ name)) [n] = [] by simp [c], List.append_nil]
          · rw [show decide (n ≠ name) = true by simp [c]]
            refine iteT ?_
            have hfz : Hb d = some (.frz od (.dK (Vls ns val))) := Sa _ _ upd_same
            refine ⟨_, rfl, _, rfl, _, rfl, d, _, rfl, .inl ⟨_, Sum.inr n, .inr ⟨_, hfz⟩, rfl, (vls_at hnn).symm⟩, by show 2 ≤ sizeLine; decide, fun t ht => ?_⟩
            have nDt : t ≠ D := fun z => by rw [z, eD] at ht; cases ht
            have St : Same Hb (upd Hb t (.tup [kV (Sum.inr n), .int (val n)])) := Same.new ht
            have eD1 := St _ _ eD
            have hts1 := hts.keep fun a xs e => St _ _ e
            have et : (upd Hb t (.tup [kV (Sum.inr n), .int (val n)])) t = some (.tup [kV (Sum.inr n), .int (val n)]) := upd_same
            have kt : ∀ a xs, (upd Hb t (.tup [kV (Sum.inr n), .int (val n)])) a = some (.tup xs) → (upd (upd Hb t (.tup [kV (Sum.inr n), .int (val n)])) D (.lst (mrefs ts ++ [V.ref t]))) a = some (.tup xs) := fun a xs e => (upd_ne (fun z => by rw [z, eD1] at e; cases e)).trans e
            refine ⟨_, eD1, ?_, Same.at hD (Same.trans Sa St), ts ++ [(t, [Sum.inr n, Sum.inl (val n)])], by rw [upd_same]; unfold mrefs; rw [List.map_append]; rfl, ?_, ?_⟩
            · unfold mrefs
              rw [List.length_map, sizeLine_eq]
              omega
            · intro q hq
              rcases List.mem_append.mp hq with hq | hq
              · exact kt _ _ (hts1 q hq)
              · rw [List.mem_singleton.mp hq]
                exact kt _ _ et
            · rw [List.map_append, ets, tk, List.filter_append, List.map_append, show List.filter (fun n => decide (n ≠ name)) [n] = [n] by simp [c]]
              rfl
      · rintro H2 ⟨S2, ts, eD, hts, ets⟩
        rw [vls_len, List.take_length] at ets
        refine ⟨S2 _ _ upd_same, ?_⟩
        have nDd : D ≠ d := fun z => by rw [z, upd_same] at hD; cases hD
        have S3 := unlock_same hdG S2
        have hd2 : H2 d = some (.frz od (.dK (Vls ns val))) := S2 _ _ upd_same
        have eD3 : (upd H2 d (.dK (Vls ns val))) D = some (.lst (mrefs ts)) := (upd_ne nDd).trans eD
        have hts3 : MsN (upd H2 d (.dK (Vls ns val))) ts := hts.keep fun a xs e => (upd_ne (fun z => by rw [z, hd2] at e; cases e)).trans e
        generalize upd H2 d (.dK (Vls ns val)) = H3 at S3 eD3 hts3 ⊢
        generalize hfs : ns.filter (fun n => decide (n ≠ name)) = fs at ets
        have ndf : fs.Nodup := by rw [← hfs]; exact nd2.filter _
        have tp := pairs_of (K := K) (a := fun n : Str => n) (b := val) hts3 ets
        refine ⟨D, ts.map (fun m : Mm => m.1), Vls fs val, rfl, SqL.of (by rw [eD3, mrefs_ref]), tp, fun z hz => ?_⟩
        have mk : mergeK [] (Vls fs val) = Vls fs val := mergeK_nd _ [] (by
          rw [List.nil_append, vls_keys]
          exact List.pairwise_map.mpr (List.Pairwise.imp (fun {a b} h e => h (Sum.inr.inj e)) ndf))
        rw [mk]
        have S4 := Same.trans S3 (Same.new (o := .dK (Vls fs val)) hz)
        have ez : (upd H3 z (.dK (Vls fs val))) z = some (.dK (Vls fs val)) := upd_same
        generalize upd H3 z (.dK (Vls fs val)) = H4 at S4 ez ⊢
        have X4 := ExtN.trans XG (ext_same S4)
        have T4 := Tabs.ext TG S4
        clear hts3 tp eD3 S3 hd2 nDd eD hts S2 hD hz S4
        have hd4 := X4 _ _ st.d dK_tbl
        have flt : fs.length < ns.length := by
          rw [← hfs]
          exact List.length_filter_lt_length_iff_exists.mpr ⟨name, hn, by simp⟩
        have nfs : name ∉ fs := by
          rw [← hfs]
          simp
        have hlf : (Vls fs val).length < sizeLine := by rw [vls_len, sizeLine_eq]; omega
        refine ⟨_, rfl, d, _, rfl, .inl hd4, fun z2 hz2 => ?_⟩
        refine ⟨_, rfl, _, rfl, z2, _, rfl, DPut.k (k := Sum.inr spare) upd_same hline, ?_⟩
        have X45 : ExtN H4 (upd (upd H4 z2 (.dK (Vls ns val))) z2 (.dK (putK (Vls ns val) (.inr spare) (.int 0)))) := ext_off (ext_off (ExtN.refl H4) (off_new (ExtN.refl H4) hz2)) (off_new (ExtN.refl H4) hz2)
        have T5 := tabs_put (o := .dK (putK (Vls ns val) (.inr spare) (.int 0))) (Tabs.ext T4 (Same.new (o := .dK (Vls ns val)) hz2)) upd_same dK_tbl dK_code
        have e5 : (upd (upd H4 z2 (.dK (Vls ns val))) z2 (.dK (putK (Vls ns val) (.inr spare) (.int 0)))) z2 = some (.dK (putK (Vls ns val) (.inr spare) (.int 0))) := upd_same
        generalize upd (upd H4 z2 (.dK (Vls ns val))) z2 (.dK (putK (Vls ns val) (.inr spare) (.int 0))) = H5 at X45 T5 e5 ⊢
        have ez5 := X45 _ _ ez dK_tbl
        have X5 := ExtN.trans X4 X45
        refine ⟨_, rfl, z, _, rfl, .inl ez5, fun z3 hz3 => ?_⟩
        have hd5 := X5 _ _ st.d dK_tbl
        have Sz3 : Same H5 (upd H5 z3 (.dK (Vls fs val))) := Same.new hz3
        refine ⟨_, rfl, _, rfl, d, _, rfl, StD.at_ (Sz3 _ _ hd5) hn, ?_⟩
        refine ⟨_, rfl, _, rfl, z3, _, rfl, DPut.k (k := Sum.inr spare) upd_same hlf, ?_⟩
        have X56 : ExtN H5 (upd (upd H5 z3 (.dK (Vls fs val))) z3 (.dK (putK (Vls fs val) (.inr spare) (.int (val name))))) := ext_off (ext_off (ExtN.refl H5) (off_new (ExtN.refl H5) hz3)) (off_new (ExtN.refl H5) hz3)
        have T6 := tabs_put (o := .dK (putK (Vls fs val) (.inr spare) (.int (val name)))) (Tabs.ext T5 Sz3) upd_same dK_tbl dK_code
        have e6 : (upd (upd H5 z3 (.dK (Vls fs val))) z3 (.dK (putK (Vls fs val) (.inr spare) (.int (val name))))) z3 = some (.dK (putK (Vls fs val) (.inr spare) (.int (val name)))) := upd_same
        generalize upd (upd H5 z3 (.dK (Vls fs val))) z3 (.dK (putK (Vls fs val) (.inr spare) (.int (val name)))) = H6 at X56 T6 e6 ⊢
        have X6 := ExtN.trans X5 X56
        refine ⟨_, rfl, _, rfl, _, rfl, fun e0 he0 => ⟨by show 0 ≤ sizeLine; decide, fun e1 he1 => ?_⟩⟩
        have S0 : Same H6 (upd H6 e0 (.dK [])) := Same.new he0
        have S1 : Same (upd H6 e0 (.dK [])) (upd (upd H6 e0 (.dK [])) e1 (.lst [])) := Same.new he1
        have hd8 : (upd (upd H6 e0 (.dK [])) e1 (.lst [])) d = some (.dK (Vls ns val)) := S1 _ _ (S0 _ _ (X6 _ _ st.d dK_tbl))
        refine ⟨_, rfl, d, Vls ns val, rfl, hd8, fun e2 he2 => ?_⟩
        have S2 : Same (upd (upd H6 e0 (.dK [])) e1 (.lst [])) (upd (upd (upd H6 e0 (.dK [])) e1 (.lst [])) e2 (.tup ((Vls ns val).map fun kv => kV kv.1))) := Same.new he2
        have m0 : (upd (upd (upd H6 e0 (.dK [])) e1 (.lst [])) e2 (.tup ((Vls ns val).map fun kv => kV kv.1))) e0 = some (.dK (Vls [] val)) := S2 _ _ (S1 _ _ upd_same)
        have m1 : (upd (upd (upd H6 e0 (.dK [])) e1 (.lst [])) e2 (.tup ((Vls ns val).map fun kv => kV kv.1))) e1 = some (.lst []) := S2 _ _ upd_same
        have m2 : (upd (upd (upd H6 e0 (.dK [])) e1 (.lst [])) e2 (.tup ((Vls ns val).map fun kv => kV kv.1))) e2 = some (.tup ((Vls ns val).map fun kv => kV kv.1)) := upd_same
        have S3 := Same.trans S0 (Same.trans S1 S2)
        generalize upd (upd (upd H6 e0 (.dK [])) e1 (.lst [])) e2 (.tup ((Vls ns val).map fun kv => kV kv.1)) = H7 at S3 m0 m1 m2 ⊢
        clear S0 S1 S2 hd8 he0 he1 he2
        refine ⟨by show 7 ≤ sizeLine; decide, fun tp htp => ?_⟩
        have S7 : Same H7 (upd H7 tp (.tup [.ref z, .ref z2, .ref z3, .ref e0, .ref e1, .non, .ref e2])) := Same.new htp
        have etp : (upd H7 tp (.tup [.ref z, .ref z2, .ref z3, .ref e0, .ref e1, .non, .ref e2])) tp = some (.tup [.ref z, .ref z2, .ref z3, .ref e0, .ref e1, .non, .ref e2]) := upd_same
        have X67 := ext_same (Same.trans S3 S7)
        have X7 := ExtN.trans X6 X67
        have T7 := Tabs.ext T6 (Same.trans S3 S7)
        have bads : ∀ x ∈ ([.ref z, .ref z2, .ref z3, .ref e0, .ref e1, .non, .ref e2] : List V), Bad K (nms N) x (upd H7 tp (.tup [.ref z, .ref z2, .ref z3, .ref e0, .ref e1, .non, .ref e2])) := fun x hx => by
          have le := st.p.length_eq
          have X57 := ExtN.trans X56 X67
          have m0 := S7 _ _ m0
          have m1 := S7 _ _ m1
          have m2 := S7 _ _ m2
          simp only [List.mem_cons, List.not_mem_nil, or_false] at hx
          rcases hx with rfl | rfl | rfl | rfl | rfl | rfl | rfl
          · exact bad_len (X57 _ _ ez5 dK_tbl) (by omega)
          · refine bad_names (X57 _ _ e5 dK_tbl) (.inl ?_)
            rw [put_len (vls_no hsp), vls_len]
            omega
          · exact bad_names (X67 _ _ e6 dK_tbl) (.inr ⟨name, hnN, nfs, fun z => hsp (z ▸ hn)⟩)
          · refine bad_len (ms := []) (val := val) m0 ?_
            have := List.length_pos_of_mem hnN
            show 0 ≠ (nms N).length
            omega
          · exact bad_ty (n := "list") (by decide) fun M e => .base (.lst (e _ _ m1 lst_tbl))
          · exact bad_ty (n := "NoneType") (by decide) fun M e => .base .non
          · exact bad_ty (n := "tuple") (by decide) fun M e => .base (.tup (e _ _ m2 (by intro _ z; cases z)))
        refine ⟨tp, rfl, ⟨[.ref z, .ref z2, .ref z3, .ref e0, .ref e1, .non, .ref e2], SqT.of etp⟩, fun D hD => ?_⟩
        generalize upd H7 tp (.tup [.ref z, .ref z2, .ref z3, .ref e0, .ref e1, .non, .ref e2]) = H8 at etp X7 T7 bads hD ⊢
        refine lc_it (walk_tup (K := K) (a := tp) (xs := [.ref z, .ref z2, .ref z3, .ref e0, .ref e1, .non, .ref e2])) (fun i G => ExtN H8 G ∧ Tabs (T1 P1) G ∧ G D = some (.lst (List.replicate i (V.bl true))))
          ⟨ext_same (Same.new hD), Tabs.ext T7 (Same.new hD), upd_same⟩ (fun i G _ h => SqT.of (h.1 _ _ etp (by intro _ z; cases z))) ?_ ?_
        · rintro i x Ha Hb hi ⟨Xa, Ta, eD⟩ ⟨rfl, hx⟩
          have hi7 : i < 7 := hi
          refine ⟨rfl, ?_⟩
          refine yesT (iteT ?_)
          refine ⟨_, rfl, _, rfl, _, rfl, q, iv, N, os, x, rfl, i1, i2, lp.ext (ExtN.trans X7 Xa), (bads x (List.mem_of_getElem? hx)).ext Xa, Ta, fun M X3 TM => ?_⟩
          have eM := X3 _ _ eD lst_tbl
          refine ⟨_, eM, by rw [List.length_replicate, sizeLine_eq]; omega, ext_off (ExtN.trans Xa X3) (fun o h => by rw [hD] at h; cases h), tabs_put TM eM lst_tbl lst_code, by rw [upd_same, List.replicate_succ']⟩
        · rintro G ⟨X, TT, eD⟩
          refine ⟨D, List.replicate 7 true, rfl, SqL.of (by rw [eD]; rfl), ?_⟩
          exact k G (ExtN.trans X7 X) TT
end
end K14
namespace K14
open PySem L2
open PyProof.Rows PySem.Spec
theorem RowsT.nol {K : PySem.W.Frag} {H H' : Hp} {a : Addr} {rows : List (List Key)} (s : NoL H H') (h : RowsT K H a rows) : RowsT K H' a rows := by
  obtain ⟨ms, h1, h2, h3⟩ := h
  exact ⟨ms, NoL.seqT s h1, fun m hm => NoL.seqT s (h2 m hm), h3⟩
theorem LpAt.nol {K : PySem.W.Frag} {H H' : Hp} {C L q : Addr} {N : List OM} {os : List Od} (s : NoL H H') (h : LpAt K H C L q N os) : LpAt K H' C L q N os := by
  obtain ⟨h1, h2, h3, h4, dx, d, nm, o, ar, op, rd, un, ak, as, rs, us, a1, a2, a3, a4, a5, a6, a7, a8, a9, b1, b2, b3, b4⟩ := h
  exact ⟨h1, h2, fun m hm => (h3 m hm).nol s, h4, dx, d, nm, o, ar, op, rd, un, ak, as, rs, us, s _ _ a1 (by intro _ z; cases z), s _ _ a2 (by intro _ z; cases z), NoL.seqT s a3, a4.nol s, a5.nol s, a6, a7, NoL.seqT s a8, a9.nol s, b1, NoL.seqT s b2, b3, NoL.seqT s b4⟩
theorem BoL.only {K : PySem.W.Frag} {H H' : Hp} {r b : Addr} {os : List Od} (o : Only r H H') (R : Dl H r) (n : b ≠ r) (h : BoL K H b os) : BoL K H' b os := by
  obtain ⟨ms, h1, h2, h3⟩ := h
  exact ⟨ms, o _ _ n h1, fun m hm => NoL.seqT (R.nol o) (h2 m hm), h3⟩
theorem BoL.off {K : PySem.W.Frag} {H G : Hp} {r b : Addr} {os : List Od} (h : BoL K H b os) : ∃ xs, H b = some (.lst xs) := by
  obtain ⟨ms, h1, _⟩ := h
  exact ⟨_, h1⟩
theorem nms_perm {D N : List OM} (h : (N.map (·.2)).Perm (D.map (·.2))) : (nms N).Perm (nms D) := by
  have e : ∀ M : List OM, nms M = (M.map (·.2)).map fun r => r.n := fun M => by
    unfold nms
    rw [List.map_map]
    rfl
  rw [e, e]
  exact h.map _
theorem tk_rows {D N : List OM} (h : (N.map (·.2)).Perm (D.map (·.2))) (nd : (nms D).Nodup) {n : Str} (hn : n ∈ nms D) : tkOf D n = tkOf N n := by
  obtain ⟨m, hm, rfl⟩ := List.mem_map.mp hn
  obtain ⟨m', hm', e⟩ := List.mem_map.mp (h.mem_iff.mpr (List.mem_map.mpr ⟨m, hm, rfl⟩))
  rw [tkOf_at nd hm, ← e, tkOf_at ((nms_perm h).nodup_iff.mpr nd) hm']
theorem arcs_rows {D N : List OM} (h : (N.map (·.2)).Perm (D.map (·.2))) (nd : (nms D).Nodup) (rd : ∀ m ∈ D, ∀ p ∈ m.2.rs, p.1 ∈ nms D) (o : Od) : o ∈ arcsOf D D ↔ o ∈ arcsOf N N := by
  constructor
  · intro ho
    obtain ⟨m, hm, p, hp, rfl⟩ := arcs_mem.mp ho
    obtain ⟨m', hm', e⟩ := List.mem_map.mp (h.mem_iff.mpr (List.mem_map.mpr ⟨m, hm, rfl⟩))
    exact arcs_mem.mpr ⟨m', hm', p, by rw [e]; exact hp, by rw [e, tk_rows h nd (rd m hm p hp)]⟩
  · intro ho
    obtain ⟨m, hm, p, hp, rfl⟩ := arcs_mem.mp ho
    obtain ⟨m', hm', e⟩ := List.mem_map.mp (h.mem_iff.mp (List.mem_map.mpr ⟨m, hm, rfl⟩))
    have hp' : p ∈ m'.2.rs := by rw [e]; exact hp
    exact arcs_mem.mpr ⟨m', hm', p, hp', by rw [e, tk_rows h nd (rd m' hm' p hp')]⟩
theorem srt_rows {D N : List OM} {os as : List Od} (h : (N.map (·.2)).Perm (D.map (·.2))) (nd : (nms D).Nodup) (rd : ∀ m ∈ D, ∀ p ∈ m.2.rs, p.1 ∈ nms D) (s : KS.SrtK ((arcsOf D D ++ os).map oK) (as.map oK)) : KS.SrtK ((arcsOf N N ++ os).map oK) (as.map oK) := by
  refine ⟨s.1, s.2.1, fun z => (s.2.2 z).trans ?_⟩
  simp only [List.mem_map, List.mem_append]
  constructor
  · rintro ⟨o, ho | ho, rfl⟩
    · exact ⟨o, .inl ((arcs_rows h nd rd o).mp ho), rfl⟩
    · exact ⟨o, .inr ho, rfl⟩
  · rintro ⟨o, ho | ho, rfl⟩
    · exact ⟨o, .inl ((arcs_rows h nd rd o).mpr ho), rfl⟩
    · exact ⟨o, .inr ho, rfl⟩
theorem cut_take {xs : List V} {k : Nat} (h : k ≤ xs.length) : cutV xs none (some (k : Int)) = xs.take k := by
  unfold cutV
  rw [HT.sIx_none, HT.sIx_nat, List.drop_zero, Nat.min_eq_left h, Nat.sub_zero]
/-- a comprehension that draws a number for each name -/
theorem lc_draw {names : List Str} {J : It} {G : Hp → Prop} (w : Walk J (names.map V.str).length G (YAt (names.map V.str))) {g : TG} {tt : TT} {te : TE} {vs : List Nat} {σ : L2.St} {H1 : Hp} {D r : Addr} {Qd : Hp → Prop} (b : Int) (nd : names.Nodup) (few : names.length ≤ 8) (R : Dl H1 r) (hG : ∀ H', Only r H1 H' → G H') (hD : H1 D = none)
    (hs : ∀ n H', Only r H1 H' → Dl H' r → ∀ (C : VK) (N : Hp → Prop), (∀ t v H'', 0 ≤ v → v < b → Only r H' H'' → Dl H'' r → H'' t = some (.tup [.str n, .int v]) → C (.ref t) H'') → g (V.str n) (wipe σ vs) H' fun σ2 H2 => wipe σ2 vs = wipe σ vs ∧ tt σ2 H2 fun b H3 => if b = true then te σ2 H3 C else N H3)
    (hd : ∀ H' (ts : List Mm) (val : Str → Int), Only r H1 H' → Dl H' r → H' D = some (.lst (mrefs ts)) → MsN H' ts → ts.map (·.2) = names.map (fun n => [Sum.inr n, Sum.inl (val n)]) → (∀ n ∈ names, 0 ≤ val n ∧ val n < b) → Qd H') :
    ∃ W : Nat → Nat → Hp → Prop, (∃ m, W 0 m
                                             (upd H1 D (.lst []))) ∧ ∀ i m H, W i m H →
      (J.stop i H ∧ Qd H) ∨ (J.go i H ∧ ∃ Nx : Hp → Prop, (∀ H', Nx H' → ∃ m', m' < m ∧ W
                                                                                          (i + 1) m' H') ∧ ∀ x H', J.yld i H x H' → g x (wipe σ vs) H' fun σ2 H2 => wipe σ2 vs = wipe σ vs ∧ tt σ2 H2 fun b H3 =>
        if b = true then te σ2 H3 fun y H4 => ∃ acc, H4 D = some
                                                                 (.lst acc) ∧ acc.length < sizeLine ∧ Nx (upd H4 D (.lst (acc ++ [y]))) else Nx H3) := by
  have nDr : D ≠ r := R.off hD
  have R0 : Dl (upd H1 D (.lst [])) r := R.put nDr
  refine lc_it w (fun i H' => Only r H1 H' ∧ Dl H' r ∧ ∃ (ts : List Mm) (val : Str → Int), H' D = some (.lst (mrefs ts)) ∧ MsN H' ts ∧ ts.map (·.2) = (names.take i).map (fun n => [Sum.inr n, Sum.inl (val n)]) ∧ ∀ n ∈ names.take i, 0 ≤ val n ∧ val n < b)
    ⟨Only.new hD, R0, [], fun _ => 0, upd_same, (fun _ h => by cases h), rfl, (fun _ h => by cases h)⟩ (fun i H' _ h => hG H' h.1) ?_ (fun H' ⟨h1, h2, ts, val, h3, h4, h5, h6⟩ => by
      rw [List.length_map, List.take_length] at h5 h6
      exact hd H' ts val h1 h2 h3 h4 h5 h6)
  rintro i x Ha Hb hi ⟨Oa, Ra, ts, val, eD, hts, ets, hv⟩ ⟨rfl, hx⟩
  rw [List.getElem?_map] at hx
  cases en : names[i]? with
  | none => rw [en] at hx; cases hx
  | some n =>
    rw [en] at hx
    cases hx
    refine hs n _ Oa Ra _ _ fun t v Hc v0 v1 Oc Rc et => ?_
    have eD1 := Oc _ _ nDr eD
    have hts1 : MsN Hc ts := hts.keep fun a xs e => Oc _ _ (fun z => by
      obtain ⟨x, y, u, q⟩ := Ra.rl
      rw [z, q] at e
      cases e) e
    have kt : ∀ a xs, Hc a = some (.tup xs) → (upd Hc D (.lst (mrefs ts ++ [V.ref t]))) a = some (.tup xs) := fun a xs e => (upd_ne (fun z => by rw [z, eD1] at e; cases e)).trans e
    have tk : names.take (i + 1) = names.take i ++ [n] := by rw [List.take_add_one, en]; rfl
    have nin : n ∉ names.take i := by
      have e := (List.take_sublist (i + 1) names).nodup nd
      rw [tk] at e
      exact fun h => (List.nodup_append.mp e).2.2 n h n (List.mem_singleton.mpr rfl) rfl
    refine ⟨_, eD1, ?_, fun b o nb e => ?_, Rc.put nDr, ts ++ [(t, [Sum.inr n, Sum.inl v])], (fun m => if m = n then v else val m), by rw [upd_same]; unfold mrefs; rw [List.map_append]; rfl, ?_, ?_, ?_⟩
    · have e1 := congrArg List.length ets
      rw [List.length_map, List.length_map, List.length_take] at e1
      unfold mrefs
      rw [List.length_map, sizeLine_eq]
      omega
    · rw [upd_ne (ne_of_none e hD)]
      exact Oc _ _ nb (Oa _ _ nb e)
    · intro q hq
      rcases List.mem_append.mp hq with hq | hq
      · exact kt _ _ (hts1 q hq)
      · rw [List.mem_singleton.mp hq]
        exact kt _ _ et
    · rw [tk, List.map_append, List.map_append, ets]
      congr 1
      · refine List.map_congr_left fun m hm => ?_
        show [Sum.inr m, Sum.inl (val m)] = [Sum.inr m, Sum.inl (if m = n then v else val m)]
        rw [if_neg (fun z => nin (by rw [← z]; exact hm))]
      · show [[Sum.inr n, Sum.inl v]] = [[Sum.inr n, Sum.inl (if n = n then v else val n)]]
        rw [if_pos rfl]
    · intro m hm
      rw [tk] at hm
      show 0 ≤ (if m = n then v else val m) ∧ (if m = n then v else val m) < b
      rcases List.mem_append.mp hm with hm | hm
      · rw [if_neg (fun z => nin (by rw [← z]; exact hm))]
        exact hv m hm
      · obtain rfl := List.mem_singleton.mp hm
        rw [if_pos rfl]
        exact ⟨v0, v1⟩
end K14
namespace K14
open PySem L2
open PyProof.Rows PySem.Spec
open LamX in
theorem tabs_only {T : List (Addr × Str)} {r : Addr} {H H' : Hp} (t : Tabs T H) (R : Dl H r) (o : Only r H H') : Tabs T H' := fun p hp => by
  obtain ⟨x, y, z, e⟩ := R.rl
  obtain ⟨ps, h1, h2, h3⟩ := t p hp
  refine ⟨ps, o _ _ (fun q => by rw [q, e] at h1; cases h1) h1, h2, fun pos cv hc => ?_⟩
  obtain ⟨c, e1, e2⟩ := h3 pos cv hc
  exact ⟨c, e1, o _ _ (fun q => by rw [q, e] at e2; cases e2) e2⟩
/-- kept: all but the dice and the tables -/
def OnlyN (r : Addr) (H H' : Hp) : Prop := ∀ b o, b ≠ r → H b = some o → (∀ ps, o ≠ .tbl ps) → H' b = some o
theorem Sts.only {r : Addr} {H H' : Hp} {d : Addr} {N : List OM} {ns : List Str} {val : Str → Int} (R : Dl H r) (s : Only r H H') (h : Sts H d N ns val) : Sts H' d N ns val :=
  ⟨R.nol s _ _ h.d (by intro _ z; cases z), h.p, h.v⟩
theorem pick5 {o : Int} (h0 : 0 ≤ o) (h1 : o < 5) : ∃ m : Nat, 1 ≤ m ∧ m ≤ 8 ∧ atI ([.int 1, .int 2, .int 3, .int 4, .int 8] : List V) o = some (.int (m : Int)) := by
  have : o = 0 ∨ o = 1 ∨ o = 2 ∨ o = 3 ∨ o = 4 := by omega
  rcases this with rfl | rfl | rfl | rfl | rfl
  · exact ⟨1, by decide, by decide, rfl⟩
  · exact ⟨2, by decide, by decide, rfl⟩
  · exact ⟨3, by decide, by decide, rfl⟩
  · exact ⟨4, by decide, by decide, rfl⟩
  · exact ⟨8, by decide, by decide, rfl⟩
section
variable {P : Program} {w : World} {K : PySem.W.Frag}
                                                      {mg : Str → Option Value} {base : Heap}
def sp_w_case (P1 : Addr) : Sp := fun vs H Q _ => ∃ (r : Addr), vs = [.ref r] ∧ Dl H r ∧ LamX.Tabs (T1 P1) H ∧ ∀ M, OnlyN r H M → LamX.Tabs (T1 P1) M → Q (.bl true) M
open LamX in
theorem ok_w_case (T : T K mg) (U : UX K mg) (L : UL K mg) (Z : UA K mg) (W : WC K mg Z.A) {c1 P1 : Addr} (TB1 : TabB base mg c1 P1) (F : FunC K "_law_is_refused" "_law_is_refused" s_w_is_refused T.f_w_is_refused T.d_w_is_refused c1) : FnOk P w K mg base CX0 11 T.f_w_case T.d_w_case ["dice"] (sp_w_case P1) := by
  have G_w_arcs : FnOk P w K mg base CX0 4 T.f_w_arcs T.d_w_arcs ["rows", "rules"] (sp_w_arcs K) := ok_w_arcs T
  have G_w_fitting : FnOk P w K mg base CX0 1 T.f_w_fitting T.d_w_fitting ["arcs", "interval", "floors"] (sp_w_fitting K) := ok_w_fitting T
  have G_w_is_met : FnOk P w K mg base CX0 8 T.f_w_is_met T.d_w_is_met ["loop", "arcs", "interval", "begins"] (sp_w_is_met K U.C L.C) := ok_w_is_met T L
  have G_w_is_spoilt : FnOk P w K mg base CX0 10 T.f_w_is_spoilt T.d_w_is_spoilt ["loop", "interval", "begins", "name", "spare"] (sp_w_is_spoilt K U.C L.C P1) := ok_w_is_spoilt T L Z W TB1 F
  have G_w_loop : FnOk P w K mg base CX0 10 T.f_w_loop T.d_w_loop ["rows", "rules"] (sp_w_loop K U.C L.C) := ok_w_loop T U L
  have G_w_next : FnOk P w K mg base CX0 1 T.f_w_next T.d_w_next ["dice", "many"] (sp_w_next K) := ok_w_next T
  have G_w_rows : FnOk P w K mg base CX0 3 T.f_w_rows T.d_w_rows ["dice", "names", "units"] (sp_w_rows K) := ok_w_rows T
  have G_w_rules : FnOk P w K mg base CX0 3 T.f_w_rules T.d_w_rules ["dice", "names", "most"] (sp_w_rules K) := ok_w_rules T
  have G_w_words : FnOk P w K mg base CX0 2 T.f_w_words T.d_w_words ["dice", "many"] (sp_w_words K) := ok_w_words T
  have G_is_fitting : FnOk P w K mg base CX0 7 T.f_is_fitting T.d_is_fitting ["loop", "interval", "value"] (sp_is_fitting K U.C L.C) := ok_is_fitting T L
  refine T.F_w_case.ok sc_w_case (fun vs H Q E h => ?_) (fun cdv A outer s H vs Q E hr h => ?_)
  · obtain ⟨r, rfl, _⟩ := h
    rfl
  · obtain ⟨r, rfl, R, hT, k⟩ := h
    have hu := hu_of hr
    have hr_w_arcs : Room 4 _ := hr.mono (by decide)
    have hr_w_fitting : Room 1 _ := hr.mono (by decide)
    have hr_w_is_met : Room 8 _ := hr.mono (by decide)
    have hr_w_is_spoilt : Room 10 _ := hr.mono (by decide)
    have hr_w_loop : Room 10 _ := hr.mono (by decide)
    have hr_w_next : Room 1 _ := hr.mono (by decide)
    have hr_w_rows : Room 3 _ := hr.mono (by decide)
    have hr_w_rules : Room 3 _ := hr.mono (by decide)
    have hr_w_words : Room 2 _ := hr.mono (by decide)
    have hr_is_fitting : Room 7 _ := hr.mono (by decide)
    refine ⟨_, (pss_cons (ps_set (i := 1) sc_w_case.nd rfl (Or.inl rfl) (pe_ix ix_seq (pe_lst (pa_cons pe_int (pa_cons pe_int (pa_cons pe_int (pa_cons pe_int (pa_cons pe_int pa_nil)))))) (pe_call G_w_next hr_w_next rfl T.m_w_next T.F_w_next.kp T.b_w_next .nil pass0 (pa_cons (pv 0) (pa_cons pe_int pa_nil))) (fun _ _ => rfl)))
      (pss_cons (ps_set (i := 2) sc_w_case.nd rfl (Or.inl rfl) (pe_call G_w_words hr_w_words rfl T.m_w_words T.F_w_words.kp T.b_w_words .nil pass0 (pa_cons (pv 0) (pa_cons (pe_op op_add (pv 1) pe_int) pa_nil))))
      (pss_cons (ps_par (i := 3) (j := 4) (by rfl) sc_w_case.nd rfl rfl (by decide) rfl rfl (pa_cons (pe_slice sl_list (pv 2) po_none (po_some (pv 1))) (pa_cons (pe_op op_add pe_int (pe_call G_w_next hr_w_next rfl T.m_w_next T.F_w_next.kp T.b_w_next .nil pass0 (pa_cons (pv 0) (pa_cons pe_int pa_nil)))) pa_nil)) (by rfl))
      (pss_cons (ps_par (i := 5) (j := 6) (by rfl) sc_w_case.nd rfl rfl (by decide) rfl rfl (pa_cons (pe_call G_w_rows hr_w_rows rfl T.m_w_rows T.F_w_rows.kp T.b_w_rows .nil pass0 (pa_cons (pv 0) (pa_cons (pv 3) (pa_cons (pe_lst pa_nil) pa_nil)))) (pa_cons (pe_call G_w_rules hr_w_rules rfl T.m_w_rules T.F_w_rules.kp T.b_w_rules .nil pass0 (pa_cons (pv 0) (pa_cons (pv 3) (pa_cons pe_int pa_nil)))) pa_nil)) (by rfl))
      (pss_cons (ps_par (i := 7) (j := 8) (by rfl) sc_w_case.nd rfl rfl (by decide) rfl rfl (pa_cons (pe_call G_w_loop hr_w_loop rfl T.m_w_loop T.F_w_loop.kp T.b_w_loop .nil pass0 (pa_cons (pv 5) (pa_cons (pv 6) pa_nil))) (pa_cons (pe_call G_w_arcs hr_w_arcs rfl T.m_w_arcs T.F_w_arcs.kp T.b_w_arcs .nil pass0 (pa_cons (pv 5) (pa_cons (pv 6) pa_nil))) pa_nil)) (by rfl))
      (pss_cons (ps_set (i := 9) sc_w_case.nd rfl (Or.inl rfl) (pe_callTy (call_dictP rfl) (by rfl) T.z_dict (by decide +kernel) (pa_cons (pe_lc (own := [("name", 12)]) (g := gName 12) rfl sc_w_case.nd (pi_list (pv 3)) (blkOk_by (N := ["dice", "many", "pool", "names", "interval", "rows", "rules", "loop", "arcs", "near", "wide", "fit", "name", "by", "moved"]) (sc := defScope s_w_case) (by decide +kernel)) (fun _ _ _ _ _ => (pg_name (i := 12) sc_w_case.nd rfl (Or.inl rfl))) (fun _ _ _ _ _ => pts_nil) (fun _ _ _ _ _ => (pe_tup (pa_cons (pv 12) (pa_cons (pe_call G_w_next hr_w_next rfl T.m_w_next T.F_w_next.kp T.b_w_next .nil pass0 (pa_cons (pv 0) (pa_cons pe_int pa_nil))) pa_nil))))) pa_nil)))
      (pss_cons (ps_set (i := 10) sc_w_case.nd rfl (Or.inl rfl) (pe_callTy (call_dictP rfl) (by rfl) T.z_dict (by decide +kernel) (pa_cons (pe_lc (own := [("name", 12)]) (g := gName 12) rfl sc_w_case.nd (pi_list (pv 3)) (blkOk_by (N := ["dice", "many", "pool", "names", "interval", "rows", "rules", "loop", "arcs", "near", "wide", "fit", "name", "by", "moved"]) (sc := defScope s_w_case) (by decide +kernel)) (fun _ _ _ _ _ => (pg_name (i := 12) sc_w_case.nd rfl (Or.inl rfl))) (fun _ _ _ _ _ => pts_nil) (fun _ _ _ _ _ => (pe_tup (pa_cons (pv 12) (pa_cons (pe_call G_w_next hr_w_next rfl T.m_w_next T.F_w_next.kp T.b_w_next .nil pass0 (pa_cons (pv 0) (pa_cons (pe_op op_add (pe_op op_pow pe_int pe_int) pe_int) pa_nil))) pa_nil))))) pa_nil)))
      (pss_cons (ps_if (PW.pt (pw_or (pt_not (pt_val (pe_call G_w_is_met hr_w_is_met rfl T.m_w_is_met T.F_w_is_met.kp T.b_w_is_met .nil pass0 (pa_cons (pv 7) (pa_cons (pv 8) (pa_cons (pv 4) (pa_cons (pv 9) pa_nil))))))) (pw_or1 (pt_not (pt_val (pe_call G_w_is_met hr_w_is_met rfl T.m_w_is_met T.F_w_is_met.kp T.b_w_is_met .nil pass0 (pa_cons (pv 7) (pa_cons (pv 8) (pa_cons (pv 4) (pa_cons (pv 10) pa_nil))))))))))
      (pss_one (ps_ret pe_bl))
      pss_nil)
      (pss_cons (ps_par (i := 11) (j := 12) (by rfl) sc_w_case.nd rfl rfl (by decide) rfl rfl (pa_cons (pe_call G_w_fitting hr_w_fitting rfl T.m_w_fitting T.F_w_fitting.kp T.b_w_fitting .nil pass0 (pa_cons (pv 8) (pa_cons (pv 4) (pa_cons (pv 9) pa_nil)))) (pa_cons (pe_ix ix_seq (pv 3) (pe_call G_w_next hr_w_next rfl T.m_w_next T.F_w_next.kp T.b_w_next .nil pass0 (pa_cons (pv 0) (pa_cons (pv 1) pa_nil))) (fun _ _ => rfl)) pa_nil)) (by rfl))
      (pss_cons (ps_if (pt_cmpR op_notN (pv 11) pe_non (nomark _))
      (pss_cons (ps_if (PW.pt (pw_or (pt_cmpR op_isnot_bl (pe_call G_is_fitting hr_is_fitting rfl T.m_is_fitting T.F_is_fitting.kp T.b_is_fitting .nil pass0 (pa_cons (pv 7) (pa_cons (pv 4) (pa_cons (pe_callTy call_dictD (by rfl) T.z_dict (by decide +kernel) (pa_cons (pv 11) pa_nil)) pa_nil)))) pe_bl (nomark _)) (pw_or1 (pt_not (pt_val (pe_call G_w_is_met hr_w_is_met rfl T.m_w_is_met T.F_w_is_met.kp T.b_w_is_met .nil pass0 (pa_cons (pv 7) (pa_cons (pv 8) (pa_cons (pv 4) (pa_cons (pv 11) pa_nil))))))))))
      (pss_one (ps_ret pe_bl))
      pss_nil)
      (pss_one (ps_for PassesOwn.never rfl (pi_tup (pe_tup (pa_cons (pe_un un_neg pe_int) (pa_cons pe_int pa_nil)))) (pg_name (i := 13) sc_w_case.nd rfl (Or.inl rfl))
      (pss_cons (ps_set (i := 14) sc_w_case.nd rfl (Or.inl rfl) (pe_callTy call_dictD (by rfl) T.z_dict (by decide +kernel) (pa_cons (pv 11) pa_nil)))
      (pss_cons (ps_dput (by exact hu) (pv 14) (pv 12) (pe_callB (call_max2 rfl) (by rfl) T.z_max (by decide +kernel) (pa_cons pe_int (pa_cons (pe_op op_add (pe_dget (by exact hu) (pv 14) (pv 12) (fun _ _ => rfl)) (pv 13)) pa_nil))) rfl)
      (pss_one (ps_if (pt_not (pt_val (pe_call G_w_is_met hr_w_is_met rfl T.m_w_is_met T.F_w_is_met.kp T.b_w_is_met .nil pass0 (pa_cons (pv 7) (pa_cons (pv 8) (pa_cons (pv 4) (pa_cons (pv 14) pa_nil)))))))
      (pss_one (ps_ret pe_bl))
      pss_nil)))))))
      pss_nil)
      (pss_one (ps_ret (pe_call G_w_is_spoilt hr_w_is_spoilt rfl T.m_w_is_spoilt T.F_w_is_spoilt.kp T.b_w_is_spoilt .nil pass0 (pa_cons (pv 7) (pa_cons (pv 4) (pa_cons (pv 10) (pa_cons (pv 12) (pa_cons (pe_ix ix_seq (pv 2) (pv 1) (fun _ _ => rfl)) pa_nil)))))))))))))))))), ?_⟩
    have nP : ∀ {G : Hp} {a : Addr}, Dl G r → G a = none → a ≠ r := fun RG h => RG.off h
    refine ⟨by show 5 ≤ sizeLine; decide, fun p hp => ?_⟩
    have npr := R.off hp
    have R0 : Dl (upd H p (.lst [.int 1, .int 2, .int 3, .int 4, .int 8])) r := R.put npr
    refine ⟨_, rfl, r, 5, rfl, R0, by decide, by decide, fun o G1 o0 o1 R1 O1 => ?_⟩
    obtain ⟨many, m1, m8, eo⟩ := pick5 o0 o1
    have OH1 : Only r H G1 := Only.trans (Only.new hp) O1
    refine .inl ⟨p, _, o, .int (many : Int), rfl, rfl, SqL.of (O1 _ _ npr upd_same), eo, ?_⟩
    clear O1 R0 hp npr eo
    refine ⟨_, rfl, _, rfl, _, _, rfl, rfl, r, many + 1, rfl, R1, by omega, fun pl pn G2 R2 O2 hpl epl ndp lp nmp => ?_⟩
    have plr := R1.off hpl
    have OH2 := Only.trans OH1 O2
    refine ⟨_, rfl, _, rfl, (many : Int), rfl, pl, _, rfl, SqL.of epl, fun nl hnl => ?_⟩
    rw [cut_take (by rw [List.length_map]; omega)]
    have nlr := R2.off hnl
    have enl : (upd G2 nl (.lst ((pn.map V.str).take many))) nl = some (.lst ((pn.take many).map V.str)) := by rw [upd_same, List.map_take]
    have R3 : Dl (upd G2 nl (.lst ((pn.map V.str).take many))) r := R2.put nlr
    have O3 : Only r G2 (upd G2 nl (.lst ((pn.map V.str).take many))) := Only.new hnl
    generalize upd G2 nl (.lst ((pn.map V.str).take many)) = G3 at enl R3 O3 ⊢
    have OH3 := Only.trans OH2 O3
    have epl3 := O3 _ _ plr epl
    refine ⟨_, rfl, r, 32, rfl, R3, by decide, by decide, fun v G4 v0 v1 R4 O4 => ?_⟩
    refine ⟨_, _, rfl, rfl, .ref nl, .int (1 + v), rfl, ?_⟩
    obtain ⟨iv, eiv⟩ : ∃ iv : Int, iv = 1 + v := ⟨_, rfl⟩
    rw [← eiv]
    have i1 : 1 ≤ iv := by omega
    have i2 : iv ≤ 32 := by omega
    have enl4 := O4 _ _ nlr enl
    have epl4 := O4 _ _ plr epl3
    have OH4 := Only.trans OH3 O4
    clear enl R3 O3 O4 epl epl3 R2 O2 OH3 OH2 OH1 R1 hpl hnl eiv v0 v1
    generalize hns : pn.take many = ns at enl4
    have lns : ns.length = many := by rw [← hns, List.length_take]; omega
    have ndn : ns.Nodup := by rw [← hns]; exact (List.take_sublist _ _).nodup ndp
    have nmn : ∀ n ∈ ns, nmC n = true := fun n hn => nmp n (List.mem_of_mem_take (hns ▸ hn))
    obtain ⟨sp, esp⟩ : ∃ sp, pn[many]? = some sp := ⟨pn[many]'(by omega), List.getElem?_eq_getElem (by omega)⟩
    have nsp : sp ∉ ns := by
      have e : pn.take (many + 1) = ns ++ [sp] := by rw [List.take_add_one, esp, hns]; rfl
      have e2 := (List.take_sublist (many + 1) pn).nodup ndp
      rw [e] at e2
      exact fun h => (List.nodup_append.mp e2).2.2 sp h sp (List.mem_singleton.mpr rfl) rfl
    have l1 : 1 ≤ ns.length := by omega
    have l8 : ns.length ≤ 8 := by omega
    refine ⟨_, rfl, _, rfl, by show 0 ≤ sizeLine; decide, fun u hu1 => ?_⟩
    have nur := R4.off hu1
    refine ⟨r, nl, u, ns, rfl, R4.put nur, (upd_ne (ne_of_none enl4 hu1)).trans enl4, nlr, l1, l8, nmn, upd_same, fun rl D G5 R5 O5 hrl erl hD nD rD => ?_⟩
    have nrlr : rl ≠ r := (R4.put nur : Dl (upd G4 u (.lst [])) r).off hrl
    have O45 : Only r G4 G5 := Only.trans (Only.new hu1) O5
    have enl5 := O45 _ _ nlr enl4
    have epl5 := O45 _ _ plr epl4
    have OH5 := Only.trans OH4 O45
    refine ⟨_, rfl, _, rfl, r, nl, ns, 8, rfl, R5, enl5, nlr, l1, l8, by decide, fun rt os G6 R6 O6 ro lo bo asc => ?_⟩
    refine ⟨_, _, rfl, ?_⟩
    have enl6 := O6 _ _ nlr enl5
    have epl6 := O6 _ _ plr epl5
    have erl6 := O6 _ _ nrlr erl
    have hD6 : ∀ m ∈ D, DRow K G6 m.1 m.2 := fun m hm => (hD m hm).nol (R5.nol O6)
    have OH6 := Only.trans OH5 O6
    have lok := plain_ok ndn l1 l8 nD rD lo bo asc
    clear enl5 epl5 erl hD OH5 O6 O45 O5 hrl hu1 enl4 epl4 OH4 R5 R4
    refine ⟨_, rfl, _, rfl, rl, rt, D, os, rfl, erl6, hD6, ro, lok, fun q N G7 S7 pm lp => ?_⟩
    have hD7 : ∀ m ∈ D, DRow K G7 m.1 m.2 := fun m hm => (hD6 m hm).same S7
    refine ⟨_, rfl, _, rfl, rl, rt, D, os, rfl, S7 _ _ erl6, hD7, ro.same S7, lok, fun al as G8 S8 ba srtD a32 => ?_⟩
    refine ⟨_, _, rfl, ?_⟩
    have S68 := Same.trans S7 S8
    have srt := srt_rows pm lok.nd lok.rd srtD
    have pmn : ns.Perm (nms N) := by rw [← nD]; exact (nms_perm pm).symm
    have lp8 := lp.same S8
    have enl8 := S68 _ _ enl6
    have epl8 := S68 _ _ epl6
    have R8 := R6.same S68
    have OH8 : Only r H G8 := Only.trans OH6 (fun b o _ e => S68 b o e)
    have alr : al ≠ r := fun z => by
      obtain ⟨ms, e, _⟩ := ba
      obtain ⟨a, b, c, _, e2⟩ := R8
      rw [z, e2] at e
      cases ms with
      | nil => cases e
      | cons m ms => cases e
    clear hD7 hD6 erl6 S68 S7 S8 OH6 epl6 enl6 R6 lp ro
    have bc : ∀ o ∈ as, OdOk (nms N) o := (lp8.arcs srt).2
    have aok : ∀ o ∈ as, OdOk ns o := fun o ho => ⟨pmn.mem_iff.mpr (bc o ho).s, pmn.mem_iff.mpr (bc o ho).t, (bc o ho).d, (bc o ho).e⟩
    have dict_of : ∀ {G : Hp} {ts : List Mm} {val : Str → Int}, MsN G ts → ts.map (·.2) = ns.map (fun n => [Sum.inr n, Sum.inl (val n)]) → Paired (fun p kv => SqT K G p [kV kv.1, kv.2]) (ts.map (·.1)) (Vls ns val) ∧ mergeK [] (Vls ns val) = Vls ns val := fun {G ts val} h1 h2 =>
      ⟨pairs_of (K := K) (a := fun n : Str => n) (b := val) h1 h2, mergeK_nd _ [] (by
        rw [List.nil_append, vls_keys]
        exact List.pairwise_map.mpr (List.Pairwise.imp (fun {a b} h e => h (Sum.inr.inj e)) ndn))⟩
    refine ⟨_, rfl, nl, rfl, ⟨_, SqL.of enl8⟩, fun D1 hD1 => ?_⟩
    refine lc_draw (names := ns) (walk_list (K := K) (a := nl)) 13 ndn l8 R8 (fun H' O => SqL.of (O _ _ nlr enl8)) hD1 ?_ ?_
    · intro n G OG RG C Nn post
      refine ⟨rfl, ?_⟩
      refine yesT (iteT ?_)
      refine ⟨_, rfl, _, rfl, r, 13, rfl, RG, by decide, by decide, fun v G' v0 v1 RG' OG' => ⟨by show 2 ≤ sizeLine; decide, fun t ht => ?_⟩⟩
      exact post t v _ v0 v1 (Only.trans OG' (Only.new ht)) (RG'.put (RG'.off ht)) upd_same
    intro G9 ts1 v1 O9 R9 eD1 hts1 ets1 hv1
    obtain ⟨tp1, mk1⟩ := dict_of hts1 ets1
    refine ⟨D1, ts1.map (fun m : Mm => m.1), Vls ns v1, rfl, SqL.of (by rw [eD1, mrefs_ref]), tp1, fun z1 hz1 => ?_⟩
    rw [mk1]
    have hz1r := R9.off hz1
    have R10 : Dl (upd G9 z1 (.dK (Vls ns v1))) r := R9.put hz1r
    have O10 : Only r G8 (upd G9 z1 (.dK (Vls ns v1))) := Only.trans O9 (Only.new hz1)
    have sz1 : (upd G9 z1 (.dK (Vls ns v1))) z1 = some (.dK (Vls ns v1)) := upd_same
    generalize upd G9 z1 (.dK (Vls ns v1)) = G10 at R10 O10 sz1 ⊢
    clear hz1 tp1 mk1 ets1 hts1 eD1 R9 O9 hD1
    have enl10 := O10 _ _ nlr enl8
    refine ⟨_, rfl, nl, rfl, ⟨_, SqL.of enl10⟩, fun D1 hD1 => ?_⟩
    refine lc_draw (names := ns) (walk_list (K := K) (a := nl)) (10 ^ (6 : Int).toNat + 1) ndn l8 R10 (fun H' O => SqL.of (O _ _ nlr enl10)) hD1 ?_ ?_
    · intro n G OG RG C Nn post
      refine ⟨rfl, ?_⟩
      refine yesT (iteT ?_)
      refine ⟨_, rfl, _, rfl, _, _, rfl, rfl, ⟨by decide, by decide, by decide⟩, _, _, rfl, rfl, r, 10 ^ (6 : Int).toNat + 1, rfl, RG, by decide, by decide, fun v G' v0 v1 RG' OG' => ⟨by show 2 ≤ sizeLine; decide, fun t ht => ?_⟩⟩
      exact post t v _ v0 v1 (Only.trans OG' (Only.new ht)) (RG'.put (RG'.off ht)) upd_same
    intro G9 ts2 v2 O9 R9 eD1 hts1 ets1 hv2
    obtain ⟨tp1, mk1⟩ := dict_of hts1 ets1
    refine ⟨D1, ts2.map (fun m : Mm => m.1), Vls ns v2, rfl, SqL.of (by rw [eD1, mrefs_ref]), tp1, fun z2 hz2 => ?_⟩
    rw [mk1]
    have hz2r := R9.off hz2
    have R11 : Dl (upd G9 z2 (.dK (Vls ns v2))) r := R9.put hz2r
    have O11 : Only r G10 (upd G9 z2 (.dK (Vls ns v2))) := Only.trans O9 (Only.new hz2)
    have sz2 : (upd G9 z2 (.dK (Vls ns v2))) z2 = some (.dK (Vls ns v2)) := upd_same
    generalize upd G9 z2 (.dK (Vls ns v2)) = G11 at R11 O11 sz2 ⊢
    clear hz2 tp1 mk1 ets1 hts1 eD1 R9 O9 hD1
    have O8 := Only.trans O10 O11
    have enl := O8 _ _ nlr enl8
    have epl := O8 _ _ plr epl8
    have lpa := lp8.nol (R8.nol O8)
    have baa := ba.only O8 R8 alr
    have OH := Only.trans OH8 O8
    have st1 : Sts G11 z1 N ns v1 := ⟨O11 _ _ hz1r sz1, pmn, fun n hn => by have := hv1 n hn; omega⟩
    have st2 : Sts G11 z2 N ns v2 := ⟨sz2, pmn, fun n hn => by
      have := hv2 n hn
      rw [show ((10 : Int) ^ (6 : Int).toNat + 1) = 1000001 by decide] at this
      omega⟩
    clear O8 O10 O11 sz1 sz2 enl10 enl8 epl8 lp8 ba R8 R10 OH8 hv2
    refine ⟨_, rfl, _, rfl, _, rfl, _, rfl, q, al, z1, iv, N, os, as, ns, v1, rfl, i1, i2, lpa, srt, baa, st1, fun G12 S12 => ?_⟩
    refine ⟨_, rfl, iteF ?_⟩
    refine ⟨_, rfl, _, rfl, _, rfl, _, rfl, q, al, z2, iv, N, os, as, ns, v2, rfl, i1, i2, lpa.same S12, srt, baa.same S12, st2.same S12, fun G13 S13 => ?_⟩
    refine ⟨_, rfl, iteF ?_⟩
    have S := Same.trans S12 S13
    have hTG := tabs_only hT R OH
    have R13 := R11.same S
    have epl13 := S _ _ epl
    have enl13 := S _ _ enl
    have S11 : Only r G11 G13 := fun b o _ e => S b o e
    have fin : ∀ (G : Hp) (z : Str), Only r G11 G → z ∈ ns → sp_w_is_spoilt K U.C L.C P1 [.ref q, .int iv, .ref z2, .str z, .str sp] G Q E0 := fun G z O hz =>
      ⟨q, z2, iv, z, sp, N, os, ns, v2, rfl, i1, i2, lpa.nol (R11.nol O), st2.only R11 O, hz, nsp, tabs_only hTG R11 O, fun M X TM => k M (fun b o nb e nt => X b o (O b o nb (OH b o nb e)) nt) TM⟩
    have lgm : ((many : Nat) : Int).natAbs.log2 < 9000 := Nat.lt_trans (lg (b := 63) (by omega) (by omega) (by decide)) (by decide)
    have at_ : ∀ {o : Int}, 0 ≤ o → o < ((many : Nat) : Int) → ∃ z, z ∈ ns ∧ atI (ns.map V.str) o = some (.str z) := fun {o} o0 o1 => by
      have hj : o.toNat < ns.length := by omega
      obtain ⟨z, ez⟩ : ∃ z, ns[o.toNat]? = some z := ⟨_, List.getElem?_eq_getElem hj⟩
      refine ⟨z, List.mem_of_getElem? ez, ?_⟩
      have h3 : ((o.toNat : Nat) : Int) = o := Int.toNat_of_nonneg o0
      rw [← h3]
      exact atI_nat (by rw [List.getElem?_map, ez]; rfl)
    have atp : atI (pn.map V.str) ((many : Nat) : Int) = some (.str sp) := atI_nat (by rw [List.getElem?_map, esp]; rfl)
    refine ⟨_, rfl, _, rfl, _, rfl, al, z1, iv, ns, as, v1, rfl, i1, i2, baa.same S, aok, a32, ndn, l8, (st1.same S).d, fun n hn => by have := hv1 n hn; omega, fun G14 S14 => ?_, fun f vf G14 S14 sf sp0 vb => ?_⟩
    · have R14 := R13.same S14
      refine ⟨_, rfl, _, rfl, _, rfl, r, (many : Int), rfl, R14, by omega, lgm, fun o G15 o0 o1 R15 O15 => ?_⟩
      obtain ⟨z, hz, ez⟩ := at_ o0 o1
      have O11 : Only r G11 G15 := Only.trans S11 (Only.trans (fun b o _ e => S14 b o e) O15)
      refine .inl ⟨nl, _, o, .str z, rfl, rfl, SqL.of (O11 _ _ nlr enl), ez, ?_⟩
      refine ⟨.non, .str z, rfl, ?_⟩
      refine ⟨_, rfl, rfl, _, rfl, iteF ?_⟩
      refine ⟨_, rfl, _, rfl, _, rfl, _, rfl, _, rfl, _, rfl, .inl ⟨pl, _, (many : Int), .str sp, rfl, rfl, SqL.of (O11 _ _ plr epl), atp, ?_⟩⟩
      exact fin G15 z O11 hz
    · have R14 := R13.same S14
      refine ⟨_, rfl, _, rfl, _, rfl, r, (many : Int), rfl, R14, by omega, lgm, fun o G15 o0 o1 R15 O15 => ?_⟩
      obtain ⟨z, hz, ez⟩ := at_ o0 o1
      have O11 : Only r G11 G15 := Only.trans S11 (Only.trans (fun b o _ e => S14 b o e) O15)
      refine .inl ⟨nl, _, o, .str z, rfl, rfl, SqL.of (O11 _ _ nlr enl), ez, ?_⟩
      refine ⟨.ref f, .str z, rfl, ?_⟩
      refine ⟨_, rfl, rfl, _, rfl, iteT ?_⟩
      have stf : Sts G15 f N ns vf := ⟨R14.nol O15 _ _ sf (by intro _ z; cases z), pmn, fun n hn => by have := vb n hn; omega⟩
      have lp15 := lpa.nol (R11.nol O11)
      have ba15 := baa.only O11 R11 alr
      have eall : ((as.map (spare iv vf)).all fun s => decide (0 ≤ s)) = true := by
        rw [List.all_eq_true]
        intro s hs
        obtain ⟨x, hx, rfl⟩ := List.mem_map.mp hs
        exact decide_eq_true (sp0 x hx)
      refine ⟨_, rfl, _, rfl, _, rfl, f, _, rfl, .inl stf.d, fun y hy => ?_⟩
      have Sy : Same G15 (upd G15 y (.dK (Vls ns vf))) := Same.new hy
      have sty : Sts (upd G15 y (.dK (Vls ns vf))) y N ns vf := ⟨upd_same, stf.p, stf.v⟩
      refine ⟨q, iv, N, os, .ref y, rfl, i1, i2, lp15.same Sy, .inl ⟨y, as, vf, rfl, srt, sty.at_, fun G16 S16 => ?_⟩⟩
      rw [eall]
      refine ⟨_, _, rfl, rfl, _, rfl, iteF ?_⟩
      have S16 := Same.trans Sy S16
      refine ⟨_, rfl, _, rfl, _, rfl, _, rfl, q, al, f, iv, N, os, as, ns, vf, rfl, i1, i2, lp15.same S16, srt, ba15.same S16, stf.same S16, fun G17 S17 => ?_⟩
      refine ⟨_, rfl, iteF ?_⟩
      have S17 := Same.trans S16 S17
      refine ⟨_, rfl, by show 2 ≤ sizeLine; decide, fun tp htp => ?_⟩
      have S18 := Same.trans S17 (Same.new (o := .tup [.int (-1), .int 1]) htp)
      have etp : (upd G17 tp (.tup [.int (-1), .int 1])) tp = some (.tup [.int (-1), .int 1]) := upd_same
      refine ⟨tp, rfl, ⟨[.int (-1), .int 1], SqT.of etp⟩, ?_⟩
      have O18 : Only r G11 (upd G17 tp (.tup [.int (-1), .int 1])) := Only.trans O11 (fun b o _ e => S18 b o e)
      have sf18 := (stf.same S18).d
      have R18 := R15.same S18
      have tpr : tp ≠ r := (R15.same S17).off htp
      have fr : f ≠ r := fun z => by
        obtain ⟨a, b, c, _, e⟩ := R18
        rw [← z] at e
        have h : some (HO.dK (Vls ns vf)) = some (HO.lst [.int a, .int b, .int c]) := sf18.symm.trans e
        cases h
      refine for_it (walk_tup (K := K) (a := tp) (xs := [.int (-1), .int 1])) (fun i σ G => ∃ v13 v14, σ = [some (.ref r), some (.int (many : Int)), some (.ref pl), some (.ref nl), some (.int iv), some (.ref rl), some (.ref rt), some (.ref q), some (.ref al), some (.ref z1), some (.ref z2), some (.ref f), some (.str z), v13, v14] ∧ Only r G11 G ∧ StD G f ns vf ∧ G tp = some (.tup [.int (-1), .int 1]))
        ⟨none, none, rfl, O18, sf18, etp⟩ (fun i σ G _ ⟨_, _, _, _, _, e⟩ => SqT.of e) ?_ ?_
      · rintro i x σ Ga Gb hi ⟨v13, v14, rfl, Oa, sfa, etpa⟩ ⟨rfl, hx⟩
        obtain ⟨b, rfl, hb⟩ : ∃ b : Int, x = .int b ∧ (b = -1 ∨ b = 1) := by
          have := List.mem_of_getElem? hx
          simp only [List.mem_cons, List.not_mem_nil, or_false] at this
          rcases this with rfl | rfl
          · exact ⟨_, rfl, .inl rfl⟩
          · exact ⟨_, rfl, .inr rfl⟩
        refine ⟨_, rfl, f, _, rfl, .inl sfa, fun y hy => ?_⟩
        have sy : StD (upd Gb y (.dK (Vls ns vf))) y ns vf := upd_same
        refine ⟨_, rfl, _, rfl, y, _, rfl, sy.at_ hz, _, rfl, _, _, rfl, rfl, _, _, rfl, ?_⟩
        refine ⟨_, rfl, _, rfl, y, _, rfl, DPut.k (k := Sum.inr z) sy (by rw [vls_len, sizeLine_eq]; omega), ?_⟩
        rw [put_vls hz]
        have hvz := vb z hz
        obtain ⟨X, hX, x1, x2⟩ : ∃ X : Int, X = (if vf z + b > 0 then vf z + b else 0) ∧ 0 ≤ X ∧ X ≤ 2001 := by
          refine ⟨_, rfl, ?_, ?_⟩
          · split <;> omega
          · rcases hb with rfl | rfl <;> split <;> omega
        rw [← hX]
        have sm : (upd (upd Gb y (.dK (Vls ns vf))) y (.dK (Vls ns fun m => if m = z then X else vf m))) y = some (.dK (Vls ns fun m => if m = z then X else vf m)) := upd_same
        have Om : Only r Gb (upd (upd Gb y (.dK (Vls ns vf))) y (.dK (Vls ns fun m => if m = z then X else vf m))) := fun c o nc e => by
          have ncy := ne_of_none e hy
          rw [upd_ne ncy, upd_ne ncy]
          exact e
        generalize upd (upd Gb y (.dK (Vls ns vf))) y (.dK (Vls ns fun m => if m = z then X else vf m)) = Gm at sm Om ⊢
        have Oam := Only.trans Oa Om
        have stm : Sts Gm y N ns (fun m => if m = z then X else vf m) := ⟨sm, pmn, fun n hn => by
          show 0 ≤ (if n = z then X else vf n) ∧ (if n = z then X else vf n) ≤ 1000000
          have := vb n hn
          split <;> omega⟩
        refine ⟨_, rfl, _, rfl, _, rfl, _, rfl, q, al, y, iv, N, os, as, ns, _, rfl, i1, i2, lpa.nol (R11.nol Oam), srt, baa.only Oam R11 alr, stm, fun G' S' => ?_⟩
        refine ⟨_, rfl, iteF ?_⟩
        exact ⟨_, _, rfl, Only.trans Oam (fun c o _ e => S' c o e), S' _ _ (Om _ _ fr sfa), S' _ _ (Om _ _ tpr etpa)⟩
      · rintro σ G ⟨v13, v14, rfl, Oa, sfa, etpa⟩
        refine ⟨_, rfl, _, rfl, _, rfl, _, rfl, _, rfl, _, rfl, .inl ⟨pl, _, (many : Int), .str sp, rfl, rfl, SqL.of (Oa _ _ plr epl), atp, ?_⟩⟩
        exact fin G z Oa hz
end
end K14
namespace K14
open PySem L2
open PyProof.Rows PySem.Spec
section
variable {P : Program} {w : World} {K : PySem.W.Frag}
                                                      {mg : Str → Option Value} {base : Heap}
theorem kb_tr (U : UX K mg) : ∃ mv : List Value, KBn K U.dI ["self", "name", "ticks", "reads", "uses"] 2 ["ticks", "reads"] (fun us ws => us ++ (ws ++ mv)) (fun vs zs => vs ++ (zs ++ [.ref U.u0])) :=
  U.FI.kbinds0 2 ["ticks", "reads"] [("uses", .ref U.u0)] (fun vs mz zs => vs ++ (zs ++ mz)) (by simp) (by simp) (fun a b c => a.append (c.append b)) fun D doc pm an cdv ct us mv ws l1 l2 l3 => by
    match us, mv, ws, l1, l2, l3 with
    | [_, _], [_], [_, _], _, _, _ => exact ⟨_, _, _, _, _, _, rfl, rfl, rfl⟩
theorem kb_r (U : UX K mg) : ∃ mv : List Value, KBn K U.dI ["self", "name", "ticks", "reads", "uses"] 2 ["reads"] (fun us ws => us ++ (mv.take 1 ++ (ws ++ mv.drop 1))) (fun vs zs => vs ++ ([.int 1] ++ (zs ++ [.ref U.u0]))) :=
  U.FI.kbinds0 2 ["reads"] [("ticks", .int 1), ("uses", .ref U.u0)] (fun vs mz zs => vs ++ (mz.take 1 ++ (zs ++ mz.drop 1))) (by simp) (by simp) (fun a b c => a.append ((b.take 1).append (c.append (b.drop 1)))) fun D doc pm an cdv ct us mv ws l1 l2 l3 => by
    match us, mv, ws, l1, l2, l3 with
    | [_, _], [_, _], [_], _, _, _ => exact ⟨_, _, _, _, _, _, rfl, rfl, _, _, _, _, _, _, rfl, rfl, rfl⟩
/-- the maker of loops, its orders left out -/
structure LD (K : PySem.W.Frag) (mg : Str → Option Value) (L : UL K mg) where
  o : Addr
  no : Nul K o
  FD : FunD K "__init__" "Loop.__init__" (defArgs s_Loop_init) (defBody s_Loop_init) (defScope s_Loop_init) [] [("orders", .ref o)] L.fI L.dI
theorem linit_bind (Dk : Addr) (a v : Value) (rest : List Value) (doc pm : Value) (an : Option Addr) (cdv ct : Value) : ∃ (β γ : Type) (k1 : Option Value → Sem β) (k2 : β → Sem γ) (k3 : γ → Sem (List (Str × Value))) (a' : β),
    bindArgs (PySem.W.fnOf "__init__" "Loop.__init__" (defArgs s_Loop_init) (defBody s_Loop_init) (defScope s_Loop_init) .none (.ref Dk) doc pm an cdv ct) ⟨a :: rest, []⟩ = ((nsGet Dk "orders" >>= k1) >>= k2) >>= k3 ∧ k1 (some v) = pure a' ∧
      (k2 a' >>= k3) = (newTuple rest >>= fun t => (pure ([("self", a), ("orders", v), ("operations", t)] : List (Str × Value)) : Sem (List (Str × Value)))) := by
  cases rest <;> exact ⟨_, _, _, _, _, _, rfl, rfl, rfl⟩
theorem linit_kw0 (T : T K mg) (U : UX K mg) (L : UL K mg) (Dd : LD K mg L) : SX.FnKw P w K mg base CX0 7 L.fI [] (fun vs zs H Q E => ∃ as rest, vs = as ++ rest ∧ as.length = 1 ∧ rest.length ≤ sizeLine ∧ ∀ p, H p = none → sp_linit K U.C L.C ((as ++ [V.ref Dd.o]) ++ [V.ref p]) (upd H p (.tup rest)) Q E) := by
  intro A outer s H us ws vs zs Q E hr e0 r rz lz hsp
  obtain ⟨as, rest, ev, hl, hz, hq⟩ := hsp
  subst ev
  obtain ⟨u1, u2, eu, r1, r2⟩ := StX.vals_split r
  subst eu
  obtain ⟨oc, od, dV, kV, doc, pm, an, cdv, ct, osl, e, lk, hcd, hD, hK⟩ := Dd.FD.ex
  rw [e] at lk
  rcases hD with ⟨_, rfl⟩ | ⟨e, _⟩
  · rcases hK with e | ⟨Dk, rfl, hk⟩
    · cases e
    · obtain ⟨uo, hns, ruo⟩ := hk ("orders", .ref Dd.o) (List.mem_singleton.mpr rfl)
      have hn : H s.heap.objs.size = Option.none := e0.hok.fresh
                                                                 (Nat.le_refl _)
      have KX : K.In s.heap := e0.mod.kin.keeps fun b o e =>
                                                             (e0.bs b o e).1
      have hl2 : u2.length ≤ sizeLine := by rw [← r2.length]; exact hz
      obtain ⟨a, rfl⟩ : ∃ a, u1 = [a] := by
        have := r1.length
        rw [hl] at this
        match u1, this with
        | [a], _ => exact ⟨a, rfl⟩
      refine StX.run_bnd lk hcd sc_linit hr e0 (G := fun xs H2 => ∃ p, H p = Option.none ∧ xs = (as ++ [V.ref Dd.o]) ++ [V.ref p] ∧ H2 = upd H p (.tup rest)) (fun A' Ex Q' h => ?_) fun s2 H2 xs ⟨p, hp, ex, eH⟩ hr' => ?_
      · obtain ⟨β, γ, k1, k2, k3, a', e1, e2, e3⟩ := linit_bind Dk a uo u2 doc pm an cdv ct
        have l1 : PySem.W.Looks (model P w) s.heap (nsGet Dk "orders" >>= k1) a' := (PySem.W.looks_nsIn KX hns).andThen (PySem.W.Looks.of_pure e2)
        show wpAny (model P w) A' (bindArgs (PySem.W.fnOf "__init__" "Loop.__init__" (defArgs s_Loop_init) (defBody s_Loop_init) (defScope s_Loop_init) .none (.ref Dk) doc pm an cdv ct) ⟨a :: u2, []⟩) Q' Ex s
        rw [e1, bind_assoc]
        refine wpAny_bind (l1 A' _ _ s (fun _ _ e => e) ?_)
        rw [e3]
        refine wpAny_bind (wpAny_newTuple (wpAny_pure ?_) hl2)
        have new : ObjOk P w (upd H s.heap.objs.size (.tup rest)) (s.heap.push
                                                                               ({ cls := .type "tuple", data := .seq u2.toArray } : Obj)) s.heap.objs.size (.tup rest) := ⟨hz, u2, r2, ⟨_, Heap.get?_push_size _ rfl, rfl, _, rfl⟩⟩
        have un := StX.un_laid (fs := frs outer) (s := s) (o := ({ cls := .type "tuple", data := .seq u2.toArray } : Obj)) (u := .tup rest) hn
        exact h _ _ ((as ++ [V.ref Dd.o]) ++ [V.ref s.heap.objs.size]) (([a] ++ [uo]) ++ [Value.ref s.heap.objs.size]) (StX.env0_laid e0 new) un rfl (fun e s' z => z) ((r1.append (.cons ruo .nil)).append (.cons rfl .nil))
          (by simp [hl]) ⟨_, hn, rfl, rfl⟩
      · subst ex eH
        exact linit_body T U L cdv A outer s2 _ _ Q E hr' (hq p hp)
  · exact absurd rfl e
end
end K14
namespace K14
open PySem L2
open PyProof.Rows PySem.Spec
/-- the two rows of the loop that the law draws by hand -/
abbrev RA : Rw := ⟨"a", 2, [("a", 1)], []⟩
abbrev RB : Rw := ⟨"b", 1, [("a", 0)], []⟩
abbrev AS : List Od := [("a", "a", 2, 1), ("a", "b", 2, 0)]
theorem ra_ok : RA.Ok := ⟨by decide +kernel, by decide, by decide, by decide, by decide +kernel, by decide, .nil⟩
theorem rb_ok : RB.Ok := ⟨by decide +kernel, by decide, by decide, by decide, by decide +kernel, by decide, .nil⟩
theorem ab_arcs (p1 p2 : Addr) : arcsOf [(p1, RA), (p2, RB)] [(p1, RA), (p2, RB)] = AS := by rfl
theorem ab_ok (p1 p2 : Addr) : LOk [(p1, RA), (p2, RB)] [] where
  l1 := by show 1 ≤ 2; decide
  l8 := by show 2 ≤ 8; decide
  nd := by
    show (["a", "b"] : List Str).Nodup
    decide +kernel
  rd := fun m hm p hp => by
    show p.1 ∈ (["a", "b"] : List Str)
    rcases List.mem_cons.mp hm with rfl | hm
    · rw [List.mem_singleton.mp hp]
      decide +kernel
    · rw [List.mem_singleton.mp hm] at hp
      rw [List.mem_singleton.mp hp]
      decide +kernel
  o8 := by decide
  ok := fun o ho => by cases ho
  asc := .nil
  rk := ⟨fun n => if n = "b" then 1 else 0, fun o ho h => by
    rw [List.append_nil, ab_arcs] at ho
    rcases List.mem_cons.mp ho with rfl | ho
    · cases h
    · rw [List.mem_singleton.mp ho]
      decide +kernel⟩
theorem ab_srt (p1 p2 : Addr) : KS.SrtK ((arcsOf [(p1, RA), (p2, RB)] [(p1, RA), (p2, RB)] ++ []).map oK) (AS.map oK) := by
  rw [List.append_nil, ab_arcs]
  refine ⟨.cons (fun b hb => ?_) (.cons (fun b hb => by cases hb) .nil), by decide +kernel, fun _ => Iff.rfl⟩
  rw [List.mem_singleton.mp hb, KS.kLt_row]
  decide +kernel
theorem rdsOf_nd {M N : List OM} (h : N.Perm M) : (N.map (·.2)).Perm (M.map (·.2)) := h.map _
/-- x for a, y for b -/
def two (x y : Int) : Str → Int := fun n => if n = "a" then x else y
theorem two_at {H : Hp} {d : Addr} {N : List OM} {p1 p2 : Addr} {kvs : List (Key × V)} {x y : Int} (pm : N.Perm [(p1, RA), (p2, RB)]) (hd : H d = some (.dK kvs)) (hl : kvs.length = 2) (ha : valV kvs (.inr "a") = some (.int x)) (hb : valV kvs (.inr "b") = some (.int y)) (bx : 0 ≤ x ∧ x ≤ 1000000) (by_ : 0 ≤ y ∧ y ≤ 1000000) : StAt H d (nms N) (two x y) := by
  have pn : (nms N).Perm ["a", "b"] := pm.map fun m : OM => m.2.n
  refine ⟨kvs, hd, by rw [hl, pn.length_eq]; rfl, fun n hn => ?_⟩
  rcases List.mem_cons.mp (pn.mem_iff.mp hn) with rfl | hn
  · have e : two x y "a" = x := if_pos rfl
    rw [e]
    exact ⟨ha, bx⟩
  · obtain rfl := List.mem_singleton.mp hn
    have e : two x y "b" = y := if_neg (by decide +kernel)
    rw [e]
    exact ⟨hb, by_⟩
theorem neD_same {K : PySem.W.Frag} {x y : V} {H : Hp} {Q : VK} {d : PyData} (hx : Dp K H x d) (hy : Dp K H y d) (s : SeqAt.shaped d = true) (k : Q (.bl false) H) : rNeD K x y H Q := by
  have c : d.canLay0 = true := by
    unfold SeqAt.shaped at s
    exact (Bool.and_eq_true_iff.mp s).1
  exact ⟨d, d, hx, hy, s, s, by rw [SeqAt.eqv_refl d c]; exact k⟩
theorem same_new2 {H : Hp} {d : Addr} {o1 o2 : HO} (h : H d = none) : Same H (upd (upd H d o1) d o2) := fun b u e => by
  rw [upd_ne (ne_of_none e h), upd_ne (ne_of_none e h)]
  exact e
theorem sp1 : AS.map (spare 2 (two 0 2)) = [0, 0] := by decide +kernel
theorem sp2 : AS.map (spare 1 (two 5 5)) = [-1, -2] := by decide +kernel
theorem sp3 : ((AS.map (spare 2 (two 0 2))).all fun s => decide (0 ≤ s)) = true := by decide +kernel
theorem sp4 : ((AS.map (spare 2 (two 1 2))).all fun s => decide (0 ≤ s)) = false := by decide +kernel
section
variable {P : Program} {w : World} {K : PySem.W.Frag}
                                                      {mg : Str → Option Value} {base : Heap}
/-- a list of at most 63 ints is handed in, True comes out -/
def sp_lawT (K : PySem.W.Frag) (P1 : Addr) : Sp := fun vs H Q _ => ∃ (a : Addr) (ns : List Int), vs = [.ref a] ∧ SqL K H a (ns.map V.int) ∧ ns.length ≤ 63 ∧ LamX.Tabs (T1 P1) H ∧ ∀ H', Q (.bl true) H'
open LamX in
theorem ok_law (T : T K mg) (U : UX K mg) (L : UL K mg) (Dd : LD K mg L) (Z : UA K mg) (W : WC K mg Z.A) {c1 P1 : Addr} (TB1 : TabB base mg c1 P1) (F : FunC K "_law_is_refused" "_law_is_refused" s_w_is_refused T.f_w_is_refused T.d_w_is_refused c1) : FnOk P w K mg base CX0 12 T.f_law T.d_law ["script"] (sp_lawT K P1) := by
  have G_w_case : FnOk P w K mg base CX0 11 T.f_w_case T.d_w_case ["dice"] (sp_w_case P1) := ok_w_case T U L Z W TB1 F
  have G_w_cells : FnOk P w K mg base CX0 1 T.f_w_cells T.d_w_cells ["script", "most"] (sp_w_cells K) := ok_w_cells T
  have G_w_dice : FnOk P w K mg base CX0 1 T.f_w_dice T.d_w_dice ["cell"] (sp_w_dice K) := ok_w_dice T
  have G_is_fitting : FnOk P w K mg base CX0 7 T.f_is_fitting T.d_is_fitting ["loop", "interval", "value"] (sp_is_fitting K U.C L.C) := ok_is_fitting T L
  have G_is_starts : FnOk P w K mg base CX0 4 T.f_is_starts T.d_is_starts ["loop", "value"] (sp_is_starts K U.C L.C) := ok_is_starts T L
  have G_leeway : FnOk P w K mg base CX0 6 T.f_leeway T.d_leeway ["loop", "interval", "starts"] (sp_leeway K U.C L.C) := ok_leeway T L
  have G_init : FnOk P w K mg base CX0 5 U.fI U.dI ["self", "name", "ticks", "reads", "uses"] (sp_init K U.C) := ok_init T U
  obtain ⟨mvt, hbt⟩ := kb_tr U
  obtain ⟨mvr, hbr⟩ := kb_r U
  refine T.F_law.ok sc_law (fun vs H Q E h => ?_) (fun cdv A outer s H vs Q E hr h => ?_)
  · obtain ⟨a, ns, rfl, _⟩ := h
    rfl
  · obtain ⟨a, ns, rfl, hS, hlen, hT, k⟩ := h
    have hu := hu_of hr
    have hr_is_fitting : Room 7 _ := hr.mono (by decide)
    have hr_is_starts : Room 4 _ := hr.mono (by decide)
    have hr_leeway : Room 6 _ := hr.mono (by decide)
    have hr1 : Room 1 _ := hr.mono (by decide)
    obtain ⟨_, c_MAX_START⟩ := T.c_MAX_START
    refine ⟨_, (pss_cons (ps_set (i := 1) sc_law.nd rfl (Or.inl rfl) (SX.pe_makeKw L.mkI (linit_kw0 T U L Dd) (hr.mono (by decide)) rfl L.mC pass0 (pa_cons (pe_makeK U.mkI G_init (hr.mono (by decide)) rfl U.mC hbt pass0 (pa_cons pe_str pa_nil) (pk_cons pe_int (pk_cons (pe_tup (pa_cons (pe_tup (pa_cons pe_str (pa_cons pe_int pa_nil))) pa_nil)) pk_nil))) (pa_cons (pe_makeK U.mkI G_init (hr.mono (by decide)) rfl U.mC hbr pass0 (pa_cons pe_str pa_nil) (pk_cons (pe_tup (pa_cons (pe_tup (pa_cons pe_str (pa_cons pe_int pa_nil))) pa_nil)) pk_nil)) pa_nil)) pk_nil))
      (pss_cons (ps_if (PW.pt (pw_or (pt_cmpR (op_neD hr.units) (pe_call G_leeway hr_leeway rfl T.m_leeway T.F_leeway.kp T.b_leeway .nil pass0 (pa_cons (pv 1) (pa_cons pe_int (pa_cons (pe_disp (pps_cons pe_str pe_int (pps_cons pe_str pe_int pps_nil)) rfl rfl (by simp) (by decide)) pa_nil)))) (pe_tup (pa_cons pe_int (pa_cons pe_int pa_nil))) (nomark _)) (pw_or1 (pt_cmpR (op_neD hr.units) (pe_call G_leeway hr_leeway rfl T.m_leeway T.F_leeway.kp T.b_leeway .nil pass0 (pa_cons (pv 1) (pa_cons pe_int (pa_cons (pe_disp (pps_cons pe_str pe_int (pps_cons pe_str pe_int pps_nil)) rfl rfl (by simp) (by decide)) pa_nil)))) (pe_tup (pa_cons (pe_un un_neg pe_int) (pa_cons (pe_un un_neg pe_int) pa_nil))) (nomark _)))))
      (pss_one (ps_ret pe_bl))
      pss_nil)
      (pss_cons (ps_if (PW.pt (pw_or (pt_cmpR op_isnot_bl (pe_call G_is_fitting hr_is_fitting rfl T.m_is_fitting T.F_is_fitting.kp T.b_is_fitting .nil pass0 (pa_cons (pv 1) (pa_cons pe_int (pa_cons (pe_disp (pps_cons pe_str pe_int (pps_cons pe_str pe_int pps_nil)) rfl rfl (by simp) (by decide)) pa_nil)))) pe_bl (nomark _)) (pw_or1 (pt_cmpR op_isnot_bl (pe_call G_is_fitting hr_is_fitting rfl T.m_is_fitting T.F_is_fitting.kp T.b_is_fitting .nil pass0 (pa_cons (pv 1) (pa_cons pe_int (pa_cons (pe_disp (pps_cons pe_str pe_int (pps_cons pe_str pe_int pps_nil)) rfl rfl (by simp) (by decide)) pa_nil)))) pe_bl (nomark _)))))
      (pss_one (ps_ret pe_bl))
      pss_nil)
      (pss_cons (ps_if (PW.pt (pw_or (pt_cmpR op_isnot_bl (pe_call G_is_starts hr_is_starts rfl T.m_is_starts T.F_is_starts.kp T.b_is_starts .nil pass0 (pa_cons (pv 1) (pa_cons (pe_disp (pps_cons pe_str (pe_op op_pow pe_int pe_int) (pps_cons pe_str pe_int pps_nil)) rfl rfl (by simp) (by decide)) pa_nil))) pe_bl (nomark _)) (pw_or1 (pt_cmpR op_ne (pe_glob (v := V.int 1000000) rfl c_MAX_START ⟨_, rfl⟩) (pe_op op_pow pe_int pe_int) (nomark _)))))
      (pss_one (ps_ret pe_bl))
      pss_nil)
      (pss_cons (ps_for PassesOwn.never rfl (pi_list (pe_call G_w_cells hr1 rfl T.m_w_cells T.F_w_cells.kp T.b_w_cells .nil pass0 (pa_cons (pv 0) (pa_cons pe_int pa_nil)))) (pg_name (i := 2) sc_law.nd rfl (Or.inl rfl))
      (pss_one (ps_if (pt_not (pt_val (pe_call G_w_case hr rfl T.m_w_case T.F_w_case.kp T.b_w_case .nil pass0 (pa_cons (pe_call G_w_dice hr1 rfl T.m_w_dice T.F_w_dice.kp T.b_w_dice .nil pass0 (pa_cons (pv 2) pa_nil)) pa_nil))))
      (pss_one (ps_ret pe_bl))
      pss_nil)))
      (pss_one (ps_ret pe_bl))))))), ?_⟩
    refine ⟨by show 2 ≤ sizeLine; decide, fun t1 ht1 => ⟨by show 1 ≤ sizeLine; decide, fun t2 ht2 => ⟨rfl, rfl, fun x1 dx1 hx1 hdx1 nd1 => ?_⟩⟩⟩
    have Sa : Same H (upd H t1 (.tup [.str "a", .int 1])) := Same.new ht1
    have Sb : Same (upd H t1 (.tup [.str "a", .int 1])) (upd (upd H t1 (.tup [.str "a", .int 1])) t2 (.tup [.ref t1])) := Same.new ht2
    have dA : Dp K (upd (upd H t1 (.tup [.str "a", .int 1])) t2 (.tup [.ref t1])) (.ref t2) (tD [("a", 1)]) := .tup (SqT.of upd_same) (.cons (.tup (SqT.of (Sb _ _ upd_same)) (.cons (.str _) (.cons (.int _) .nil))) .nil)
    have S1 := Same.trans Sa Sb
    generalize upd (upd H t1 (.tup [.str "a", .int 1])) t2 (.tup [.ref t1]) = H1 at S1 dA hx1 hdx1 ⊢
    have Sx : Same H1 (upd (upd H1 dx1 (.own x1)) x1 (.ins U.C dx1 [])) := Same.trans (Same.new hdx1) (Same.new (by rw [upd_ne nd1.symm]; exact hx1))
    refine ⟨x1, dx1, .ref t2, .ref U.u0, RA, rfl, ra_ok, upd_same, dp_same Sx _ _ dA, .tup U.nu.seqT .nil, fun H2 S2 => ⟨rfl, ?_⟩⟩
    have S13 : Same H1 (upd H2 x1 (.ins U.C dx1 (opF (.str "a") (.int 2) (.ref t2) (.ref U.u0)))) := Same.at hx1 (Same.trans Sx S2)
    have opA : OpAt K (upd H2 x1 (.ins U.C dx1 (opF (.str "a") (.int 2) (.ref t2) (.ref U.u0)))) U.C x1 RA := ⟨ra_ok, dx1, _, _, upd_same, dp_same S13 _ _ dA, .tup U.nu.seqT .nil⟩
    have S03 := Same.trans S1 S13
    show _
    generalize upd H2 x1 (.ins U.C dx1 (opF (.str RA.n) (.int RA.t) (.ref t2) (.ref U.u0))) = H3 at S03 opA ⊢
    clear S13 S2 Sx dA hx1 hdx1 nd1 S1 Sa Sb
    refine ⟨by show 2 ≤ sizeLine; decide, fun t3 ht3 => ⟨by show 1 ≤ sizeLine; decide, fun t4 ht4 => ⟨rfl, rfl, fun x2 dx2 hx2 hdx2 nd2 => ?_⟩⟩⟩
    have Sa : Same H3 (upd H3 t3 (.tup [.str "a", .int 0])) := Same.new ht3
    have Sb : Same (upd H3 t3 (.tup [.str "a", .int 0])) (upd (upd H3 t3 (.tup [.str "a", .int 0])) t4 (.tup [.ref t3])) := Same.new ht4
    have dB : Dp K (upd (upd H3 t3 (.tup [.str "a", .int 0])) t4 (.tup [.ref t3])) (.ref t4) (tD [("a", 0)]) := .tup (SqT.of upd_same) (.cons (.tup (SqT.of (Sb _ _ upd_same)) (.cons (.str _) (.cons (.int _) .nil))) .nil)
    have S1 := Same.trans Sa Sb
    generalize upd (upd H3 t3 (.tup [.str "a", .int 0])) t4 (.tup [.ref t3]) = H4 at S1 dB hx2 hdx2 ⊢
    have Sx : Same H4 (upd (upd H4 dx2 (.own x2)) x2 (.ins U.C dx2 [])) := Same.trans (Same.new hdx2) (Same.new (by rw [upd_ne nd2.symm]; exact hx2))
    refine ⟨x2, dx2, .ref t4, .ref U.u0, RB, rfl, rb_ok, upd_same, dp_same Sx _ _ dB, .tup U.nu.seqT .nil, fun H5 S5 => ⟨rfl, ?_⟩⟩
    have S45 : Same H4 (upd H5 x2 (.ins U.C dx2 (opF (.str RB.n) (.int RB.t) (.ref t4) (.ref U.u0)))) := Same.at hx2 (Same.trans Sx S5)
    have opB : OpAt K (upd H5 x2 (.ins U.C dx2 (opF (.str RB.n) (.int RB.t) (.ref t4) (.ref U.u0)))) U.C x2 RB := ⟨rb_ok, dx2, _, _, upd_same, dp_same S45 _ _ dB, .tup U.nu.seqT .nil⟩
    have S36 := Same.trans S1 S45
    generalize upd H5 x2 (.ins U.C dx2 (opF (.str RB.n) (.int RB.t) (.ref t4) (.ref U.u0))) = H6 at S36 opB ⊢
    clear S45 S5 Sx dB hx2 hdx2 nd2 S1 Sa Sb
    have hM : OpsAt K H6 U.C [(x1, RA), (x2, RB)] := fun m hm => by
      rcases List.mem_cons.mp hm with rfl | hm
      · exact opA.same S36
      · rw [List.mem_singleton.mp hm]
        exact opB
    have S06 := Same.trans S03 S36
    refine ⟨rfl, fun q dx hx hdx nd => ⟨[.ref q], [.ref x1, .ref x2], rfl, rfl, by show 2 ≤ sizeLine; decide, fun p hp => ?_⟩⟩
    have npx : p ≠ q := fun z => by rw [z, upd_same] at hp; cases hp
    have Sa : Same H6 (upd (upd H6 dx (.own q)) q (.ins L.C dx [])) := Same.trans (Same.new hdx) (Same.new (by rw [upd_ne nd.symm]; exact hx))
    have Sb : Same H6 (upd (upd (upd H6 dx (.own q)) q (.ins L.C dx [])) p (.tup [.ref x1, .ref x2])) := Same.trans Sa (Same.new hp)
    have eq : (upd (upd (upd H6 dx (.own q)) q (.ins L.C dx [])) p (.tup [.ref x1, .ref x2])) q = some (.ins L.C dx []) := by rw [upd_ne npx.symm, upd_same]
    refine ⟨q, Dd.o, p, dx, [(x1, RA), (x2, RB)], [], rfl, eq, SqT.of upd_same, hM.same Sb, fun m hm z => ?_, ab_ok x1 x2, ⟨[], Dd.no.seqT, (fun _ h => by cases h), rfl⟩, fun N H7 B pm lp => ⟨rfl, ?_⟩⟩
    · obtain ⟨_, d2, x3, x4, h1, _⟩ := hM m hm
      rw [z, hx] at h1
      cases h1
    have S7 : Same H6 H7 := fun b u e => B b u (fun z => by rw [z, hx] at e; cases e) (Sb _ _ e)
    clear B eq Sb Sa npx hp
    have S07 := Same.trans S06 S7
    have lk := ab_ok x1 x2
    have srt : KS.SrtK ((arcsOf N N ++ []).map oK) (AS.map oK) := srt_rows (D := [(x1, RA), (x2, RB)]) (pm.map _) lk.nd lk.rd (ab_srt x1 x2)
    clear opA opB S36 S03 hM hx hdx nd S7 S06
    have st : ∀ {G : Hp} {d : Addr} {x y : Int} {kvs : List (Key × V)}, G d = some (.dK kvs) → kvs.length = 2 → valV kvs (.inr "a") = some (.int x) → valV kvs (.inr "b") = some (.int y) → (0 ≤ x ∧ x ≤ 1000000) → (0 ≤ y ∧ y ≤ 1000000) → StAt G d (nms N) (two x y) := fun h1 h2 h3 h4 h5 h6 => two_at pm h1 h2 h3 h4 h5 h6
    refine ⟨_, rfl, fun d1 hd1 => ⟨upd_same, [(.inr "b", .int 2), (.inr "a", .int 0)], rfl, by decide, ?_⟩⟩
    have Sd := same_new2 (o1 := .dK []) (o2 := .dK (mergeK [] [(.inr "b", .int 2), (.inr "a", .int 0)])) hd1
    refine ⟨q, d1, 2, N, [], AS, two 0 2, rfl, by decide, by decide, lp.same Sd, srt, st upd_same rfl rfl rfl (by decide) (by decide), fun t G1 S1 ht => ?_⟩
    rw [sp1] at ht
    refine ⟨by show 2 ≤ sizeLine; decide, fun t2 ht2 => ?_⟩
    have Se := Same.new (o := .tup [.int 0, .int 0]) ht2
    refine neD_same (d := .tuple [.int 0, .int 0]) (.tup (Same.seqT Se ht) (.cons (.int _) (.cons (.int _) .nil))) (.tup (SqT.of upd_same) (.cons (.int _) (.cons (.int _) .nil))) (by decide +kernel) ?_
    refine ⟨_, rfl, iteF ?_⟩
    have Sf := Same.trans Sd (Same.trans S1 Se)
    generalize upd G1 t2 (.tup [.int 0, .int 0]) = G2 at Sf ⊢
    clear Se S1 Sd ht
    refine ⟨_, rfl, fun d2 hd2 => ⟨upd_same, [(.inr "a", .int 5), (.inr "b", .int 5)], rfl, by decide, ?_⟩⟩
    have Sd := Same.trans Sf (same_new2 (o1 := .dK []) (o2 := .dK (mergeK [] [(.inr "a", .int 5), (.inr "b", .int 5)])) hd2)
    refine ⟨q, d2, 1, N, [], AS, two 5 5, rfl, by decide, by decide, lp.same Sd, srt, st upd_same rfl rfl rfl (by decide) (by decide), fun t G3 S3 ht => ?_⟩
    rw [sp2] at ht
    refine ⟨_, rfl, _, rfl, by show 2 ≤ sizeLine; decide, fun t3 ht3 => ?_⟩
    have Se := Same.new (o := .tup [.int (-1), .int (-2)]) ht3
    refine neD_same (d := .tuple [.int (-1), .int (-2)]) (.tup (Same.seqT Se ht) (.cons (.int _) (.cons (.int _) .nil))) (.tup (SqT.of upd_same) (.cons (.int _) (.cons (.int _) .nil))) (by decide +kernel) ?_
    refine ⟨_, rfl, iteF ?_⟩
    have Sf := Same.trans Sd (Same.trans S3 Se)
    generalize upd G3 t3 (.tup [.int (-1), .int (-2)]) = G4 at Sf ⊢
    clear Se S3 Sd ht
    refine ⟨_, rfl, fun d3 hd3 => ⟨upd_same, [(.inr "a", .int 0), (.inr "b", .int 2)], rfl, by decide, ?_⟩⟩
    have Sd := Same.trans Sf (same_new2 (o1 := .dK []) (o2 := .dK (mergeK [] [(.inr "a", .int 0), (.inr "b", .int 2)])) hd3)
    refine ⟨q, 2, N, [], .ref d3, rfl, by decide, by decide, lp.same Sd, .inl ⟨d3, AS, two 0 2, rfl, srt, st upd_same rfl rfl rfl (by decide) (by decide), fun G5 S5 => ?_⟩⟩
    rw [sp3]
    refine ⟨_, _, rfl, rfl, _, rfl, iteF ?_⟩
    have Sf := Same.trans Sd S5
    refine ⟨_, rfl, fun d4 hd4 => ⟨upd_same, [(.inr "a", .int 1), (.inr "b", .int 2)], rfl, by decide, ?_⟩⟩
    have Sd := Same.trans Sf (same_new2 (o1 := .dK []) (o2 := .dK (mergeK [] [(.inr "a", .int 1), (.inr "b", .int 2)])) hd4)
    refine ⟨q, 2, N, [], .ref d4, rfl, by decide, by decide, lp.same Sd, .inl ⟨d4, AS, two 1 2, rfl, srt, st upd_same rfl rfl rfl (by decide) (by decide), fun G6 S6 => ?_⟩⟩
    rw [sp4]
    refine ⟨_, _, rfl, rfl, _, rfl, iteF ?_⟩
    have Sf := Same.trans Sd S6
    refine ⟨_, rfl, fun d5 hd5 => ⟨_, _, rfl, rfl, ⟨by decide, by decide, by decide⟩, upd_same, [(.inr "a", .int (10 ^ (6 : Int).toNat)), (.inr "b", .int 0)], rfl, by decide, ?_⟩⟩
    have Sd := Same.trans Sf (same_new2 (o1 := .dK []) (o2 := .dK (mergeK [] [(.inr "a", .int (10 ^ (6 : Int).toNat)), (.inr "b", .int 0)])) hd5)
    refine ⟨q, N, [], .ref d5, rfl, lp.same Sd, (st (x := 10 ^ (6 : Int).toNat) (y := 0) upd_same rfl rfl rfl (by decide) (by decide)).tab fun G7 S7 => ?_⟩
    refine ⟨_, _, rfl, rfl, _, rfl, iteF ?_⟩
    have Sf := Same.trans Sd S7
    refine ⟨_, _, rfl, rfl, ⟨by decide, by decide, by decide⟩, rfl, _, rfl, iteX (by decide) ?_⟩
    have Sg := Same.trans S07 Sf
    refine ⟨_, rfl, a, ns, 24, rfl, Sg.seq hS, fun l cs G8 S8 el => ?_⟩
    have Sh := Same.trans Sg S8
    refine ⟨l, rfl, ⟨_, SqL.of el⟩, ?_⟩
    refine for_list (K := K) (a := l) (xs := cs.map V.int) (fun i σ G => ∃ v2, σ = [some (.ref a), some (.ref q), v2] ∧ ExtN G8 G ∧ Tabs (T1 P1) G)
      ⟨none, rfl, ExtN.refl _, Tabs.ext hT Sh⟩ (fun i σ G _ ⟨_, _, X, _⟩ => SqL.of (X _ _ el lst_tbl)) ?_ ?_
    · rintro i x σ G hx ⟨v2, rfl, X, TG⟩
      rw [List.getElem?_map] at hx
      cases ec : cs[i]? with
      | none => rw [ec] at hx; cases hx
      | some c =>
        rw [ec] at hx
        cases hx
        refine ⟨_, rfl, c, rfl, fun p G' np S' R' => ?_⟩
        refine ⟨p, rfl, R', Tabs.ext TG S', fun M ON TM => ⟨_, rfl, iteF ?_⟩⟩
        exact ⟨_, rfl, fun b o e nt => ON b o (fun z => by rw [z] at e; rw [X _ _ e nt] at np; cases np) (S' _ _ (X _ _ e nt)) nt, TM⟩
    · rintro σ G ⟨v2, rfl, X, TG⟩
      exact k _
end
end K14
namespace K14
open PySem L2
open PyProof.Rows PySem.Spec
theorem sub_NoneType {K : PySem.W.Frag} {C : Addr} : PySem.W.subIn K (.type "NoneType") (.ref C) = some false := by
  have e : PySem.fastBuiltinMro "NoneType" = some [.type "NoneType", .type "object"] := by decide +kernel
  show (PySem.fastBuiltinMro "NoneType").map (·.contains (.ref C)) = some false
  rw [e]
  first
    | rfl
    | simp
theorem sub_bool {K : PySem.W.Frag} {C : Addr} : PySem.W.subIn K (.type "bool") (.ref C) = some false := by
  have e : PySem.fastBuiltinMro "bool" = some [.type "bool", .type "int", .type "object"] := by decide +kernel
  show (PySem.fastBuiltinMro "bool").map (·.contains (.ref C)) = some false
  rw [e]
  first
    | rfl
    | simp
theorem sub_int {K : PySem.W.Frag} {C : Addr} : PySem.W.subIn K (.type "int") (.ref C) = some false := by
  have e : PySem.fastBuiltinMro "int" = some [.type "int", .type "object"] := by decide +kernel
  show (PySem.fastBuiltinMro "int").map (·.contains (.ref C)) = some false
  rw [e]
  first
    | rfl
    | simp
theorem sub_str {K : PySem.W.Frag} {C : Addr} : PySem.W.subIn K (.type "str") (.ref C) = some false := by
  have e : PySem.fastBuiltinMro "str" = some [.type "str", .type "object"] := by decide +kernel
  show (PySem.fastBuiltinMro "str").map (·.contains (.ref C)) = some false
  rw [e]
  first
    | rfl
    | simp
theorem sub_list {K : PySem.W.Frag} {C : Addr} : PySem.W.subIn K (.type "list") (.ref C) = some false := by
  have e : PySem.fastBuiltinMro "list" = some [.type "list", .type "object"] := by decide +kernel
  show (PySem.fastBuiltinMro "list").map (·.contains (.ref C)) = some false
  rw [e]
  first
    | rfl
    | simp
theorem sub_tuple {K : PySem.W.Frag} {C : Addr} : PySem.W.subIn K (.type "tuple") (.ref C) = some false := by
  have e : PySem.fastBuiltinMro "tuple" = some [.type "tuple", .type "object"] := by decide +kernel
  show (PySem.fastBuiltinMro "tuple").map (·.contains (.ref C)) = some false
  rw [e]
  first
    | rfl
    | simp
theorem tin_of {K : PySem.W.Frag} {C : Addr} {v : Value} (s : PySem.W.subIn K v (.ref C) = some false) (hv : (v == .ref C) = false) (g : PySem.W.isClsIn K C = true) (t : PySem.W.typeIn K (.ref C) = some (.type "type")) : PySem.W.notFirst K C v = true ∧ PySem.W.kitOne K v (.ref C) = some false := by
  refine ⟨?_, ?_⟩
  · unfold PySem.W.notFirst
    rw [s, hv]
    rfl
  · have h5 : (PySem.W.clsIn K C).isSome = true := g
    unfold PySem.W.kitOne PySem.W.kitCls
    rw [hv]
    dsimp only
    rw [h5, t, s]
    rfl
theorem mk_X {K : PySem.W.Frag} {h : Heap} {mg : Str → Option Value} (X : K.In h) (G : h.Ns mainGlobals mg)
    {C fI r0 u0 DI : Addr} {tk : Tok} {ocIC dcIC pmIC cdIC ctIC : Value} {odIC anIC : Option Addr} {slIC : Array (Option Value)} {odxE : Option Addr} {nxE : Nat} {slxE : Array (Option Value)} {odxG : Option Addr} {nxG : Nat} {slxG : Array (Option Value)} {pP1a fP1 : Addr} {restP1 : List Value} {ocP1 kVP1 dcP1 pmP1 cdP1 ctP1 : Value} {odP1 anP1 : Option Addr} {slP1 : Array (Option Value)} {pP2a fP2 : Addr} {restP2 : List Value} {ocP2 kVP2 dcP2 pmP2 cdP2 ctP2 : Value} {odP2 anP2 : Option Addr} {slP2 : Array (Option Value)} {pP3a fP3 : Addr} {restP3 : List Value} {ocP3 kVP3 dcP3 pmP3 cdP3 ctP3 : Value} {odP3 anP3 : Option Addr} {slP3 : Array (Option Value)} {pP4a fP4 : Addr} {restP4 : List Value} {ocP4 kVP4 dcP4 pmP4 cdP4 ctP4 : Value} {odP4 anP4 : Option Addr} {slP4 : Array (Option Value)} {pP5a fP5 : Addr} {restP5 : List Value} {ocP5 kVP5 dcP5 pmP5 cdP5 ctP5 : Value} {odP5 anP5 : Option Addr} {slP5 : Array (Option Value)} {pP6a fP6 : Addr} {restP6 : List Value} {ocP6 kVP6 dcP6 pmP6 cdP6 ctP6 : Value} {odP6 anP6 : Option Addr} {slP6 : Array (Option Value)} {fQ : Addr} {ocQ kVQ dcQ pmQ cdQ ctQ : Value} {odQ anQ : Option Addr} {slQ : Array (Option Value)} {fS : Addr} {ocS kVS dcS pmS cdS ctS : Value} {odS anS : Option Addr} {slS : Array (Option Value)}
    (aC : PySem.W.nsIn K mainGlobals "Operation" = some (some (.ref C)))
    (c1C : PySem.W.plainGet K C Str.empty = true)
    (c2C : PySem.W.hasDictIn K C = true)
    (c3C : PySem.W.plainOver K C = true)
    (c4C : PySem.W.findIn K (.ref C) "__setattr__" = some (some (.builtin "object.__setattr__")))
    (c5C : PySem.W.makesIn K C = true)
    (c6C : PySem.W.findIn K (.ref C) "__init__" = some (some (.ref fI)))
    (c7C : PySem.W.isFn K (.ref fI) = true)
    (c8C : PySem.W.keepIn K (.ref C) = true)
    (lIC : K.lookup fI = some ⟨ocIC, odIC, .func (PySem.W.fnOf "__init__" "Operation.__init__" (defArgs s_Operation_init) (defBody s_Operation_init) (defScope s_Operation_init) .none (.ref DI) dcIC pmIC anIC cdIC ctIC), slIC⟩)
    (kIC : PySem.W.codeIn K cdIC "Operation.__init__" = true)
    (pIC : PySem.W.keepIn K (.ref fI) = true)
    (n1C : PySem.W.findIn K (.ref C) "_name" = some none)
    (n2C : PySem.W.findIn K (.ref C) "_ticks" = some none)
    (n3C : PySem.W.findIn K (.ref C) "_reads" = some none)
    (n4C : PySem.W.findIn K (.ref C) "_uses" = some none)
    (moC : PySem.W.mroIn K C (.type "object") = some true)
    (neC : PySem.W.findIn K (.ref C) "__ne__" = some (some (.builtin "object.__ne__")))
    (caC : PySem.W.findIn K (.ref C) "__class__" = some (some (.builtin "object.__class__")))
    (gCC : PySem.W.isClsIn K C = true)
    (tCC : PySem.W.typeIn K (.ref C) = some (.type "type"))
    (w1 : PySem.W.nsIn K DI "ticks" = some (some (.int 1 tk)))
    (w2 : PySem.W.nsIn K DI "reads" = some (some (.ref r0)))
    (w3 : PySem.W.nsIn K DI "uses" = some (some (.ref u0)))
    (xE : K.lookup r0 = some ⟨.type "tuple", odxE, .seq #[] nxE, slxE⟩)
    (xG : K.lookup u0 = some ⟨.type "tuple", odxG, .seq #[] nxG, slxG⟩)
    (aP1 : PySem.W.findIn K (.ref C) "name" = some (some (.ref pP1a)))
    (bP1 : PySem.W.specialIn K (.ref pP1a) "__get__" = some (some (.builtin "property.__get__")))
    (tP1 : PySem.W.takesIn K (.ref pP1a) = some true)
    (rP1 : PySem.W.recIn K pP1a "property" = some (.ref fP1 :: restP1))
    (lP1 : K.lookup fP1 = some ⟨ocP1, odP1, .func (PySem.W.fnOf "name" "Operation.name" (defArgs s_Operation_name) (defBody s_Operation_name) (defScope s_Operation_name) .none kVP1 dcP1 pmP1 anP1 cdP1 ctP1), slP1⟩)
    (kP1 : PySem.W.codeIn K cdP1 "Operation.name" = true)
    (pP1 : PySem.W.keepIn K (.ref fP1) = true)
    (aP2 : PySem.W.findIn K (.ref C) "ticks" = some (some (.ref pP2a)))
    (bP2 : PySem.W.specialIn K (.ref pP2a) "__get__" = some (some (.builtin "property.__get__")))
    (tP2 : PySem.W.takesIn K (.ref pP2a) = some true)
    (rP2 : PySem.W.recIn K pP2a "property" = some (.ref fP2 :: restP2))
    (lP2 : K.lookup fP2 = some ⟨ocP2, odP2, .func (PySem.W.fnOf "ticks" "Operation.ticks" (defArgs s_Operation_ticks) (defBody s_Operation_ticks) (defScope s_Operation_ticks) .none kVP2 dcP2 pmP2 anP2 cdP2 ctP2), slP2⟩)
    (kP2 : PySem.W.codeIn K cdP2 "Operation.ticks" = true)
    (pP2 : PySem.W.keepIn K (.ref fP2) = true)
    (aP3 : PySem.W.findIn K (.ref C) "reads" = some (some (.ref pP3a)))
    (bP3 : PySem.W.specialIn K (.ref pP3a) "__get__" = some (some (.builtin "property.__get__")))
    (tP3 : PySem.W.takesIn K (.ref pP3a) = some true)
    (rP3 : PySem.W.recIn K pP3a "property" = some (.ref fP3 :: restP3))
    (lP3 : K.lookup fP3 = some ⟨ocP3, odP3, .func (PySem.W.fnOf "reads" "Operation.reads" (defArgs s_Operation_reads) (defBody s_Operation_reads) (defScope s_Operation_reads) .none kVP3 dcP3 pmP3 anP3 cdP3 ctP3), slP3⟩)
    (kP3 : PySem.W.codeIn K cdP3 "Operation.reads" = true)
    (pP3 : PySem.W.keepIn K (.ref fP3) = true)
    (aP4 : PySem.W.findIn K (.ref C) "uses" = some (some (.ref pP4a)))
    (bP4 : PySem.W.specialIn K (.ref pP4a) "__get__" = some (some (.builtin "property.__get__")))
    (tP4 : PySem.W.takesIn K (.ref pP4a) = some true)
    (rP4 : PySem.W.recIn K pP4a "property" = some (.ref fP4 :: restP4))
    (lP4 : K.lookup fP4 = some ⟨ocP4, odP4, .func (PySem.W.fnOf "uses" "Operation.uses" (defArgs s_Operation_uses) (defBody s_Operation_uses) (defScope s_Operation_uses) .none kVP4 dcP4 pmP4 anP4 cdP4 ctP4), slP4⟩)
    (kP4 : PySem.W.codeIn K cdP4 "Operation.uses" = true)
    (pP4 : PySem.W.keepIn K (.ref fP4) = true)
    (aP5 : PySem.W.findIn K (.ref C) "read_names" = some (some (.ref pP5a)))
    (bP5 : PySem.W.specialIn K (.ref pP5a) "__get__" = some (some (.builtin "property.__get__")))
    (tP5 : PySem.W.takesIn K (.ref pP5a) = some true)
    (rP5 : PySem.W.recIn K pP5a "property" = some (.ref fP5 :: restP5))
    (lP5 : K.lookup fP5 = some ⟨ocP5, odP5, .func (PySem.W.fnOf "read_names" "Operation.read_names" (defArgs s_Operation_read_names) (defBody s_Operation_read_names) (defScope s_Operation_read_names) .none kVP5 dcP5 pmP5 anP5 cdP5 ctP5), slP5⟩)
    (kP5 : PySem.W.codeIn K cdP5 "Operation.read_names" = true)
    (pP5 : PySem.W.keepIn K (.ref fP5) = true)
    (aP6 : PySem.W.findIn K (.ref C) "units" = some (some (.ref pP6a)))
    (bP6 : PySem.W.specialIn K (.ref pP6a) "__get__" = some (some (.builtin "property.__get__")))
    (tP6 : PySem.W.takesIn K (.ref pP6a) = some true)
    (rP6 : PySem.W.recIn K pP6a "property" = some (.ref fP6 :: restP6))
    (lP6 : K.lookup fP6 = some ⟨ocP6, odP6, .func (PySem.W.fnOf "units" "Operation.units" (defArgs s_Operation_units) (defBody s_Operation_units) (defScope s_Operation_units) .none kVP6 dcP6 pmP6 anP6 cdP6 ctP6), slP6⟩)
    (kP6 : PySem.W.codeIn K cdP6 "Operation.units" = true)
    (pP6 : PySem.W.keepIn K (.ref fP6) = true)
    (iQ : PySem.W.findIn K (.ref C) "__eq__" = some (some (.ref fQ)))
    (yQ : PySem.W.isFn K (.ref fQ) = true)
    (lQ : K.lookup fQ = some ⟨ocQ, odQ, .func (PySem.W.fnOf "__eq__" "Operation.__eq__" (defArgs s_Operation_eq) (defBody s_Operation_eq) (defScope s_Operation_eq) .none kVQ dcQ pmQ anQ cdQ ctQ), slQ⟩)
    (kQ : PySem.W.codeIn K cdQ "Operation.__eq__" = true)
    (pQ : PySem.W.keepIn K (.ref fQ) = true)
    (iS : PySem.W.findIn K (.ref C) "__str__" = some (some (.ref fS)))
    (yS : PySem.W.isFn K (.ref fS) = true)
    (lS : K.lookup fS = some ⟨ocS, odS, .func (PySem.W.fnOf "__str__" "Operation.__str__" (defArgs s_Operation_str) (defBody s_Operation_str) (defScope s_Operation_str) .none kVS dcS pmS anS cdS ctS), slS⟩)
    (kS : PySem.W.codeIn K cdS "Operation.__str__" = true)
    (pS : PySem.W.keepIn K (.ref fS) = true)
    (cg : PySem.W.specialIn K (.builtin "object.__class__") "__get__" = some (some (.builtin "getset_descriptor.__get__")))
    (ct : PySem.W.takesIn K (.builtin "object.__class__") = some true)
    : Nonempty (UX K mg) := by
  have FI : FunD K "__init__" "Operation.__init__" (defArgs s_Operation_init) (defBody s_Operation_init) (defScope s_Operation_init) [] [("ticks", .int 1), ("reads", .ref r0), ("uses", .ref u0)] fI (PySem.W.fnOf "__init__" "Operation.__init__" (defArgs s_Operation_init) (defBody s_Operation_init) (defScope s_Operation_init) .none (.ref DI) dcIC pmIC anIC cdIC ctIC) := ⟨⟨_, _, _, _, _, _, _, _, _, _, rfl, lIC, kIC, .inl ⟨rfl, rfl⟩, .inr ⟨DI, rfl, fun q hq => by
    simp only [List.mem_cons, List.mem_nil_iff, or_false] at hq
    rcases hq with rfl | rfl | rfl
    · exact ⟨_, w1, _, rfl⟩
    · exact ⟨_, w2, rfl⟩
    · exact ⟨_, w3, rfl⟩⟩⟩, pIC⟩
  have tin : ∀ n, n ∈ ["NoneType", "bool", "int", "str", "list", "tuple"] → PySem.W.notFirst K C (.type n) = true ∧ PySem.W.kitOne K (.type n) (.ref C) = some false := by
    intro n hn
    simp only [List.mem_cons, List.mem_nil_iff, or_false] at hn
    rcases hn with rfl | rfl | rfl | rfl | rfl | rfl
    · exact tin_of sub_NoneType rfl gCC tCC
    · exact tin_of sub_bool rfl gCC tCC
    · exact tin_of sub_int rfl gCC tCC
    · exact tin_of sub_str rfl gCC tCC
    · exact tin_of sub_list rfl gCC tCC
    · exact tin_of sub_tuple rfl gCC tCC
  exact ⟨⟨C, PySem.W.mg_of X G aC, ⟨c1C, c2C, c3C, c4C⟩, moC, neC, r0, u0, ⟨_, _, _, xE, rfl, rfl, by decide, .nil⟩, ⟨_, _, _, xG, rfl, rfl, by decide, .nil⟩, fI, _, FI, ⟨c5C, c6C, c7C, c8C⟩, n1C, n2C, n3C, n4C, ⟨pP1a, fP1, _, ⟨⟨_, _, _, _, _, _, _, _, _, _, rfl, lP1, kP1, .inl ⟨rfl, rfl⟩, .inl rfl⟩, pP1⟩, ⟨aP1, bP1, tP1, ⟨_, rP1⟩⟩, .all fun us hl => match us, hl with | [_], _ => rfl⟩, ⟨pP2a, fP2, _, ⟨⟨_, _, _, _, _, _, _, _, _, _, rfl, lP2, kP2, .inl ⟨rfl, rfl⟩, .inl rfl⟩, pP2⟩, ⟨aP2, bP2, tP2, ⟨_, rP2⟩⟩, .all fun us hl => match us, hl with | [_], _ => rfl⟩, ⟨pP3a, fP3, _, ⟨⟨_, _, _, _, _, _, _, _, _, _, rfl, lP3, kP3, .inl ⟨rfl, rfl⟩, .inl rfl⟩, pP3⟩, ⟨aP3, bP3, tP3, ⟨_, rP3⟩⟩, .all fun us hl => match us, hl with | [_], _ => rfl⟩, ⟨pP4a, fP4, _, ⟨⟨_, _, _, _, _, _, _, _, _, _, rfl, lP4, kP4, .inl ⟨rfl, rfl⟩, .inl rfl⟩, pP4⟩, ⟨aP4, bP4, tP4, ⟨_, rP4⟩⟩, .all fun us hl => match us, hl with | [_], _ => rfl⟩, ⟨pP5a, fP5, _, ⟨⟨_, _, _, _, _, _, _, _, _, _, rfl, lP5, kP5, .inl ⟨rfl, rfl⟩, .inl rfl⟩, pP5⟩, ⟨aP5, bP5, tP5, ⟨_, rP5⟩⟩, .all fun us hl => match us, hl with | [_], _ => rfl⟩, ⟨pP6a, fP6, _, ⟨⟨_, _, _, _, _, _, _, _, _, _, rfl, lP6, kP6, .inl ⟨rfl, rfl⟩, .inl rfl⟩, pP6⟩, ⟨aP6, bP6, tP6, ⟨_, rP6⟩⟩, .all fun us hl => match us, hl with | [_], _ => rfl⟩, ⟨fQ, _, ⟨⟨_, _, _, _, _, _, _, _, _, _, rfl, lQ, kQ, .inl ⟨rfl, rfl⟩, .inl rfl⟩, pQ⟩, ⟨iQ, yQ, pQ⟩, .all fun us hl => match us, hl with | [_, _], _ => rfl⟩, ⟨fS, _, ⟨⟨_, _, _, _, _, _, _, _, _, _, rfl, lS, kS, .inl ⟨rfl, rfl⟩, .inl rfl⟩, pS⟩, ⟨iS, yS, pS⟩, .all fun us hl => match us, hl with | [_], _ => rfl⟩, tin, caC, cg, ct⟩⟩
theorem mk_L {K : PySem.W.Frag} {h : Heap} {mg : Str → Option Value} (X : K.In h) (G : h.Ns mainGlobals mg)
    {C fI o0 oI DI DO fO qO : Addr} {restO : List Value} {ocIC dcIC pmIC cdIC ctIC : Value} {odIC anIC : Option Addr} {slIC : Array (Option Value)} {fT : Addr} {ocT kVT dcT pmT cdT ctT : Value} {odT anT : Option Addr} {slT : Array (Option Value)} {odxE : Option Addr} {nxE : Nat} {slxE : Array (Option Value)} {ocO dcO pmO cdO ctO : Value} {odO anO : Option Addr} {slO : Array (Option Value)} {odxG : Option Addr} {nxG : Nat} {slxG : Array (Option Value)} {pP1a fP1 : Addr} {restP1 : List Value} {ocP1 kVP1 dcP1 pmP1 cdP1 ctP1 : Value} {odP1 anP1 : Option Addr} {slP1 : Array (Option Value)} {pP2a fP2 : Addr} {restP2 : List Value} {ocP2 kVP2 dcP2 pmP2 cdP2 ctP2 : Value} {odP2 anP2 : Option Addr} {slP2 : Array (Option Value)} {pP3a fP3 : Addr} {restP3 : List Value} {ocP3 kVP3 dcP3 pmP3 cdP3 ctP3 : Value} {odP3 anP3 : Option Addr} {slP3 : Array (Option Value)} {pP4a fP4 : Addr} {restP4 : List Value} {ocP4 kVP4 dcP4 pmP4 cdP4 ctP4 : Value} {odP4 anP4 : Option Addr} {slP4 : Array (Option Value)} {pP5a fP5 : Addr} {restP5 : List Value} {ocP5 kVP5 dcP5 pmP5 cdP5 ctP5 : Value} {odP5 anP5 : Option Addr} {slP5 : Array (Option Value)} {pP6a fP6 : Addr} {restP6 : List Value} {ocP6 kVP6 dcP6 pmP6 cdP6 ctP6 : Value} {odP6 anP6 : Option Addr} {slP6 : Array (Option Value)} {pP7a fP7 : Addr} {restP7 : List Value} {ocP7 kVP7 dcP7 pmP7 cdP7 ctP7 : Value} {odP7 anP7 : Option Addr} {slP7 : Array (Option Value)} {fM1 : Addr} {ocM1 kVM1 dcM1 pmM1 cdM1 ctM1 : Value} {odM1 anM1 : Option Addr} {slM1 : Array (Option Value)} {fM2 : Addr} {ocM2 kVM2 dcM2 pmM2 cdM2 ctM2 : Value} {odM2 anM2 : Option Addr} {slM2 : Array (Option Value)} {fM3 : Addr} {ocM3 kVM3 dcM3 pmM3 cdM3 ctM3 : Value} {odM3 anM3 : Option Addr} {slM3 : Array (Option Value)} {fM4 : Addr} {ocM4 kVM4 dcM4 pmM4 cdM4 ctM4 : Value} {odM4 anM4 : Option Addr} {slM4 : Array (Option Value)} {fM5 : Addr} {ocM5 kVM5 dcM5 pmM5 cdM5 ctM5 : Value} {odM5 anM5 : Option Addr} {slM5 : Array (Option Value)} {fM6 : Addr} {ocM6 kVM6 dcM6 pmM6 cdM6 ctM6 : Value} {odM6 anM6 : Option Addr} {slM6 : Array (Option Value)}
    (aC : PySem.W.nsIn K mainGlobals "Loop" = some (some (.ref C)))
    (c1C : PySem.W.plainGet K C Str.empty = true)
    (c2C : PySem.W.hasDictIn K C = true)
    (c3C : PySem.W.plainOver K C = true)
    (c4C : PySem.W.findIn K (.ref C) "__setattr__" = some (some (.builtin "object.__setattr__")))
    (c5C : PySem.W.makesIn K C = true)
    (c6C : PySem.W.findIn K (.ref C) "__init__" = some (some (.ref fI)))
    (c7C : PySem.W.isFn K (.ref fI) = true)
    (c8C : PySem.W.keepIn K (.ref C) = true)
    (lIC : K.lookup fI = some ⟨ocIC, odIC, .func (PySem.W.fnOf "__init__" "Loop.__init__" (defArgs s_Loop_init) (defBody s_Loop_init) (defScope s_Loop_init) .none (.ref DI) dcIC pmIC anIC cdIC ctIC), slIC⟩)
    (kIC : PySem.W.codeIn K cdIC "Loop.__init__" = true)
    (pIC : PySem.W.keepIn K (.ref fI) = true)
    (n1C : PySem.W.findIn K (.ref C) "_table" = some none)
    (n2C : PySem.W.findIn K (.ref C) "_names" = some none)
    (n3C : PySem.W.findIn K (.ref C) "_orders" = some none)
    (n4C : PySem.W.findIn K (.ref C) "_arcs" = some none)
    (n5C : PySem.W.findIn K (.ref C) "_operations" = some none)
    (n6C : PySem.W.findIn K (.ref C) "_readings" = some none)
    (n7C : PySem.W.findIn K (.ref C) "_units" = some none)
    (n8C : PySem.W.findIn K (.ref C) "_asking" = some none)
    (moC : PySem.W.mroIn K C (.type "object") = some true)
    (neC : PySem.W.findIn K (.ref C) "__ne__" = some (some (.builtin "object.__ne__")))
    (caC : PySem.W.findIn K (.ref C) "__class__" = some (some (.builtin "object.__class__")))
    (gCC : PySem.W.isClsIn K C = true)
    (tCC : PySem.W.typeIn K (.ref C) = some (.type "type"))
    (iT : PySem.W.findIn K (.ref C) "_take_orders" = some (some (.ref fT)))
    (yT : PySem.W.isFn K (.ref fT) = true)
    (lT : K.lookup fT = some ⟨ocT, odT, .func (PySem.W.fnOf "_take_orders" "Loop._take_orders" (defArgs s_Loop_take_orders) (defBody s_Loop_take_orders) (defScope s_Loop_take_orders) .none kVT dcT pmT anT cdT ctT), slT⟩)
    (kT : PySem.W.codeIn K cdT "Loop._take_orders" = true)
    (pT : PySem.W.keepIn K (.ref fT) = true)
    (rd : PySem.W.readsIn K C (.type "type") = true)
    (ga : PySem.W.specialIn K (.ref C) "__getattribute__" = some (some (.builtin "type.__getattribute__")))
    (w1 : PySem.W.nsIn K DI "orders" = some (some (.ref oI)))
    (xE : K.lookup oI = some ⟨.type "tuple", odxE, .seq #[] nxE, slxE⟩)
    (cO : PySem.W.findCls K (.ref C) (.type "type") "of" = some (.get (.builtin "classmethod.__get__") (.ref qO) .none (.ref C)))
    (rO : PySem.W.recIn K qO "classmethod" = some (.ref fO :: restO))
    (fO_ : PySem.W.fnIn K fO = true)
    (lO : K.lookup fO = some ⟨ocO, odO, .func (PySem.W.fnOf "of" "Loop.of" (defArgs s_Loop_of) (defBody s_Loop_of) (defScope s_Loop_of) .none (.ref DO) dcO pmO anO cdO ctO), slO⟩)
    (kO : PySem.W.codeIn K cdO "Loop.of" = true)
    (pO : PySem.W.keepIn K (.ref fO) = true)
    (w2 : PySem.W.nsIn K DO "orders" = some (some (.ref o0)))
    (xG : K.lookup o0 = some ⟨.type "tuple", odxG, .seq #[] nxG, slxG⟩)
    (aP1 : PySem.W.findIn K (.ref C) "operations" = some (some (.ref pP1a)))
    (bP1 : PySem.W.specialIn K (.ref pP1a) "__get__" = some (some (.builtin "property.__get__")))
    (tP1 : PySem.W.takesIn K (.ref pP1a) = some true)
    (rP1 : PySem.W.recIn K pP1a "property" = some (.ref fP1 :: restP1))
    (lP1 : K.lookup fP1 = some ⟨ocP1, odP1, .func (PySem.W.fnOf "operations" "Loop.operations" (defArgs s_Loop_operations) (defBody s_Loop_operations) (defScope s_Loop_operations) .none kVP1 dcP1 pmP1 anP1 cdP1 ctP1), slP1⟩)
    (kP1 : PySem.W.codeIn K cdP1 "Loop.operations" = true)
    (pP1 : PySem.W.keepIn K (.ref fP1) = true)
    (aP2 : PySem.W.findIn K (.ref C) "orders" = some (some (.ref pP2a)))
    (bP2 : PySem.W.specialIn K (.ref pP2a) "__get__" = some (some (.builtin "property.__get__")))
    (tP2 : PySem.W.takesIn K (.ref pP2a) = some true)
    (rP2 : PySem.W.recIn K pP2a "property" = some (.ref fP2 :: restP2))
    (lP2 : K.lookup fP2 = some ⟨ocP2, odP2, .func (PySem.W.fnOf "orders" "Loop.orders" (defArgs s_Loop_orders) (defBody s_Loop_orders) (defScope s_Loop_orders) .none kVP2 dcP2 pmP2 anP2 cdP2 ctP2), slP2⟩)
    (kP2 : PySem.W.codeIn K cdP2 "Loop.orders" = true)
    (pP2 : PySem.W.keepIn K (.ref fP2) = true)
    (aP3 : PySem.W.findIn K (.ref C) "names" = some (some (.ref pP3a)))
    (bP3 : PySem.W.specialIn K (.ref pP3a) "__get__" = some (some (.builtin "property.__get__")))
    (tP3 : PySem.W.takesIn K (.ref pP3a) = some true)
    (rP3 : PySem.W.recIn K pP3a "property" = some (.ref fP3 :: restP3))
    (lP3 : K.lookup fP3 = some ⟨ocP3, odP3, .func (PySem.W.fnOf "names" "Loop.names" (defArgs s_Loop_names) (defBody s_Loop_names) (defScope s_Loop_names) .none kVP3 dcP3 pmP3 anP3 cdP3 ctP3), slP3⟩)
    (kP3 : PySem.W.codeIn K cdP3 "Loop.names" = true)
    (pP3 : PySem.W.keepIn K (.ref fP3) = true)
    (aP4 : PySem.W.findIn K (.ref C) "arcs" = some (some (.ref pP4a)))
    (bP4 : PySem.W.specialIn K (.ref pP4a) "__get__" = some (some (.builtin "property.__get__")))
    (tP4 : PySem.W.takesIn K (.ref pP4a) = some true)
    (rP4 : PySem.W.recIn K pP4a "property" = some (.ref fP4 :: restP4))
    (lP4 : K.lookup fP4 = some ⟨ocP4, odP4, .func (PySem.W.fnOf "arcs" "Loop.arcs" (defArgs s_Loop_arcs) (defBody s_Loop_arcs) (defScope s_Loop_arcs) .none kVP4 dcP4 pmP4 anP4 cdP4 ctP4), slP4⟩)
    (kP4 : PySem.W.codeIn K cdP4 "Loop.arcs" = true)
    (pP4 : PySem.W.keepIn K (.ref fP4) = true)
    (aP5 : PySem.W.findIn K (.ref C) "readings" = some (some (.ref pP5a)))
    (bP5 : PySem.W.specialIn K (.ref pP5a) "__get__" = some (some (.builtin "property.__get__")))
    (tP5 : PySem.W.takesIn K (.ref pP5a) = some true)
    (rP5 : PySem.W.recIn K pP5a "property" = some (.ref fP5 :: restP5))
    (lP5 : K.lookup fP5 = some ⟨ocP5, odP5, .func (PySem.W.fnOf "readings" "Loop.readings" (defArgs s_Loop_readings) (defBody s_Loop_readings) (defScope s_Loop_readings) .none kVP5 dcP5 pmP5 anP5 cdP5 ctP5), slP5⟩)
    (kP5 : PySem.W.codeIn K cdP5 "Loop.readings" = true)
    (pP5 : PySem.W.keepIn K (.ref fP5) = true)
    (aP6 : PySem.W.findIn K (.ref C) "units" = some (some (.ref pP6a)))
    (bP6 : PySem.W.specialIn K (.ref pP6a) "__get__" = some (some (.builtin "property.__get__")))
    (tP6 : PySem.W.takesIn K (.ref pP6a) = some true)
    (rP6 : PySem.W.recIn K pP6a "property" = some (.ref fP6 :: restP6))
    (lP6 : K.lookup fP6 = some ⟨ocP6, odP6, .func (PySem.W.fnOf "units" "Loop.units" (defArgs s_Loop_units) (defBody s_Loop_units) (defScope s_Loop_units) .none kVP6 dcP6 pmP6 anP6 cdP6 ctP6), slP6⟩)
    (kP6 : PySem.W.codeIn K cdP6 "Loop.units" = true)
    (pP6 : PySem.W.keepIn K (.ref fP6) = true)
    (aP7 : PySem.W.findIn K (.ref C) "asking" = some (some (.ref pP7a)))
    (bP7 : PySem.W.specialIn K (.ref pP7a) "__get__" = some (some (.builtin "property.__get__")))
    (tP7 : PySem.W.takesIn K (.ref pP7a) = some true)
    (rP7 : PySem.W.recIn K pP7a "property" = some (.ref fP7 :: restP7))
    (lP7 : K.lookup fP7 = some ⟨ocP7, odP7, .func (PySem.W.fnOf "asking" "Loop.asking" (defArgs s_Loop_asking) (defBody s_Loop_asking) (defScope s_Loop_asking) .none kVP7 dcP7 pmP7 anP7 cdP7 ctP7), slP7⟩)
    (kP7 : PySem.W.codeIn K cdP7 "Loop.asking" = true)
    (pP7 : PySem.W.keepIn K (.ref fP7) = true)
    (iM1 : PySem.W.findIn K (.ref C) "__getitem__" = some (some (.ref fM1)))
    (yM1 : PySem.W.isFn K (.ref fM1) = true)
    (lM1 : K.lookup fM1 = some ⟨ocM1, odM1, .func (PySem.W.fnOf "__getitem__" "Loop.__getitem__" (defArgs s_Loop_getitem) (defBody s_Loop_getitem) (defScope s_Loop_getitem) .none kVM1 dcM1 pmM1 anM1 cdM1 ctM1), slM1⟩)
    (kM1 : PySem.W.codeIn K cdM1 "Loop.__getitem__" = true)
    (pM1 : PySem.W.keepIn K (.ref fM1) = true)
    (iM2 : PySem.W.findIn K (.ref C) "__contains__" = some (some (.ref fM2)))
    (yM2 : PySem.W.isFn K (.ref fM2) = true)
    (lM2 : K.lookup fM2 = some ⟨ocM2, odM2, .func (PySem.W.fnOf "__contains__" "Loop.__contains__" (defArgs s_Loop_contains) (defBody s_Loop_contains) (defScope s_Loop_contains) .none kVM2 dcM2 pmM2 anM2 cdM2 ctM2), slM2⟩)
    (kM2 : PySem.W.codeIn K cdM2 "Loop.__contains__" = true)
    (pM2 : PySem.W.keepIn K (.ref fM2) = true)
    (iM3 : PySem.W.findIn K (.ref C) "__len__" = some (some (.ref fM3)))
    (yM3 : PySem.W.isFn K (.ref fM3) = true)
    (lM3 : K.lookup fM3 = some ⟨ocM3, odM3, .func (PySem.W.fnOf "__len__" "Loop.__len__" (defArgs s_Loop_len) (defBody s_Loop_len) (defScope s_Loop_len) .none kVM3 dcM3 pmM3 anM3 cdM3 ctM3), slM3⟩)
    (kM3 : PySem.W.codeIn K cdM3 "Loop.__len__" = true)
    (pM3 : PySem.W.keepIn K (.ref fM3) = true)
    (iM4 : PySem.W.findIn K (.ref C) "__iter__" = some (some (.ref fM4)))
    (yM4 : PySem.W.isFn K (.ref fM4) = true)
    (lM4 : K.lookup fM4 = some ⟨ocM4, odM4, .func (PySem.W.fnOf "__iter__" "Loop.__iter__" (defArgs s_Loop_iter) (defBody s_Loop_iter) (defScope s_Loop_iter) .none kVM4 dcM4 pmM4 anM4 cdM4 ctM4), slM4⟩)
    (kM4 : PySem.W.codeIn K cdM4 "Loop.__iter__" = true)
    (pM4 : PySem.W.keepIn K (.ref fM4) = true)
    (iM5 : PySem.W.findIn K (.ref C) "__eq__" = some (some (.ref fM5)))
    (yM5 : PySem.W.isFn K (.ref fM5) = true)
    (lM5 : K.lookup fM5 = some ⟨ocM5, odM5, .func (PySem.W.fnOf "__eq__" "Loop.__eq__" (defArgs s_Loop_eq) (defBody s_Loop_eq) (defScope s_Loop_eq) .none kVM5 dcM5 pmM5 anM5 cdM5 ctM5), slM5⟩)
    (kM5 : PySem.W.codeIn K cdM5 "Loop.__eq__" = true)
    (pM5 : PySem.W.keepIn K (.ref fM5) = true)
    (iM6 : PySem.W.findIn K (.ref C) "__str__" = some (some (.ref fM6)))
    (yM6 : PySem.W.isFn K (.ref fM6) = true)
    (lM6 : K.lookup fM6 = some ⟨ocM6, odM6, .func (PySem.W.fnOf "__str__" "Loop.__str__" (defArgs s_Loop_str) (defBody s_Loop_str) (defScope s_Loop_str) .none kVM6 dcM6 pmM6 anM6 cdM6 ctM6), slM6⟩)
    (kM6 : PySem.W.codeIn K cdM6 "Loop.__str__" = true)
    (pM6 : PySem.W.keepIn K (.ref fM6) = true)
    (cg : PySem.W.specialIn K (.builtin "object.__class__") "__get__" = some (some (.builtin "getset_descriptor.__get__")))
    (ct : PySem.W.takesIn K (.builtin "object.__class__") = some true)
    : ∃ L : UL K mg, Nonempty (LD K mg L) := by
  have FI := fun_mk (st := s_Loop_init) lIC kIC pIC
  have FD : FunD K "__init__" "Loop.__init__" (defArgs s_Loop_init) (defBody s_Loop_init) (defScope s_Loop_init) [] [("orders", .ref oI)] fI (PySem.W.fnOf "__init__" "Loop.__init__" (defArgs s_Loop_init) (defBody s_Loop_init) (defScope s_Loop_init) .none (.ref DI) dcIC pmIC anIC cdIC ctIC) := ⟨⟨_, _, _, _, _, _, _, _, _, _, rfl, lIC, kIC, .inl ⟨rfl, rfl⟩, .inr ⟨DI, rfl, fun q hq => by
    obtain rfl := List.mem_singleton.mp hq
    exact ⟨_, w1, rfl⟩⟩⟩, pIC⟩
  have FO : FunD K "of" "Loop.of" (defArgs s_Loop_of) (defBody s_Loop_of) (defScope s_Loop_of) [] [("orders", .ref o0)] fO (PySem.W.fnOf "of" "Loop.of" (defArgs s_Loop_of) (defBody s_Loop_of) (defScope s_Loop_of) .none (.ref DO) dcO pmO anO cdO ctO) := ⟨⟨_, _, _, _, _, _, _, _, _, _, rfl, lO, kO, .inl ⟨rfl, rfl⟩, .inr ⟨DO, rfl, fun q hq => by
    obtain rfl := List.mem_singleton.mp hq
    exact ⟨_, w2, rfl⟩⟩⟩, pO⟩
  exact ⟨⟨C, PySem.W.mg_of X G aC, ⟨c1C, c2C, c3C, c4C⟩, moC, neC, fI, _, FI, ⟨c5C, c6C, c7C, c8C⟩, n1C, n2C, n3C, n4C, n5C, n6C, n7C, n8C, ⟨fT, _, ⟨⟨_, _, _, _, _, _, _, _, _, _, rfl, lT, kT, .inl ⟨rfl, rfl⟩, .inl rfl⟩, pT⟩, ⟨iT, yT, pT⟩, .all fun us hl => match us, hl with | [_, _], _ => rfl⟩, .type "type", ⟨rd, ga⟩, qO, fO, _, o0, ⟨_, _, _, xG, rfl, rfl, by decide, .nil⟩, FO, ⟨cO, ⟨_, rO⟩, fO_⟩, ⟨pP1a, fP1, _, ⟨⟨_, _, _, _, _, _, _, _, _, _, rfl, lP1, kP1, .inl ⟨rfl, rfl⟩, .inl rfl⟩, pP1⟩, ⟨aP1, bP1, tP1, ⟨_, rP1⟩⟩, .all fun us hl => match us, hl with | [_], _ => rfl⟩, ⟨pP2a, fP2, _, ⟨⟨_, _, _, _, _, _, _, _, _, _, rfl, lP2, kP2, .inl ⟨rfl, rfl⟩, .inl rfl⟩, pP2⟩, ⟨aP2, bP2, tP2, ⟨_, rP2⟩⟩, .all fun us hl => match us, hl with | [_], _ => rfl⟩, ⟨pP3a, fP3, _, ⟨⟨_, _, _, _, _, _, _, _, _, _, rfl, lP3, kP3, .inl ⟨rfl, rfl⟩, .inl rfl⟩, pP3⟩, ⟨aP3, bP3, tP3, ⟨_, rP3⟩⟩, .all fun us hl => match us, hl with | [_], _ => rfl⟩, ⟨pP4a, fP4, _, ⟨⟨_, _, _, _, _, _, _, _, _, _, rfl, lP4, kP4, .inl ⟨rfl, rfl⟩, .inl rfl⟩, pP4⟩, ⟨aP4, bP4, tP4, ⟨_, rP4⟩⟩, .all fun us hl => match us, hl with | [_], _ => rfl⟩, ⟨pP5a, fP5, _, ⟨⟨_, _, _, _, _, _, _, _, _, _, rfl, lP5, kP5, .inl ⟨rfl, rfl⟩, .inl rfl⟩, pP5⟩, ⟨aP5, bP5, tP5, ⟨_, rP5⟩⟩, .all fun us hl => match us, hl with | [_], _ => rfl⟩, ⟨pP6a, fP6, _, ⟨⟨_, _, _, _, _, _, _, _, _, _, rfl, lP6, kP6, .inl ⟨rfl, rfl⟩, .inl rfl⟩, pP6⟩, ⟨aP6, bP6, tP6, ⟨_, rP6⟩⟩, .all fun us hl => match us, hl with | [_], _ => rfl⟩, ⟨pP7a, fP7, _, ⟨⟨_, _, _, _, _, _, _, _, _, _, rfl, lP7, kP7, .inl ⟨rfl, rfl⟩, .inl rfl⟩, pP7⟩, ⟨aP7, bP7, tP7, ⟨_, rP7⟩⟩, .all fun us hl => match us, hl with | [_], _ => rfl⟩, ⟨fM1, _, ⟨⟨_, _, _, _, _, _, _, _, _, _, rfl, lM1, kM1, .inl ⟨rfl, rfl⟩, .inl rfl⟩, pM1⟩, ⟨iM1, yM1, pM1⟩, .all fun us hl => match us, hl with | [_, _], _ => rfl⟩, ⟨fM2, _, ⟨⟨_, _, _, _, _, _, _, _, _, _, rfl, lM2, kM2, .inl ⟨rfl, rfl⟩, .inl rfl⟩, pM2⟩, ⟨iM2, yM2, pM2⟩, .all fun us hl => match us, hl with | [_, _], _ => rfl⟩, ⟨fM3, _, ⟨⟨_, _, _, _, _, _, _, _, _, _, rfl, lM3, kM3, .inl ⟨rfl, rfl⟩, .inl rfl⟩, pM3⟩, ⟨iM3, yM3, pM3⟩, .all fun us hl => match us, hl with | [_], _ => rfl⟩, ⟨fM4, _, ⟨⟨_, _, _, _, _, _, _, _, _, _, rfl, lM4, kM4, .inl ⟨rfl, rfl⟩, .inl rfl⟩, pM4⟩, ⟨iM4, yM4, pM4⟩, .all fun us hl => match us, hl with | [_], _ => rfl⟩, ⟨fM5, _, ⟨⟨_, _, _, _, _, _, _, _, _, _, rfl, lM5, kM5, .inl ⟨rfl, rfl⟩, .inl rfl⟩, pM5⟩, ⟨iM5, yM5, pM5⟩, .all fun us hl => match us, hl with | [_, _], _ => rfl⟩, ⟨fM6, _, ⟨⟨_, _, _, _, _, _, _, _, _, _, rfl, lM6, kM6, .inl ⟨rfl, rfl⟩, .inl rfl⟩, pM6⟩, ⟨iM6, yM6, pM6⟩, .all fun us hl => match us, hl with | [_], _ => rfl⟩, caC, cg, ct⟩, ⟨⟨oI, ⟨_, _, _, xE, rfl, rfl, by decide, .nil⟩, FD⟩⟩⟩
theorem exm_by {K : PySem.W.Frag} {A S : Addr} {b : Bool} (h1 : PySem.W.subIn K (.ref S) (.type "BaseException") = some true) (h2 : PySem.W.isClsIn K S = true) (h3 : PySem.W.typeIn K (.ref S) = some (.type "type")) (h4 : PySem.W.subIn K (.ref A) (.ref S) = some b) :
    PySem.W.exmOne K (.ref A) (.ref S) = some b := by
  have h5 : (PySem.W.clsIn K S).isSome = true := h2
  unfold PySem.W.exmOne PySem.W.kitCls
  rw [h1]
  dsimp only
  rw [h5, h3, h4]
  rfl
theorem mk_E {K : PySem.W.Frag} {h : Heap} {mg : Str → Option Value} (X : K.In h) (G : h.Ns mainGlobals mg)
    {fU cU dTU cL cM : Addr} {nmU qU : Str} {NU : Addr} {bsU bmU subU : List Value} {snU : List Str} {abU : Bool} {colU : Option Bool} {ddU : Option Addr} {m0U m1U m2U m3U m4U : Option Value} {ocU kVU dcU pmU cdU ctU : Value} {odU anU : Option Addr} {slU : Array (Option Value)} {ocD : Value} {odD : Option Addr} {nD : Nat} {slD : Array (Option Value)}
    (aU : PySem.W.nsIn K mainGlobals "InvalidArgument" = some (some (.ref cU)))
    (xU : K.lookup cU = some (excClassObj nmU qU cU NU bsU bmU true snU subU abU colU ddU m0U m1U m2U m3U m4U "ValueError.__new__"))
    (hU : OXB.Chain bmU "ValueError")
    (sU : PySem.W.findIn K (.ref cU) "__setattr__" = some (some (.builtin "object.__setattr__")))
    (eU : PySem.W.subIn K (.ref cU) (.type "BaseException") = some true)
    (tU : PySem.W.typeIn K (.ref cU) = some (.type "type"))
    (kU : PySem.W.keepIn K (.ref cU) = true)
    (iU : PySem.W.findIn K (.ref cU) "__init__" = some (some (.ref fU)))
    (nU : PySem.W.findIn K (.ref cU) "told" = some none)
    (gaU : PySem.W.findIn K (.ref cU) "__getattribute__" = some (some (.builtin "BaseException.__getattribute__")))
    (ggU : PySem.W.findIn K (.ref cU) "__getattr__" = some none)
    (hdU : PySem.W.hasDictIn K cU = true)
    (gU : PySem.W.isClsIn K cU = true)
    (lU : K.lookup fU = some ⟨ocU, odU, .func (PySem.W.fnOf "__init__" "RoundError.__init__" (defArgs s_RoundError_init) (defBody s_RoundError_init) (defScope s_RoundError_init) (.ref dTU) kVU dcU pmU anU cdU ctU), slU⟩)
    (coU : PySem.W.codeIn K cdU "RoundError.__init__" = true)
    (keU : PySem.W.keepIn K (.ref fU) = true)
    (tyU : PySem.W.typeIn K (.ref fU) = some (.type "function"))
    (xD : K.lookup dTU = some ⟨ocD, odD, .seq #[.none] nD, slD⟩)
    (aL : PySem.W.nsIn K mainGlobals "InvalidLoop" = some (some (.ref cL)))
    (aM : PySem.W.nsIn K mainGlobals "InvalidMachine" = some (some (.ref cM)))
    (gL : PySem.W.isClsIn K cL = true)
    (eL : PySem.W.subIn K (.ref cL) (.type "BaseException") = some true)
    (tL : PySem.W.typeIn K (.ref cL) = some (.type "type"))
    (gM : PySem.W.isClsIn K cM = true)
    (eM : PySem.W.subIn K (.ref cM) (.type "BaseException") = some true)
    (tM : PySem.W.typeIn K (.ref cM) = some (.type "type"))
    (al : PySem.W.subIn K (.ref cU) (.ref cL) = some false)
    (am : PySem.W.subIn K (.ref cU) (.ref cM) = some false)
    (aa : PySem.W.subIn K (.ref cU) (.ref cU) = some true)
    : ∃ Z : UA K mg, Nonempty (WC K mg Z.A) := by
  have FR : FunD K "__init__" "RoundError.__init__" (defArgs s_RoundError_init) (defBody s_RoundError_init) (defScope s_RoundError_init) [.non] [] fU (PySem.W.fnOf "__init__" "RoundError.__init__" (defArgs s_RoundError_init) (defBody s_RoundError_init) (defScope s_RoundError_init) (.ref dTU) kVU dcU pmU anU cdU ctU) := ⟨⟨_, _, _, _, _, _, _, _, _, _, rfl, lU, coU, .inr ⟨by simp, dTU, _, [.none], nD, rfl, xD, rfl, .cons rfl .nil⟩, .inl rfl⟩, keU⟩
  have bR : L2.Binds K (PySem.W.fnOf "__init__" "RoundError.__init__" (defArgs s_RoundError_init) (defBody s_RoundError_init) (defScope s_RoundError_init) (.ref dTU) kVU dcU pmU anU cdU ctU) ["self", "told"] [] := by
    obtain ⟨ds, v, b⟩ := FR.binds1 (ps := ["self", "told"]) 2 1 (by simp) rfl fun T kV doc pm an cdv ct us its l1 l2 => by
      match us, its, l1, l2 with
      | [_, _], [_], _, _ => exact ⟨_, rfl, rfl⟩
    cases v
    exact b
  exact ⟨⟨fU, _, FR, bR, cU, ⟨PySem.W.mg_of X G aU, ⟨⟨nmU, qU, NU, bsU, bmU, snU, subU, abU, colU, ddU, m0U, m1U, m2U, m3U, m4U, _, _, _, _, PySem.F.excBase_ValueError, hU, xU⟩, sU, eU, tU, kU⟩, iU, tyU, nU⟩, ⟨gaU, ggU, eU, hdU⟩⟩,
    ⟨⟨cL, PySem.W.mg_of X G aL, cM, PySem.W.mg_of X G aM, exm_by eL gL tL al, exm_by eM gM tM am, exm_by eU gU tU aa⟩⟩⟩
theorem mk_T {K : PySem.W.Frag} {h : Heap} {mg : Str → Option Value} {c1 f_wall f_is_name f_is_integer f_is_between f_check_between f_check_interval f_ascends f_is_pair f_is_row_of_pairs f_is_table f_first_items f_order_of_round f_told f_table_of f_readings_of f_arcs_of f_is_order f_check_orders f_check_loop f_is_starts f_check_starts f_is_fitting f_leeway f_w_dice f_w_next f_w_words f_w_reads f_w_uses f_w_rows f_w_rules f_w_loop f_w_readings f_w_arcs f_w_spares f_w_fitting f_w_cells f_w_is_count f_w_is_truth f_w_are_counts f_w_turned f_w_word f_w_is_met f_w_is_refused f_w_is_spoilt f_w_case f_law : Addr} (X : K.In h) (G : h.Ns mainGlobals mg)
    {od_wall an_wall od_is_name an_is_name od_is_integer an_is_integer od_is_between an_is_between od_check_between an_check_between od_check_interval an_check_interval od_ascends an_ascends od_is_pair an_is_pair od_is_row_of_pairs an_is_row_of_pairs od_is_table an_is_table od_first_items an_first_items od_order_of_round an_order_of_round od_told an_told od_table_of an_table_of od_readings_of an_readings_of od_arcs_of an_arcs_of od_is_order an_is_order od_check_orders an_check_orders od_check_loop an_check_loop od_is_starts an_is_starts od_check_starts an_check_starts od_is_fitting an_is_fitting od_leeway an_leeway od_w_dice an_w_dice od_w_next an_w_next od_w_words an_w_words od_w_reads an_w_reads od_w_uses an_w_uses od_w_rows an_w_rows od_w_rules an_w_rules od_w_loop an_w_loop od_w_readings an_w_readings od_w_arcs an_w_arcs od_w_spares an_w_spares od_w_fitting an_w_fitting od_w_cells an_w_cells od_w_is_count an_w_is_count od_w_is_truth an_w_is_truth od_w_are_counts an_w_are_counts od_w_turned an_w_turned od_w_word an_w_word od_w_is_met an_w_is_met od_w_is_refused an_w_is_refused od_w_is_spoilt an_w_is_spoilt od_w_case an_w_case od_law an_law : Option Addr} {sl_wall sl_is_name sl_is_integer sl_is_between sl_check_between sl_check_interval sl_ascends sl_is_pair sl_is_row_of_pairs sl_is_table sl_first_items sl_order_of_round sl_told sl_table_of sl_readings_of sl_arcs_of sl_is_order sl_check_orders sl_check_loop sl_is_starts sl_check_starts sl_is_fitting sl_leeway sl_w_dice sl_w_next sl_w_words sl_w_reads sl_w_uses sl_w_rows sl_w_rules sl_w_loop sl_w_readings sl_w_arcs sl_w_spares sl_w_fitting sl_w_cells sl_w_is_count sl_w_is_truth sl_w_are_counts sl_w_turned sl_w_word sl_w_is_met sl_w_is_refused sl_w_is_spoilt sl_w_case sl_law : Array (Option Value)} {oc_wall kV_wall dc_wall pm_wall cd_wall ct_wall oc_is_name kV_is_name dc_is_name pm_is_name cd_is_name ct_is_name oc_is_integer kV_is_integer dc_is_integer pm_is_integer cd_is_integer ct_is_integer oc_is_between kV_is_between dc_is_between pm_is_between cd_is_between ct_is_between oc_check_between kV_check_between dc_check_between pm_check_between cd_check_between ct_check_between oc_check_interval kV_check_interval dc_check_interval pm_check_interval cd_check_interval ct_check_interval oc_ascends kV_ascends dc_ascends pm_ascends cd_ascends ct_ascends oc_is_pair kV_is_pair dc_is_pair pm_is_pair cd_is_pair ct_is_pair oc_is_row_of_pairs kV_is_row_of_pairs dc_is_row_of_pairs pm_is_row_of_pairs cd_is_row_of_pairs ct_is_row_of_pairs oc_is_table kV_is_table dc_is_table pm_is_table cd_is_table ct_is_table oc_first_items kV_first_items dc_first_items pm_first_items cd_first_items ct_first_items oc_order_of_round kV_order_of_round dc_order_of_round pm_order_of_round cd_order_of_round ct_order_of_round oc_told kV_told dc_told pm_told cd_told ct_told oc_table_of kV_table_of dc_table_of pm_table_of cd_table_of ct_table_of oc_readings_of kV_readings_of dc_readings_of pm_readings_of cd_readings_of ct_readings_of oc_arcs_of kV_arcs_of dc_arcs_of pm_arcs_of cd_arcs_of ct_arcs_of oc_is_order kV_is_order dc_is_order pm_is_order cd_is_order ct_is_order oc_check_orders kV_check_orders dc_check_orders pm_check_orders cd_check_orders ct_check_orders oc_check_loop kV_check_loop dc_check_loop pm_check_loop cd_check_loop ct_check_loop oc_is_starts kV_is_starts dc_is_starts pm_is_starts cd_is_starts ct_is_starts oc_check_starts kV_check_starts dc_check_starts pm_check_starts cd_check_starts ct_check_starts oc_is_fitting kV_is_fitting dc_is_fitting pm_is_fitting cd_is_fitting ct_is_fitting oc_leeway kV_leeway dc_leeway pm_leeway cd_leeway ct_leeway oc_w_dice kV_w_dice dc_w_dice pm_w_dice cd_w_dice ct_w_dice oc_w_next kV_w_next dc_w_next pm_w_next cd_w_next ct_w_next oc_w_words kV_w_words dc_w_words pm_w_words cd_w_words ct_w_words oc_w_reads kV_w_reads dc_w_reads pm_w_reads cd_w_reads ct_w_reads oc_w_uses kV_w_uses dc_w_uses pm_w_uses cd_w_uses ct_w_uses oc_w_rows kV_w_rows dc_w_rows pm_w_rows cd_w_rows ct_w_rows oc_w_rules kV_w_rules dc_w_rules pm_w_rules cd_w_rules ct_w_rules oc_w_loop kV_w_loop dc_w_loop pm_w_loop cd_w_loop ct_w_loop oc_w_readings kV_w_readings dc_w_readings pm_w_readings cd_w_readings ct_w_readings oc_w_arcs kV_w_arcs dc_w_arcs pm_w_arcs cd_w_arcs ct_w_arcs oc_w_spares kV_w_spares dc_w_spares pm_w_spares cd_w_spares ct_w_spares oc_w_fitting kV_w_fitting dc_w_fitting pm_w_fitting cd_w_fitting ct_w_fitting oc_w_cells kV_w_cells dc_w_cells pm_w_cells cd_w_cells ct_w_cells oc_w_is_count kV_w_is_count dc_w_is_count pm_w_is_count cd_w_is_count ct_w_is_count oc_w_is_truth kV_w_is_truth dc_w_is_truth pm_w_is_truth cd_w_is_truth ct_w_is_truth oc_w_are_counts kV_w_are_counts dc_w_are_counts pm_w_are_counts cd_w_are_counts ct_w_are_counts oc_w_turned kV_w_turned dc_w_turned pm_w_turned cd_w_turned ct_w_turned oc_w_word kV_w_word dc_w_word pm_w_word cd_w_word ct_w_word oc_w_is_met kV_w_is_met dc_w_is_met pm_w_is_met cd_w_is_met ct_w_is_met oc_w_is_refused kV_w_is_refused dc_w_is_refused pm_w_is_refused ct_w_is_refused oc_w_is_spoilt kV_w_is_spoilt dc_w_is_spoilt pm_w_is_spoilt cd_w_is_spoilt ct_w_is_spoilt oc_w_case kV_w_case dc_w_case pm_w_case cd_w_case ct_w_case oc_law kV_law dc_law pm_law cd_law ct_law : Value} {t_MAX_INTERVAL t_MAX_TICKS t_MAX_LETTERS t_MAX_OPERATIONS t_MAX_DISTANCE t_MAX_READS t_MAX_USES t_MAX_OFFSET t_MAX_ORDERS t_MAX_DELAY t_MAX_START : Tok}
    (a_wall : PySem.W.nsIn K mainGlobals "_wall" = some (some (.ref f_wall))) (l_wall : K.lookup f_wall = some ⟨oc_wall, od_wall, .func (PySem.W.fnOf "_wall" "_wall" (defArgs s_wall) (defBody s_wall) (defScope s_wall) .none kV_wall dc_wall pm_wall an_wall cd_wall ct_wall), sl_wall⟩) (k_wall : PySem.W.codeIn K cd_wall "_wall" = true) (p_wall : PySem.W.keepIn K (.ref f_wall) = true)
    (a_is_name : PySem.W.nsIn K mainGlobals "is_name" = some (some (.ref f_is_name))) (l_is_name : K.lookup f_is_name = some ⟨oc_is_name, od_is_name, .func (PySem.W.fnOf "is_name" "is_name" (defArgs s_is_name) (defBody s_is_name) (defScope s_is_name) .none kV_is_name dc_is_name pm_is_name an_is_name cd_is_name ct_is_name), sl_is_name⟩) (k_is_name : PySem.W.codeIn K cd_is_name "is_name" = true) (p_is_name : PySem.W.keepIn K (.ref f_is_name) = true)
    (a_is_integer : PySem.W.nsIn K mainGlobals "is_integer" = some (some (.ref f_is_integer))) (l_is_integer : K.lookup f_is_integer = some ⟨oc_is_integer, od_is_integer, .func (PySem.W.fnOf "is_integer" "is_integer" (defArgs s_is_integer) (defBody s_is_integer) (defScope s_is_integer) .none kV_is_integer dc_is_integer pm_is_integer an_is_integer cd_is_integer ct_is_integer), sl_is_integer⟩) (k_is_integer : PySem.W.codeIn K cd_is_integer "is_integer" = true) (p_is_integer : PySem.W.keepIn K (.ref f_is_integer) = true)
    (a_is_between : PySem.W.nsIn K mainGlobals "is_between" = some (some (.ref f_is_between))) (l_is_between : K.lookup f_is_between = some ⟨oc_is_between, od_is_between, .func (PySem.W.fnOf "is_between" "is_between" (defArgs s_is_between) (defBody s_is_between) (defScope s_is_between) .none kV_is_between dc_is_between pm_is_between an_is_between cd_is_between ct_is_between), sl_is_between⟩) (k_is_between : PySem.W.codeIn K cd_is_between "is_between" = true) (p_is_between : PySem.W.keepIn K (.ref f_is_between) = true)
    (a_check_between : PySem.W.nsIn K mainGlobals "check_between" = some (some (.ref f_check_between))) (l_check_between : K.lookup f_check_between = some ⟨oc_check_between, od_check_between, .func (PySem.W.fnOf "check_between" "check_between" (defArgs s_check_between) (defBody s_check_between) (defScope s_check_between) .none kV_check_between dc_check_between pm_check_between an_check_between cd_check_between ct_check_between), sl_check_between⟩) (k_check_between : PySem.W.codeIn K cd_check_between "check_between" = true) (p_check_between : PySem.W.keepIn K (.ref f_check_between) = true)
    (a_check_interval : PySem.W.nsIn K mainGlobals "check_interval" = some (some (.ref f_check_interval))) (l_check_interval : K.lookup f_check_interval = some ⟨oc_check_interval, od_check_interval, .func (PySem.W.fnOf "check_interval" "check_interval" (defArgs s_check_interval) (defBody s_check_interval) (defScope s_check_interval) .none kV_check_interval dc_check_interval pm_check_interval an_check_interval cd_check_interval ct_check_interval), sl_check_interval⟩) (k_check_interval : PySem.W.codeIn K cd_check_interval "check_interval" = true) (p_check_interval : PySem.W.keepIn K (.ref f_check_interval) = true)
    (a_ascends : PySem.W.nsIn K mainGlobals "ascends" = some (some (.ref f_ascends))) (l_ascends : K.lookup f_ascends = some ⟨oc_ascends, od_ascends, .func (PySem.W.fnOf "ascends" "ascends" (defArgs s_ascends) (defBody s_ascends) (defScope s_ascends) .none kV_ascends dc_ascends pm_ascends an_ascends cd_ascends ct_ascends), sl_ascends⟩) (k_ascends : PySem.W.codeIn K cd_ascends "ascends" = true) (p_ascends : PySem.W.keepIn K (.ref f_ascends) = true)
    (a_is_pair : PySem.W.nsIn K mainGlobals "is_pair" = some (some (.ref f_is_pair))) (l_is_pair : K.lookup f_is_pair = some ⟨oc_is_pair, od_is_pair, .func (PySem.W.fnOf "is_pair" "is_pair" (defArgs s_is_pair) (defBody s_is_pair) (defScope s_is_pair) .none kV_is_pair dc_is_pair pm_is_pair an_is_pair cd_is_pair ct_is_pair), sl_is_pair⟩) (k_is_pair : PySem.W.codeIn K cd_is_pair "is_pair" = true) (p_is_pair : PySem.W.keepIn K (.ref f_is_pair) = true)
    (a_is_row_of_pairs : PySem.W.nsIn K mainGlobals "is_row_of_pairs" = some (some (.ref f_is_row_of_pairs))) (l_is_row_of_pairs : K.lookup f_is_row_of_pairs = some ⟨oc_is_row_of_pairs, od_is_row_of_pairs, .func (PySem.W.fnOf "is_row_of_pairs" "is_row_of_pairs" (defArgs s_is_row_of_pairs) (defBody s_is_row_of_pairs) (defScope s_is_row_of_pairs) .none kV_is_row_of_pairs dc_is_row_of_pairs pm_is_row_of_pairs an_is_row_of_pairs cd_is_row_of_pairs ct_is_row_of_pairs), sl_is_row_of_pairs⟩) (k_is_row_of_pairs : PySem.W.codeIn K cd_is_row_of_pairs "is_row_of_pairs" = true) (p_is_row_of_pairs : PySem.W.keepIn K (.ref f_is_row_of_pairs) = true)
    (a_is_table : PySem.W.nsIn K mainGlobals "is_table" = some (some (.ref f_is_table))) (l_is_table : K.lookup f_is_table = some ⟨oc_is_table, od_is_table, .func (PySem.W.fnOf "is_table" "is_table" (defArgs s_is_table) (defBody s_is_table) (defScope s_is_table) .none kV_is_table dc_is_table pm_is_table an_is_table cd_is_table ct_is_table), sl_is_table⟩) (k_is_table : PySem.W.codeIn K cd_is_table "is_table" = true) (p_is_table : PySem.W.keepIn K (.ref f_is_table) = true)
    (a_first_items : PySem.W.nsIn K mainGlobals "first_items" = some (some (.ref f_first_items))) (l_first_items : K.lookup f_first_items = some ⟨oc_first_items, od_first_items, .func (PySem.W.fnOf "first_items" "first_items" (defArgs s_first_items) (defBody s_first_items) (defScope s_first_items) .none kV_first_items dc_first_items pm_first_items an_first_items cd_first_items ct_first_items), sl_first_items⟩) (k_first_items : PySem.W.codeIn K cd_first_items "first_items" = true) (p_first_items : PySem.W.keepIn K (.ref f_first_items) = true)
    (a_order_of_round : PySem.W.nsIn K mainGlobals "order_of_round" = some (some (.ref f_order_of_round))) (l_order_of_round : K.lookup f_order_of_round = some ⟨oc_order_of_round, od_order_of_round, .func (PySem.W.fnOf "order_of_round" "order_of_round" (defArgs s_order_of_round) (defBody s_order_of_round) (defScope s_order_of_round) .none kV_order_of_round dc_order_of_round pm_order_of_round an_order_of_round cd_order_of_round ct_order_of_round), sl_order_of_round⟩) (k_order_of_round : PySem.W.codeIn K cd_order_of_round "order_of_round" = true) (p_order_of_round : PySem.W.keepIn K (.ref f_order_of_round) = true)
    (a_told : PySem.W.nsIn K mainGlobals "_told" = some (some (.ref f_told))) (l_told : K.lookup f_told = some ⟨oc_told, od_told, .func (PySem.W.fnOf "_told" "_told" (defArgs s_told) (defBody s_told) (defScope s_told) .none kV_told dc_told pm_told an_told cd_told ct_told), sl_told⟩) (k_told : PySem.W.codeIn K cd_told "_told" = true) (p_told : PySem.W.keepIn K (.ref f_told) = true)
    (a_table_of : PySem.W.nsIn K mainGlobals "_table_of" = some (some (.ref f_table_of))) (l_table_of : K.lookup f_table_of = some ⟨oc_table_of, od_table_of, .func (PySem.W.fnOf "_table_of" "_table_of" (defArgs s_table_of) (defBody s_table_of) (defScope s_table_of) .none kV_table_of dc_table_of pm_table_of an_table_of cd_table_of ct_table_of), sl_table_of⟩) (k_table_of : PySem.W.codeIn K cd_table_of "_table_of" = true) (p_table_of : PySem.W.keepIn K (.ref f_table_of) = true)
    (a_readings_of : PySem.W.nsIn K mainGlobals "_readings_of" = some (some (.ref f_readings_of))) (l_readings_of : K.lookup f_readings_of = some ⟨oc_readings_of, od_readings_of, .func (PySem.W.fnOf "_readings_of" "_readings_of" (defArgs s_readings_of) (defBody s_readings_of) (defScope s_readings_of) .none kV_readings_of dc_readings_of pm_readings_of an_readings_of cd_readings_of ct_readings_of), sl_readings_of⟩) (k_readings_of : PySem.W.codeIn K cd_readings_of "_readings_of" = true) (p_readings_of : PySem.W.keepIn K (.ref f_readings_of) = true)
    (a_arcs_of : PySem.W.nsIn K mainGlobals "_arcs_of" = some (some (.ref f_arcs_of))) (l_arcs_of : K.lookup f_arcs_of = some ⟨oc_arcs_of, od_arcs_of, .func (PySem.W.fnOf "_arcs_of" "_arcs_of" (defArgs s_arcs_of) (defBody s_arcs_of) (defScope s_arcs_of) .none kV_arcs_of dc_arcs_of pm_arcs_of an_arcs_of cd_arcs_of ct_arcs_of), sl_arcs_of⟩) (k_arcs_of : PySem.W.codeIn K cd_arcs_of "_arcs_of" = true) (p_arcs_of : PySem.W.keepIn K (.ref f_arcs_of) = true)
    (a_is_order : PySem.W.nsIn K mainGlobals "is_order" = some (some (.ref f_is_order))) (l_is_order : K.lookup f_is_order = some ⟨oc_is_order, od_is_order, .func (PySem.W.fnOf "is_order" "is_order" (defArgs s_is_order) (defBody s_is_order) (defScope s_is_order) .none kV_is_order dc_is_order pm_is_order an_is_order cd_is_order ct_is_order), sl_is_order⟩) (k_is_order : PySem.W.codeIn K cd_is_order "is_order" = true) (p_is_order : PySem.W.keepIn K (.ref f_is_order) = true)
    (a_check_orders : PySem.W.nsIn K mainGlobals "_check_orders" = some (some (.ref f_check_orders))) (l_check_orders : K.lookup f_check_orders = some ⟨oc_check_orders, od_check_orders, .func (PySem.W.fnOf "_check_orders" "_check_orders" (defArgs s_check_orders) (defBody s_check_orders) (defScope s_check_orders) .none kV_check_orders dc_check_orders pm_check_orders an_check_orders cd_check_orders ct_check_orders), sl_check_orders⟩) (k_check_orders : PySem.W.codeIn K cd_check_orders "_check_orders" = true) (p_check_orders : PySem.W.keepIn K (.ref f_check_orders) = true)
    (a_check_loop : PySem.W.nsIn K mainGlobals "check_loop" = some (some (.ref f_check_loop))) (l_check_loop : K.lookup f_check_loop = some ⟨oc_check_loop, od_check_loop, .func (PySem.W.fnOf "check_loop" "check_loop" (defArgs s_check_loop) (defBody s_check_loop) (defScope s_check_loop) .none kV_check_loop dc_check_loop pm_check_loop an_check_loop cd_check_loop ct_check_loop), sl_check_loop⟩) (k_check_loop : PySem.W.codeIn K cd_check_loop "check_loop" = true) (p_check_loop : PySem.W.keepIn K (.ref f_check_loop) = true)
    (a_is_starts : PySem.W.nsIn K mainGlobals "is_starts" = some (some (.ref f_is_starts))) (l_is_starts : K.lookup f_is_starts = some ⟨oc_is_starts, od_is_starts, .func (PySem.W.fnOf "is_starts" "is_starts" (defArgs s_is_starts) (defBody s_is_starts) (defScope s_is_starts) .none kV_is_starts dc_is_starts pm_is_starts an_is_starts cd_is_starts ct_is_starts), sl_is_starts⟩) (k_is_starts : PySem.W.codeIn K cd_is_starts "is_starts" = true) (p_is_starts : PySem.W.keepIn K (.ref f_is_starts) = true)
    (a_check_starts : PySem.W.nsIn K mainGlobals "check_starts" = some (some (.ref f_check_starts))) (l_check_starts : K.lookup f_check_starts = some ⟨oc_check_starts, od_check_starts, .func (PySem.W.fnOf "check_starts" "check_starts" (defArgs s_check_starts) (defBody s_check_starts) (defScope s_check_starts) .none kV_check_starts dc_check_starts pm_check_starts an_check_starts cd_check_starts ct_check_starts), sl_check_starts⟩) (k_check_starts : PySem.W.codeIn K cd_check_starts "check_starts" = true) (p_check_starts : PySem.W.keepIn K (.ref f_check_starts) = true)
    (a_is_fitting : PySem.W.nsIn K mainGlobals "is_fitting" = some (some (.ref f_is_fitting))) (l_is_fitting : K.lookup f_is_fitting = some ⟨oc_is_fitting, od_is_fitting, .func (PySem.W.fnOf "is_fitting" "is_fitting" (defArgs s_is_fitting) (defBody s_is_fitting) (defScope s_is_fitting) .none kV_is_fitting dc_is_fitting pm_is_fitting an_is_fitting cd_is_fitting ct_is_fitting), sl_is_fitting⟩) (k_is_fitting : PySem.W.codeIn K cd_is_fitting "is_fitting" = true) (p_is_fitting : PySem.W.keepIn K (.ref f_is_fitting) = true)
    (a_leeway : PySem.W.nsIn K mainGlobals "leeway" = some (some (.ref f_leeway))) (l_leeway : K.lookup f_leeway = some ⟨oc_leeway, od_leeway, .func (PySem.W.fnOf "leeway" "leeway" (defArgs s_leeway) (defBody s_leeway) (defScope s_leeway) .none kV_leeway dc_leeway pm_leeway an_leeway cd_leeway ct_leeway), sl_leeway⟩) (k_leeway : PySem.W.codeIn K cd_leeway "leeway" = true) (p_leeway : PySem.W.keepIn K (.ref f_leeway) = true)
    (a_w_dice : PySem.W.nsIn K mainGlobals "_law_dice" = some (some (.ref f_w_dice))) (l_w_dice : K.lookup f_w_dice = some ⟨oc_w_dice, od_w_dice, .func (PySem.W.fnOf "_law_dice" "_law_dice" (defArgs s_w_dice) (defBody s_w_dice) (defScope s_w_dice) .none kV_w_dice dc_w_dice pm_w_dice an_w_dice cd_w_dice ct_w_dice), sl_w_dice⟩) (k_w_dice : PySem.W.codeIn K cd_w_dice "_law_dice" = true) (p_w_dice : PySem.W.keepIn K (.ref f_w_dice) = true)
    (a_w_next : PySem.W.nsIn K mainGlobals "_law_next" = some (some (.ref f_w_next))) (l_w_next : K.lookup f_w_next = some ⟨oc_w_next, od_w_next, .func (PySem.W.fnOf "_law_next" "_law_next" (defArgs s_w_next) (defBody s_w_next) (defScope s_w_next) .none kV_w_next dc_w_next pm_w_next an_w_next cd_w_next ct_w_next), sl_w_next⟩) (k_w_next : PySem.W.codeIn K cd_w_next "_law_next" = true) (p_w_next : PySem.W.keepIn K (.ref f_w_next) = true)
    (a_w_words : PySem.W.nsIn K mainGlobals "_law_words" = some (some (.ref f_w_words))) (l_w_words : K.lookup f_w_words = some ⟨oc_w_words, od_w_words, .func (PySem.W.fnOf "_law_words" "_law_words" (defArgs s_w_words) (defBody s_w_words) (defScope s_w_words) .none kV_w_words dc_w_words pm_w_words an_w_words cd_w_words ct_w_words), sl_w_words⟩) (k_w_words : PySem.W.codeIn K cd_w_words "_law_words" = true) (p_w_words : PySem.W.keepIn K (.ref f_w_words) = true)
    (a_w_reads : PySem.W.nsIn K mainGlobals "_law_reads" = some (some (.ref f_w_reads))) (l_w_reads : K.lookup f_w_reads = some ⟨oc_w_reads, od_w_reads, .func (PySem.W.fnOf "_law_reads" "_law_reads" (defArgs s_w_reads) (defBody s_w_reads) (defScope s_w_reads) .none kV_w_reads dc_w_reads pm_w_reads an_w_reads cd_w_reads ct_w_reads), sl_w_reads⟩) (k_w_reads : PySem.W.codeIn K cd_w_reads "_law_reads" = true) (p_w_reads : PySem.W.keepIn K (.ref f_w_reads) = true)
    (a_w_uses : PySem.W.nsIn K mainGlobals "_law_uses" = some (some (.ref f_w_uses))) (l_w_uses : K.lookup f_w_uses = some ⟨oc_w_uses, od_w_uses, .func (PySem.W.fnOf "_law_uses" "_law_uses" (defArgs s_w_uses) (defBody s_w_uses) (defScope s_w_uses) .none kV_w_uses dc_w_uses pm_w_uses an_w_uses cd_w_uses ct_w_uses), sl_w_uses⟩) (k_w_uses : PySem.W.codeIn K cd_w_uses "_law_uses" = true) (p_w_uses : PySem.W.keepIn K (.ref f_w_uses) = true)
    (a_w_rows : PySem.W.nsIn K mainGlobals "_law_rows" = some (some (.ref f_w_rows))) (l_w_rows : K.lookup f_w_rows = some ⟨oc_w_rows, od_w_rows, .func (PySem.W.fnOf "_law_rows" "_law_rows" (defArgs s_w_rows) (defBody s_w_rows) (defScope s_w_rows) .none kV_w_rows dc_w_rows pm_w_rows an_w_rows cd_w_rows ct_w_rows), sl_w_rows⟩) (k_w_rows : PySem.W.codeIn K cd_w_rows "_law_rows" = true) (p_w_rows : PySem.W.keepIn K (.ref f_w_rows) = true)
    (a_w_rules : PySem.W.nsIn K mainGlobals "_law_rules" = some (some (.ref f_w_rules))) (l_w_rules : K.lookup f_w_rules = some ⟨oc_w_rules, od_w_rules, .func (PySem.W.fnOf "_law_rules" "_law_rules" (defArgs s_w_rules) (defBody s_w_rules) (defScope s_w_rules) .none kV_w_rules dc_w_rules pm_w_rules an_w_rules cd_w_rules ct_w_rules), sl_w_rules⟩) (k_w_rules : PySem.W.codeIn K cd_w_rules "_law_rules" = true) (p_w_rules : PySem.W.keepIn K (.ref f_w_rules) = true)
    (a_w_loop : PySem.W.nsIn K mainGlobals "_law_loop" = some (some (.ref f_w_loop))) (l_w_loop : K.lookup f_w_loop = some ⟨oc_w_loop, od_w_loop, .func (PySem.W.fnOf "_law_loop" "_law_loop" (defArgs s_w_loop) (defBody s_w_loop) (defScope s_w_loop) .none kV_w_loop dc_w_loop pm_w_loop an_w_loop cd_w_loop ct_w_loop), sl_w_loop⟩) (k_w_loop : PySem.W.codeIn K cd_w_loop "_law_loop" = true) (p_w_loop : PySem.W.keepIn K (.ref f_w_loop) = true)
    (a_w_readings : PySem.W.nsIn K mainGlobals "_law_readings" = some (some (.ref f_w_readings))) (l_w_readings : K.lookup f_w_readings = some ⟨oc_w_readings, od_w_readings, .func (PySem.W.fnOf "_law_readings" "_law_readings" (defArgs s_w_readings) (defBody s_w_readings) (defScope s_w_readings) .none kV_w_readings dc_w_readings pm_w_readings an_w_readings cd_w_readings ct_w_readings), sl_w_readings⟩) (k_w_readings : PySem.W.codeIn K cd_w_readings "_law_readings" = true) (p_w_readings : PySem.W.keepIn K (.ref f_w_readings) = true)
    (a_w_arcs : PySem.W.nsIn K mainGlobals "_law_arcs" = some (some (.ref f_w_arcs))) (l_w_arcs : K.lookup f_w_arcs = some ⟨oc_w_arcs, od_w_arcs, .func (PySem.W.fnOf "_law_arcs" "_law_arcs" (defArgs s_w_arcs) (defBody s_w_arcs) (defScope s_w_arcs) .none kV_w_arcs dc_w_arcs pm_w_arcs an_w_arcs cd_w_arcs ct_w_arcs), sl_w_arcs⟩) (k_w_arcs : PySem.W.codeIn K cd_w_arcs "_law_arcs" = true) (p_w_arcs : PySem.W.keepIn K (.ref f_w_arcs) = true)
    (a_w_spares : PySem.W.nsIn K mainGlobals "_law_spares" = some (some (.ref f_w_spares))) (l_w_spares : K.lookup f_w_spares = some ⟨oc_w_spares, od_w_spares, .func (PySem.W.fnOf "_law_spares" "_law_spares" (defArgs s_w_spares) (defBody s_w_spares) (defScope s_w_spares) .none kV_w_spares dc_w_spares pm_w_spares an_w_spares cd_w_spares ct_w_spares), sl_w_spares⟩) (k_w_spares : PySem.W.codeIn K cd_w_spares "_law_spares" = true) (p_w_spares : PySem.W.keepIn K (.ref f_w_spares) = true)
    (a_w_fitting : PySem.W.nsIn K mainGlobals "_law_fitting" = some (some (.ref f_w_fitting))) (l_w_fitting : K.lookup f_w_fitting = some ⟨oc_w_fitting, od_w_fitting, .func (PySem.W.fnOf "_law_fitting" "_law_fitting" (defArgs s_w_fitting) (defBody s_w_fitting) (defScope s_w_fitting) .none kV_w_fitting dc_w_fitting pm_w_fitting an_w_fitting cd_w_fitting ct_w_fitting), sl_w_fitting⟩) (k_w_fitting : PySem.W.codeIn K cd_w_fitting "_law_fitting" = true) (p_w_fitting : PySem.W.keepIn K (.ref f_w_fitting) = true)
    (a_w_cells : PySem.W.nsIn K mainGlobals "_law_cells" = some (some (.ref f_w_cells))) (l_w_cells : K.lookup f_w_cells = some ⟨oc_w_cells, od_w_cells, .func (PySem.W.fnOf "_law_cells" "_law_cells" (defArgs s_w_cells) (defBody s_w_cells) (defScope s_w_cells) .none kV_w_cells dc_w_cells pm_w_cells an_w_cells cd_w_cells ct_w_cells), sl_w_cells⟩) (k_w_cells : PySem.W.codeIn K cd_w_cells "_law_cells" = true) (p_w_cells : PySem.W.keepIn K (.ref f_w_cells) = true)
    (a_w_is_count : PySem.W.nsIn K mainGlobals "_law_is_count" = some (some (.ref f_w_is_count))) (l_w_is_count : K.lookup f_w_is_count = some ⟨oc_w_is_count, od_w_is_count, .func (PySem.W.fnOf "_law_is_count" "_law_is_count" (defArgs s_w_is_count) (defBody s_w_is_count) (defScope s_w_is_count) .none kV_w_is_count dc_w_is_count pm_w_is_count an_w_is_count cd_w_is_count ct_w_is_count), sl_w_is_count⟩) (k_w_is_count : PySem.W.codeIn K cd_w_is_count "_law_is_count" = true) (p_w_is_count : PySem.W.keepIn K (.ref f_w_is_count) = true)
    (a_w_is_truth : PySem.W.nsIn K mainGlobals "_law_is_truth" = some (some (.ref f_w_is_truth))) (l_w_is_truth : K.lookup f_w_is_truth = some ⟨oc_w_is_truth, od_w_is_truth, .func (PySem.W.fnOf "_law_is_truth" "_law_is_truth" (defArgs s_w_is_truth) (defBody s_w_is_truth) (defScope s_w_is_truth) .none kV_w_is_truth dc_w_is_truth pm_w_is_truth an_w_is_truth cd_w_is_truth ct_w_is_truth), sl_w_is_truth⟩) (k_w_is_truth : PySem.W.codeIn K cd_w_is_truth "_law_is_truth" = true) (p_w_is_truth : PySem.W.keepIn K (.ref f_w_is_truth) = true)
    (a_w_are_counts : PySem.W.nsIn K mainGlobals "_law_are_counts" = some (some (.ref f_w_are_counts))) (l_w_are_counts : K.lookup f_w_are_counts = some ⟨oc_w_are_counts, od_w_are_counts, .func (PySem.W.fnOf "_law_are_counts" "_law_are_counts" (defArgs s_w_are_counts) (defBody s_w_are_counts) (defScope s_w_are_counts) .none kV_w_are_counts dc_w_are_counts pm_w_are_counts an_w_are_counts cd_w_are_counts ct_w_are_counts), sl_w_are_counts⟩) (k_w_are_counts : PySem.W.codeIn K cd_w_are_counts "_law_are_counts" = true) (p_w_are_counts : PySem.W.keepIn K (.ref f_w_are_counts) = true)
    (a_w_turned : PySem.W.nsIn K mainGlobals "_law_turned" = some (some (.ref f_w_turned))) (l_w_turned : K.lookup f_w_turned = some ⟨oc_w_turned, od_w_turned, .func (PySem.W.fnOf "_law_turned" "_law_turned" (defArgs s_w_turned) (defBody s_w_turned) (defScope s_w_turned) .none kV_w_turned dc_w_turned pm_w_turned an_w_turned cd_w_turned ct_w_turned), sl_w_turned⟩) (k_w_turned : PySem.W.codeIn K cd_w_turned "_law_turned" = true) (p_w_turned : PySem.W.keepIn K (.ref f_w_turned) = true)
    (a_w_word : PySem.W.nsIn K mainGlobals "_law_word" = some (some (.ref f_w_word))) (l_w_word : K.lookup f_w_word = some ⟨oc_w_word, od_w_word, .func (PySem.W.fnOf "_law_word" "_law_word" (defArgs s_w_word) (defBody s_w_word) (defScope s_w_word) .none kV_w_word dc_w_word pm_w_word an_w_word cd_w_word ct_w_word), sl_w_word⟩) (k_w_word : PySem.W.codeIn K cd_w_word "_law_word" = true) (p_w_word : PySem.W.keepIn K (.ref f_w_word) = true)
    (a_w_is_met : PySem.W.nsIn K mainGlobals "_law_is_met" = some (some (.ref f_w_is_met))) (l_w_is_met : K.lookup f_w_is_met = some ⟨oc_w_is_met, od_w_is_met, .func (PySem.W.fnOf "_law_is_met" "_law_is_met" (defArgs s_w_is_met) (defBody s_w_is_met) (defScope s_w_is_met) .none kV_w_is_met dc_w_is_met pm_w_is_met an_w_is_met cd_w_is_met ct_w_is_met), sl_w_is_met⟩) (k_w_is_met : PySem.W.codeIn K cd_w_is_met "_law_is_met" = true) (p_w_is_met : PySem.W.keepIn K (.ref f_w_is_met) = true)
    (a_w_is_refused : PySem.W.nsIn K mainGlobals "_law_is_refused" = some (some (.ref f_w_is_refused))) (l_w_is_refused : K.lookup f_w_is_refused = some ⟨oc_w_is_refused, od_w_is_refused, .func (PySem.W.fnOf "_law_is_refused" "_law_is_refused" (defArgs s_w_is_refused) (defBody s_w_is_refused) (defScope s_w_is_refused) .none kV_w_is_refused dc_w_is_refused pm_w_is_refused an_w_is_refused (.ref c1) ct_w_is_refused), sl_w_is_refused⟩) (k_w_is_refused : PySem.W.codeIn K (.ref c1) "_law_is_refused" = true) (p_w_is_refused : PySem.W.keepIn K (.ref f_w_is_refused) = true)
    (a_w_is_spoilt : PySem.W.nsIn K mainGlobals "_law_is_spoilt" = some (some (.ref f_w_is_spoilt))) (l_w_is_spoilt : K.lookup f_w_is_spoilt = some ⟨oc_w_is_spoilt, od_w_is_spoilt, .func (PySem.W.fnOf "_law_is_spoilt" "_law_is_spoilt" (defArgs s_w_is_spoilt) (defBody s_w_is_spoilt) (defScope s_w_is_spoilt) .none kV_w_is_spoilt dc_w_is_spoilt pm_w_is_spoilt an_w_is_spoilt cd_w_is_spoilt ct_w_is_spoilt), sl_w_is_spoilt⟩) (k_w_is_spoilt : PySem.W.codeIn K cd_w_is_spoilt "_law_is_spoilt" = true) (p_w_is_spoilt : PySem.W.keepIn K (.ref f_w_is_spoilt) = true)
    (a_w_case : PySem.W.nsIn K mainGlobals "_law_case" = some (some (.ref f_w_case))) (l_w_case : K.lookup f_w_case = some ⟨oc_w_case, od_w_case, .func (PySem.W.fnOf "_law_case" "_law_case" (defArgs s_w_case) (defBody s_w_case) (defScope s_w_case) .none kV_w_case dc_w_case pm_w_case an_w_case cd_w_case ct_w_case), sl_w_case⟩) (k_w_case : PySem.W.codeIn K cd_w_case "_law_case" = true) (p_w_case : PySem.W.keepIn K (.ref f_w_case) = true)
    (a_law : PySem.W.nsIn K mainGlobals "law" = some (some (.ref f_law))) (l_law : K.lookup f_law = some ⟨oc_law, od_law, .func (PySem.W.fnOf "law" "law" (defArgs s_law) (defBody s_law) (defScope s_law) .none kV_law dc_law pm_law an_law cd_law ct_law), sl_law⟩) (k_law : PySem.W.codeIn K cd_law "law" = true) (p_law : PySem.W.keepIn K (.ref f_law) = true)
    (e_MAX_INTERVAL : PySem.W.nsIn K mainGlobals "MAX_INTERVAL" = some (some (.int 32 t_MAX_INTERVAL)))
    (e_MAX_TICKS : PySem.W.nsIn K mainGlobals "MAX_TICKS" = some (some (.int 4 t_MAX_TICKS)))
    (e_MAX_LETTERS : PySem.W.nsIn K mainGlobals "MAX_LETTERS" = some (some (.int 8 t_MAX_LETTERS)))
    (e_MAX_OPERATIONS : PySem.W.nsIn K mainGlobals "MAX_OPERATIONS" = some (some (.int 8 t_MAX_OPERATIONS)))
    (e_MAX_DISTANCE : PySem.W.nsIn K mainGlobals "MAX_DISTANCE" = some (some (.int 3 t_MAX_DISTANCE)))
    (e_MAX_READS : PySem.W.nsIn K mainGlobals "MAX_READS" = some (some (.int 3 t_MAX_READS)))
    (e_MAX_USES : PySem.W.nsIn K mainGlobals "MAX_USES" = some (some (.int 4 t_MAX_USES)))
    (e_MAX_OFFSET : PySem.W.nsIn K mainGlobals "MAX_OFFSET" = some (some (.int 3 t_MAX_OFFSET)))
    (e_MAX_ORDERS : PySem.W.nsIn K mainGlobals "MAX_ORDERS" = some (some (.int 8 t_MAX_ORDERS)))
    (e_MAX_DELAY : PySem.W.nsIn K mainGlobals "MAX_DELAY" = some (some (.int 4 t_MAX_DELAY)))
    (e_MAX_START : PySem.W.nsIn K mainGlobals "MAX_START" = some (some (.int 1000000 t_MAX_START)))
    (y_int : PySem.W.nsIn K mainGlobals "int" = some none)
    (y_abs : PySem.W.nsIn K mainGlobals "abs" = some none)
    (y_len : PySem.W.nsIn K mainGlobals "len" = some none)
    (y_max : PySem.W.nsIn K mainGlobals "max" = some none)
    (y_range : PySem.W.nsIn K mainGlobals "range" = some none)
    (y_isinstance : PySem.W.nsIn K mainGlobals "isinstance" = some none)
    (y_str : PySem.W.nsIn K mainGlobals "str" = some none)
    (y_all : PySem.W.nsIn K mainGlobals "all" = some none)
    (y_sorted : PySem.W.nsIn K mainGlobals "sorted" = some none)
    (y_tuple : PySem.W.nsIn K mainGlobals "tuple" = some none)
    (y_list : PySem.W.nsIn K mainGlobals "list" = some none)
    (y_dict : PySem.W.nsIn K mainGlobals "dict" = some none)
    (y_set : PySem.W.nsIn K mainGlobals "set" = some none)
    (y_bool : PySem.W.nsIn K mainGlobals "bool" = some none)
    (y_enumerate : PySem.W.nsIn K mainGlobals "enumerate" = some none)
    : ∃ T : T K mg, T.f_law = f_law ∧ T.d_law = PySem.W.fnOf "law" "law" (defArgs s_law) (defBody s_law) (defScope s_law) .none kV_law dc_law pm_law an_law cd_law ct_law ∧ FunC K "_law_is_refused" "_law_is_refused" s_w_is_refused T.f_w_is_refused T.d_w_is_refused c1 := by
  have F_wall := fun_mk (st := s_wall) l_wall k_wall p_wall
  have b_wall := F_wall.binds (ps := ["k"]) fun _ _ _ _ _ _ us hl => match us, hl with | [_], _ => rfl
  have F_is_name := fun_mk (st := s_is_name) l_is_name k_is_name p_is_name
  have b_is_name := F_is_name.binds (ps := ["value"]) fun _ _ _ _ _ _ us hl => match us, hl with | [_], _ => rfl
  have F_is_integer := fun_mk (st := s_is_integer) l_is_integer k_is_integer p_is_integer
  have b_is_integer := F_is_integer.binds (ps := ["value"]) fun _ _ _ _ _ _ us hl => match us, hl with | [_], _ => rfl
  have F_is_between := fun_mk (st := s_is_between) l_is_between k_is_between p_is_between
  have b_is_between := F_is_between.binds (ps := ["value", "low", "high"]) fun _ _ _ _ _ _ us hl => match us, hl with | [_, _, _], _ => rfl
  have F_check_between := fun_mk (st := s_check_between) l_check_between k_check_between p_check_between
  have b_check_between := F_check_between.binds (ps := ["value", "low", "high"]) fun _ _ _ _ _ _ us hl => match us, hl with | [_, _, _], _ => rfl
  have F_check_interval := fun_mk (st := s_check_interval) l_check_interval k_check_interval p_check_interval
  have b_check_interval := F_check_interval.binds (ps := ["value"]) fun _ _ _ _ _ _ us hl => match us, hl with | [_], _ => rfl
  have F_ascends := fun_mk (st := s_ascends) l_ascends k_ascends p_ascends
  have b_ascends := F_ascends.binds (ps := ["row"]) fun _ _ _ _ _ _ us hl => match us, hl with | [_], _ => rfl
  have F_is_pair := fun_mk (st := s_is_pair) l_is_pair k_is_pair p_is_pair
  have b_is_pair := F_is_pair.binds (ps := ["value", "highest"]) fun _ _ _ _ _ _ us hl => match us, hl with | [_, _], _ => rfl
  have F_is_row_of_pairs := fun_mk (st := s_is_row_of_pairs) l_is_row_of_pairs k_is_row_of_pairs p_is_row_of_pairs
  have b_is_row_of_pairs := F_is_row_of_pairs.binds (ps := ["value", "most", "highest"]) fun _ _ _ _ _ _ us hl => match us, hl with | [_, _, _], _ => rfl
  have F_is_table := fun_mk (st := s_is_table) l_is_table k_is_table p_is_table
  have b_is_table := F_is_table.binds (ps := ["names", "value", "low", "high"]) fun _ _ _ _ _ _ us hl => match us, hl with | [_, _, _, _], _ => rfl
  have F_first_items := fun_mk (st := s_first_items) l_first_items k_first_items p_first_items
  have b_first_items := F_first_items.binds (ps := ["rows"]) fun _ _ _ _ _ _ us hl => match us, hl with | [_], _ => rfl
  have F_order_of_round := fun_mk (st := s_order_of_round) l_order_of_round k_order_of_round p_order_of_round
  have b_order_of_round := F_order_of_round.binds (ps := ["names", "arcs"]) fun _ _ _ _ _ _ us hl => match us, hl with | [_, _], _ => rfl
  have F_told := fun_mk (st := s_told) l_told k_told p_told
  have b_told := F_told.binds (ps := ["word", "pairs"]) fun _ _ _ _ _ _ us hl => match us, hl with | [_, _], _ => rfl
  have F_table_of := fun_mk (st := s_table_of) l_table_of k_table_of p_table_of
  have b_table_of := F_table_of.binds (ps := ["operations"]) fun _ _ _ _ _ _ us hl => match us, hl with | [_], _ => rfl
  have F_readings_of := fun_mk (st := s_readings_of) l_readings_of k_readings_of p_readings_of
  have b_readings_of := F_readings_of.binds (ps := ["operations"]) fun _ _ _ _ _ _ us hl => match us, hl with | [_], _ => rfl
  have F_arcs_of := fun_mk (st := s_arcs_of) l_arcs_of k_arcs_of p_arcs_of
  have b_arcs_of := F_arcs_of.binds (ps := ["table", "orders"]) fun _ _ _ _ _ _ us hl => match us, hl with | [_, _], _ => rfl
  have F_is_order := fun_mk (st := s_is_order) l_is_order k_is_order p_is_order
  have b_is_order := F_is_order.binds (ps := ["names", "value"]) fun _ _ _ _ _ _ us hl => match us, hl with | [_, _], _ => rfl
  have F_check_orders := fun_mk (st := s_check_orders) l_check_orders k_check_orders p_check_orders
  have b_check_orders := F_check_orders.binds (ps := ["names", "orders"]) fun _ _ _ _ _ _ us hl => match us, hl with | [_, _], _ => rfl
  have F_check_loop := fun_mk (st := s_check_loop) l_check_loop k_check_loop p_check_loop
  have b_check_loop := F_check_loop.binds (ps := ["value"]) fun _ _ _ _ _ _ us hl => match us, hl with | [_], _ => rfl
  have F_is_starts := fun_mk (st := s_is_starts) l_is_starts k_is_starts p_is_starts
  have b_is_starts := F_is_starts.binds (ps := ["loop", "value"]) fun _ _ _ _ _ _ us hl => match us, hl with | [_, _], _ => rfl
  have F_check_starts := fun_mk (st := s_check_starts) l_check_starts k_check_starts p_check_starts
  have b_check_starts := F_check_starts.binds (ps := ["loop", "value"]) fun _ _ _ _ _ _ us hl => match us, hl with | [_, _], _ => rfl
  have F_is_fitting := fun_mk (st := s_is_fitting) l_is_fitting k_is_fitting p_is_fitting
  have b_is_fitting := F_is_fitting.binds (ps := ["loop", "interval", "value"]) fun _ _ _ _ _ _ us hl => match us, hl with | [_, _, _], _ => rfl
  have F_leeway := fun_mk (st := s_leeway) l_leeway k_leeway p_leeway
  have b_leeway := F_leeway.binds (ps := ["loop", "interval", "starts"]) fun _ _ _ _ _ _ us hl => match us, hl with | [_, _, _], _ => rfl
  have F_w_dice := fun_mk (st := s_w_dice) l_w_dice k_w_dice p_w_dice
  have b_w_dice := F_w_dice.binds (ps := ["cell"]) fun _ _ _ _ _ _ us hl => match us, hl with | [_], _ => rfl
  have F_w_next := fun_mk (st := s_w_next) l_w_next k_w_next p_w_next
  have b_w_next := F_w_next.binds (ps := ["dice", "many"]) fun _ _ _ _ _ _ us hl => match us, hl with | [_, _], _ => rfl
  have F_w_words := fun_mk (st := s_w_words) l_w_words k_w_words p_w_words
  have b_w_words := F_w_words.binds (ps := ["dice", "many"]) fun _ _ _ _ _ _ us hl => match us, hl with | [_, _], _ => rfl
  have F_w_reads := fun_mk (st := s_w_reads) l_w_reads k_w_reads p_w_reads
  have b_w_reads := F_w_reads.binds (ps := ["dice", "names", "at"]) fun _ _ _ _ _ _ us hl => match us, hl with | [_, _, _], _ => rfl
  have F_w_uses := fun_mk (st := s_w_uses) l_w_uses k_w_uses p_w_uses
  have b_w_uses := F_w_uses.binds (ps := ["dice", "units"]) fun _ _ _ _ _ _ us hl => match us, hl with | [_, _], _ => rfl
  have F_w_rows := fun_mk (st := s_w_rows) l_w_rows k_w_rows p_w_rows
  have b_w_rows := F_w_rows.binds (ps := ["dice", "names", "units"]) fun _ _ _ _ _ _ us hl => match us, hl with | [_, _, _], _ => rfl
  have F_w_rules := fun_mk (st := s_w_rules) l_w_rules k_w_rules p_w_rules
  have b_w_rules := F_w_rules.binds (ps := ["dice", "names", "most"]) fun _ _ _ _ _ _ us hl => match us, hl with | [_, _, _], _ => rfl
  have F_w_loop := fun_mk (st := s_w_loop) l_w_loop k_w_loop p_w_loop
  have b_w_loop := F_w_loop.binds (ps := ["rows", "rules"]) fun _ _ _ _ _ _ us hl => match us, hl with | [_, _], _ => rfl
  have F_w_readings := fun_mk (st := s_w_readings) l_w_readings k_w_readings p_w_readings
  have b_w_readings := F_w_readings.binds (ps := ["rows"]) fun _ _ _ _ _ _ us hl => match us, hl with | [_], _ => rfl
  have F_w_arcs := fun_mk (st := s_w_arcs) l_w_arcs k_w_arcs p_w_arcs
  have b_w_arcs := F_w_arcs.binds (ps := ["rows", "rules"]) fun _ _ _ _ _ _ us hl => match us, hl with | [_, _], _ => rfl
  have F_w_spares := fun_mk (st := s_w_spares) l_w_spares k_w_spares p_w_spares
  have b_w_spares := F_w_spares.binds (ps := ["arcs", "interval", "begins"]) fun _ _ _ _ _ _ us hl => match us, hl with | [_, _, _], _ => rfl
  have F_w_fitting := fun_mk (st := s_w_fitting) l_w_fitting k_w_fitting p_w_fitting
  have b_w_fitting := F_w_fitting.binds (ps := ["arcs", "interval", "floors"]) fun _ _ _ _ _ _ us hl => match us, hl with | [_, _, _], _ => rfl
  have F_w_cells := fun_mk (st := s_w_cells) l_w_cells k_w_cells p_w_cells
  have b_w_cells := F_w_cells.binds (ps := ["script", "most"]) fun _ _ _ _ _ _ us hl => match us, hl with | [_, _], _ => rfl
  have F_w_is_count := fun_mk (st := s_w_is_count) l_w_is_count k_w_is_count p_w_is_count
  have b_w_is_count := F_w_is_count.binds (ps := ["value"]) fun _ _ _ _ _ _ us hl => match us, hl with | [_], _ => rfl
  have F_w_is_truth := fun_mk (st := s_w_is_truth) l_w_is_truth k_w_is_truth p_w_is_truth
  have b_w_is_truth := F_w_is_truth.binds (ps := ["value", "due"]) fun _ _ _ _ _ _ us hl => match us, hl with | [_, _], _ => rfl
  have F_w_are_counts := fun_mk (st := s_w_are_counts) l_w_are_counts k_w_are_counts p_w_are_counts
  have b_w_are_counts := F_w_are_counts.binds (ps := ["value", "due"]) fun _ _ _ _ _ _ us hl => match us, hl with | [_, _], _ => rfl
  have F_w_turned := fun_mk (st := s_w_turned) l_w_turned k_w_turned p_w_turned
  have b_w_turned := F_w_turned.binds (ps := ["table"]) fun _ _ _ _ _ _ us hl => match us, hl with | [_], _ => rfl
  have F_w_word := fun_mk (st := s_w_word) l_w_word k_w_word p_w_word
  have b_w_word := F_w_word.binds (ps := ["call"]) fun _ _ _ _ _ _ us hl => match us, hl with | [_], _ => rfl
  have F_w_is_met := fun_mk (st := s_w_is_met) l_w_is_met k_w_is_met p_w_is_met
  have b_w_is_met := F_w_is_met.binds (ps := ["loop", "arcs", "interval", "begins"]) fun _ _ _ _ _ _ us hl => match us, hl with | [_, _, _, _], _ => rfl
  have F_w_is_refused := fun_mk (st := s_w_is_refused) l_w_is_refused k_w_is_refused p_w_is_refused
  have b_w_is_refused := F_w_is_refused.binds (ps := ["loop", "interval", "value"]) fun _ _ _ _ _ _ us hl => match us, hl with | [_, _, _], _ => rfl
  have F_w_is_spoilt := fun_mk (st := s_w_is_spoilt) l_w_is_spoilt k_w_is_spoilt p_w_is_spoilt
  have b_w_is_spoilt := F_w_is_spoilt.binds (ps := ["loop", "interval", "begins", "name", "spare"]) fun _ _ _ _ _ _ us hl => match us, hl with | [_, _, _, _, _], _ => rfl
  have F_w_case := fun_mk (st := s_w_case) l_w_case k_w_case p_w_case
  have b_w_case := F_w_case.binds (ps := ["dice"]) fun _ _ _ _ _ _ us hl => match us, hl with | [_], _ => rfl
  have F_law := fun_mk (st := s_law) l_law k_law p_law
  have b_law := F_law.binds (ps := ["script"]) fun _ _ _ _ _ _ us hl => match us, hl with | [_], _ => rfl
  exact ⟨⟨_, _, F_wall, PySem.W.mg_of X G a_wall, b_wall, _, _, F_is_name, PySem.W.mg_of X G a_is_name, b_is_name, _, _, F_is_integer, PySem.W.mg_of X G a_is_integer, b_is_integer, _, _, F_is_between, PySem.W.mg_of X G a_is_between, b_is_between, _, _, F_check_between, PySem.W.mg_of X G a_check_between, b_check_between, _, _, F_check_interval, PySem.W.mg_of X G a_check_interval, b_check_interval, _, _, F_ascends, PySem.W.mg_of X G a_ascends, b_ascends, _, _, F_is_pair, PySem.W.mg_of X G a_is_pair, b_is_pair, _, _, F_is_row_of_pairs, PySem.W.mg_of X G a_is_row_of_pairs, b_is_row_of_pairs, _, _, F_is_table, PySem.W.mg_of X G a_is_table, b_is_table, _, _, F_first_items, PySem.W.mg_of X G a_first_items, b_first_items, _, _, F_order_of_round, PySem.W.mg_of X G a_order_of_round, b_order_of_round, _, _, F_told, PySem.W.mg_of X G a_told, b_told, _, _, F_table_of, PySem.W.mg_of X G a_table_of, b_table_of, _, _, F_readings_of, PySem.W.mg_of X G a_readings_of, b_readings_of, _, _, F_arcs_of, PySem.W.mg_of X G a_arcs_of, b_arcs_of, _, _, F_is_order, PySem.W.mg_of X G a_is_order, b_is_order, _, _, F_check_orders, PySem.W.mg_of X G a_check_orders, b_check_orders, _, _, F_check_loop, PySem.W.mg_of X G a_check_loop, b_check_loop, _, _, F_is_starts, PySem.W.mg_of X G a_is_starts, b_is_starts, _, _, F_check_starts, PySem.W.mg_of X G a_check_starts, b_check_starts, _, _, F_is_fitting, PySem.W.mg_of X G a_is_fitting, b_is_fitting, _, _, F_leeway, PySem.W.mg_of X G a_leeway, b_leeway, _, _, F_w_dice, PySem.W.mg_of X G a_w_dice, b_w_dice, _, _, F_w_next, PySem.W.mg_of X G a_w_next, b_w_next, _, _, F_w_words, PySem.W.mg_of X G a_w_words, b_w_words, _, _, F_w_reads, PySem.W.mg_of X G a_w_reads, b_w_reads, _, _, F_w_uses, PySem.W.mg_of X G a_w_uses, b_w_uses, _, _, F_w_rows, PySem.W.mg_of X G a_w_rows, b_w_rows, _, _, F_w_rules, PySem.W.mg_of X G a_w_rules, b_w_rules, _, _, F_w_loop, PySem.W.mg_of X G a_w_loop, b_w_loop, _, _, F_w_readings, PySem.W.mg_of X G a_w_readings, b_w_readings, _, _, F_w_arcs, PySem.W.mg_of X G a_w_arcs, b_w_arcs, _, _, F_w_spares, PySem.W.mg_of X G a_w_spares, b_w_spares, _, _, F_w_fitting, PySem.W.mg_of X G a_w_fitting, b_w_fitting, _, _, F_w_cells, PySem.W.mg_of X G a_w_cells, b_w_cells, _, _, F_w_is_count, PySem.W.mg_of X G a_w_is_count, b_w_is_count, _, _, F_w_is_truth, PySem.W.mg_of X G a_w_is_truth, b_w_is_truth, _, _, F_w_are_counts, PySem.W.mg_of X G a_w_are_counts, b_w_are_counts, _, _, F_w_turned, PySem.W.mg_of X G a_w_turned, b_w_turned, _, _, F_w_word, PySem.W.mg_of X G a_w_word, b_w_word, _, _, F_w_is_met, PySem.W.mg_of X G a_w_is_met, b_w_is_met, _, _, F_w_is_refused, PySem.W.mg_of X G a_w_is_refused, b_w_is_refused, _, _, F_w_is_spoilt, PySem.W.mg_of X G a_w_is_spoilt, b_w_is_spoilt, _, _, F_w_case, PySem.W.mg_of X G a_w_case, b_w_case, _, _, F_law, PySem.W.mg_of X G a_law, b_law, ⟨t_MAX_INTERVAL, PySem.W.mg_of X G e_MAX_INTERVAL⟩, ⟨t_MAX_TICKS, PySem.W.mg_of X G e_MAX_TICKS⟩, ⟨t_MAX_LETTERS, PySem.W.mg_of X G e_MAX_LETTERS⟩, ⟨t_MAX_OPERATIONS, PySem.W.mg_of X G e_MAX_OPERATIONS⟩, ⟨t_MAX_DISTANCE, PySem.W.mg_of X G e_MAX_DISTANCE⟩, ⟨t_MAX_READS, PySem.W.mg_of X G e_MAX_READS⟩, ⟨t_MAX_USES, PySem.W.mg_of X G e_MAX_USES⟩, ⟨t_MAX_OFFSET, PySem.W.mg_of X G e_MAX_OFFSET⟩, ⟨t_MAX_ORDERS, PySem.W.mg_of X G e_MAX_ORDERS⟩, ⟨t_MAX_DELAY, PySem.W.mg_of X G e_MAX_DELAY⟩, ⟨t_MAX_START, PySem.W.mg_of X G e_MAX_START⟩, PySem.W.mg_none_of X G y_int, PySem.W.mg_none_of X G y_abs, PySem.W.mg_none_of X G y_len, PySem.W.mg_none_of X G y_max, PySem.W.mg_none_of X G y_range, PySem.W.mg_none_of X G y_isinstance, PySem.W.mg_none_of X G y_str, PySem.W.mg_none_of X G y_all, PySem.W.mg_none_of X G y_sorted, PySem.W.mg_none_of X G y_tuple, PySem.W.mg_none_of X G y_list, PySem.W.mg_none_of X G y_dict, PySem.W.mg_none_of X G y_set, PySem.W.mg_none_of X G y_bool, PySem.W.mg_none_of X G y_enumerate⟩, rfl, rfl, ⟨⟨_, _, _, _, _, _, _, _, rfl, l_w_is_refused, k_w_is_refused⟩⟩⟩
open LamX in
theorem fin_law {l : PySem.W.OpenLaw} {w : World} {K : PySem.W.Frag} {h : Heap} {mg : Str → Option Value} {fa f_law : Addr} (X : K.In h) (G : h.Ns mainGlobals mg) (hfa : mg "law" = some (.ref fa)) (a_law : PySem.W.nsIn K mainGlobals "law" = some (some (.ref f_law)))
    {dl : FuncData} {c1 P1 : Addr} (tt : ∃ T : T K mg, T.f_law = f_law ∧ T.d_law = dl ∧ FunC K "_law_is_refused" "_law_is_refused" s_w_is_refused T.f_w_is_refused T.d_w_is_refused c1) (ux : Nonempty (UX K mg)) (ul : ∃ L : UL K mg, Nonempty (LD K mg L)) (ue : ∃ Z : UA K mg, Nonempty (WC K mg Z.A))
    {ec1 : Value} {ed1 : Option Addr} {vs1 : Array Value} {es1 : Array (Option Value)} (pl1 : K.lookup c1 = some ⟨ec1, ed1, .fields vs1, es1⟩) (pu1 : vs1[11]? = some (.ref P1))
    (hd1 : PySem.W.codeHdIn K c1 P1 = true) (out1 : K.lookup P1 = none) (em1 : h.get? P1 = some { cls := .none, data := .fields #[] })
    (hb : ∀ (s : Shared) (u : Value), BindsTo s dl ⟨[u], []⟩ [("script", u)]) : LawAtS l w K CX0 12 63 "script" mg fa h := by
  have e := hfa.symm.trans (PySem.W.mg_of X G a_law)
  cases e
  obtain ⟨T, rfl, rfl, FL⟩ := tt
  obtain ⟨U⟩ := ux
  obtain ⟨L, ⟨Dd⟩⟩ := ul
  obtain ⟨Z, ⟨W⟩⟩ := ue
  refine ⟨_, [(c1, P1)], sp_lawT K P1, fun p hp => ?_, fun p hp => ?_, fun p hp => ?_, hb, fun H a ns hl _ hH hS => ?_, fun base _ _ hT => ok_law T U L Dd Z W (hT (c1, P1) List.mem_cons_self) FL⟩
  · obtain rfl := List.mem_singleton.mp hp
    exact em1
  · obtain rfl := List.mem_singleton.mp hp
    exact out1
  · obtain rfl := List.mem_singleton.mp hp
    exact PySem.W.codeHd_of_K X hd1
  · refine ⟨a, ns, rfl, hS, hl, fun p hp => ?_, fun _ => rfl⟩
    obtain rfl := List.mem_singleton.mp hp
    exact TabS.nil (hH (c1, P1) List.mem_cons_self)
end K14
open PySem PySem.W PyProof.Rows
set_option maxRecDepth 100000 in
set_option maxHeartbeats 0 in
theorem PySem.Challenge.cw_overrounds_k14_starts_and_the_arcs_they_holds : PySem.Challenge.rw_overrounds_k14_starts_and_the_arcs_they.Holds := by
  w_on; o_law; k_head; (case hw => w_witness2)
  k_fill
  refine LamX.walk_ofTs (l := PySem.Challenge.rw_overrounds_k14_starts_and_the_arcs_they) (n := 63) (k := 12) (CX := fun _ => L2.CX0) (x := "script") rfl (by decide) rfl ⟨rfl, by decide, by decide⟩ (fun w h Y => PySem.W.km_in_of Y) ?F (fun _ _ _ _ _ z => z)
  case F =>
    intro w mg fa h Y KX G hmg
    have hY := PySem.W.km_tabs_of Y
    refine' K14.fin_law KX G hmg ?a_law0 ?tt ?ux ?ul ?ue ?pl1 ?pu1 ?hd1 ?out1 ?em1 ?hb
    (case a_law0 => k_is)
    case tt =>
      refine' K14.mk_T KX G ?a_wall ?l_wall ?k_wall ?p_wall ?a_is_name ?l_is_name ?k_is_name ?p_is_name ?a_is_integer ?l_is_integer ?k_is_integer ?p_is_integer ?a_is_between ?l_is_between ?k_is_between ?p_is_between ?a_check_between ?l_check_between ?k_check_between ?p_check_between ?a_check_interval ?l_check_interval ?k_check_interval ?p_check_interval ?a_ascends ?l_ascends ?k_ascends ?p_ascends ?a_is_pair ?l_is_pair ?k_is_pair ?p_is_pair ?a_is_row_of_pairs ?l_is_row_of_pairs ?k_is_row_of_pairs ?p_is_row_of_pairs ?a_is_table ?l_is_table ?k_is_table ?p_is_table ?a_first_items ?l_first_items ?k_first_items ?p_first_items ?a_order_of_round ?l_order_of_round ?k_order_of_round ?p_order_of_round ?a_told ?l_told ?k_told ?p_told ?a_table_of ?l_table_of ?k_table_of ?p_table_of ?a_readings_of ?l_readings_of ?k_readings_of ?p_readings_of ?a_arcs_of ?l_arcs_of ?k_arcs_of ?p_arcs_of ?a_is_order ?l_is_order ?k_is_order ?p_is_order ?a_check_orders ?l_check_orders ?k_check_orders ?p_check_orders ?a_check_loop ?l_check_loop ?k_check_loop ?p_check_loop ?a_is_starts ?l_is_starts ?k_is_starts ?p_is_starts ?a_check_starts ?l_check_starts ?k_check_starts ?p_check_starts ?a_is_fitting ?l_is_fitting ?k_is_fitting ?p_is_fitting ?a_leeway ?l_leeway ?k_leeway ?p_leeway ?a_w_dice ?l_w_dice ?k_w_dice ?p_w_dice ?a_w_next ?l_w_next ?k_w_next ?p_w_next ?a_w_words ?l_w_words ?k_w_words ?p_w_words ?a_w_reads ?l_w_reads ?k_w_reads ?p_w_reads ?a_w_uses ?l_w_uses ?k_w_uses ?p_w_uses ?a_w_rows ?l_w_rows ?k_w_rows ?p_w_rows ?a_w_rules ?l_w_rules ?k_w_rules ?p_w_rules ?a_w_loop ?l_w_loop ?k_w_loop ?p_w_loop ?a_w_readings ?l_w_readings ?k_w_readings ?p_w_readings ?a_w_arcs ?l_w_arcs ?k_w_arcs ?p_w_arcs ?a_w_spares ?l_w_spares ?k_w_spares ?p_w_spares ?a_w_fitting ?l_w_fitting ?k_w_fitting ?p_w_fitting ?a_w_cells ?l_w_cells ?k_w_cells ?p_w_cells ?a_w_is_count ?l_w_is_count ?k_w_is_count ?p_w_is_count ?a_w_is_truth ?l_w_is_truth ?k_w_is_truth ?p_w_is_truth ?a_w_are_counts ?l_w_are_counts ?k_w_are_counts ?p_w_are_counts ?a_w_turned ?l_w_turned ?k_w_turned ?p_w_turned ?a_w_word ?l_w_word ?k_w_word ?p_w_word ?a_w_is_met ?l_w_is_met ?k_w_is_met ?p_w_is_met ?a_w_is_refused ?l_w_is_refused ?k_w_is_refused ?p_w_is_refused ?a_w_is_spoilt ?l_w_is_spoilt ?k_w_is_spoilt ?p_w_is_spoilt ?a_w_case ?l_w_case ?k_w_case ?p_w_case ?a_law ?l_law ?k_law ?p_law ?e_MAX_INTERVAL ?e_MAX_TICKS ?e_MAX_LETTERS ?e_MAX_OPERATIONS ?e_MAX_DISTANCE ?e_MAX_READS ?e_MAX_USES ?e_MAX_OFFSET ?e_MAX_ORDERS ?e_MAX_DELAY ?e_MAX_START ?y_int ?y_abs ?y_len ?y_max ?y_range ?y_isinstance ?y_str ?y_all ?y_sorted ?y_tuple ?y_list ?y_dict ?y_set ?y_bool ?y_enumerate
      (case a_wall => k_is)
      (case l_wall => k_is)
      (case k_wall => k_is)
      (case p_wall => k_is)
      (case a_is_name => k_is)
      (case l_is_name => k_is)
      (case k_is_name => k_is)
      (case p_is_name => k_is)
      (case a_is_integer => k_is)
      (case l_is_integer => k_is)
      (case k_is_integer => k_is)
      (case p_is_integer => k_is)
      (case a_is_between => k_is)
      (case l_is_between => k_is)
      (case k_is_between => k_is)
      (case p_is_between => k_is)
      (case a_check_between => k_is)
      (case l_check_between => k_is)
      (case k_check_between => k_is)
      (case p_check_between => k_is)
      (case a_check_interval => k_is)
      (case l_check_interval => k_is)
      (case k_check_interval => k_is)
      (case p_check_interval => k_is)
      (case a_ascends => k_is)
      (case l_ascends => k_is)
      (case k_ascends => k_is)
      (case p_ascends => k_is)
      (case a_is_pair => k_is)
      (case l_is_pair => k_is)
      (case k_is_pair => k_is)
      (case p_is_pair => k_is)
      (case a_is_row_of_pairs => k_is)
      (case l_is_row_of_pairs => k_is)
      (case k_is_row_of_pairs => k_is)
      (case p_is_row_of_pairs => k_is)
      (case a_is_table => k_is)
      (case l_is_table => k_is)
      (case k_is_table => k_is)
      (case p_is_table => k_is)
      (case a_first_items => k_is)
      (case l_first_items => k_is)
      (case k_first_items => k_is)
      (case p_first_items => k_is)
      (case a_order_of_round => k_is)
      (case l_order_of_round => k_is)
      (case k_order_of_round => k_is)
      (case p_order_of_round => k_is)
      (case a_told => k_is)
      (case l_told => k_is)
      (case k_told => k_is)
      (case p_told => k_is)
      (case a_table_of => k_is)
      (case l_table_of => k_is)
      (case k_table_of => k_is)
      (case p_table_of => k_is)
      (case a_readings_of => k_is)
      (case l_readings_of => k_is)
      (case k_readings_of => k_is)
      (case p_readings_of => k_is)
      (case a_arcs_of => k_is)
      (case l_arcs_of => k_is)
      (case k_arcs_of => k_is)
      (case p_arcs_of => k_is)
      (case a_is_order => k_is)
      (case l_is_order => k_is)
      (case k_is_order => k_is)
      (case p_is_order => k_is)
      (case a_check_orders => k_is)
      (case l_check_orders => k_is)
      (case k_check_orders => k_is)
      (case p_check_orders => k_is)
      (case a_check_loop => k_is)
      (case l_check_loop => k_is)
      (case k_check_loop => k_is)
      (case p_check_loop => k_is)
      (case a_is_starts => k_is)
      (case l_is_starts => k_is)
      (case k_is_starts => k_is)
      (case p_is_starts => k_is)
      (case a_check_starts => k_is)
      (case l_check_starts => k_is)
      (case k_check_starts => k_is)
      (case p_check_starts => k_is)
      (case a_is_fitting => k_is)
      (case l_is_fitting => k_is)
      (case k_is_fitting => k_is)
      (case p_is_fitting => k_is)
      (case a_leeway => k_is)
      (case l_leeway => k_is)
      (case k_leeway => k_is)
      (case p_leeway => k_is)
      (case a_w_dice => k_is)
      (case l_w_dice => k_is)
      (case k_w_dice => k_is)
      (case p_w_dice => k_is)
      (case a_w_next => k_is)
      (case l_w_next => k_is)
      (case k_w_next => k_is)
      (case p_w_next => k_is)
      (case a_w_words => k_is)
      (case l_w_words => k_is)
      (case k_w_words => k_is)
      (case p_w_words => k_is)
      (case a_w_reads => k_is)
      (case l_w_reads => k_is)
      (case k_w_reads => k_is)
      (case p_w_reads => k_is)
      (case a_w_uses => k_is)
      (case l_w_uses => k_is)
      (case k_w_uses => k_is)
      (case p_w_uses => k_is)
      (case a_w_rows => k_is)
      (case l_w_rows => k_is)
      (case k_w_rows => k_is)
      (case p_w_rows => k_is)
      (case a_w_rules => k_is)
      (case l_w_rules => k_is)
      (case k_w_rules => k_is)
      (case p_w_rules => k_is)
      (case a_w_loop => k_is)
      (case l_w_loop => k_is)
      (case k_w_loop => k_is)
      (case p_w_loop => k_is)
      (case a_w_readings => k_is)
      (case l_w_readings => k_is)
      (case k_w_readings => k_is)
      (case p_w_readings => k_is)
      (case a_w_arcs => k_is)
      (case l_w_arcs => k_is)
      (case k_w_arcs => k_is)
      (case p_w_arcs => k_is)
      (case a_w_spares => k_is)
      (case l_w_spares => k_is)
      (case k_w_spares => k_is)
      (case p_w_spares => k_is)
      (case a_w_fitting => k_is)
      (case l_w_fitting => k_is)
      (case k_w_fitting => k_is)
      (case p_w_fitting => k_is)
      (case a_w_cells => k_is)
      (case l_w_cells => k_is)
      (case k_w_cells => k_is)
      (case p_w_cells => k_is)
      (case a_w_is_count => k_is)
      (case l_w_is_count => k_is)
      (case k_w_is_count => k_is)
      (case p_w_is_count => k_is)
      (case a_w_is_truth => k_is)
      (case l_w_is_truth => k_is)
      (case k_w_is_truth => k_is)
      (case p_w_is_truth => k_is)
      (case a_w_are_counts => k_is)
      (case l_w_are_counts => k_is)
      (case k_w_are_counts => k_is)
      (case p_w_are_counts => k_is)
      (case a_w_turned => k_is)
      (case l_w_turned => k_is)
      (case k_w_turned => k_is)
      (case p_w_turned => k_is)
      (case a_w_word => k_is)
      (case l_w_word => k_is)
      (case k_w_word => k_is)
      (case p_w_word => k_is)
      (case a_w_is_met => k_is)
      (case l_w_is_met => k_is)
      (case k_w_is_met => k_is)
      (case p_w_is_met => k_is)
      (case a_w_is_refused => k_is)
      (case l_w_is_refused => k_is)
      (case k_w_is_refused => k_is)
      (case p_w_is_refused => k_is)
      (case a_w_is_spoilt => k_is)
      (case l_w_is_spoilt => k_is)
      (case k_w_is_spoilt => k_is)
      (case p_w_is_spoilt => k_is)
      (case a_w_case => k_is)
      (case l_w_case => k_is)
      (case k_w_case => k_is)
      (case p_w_case => k_is)
      (case a_law => k_is)
      (case l_law => k_is)
      (case k_law => k_is)
      (case p_law => k_is)
      (case e_MAX_INTERVAL => k_is)
      (case e_MAX_TICKS => k_is)
      (case e_MAX_LETTERS => k_is)
      (case e_MAX_OPERATIONS => k_is)
      (case e_MAX_DISTANCE => k_is)
      (case e_MAX_READS => k_is)
      (case e_MAX_USES => k_is)
      (case e_MAX_OFFSET => k_is)
      (case e_MAX_ORDERS => k_is)
      (case e_MAX_DELAY => k_is)
      (case e_MAX_START => k_is)
      (case y_int => k_is)
      (case y_abs => k_is)
      (case y_len => k_is)
      (case y_max => k_is)
      (case y_range => k_is)
      (case y_isinstance => k_is)
      (case y_str => k_is)
      (case y_all => k_is)
      (case y_sorted => k_is)
      (case y_tuple => k_is)
      (case y_list => k_is)
      (case y_dict => k_is)
      (case y_set => k_is)
      (case y_bool => k_is)
      (case y_enumerate => k_is)
    case ux =>
      refine' K14.mk_X KX G ?aC ?c1C ?c2C ?c3C ?c4C ?c5C ?c6C ?c7C ?c8C ?lIC ?kIC ?pIC ?n1C ?n2C ?n3C ?n4C ?moC ?neC ?caC ?gCC ?tCC ?w1 ?w2 ?w3 ?xE ?xG ?aP1 ?bP1 ?tP1 ?rP1 ?lP1 ?kP1 ?pP1 ?aP2 ?bP2 ?tP2 ?rP2 ?lP2 ?kP2 ?pP2 ?aP3 ?bP3 ?tP3 ?rP3 ?lP3 ?kP3 ?pP3 ?aP4 ?bP4 ?tP4 ?rP4 ?lP4 ?kP4 ?pP4 ?aP5 ?bP5 ?tP5 ?rP5 ?lP5 ?kP5 ?pP5 ?aP6 ?bP6 ?tP6 ?rP6 ?lP6 ?kP6 ?pP6 ?iQ ?yQ ?lQ ?kQ ?pQ ?iS ?yS ?lS ?kS ?pS ?cg ?ct
      (case aC => k_is)
      (case c1C => k_is)
      (case c2C => k_is)
      (case c3C => k_is)
      (case c4C => k_is)
      (case c5C => k_is)
      (case c6C => k_is)
      (case c7C => k_is)
      (case c8C => k_is)
      (case lIC => k_is)
      (case kIC => k_is)
      (case pIC => k_is)
      (case n1C => k_is)
      (case n2C => k_is)
      (case n3C => k_is)
      (case n4C => k_is)
      (case moC => k_is)
      (case neC => k_is)
      (case caC => k_is)
      (case gCC => k_is)
      (case tCC => k_is)
      (case w1 => k_is)
      (case w2 => k_is)
      (case w3 => k_is)
      (case xE => k_is)
      (case xG => k_is)
      (case aP1 => k_is)
      (case bP1 => k_is)
      (case tP1 => k_is)
      (case rP1 => k_is)
      (case lP1 => k_is)
      (case kP1 => k_is)
      (case pP1 => k_is)
      (case aP2 => k_is)
      (case bP2 => k_is)
      (case tP2 => k_is)
      (case rP2 => k_is)
      (case lP2 => k_is)
      (case kP2 => k_is)
      (case pP2 => k_is)
      (case aP3 => k_is)
      (case bP3 => k_is)
      (case tP3 => k_is)
      (case rP3 => k_is)
      (case lP3 => k_is)
      (case kP3 => k_is)
      (case pP3 => k_is)
      (case aP4 => k_is)
      (case bP4 => k_is)
      (case tP4 => k_is)
      (case rP4 => k_is)
      (case lP4 => k_is)
      (case kP4 => k_is)
      (case pP4 => k_is)
      (case aP5 => k_is)
      (case bP5 => k_is)
      (case tP5 => k_is)
      (case rP5 => k_is)
      (case lP5 => k_is)
      (case kP5 => k_is)
      (case pP5 => k_is)
      (case aP6 => k_is)
      (case bP6 => k_is)
      (case tP6 => k_is)
      (case rP6 => k_is)
      (case lP6 => k_is)
      (case kP6 => k_is)
      (case pP6 => k_is)
      (case iQ => k_is)
      (case yQ => k_is)
      (case lQ => k_is)
      (case kQ => k_is)
      (case pQ => k_is)
      (case iS => k_is)
      (case yS => k_is)
      (case lS => k_is)
      (case kS => k_is)
      (case pS => k_is)
      (case cg => k_is)
      (case ct => k_is)
    case ul =>
      refine' K14.mk_L KX G ?aC ?c1C ?c2C ?c3C ?c4C ?c5C ?c6C ?c7C ?c8C ?lIC ?kIC ?pIC ?n1C ?n2C ?n3C ?n4C ?n5C ?n6C ?n7C ?n8C ?moC ?neC ?caC ?gCC ?tCC ?iT ?yT ?lT ?kT ?pT ?rd ?ga ?w1 ?xE ?cO ?rO ?fO_ ?lO ?kO ?pO ?w2 ?xG ?aP1 ?bP1 ?tP1 ?rP1 ?lP1 ?kP1 ?pP1 ?aP2 ?bP2 ?tP2 ?rP2 ?lP2 ?kP2 ?pP2 ?aP3 ?bP3 ?tP3 ?rP3 ?lP3 ?kP3 ?pP3 ?aP4 ?bP4 ?tP4 ?rP4 ?lP4 ?kP4 ?pP4 ?aP5 ?bP5 ?tP5 ?rP5 ?lP5 ?kP5 ?pP5 ?aP6 ?bP6 ?tP6 ?rP6 ?lP6 ?kP6 ?pP6 ?aP7 ?bP7 ?tP7 ?rP7 ?lP7 ?kP7 ?pP7 ?iM1 ?yM1 ?lM1 ?kM1 ?pM1 ?iM2 ?yM2 ?lM2 ?kM2 ?pM2 ?iM3 ?yM3 ?lM3 ?kM3 ?pM3 ?iM4 ?yM4 ?lM4 ?kM4 ?pM4 ?iM5 ?yM5 ?lM5 ?kM5 ?pM5 ?iM6 ?yM6 ?lM6 ?kM6 ?pM6 ?cg ?ct
      (case aC => k_is)
      (case c1C => k_is)
      (case c2C => k_is)
      (case c3C => k_is)
      (case c4C => k_is)
      (case c5C => k_is)
      (case c6C => k_is)
      (case c7C => k_is)
      (case c8C => k_is)
      (case lIC => k_is)
      (case kIC => k_is)
      (case pIC => k_is)
      (case n1C => k_is)
      (case n2C => k_is)
      (case n3C => k_is)
      (case n4C => k_is)
      (case n5C => k_is)
      (case n6C => k_is)
      (case n7C => k_is)
      (case n8C => k_is)
      (case moC => k_is)
      (case neC => k_is)
      (case caC => k_is)
      (case gCC => k_is)
      (case tCC => k_is)
      (case iT => k_is)
      (case yT => k_is)
      (case lT => k_is)
      (case kT => k_is)
      (case pT => k_is)
      (case rd => first | rfl | k_is | kit_is | kernel_rfl)
      (case ga => k_is)
      (case w1 => k_is)
      (case xE => k_is)
      (case cO => first | rfl | k_is | kit_is | kernel_rfl)
      (case rO => k_is)
      (case fO_ => k_is)
      (case lO => k_is)
      (case kO => k_is)
      (case pO => k_is)
      (case w2 => k_is)
      (case xG => k_is)
      (case aP1 => k_is)
      (case bP1 => k_is)
      (case tP1 => k_is)
      (case rP1 => k_is)
      (case lP1 => k_is)
      (case kP1 => k_is)
      (case pP1 => k_is)
      (case aP2 => k_is)
      (case bP2 => k_is)
      (case tP2 => k_is)
      (case rP2 => k_is)
      (case lP2 => k_is)
      (case kP2 => k_is)
      (case pP2 => k_is)
      (case aP3 => k_is)
      (case bP3 => k_is)
      (case tP3 => k_is)
      (case rP3 => k_is)
      (case lP3 => k_is)
      (case kP3 => k_is)
      (case pP3 => k_is)
      (case aP4 => k_is)
      (case bP4 => k_is)
      (case tP4 => k_is)
      (case rP4 => k_is)
      (case lP4 => k_is)
      (case kP4 => k_is)
      (case pP4 => k_is)
      (case aP5 => k_is)
      (case bP5 => k_is)
      (case tP5 => k_is)
      (case rP5 => k_is)
      (case lP5 => k_is)
      (case kP5 => k_is)
      (case pP5 => k_is)
      (case aP6 => k_is)
      (case bP6 => k_is)
      (case tP6 => k_is)
      (case rP6 => k_is)
      (case lP6 => k_is)
      (case kP6 => k_is)
      (case pP6 => k_is)
      (case aP7 => k_is)
      (case bP7 => k_is)
      (case tP7 => k_is)
      (case rP7 => k_is)
      (case lP7 => k_is)
      (case kP7 => k_is)
      (case pP7 => k_is)
      (case iM1 => k_is)
      (case yM1 => k_is)
      (case lM1 => k_is)
      (case kM1 => k_is)
      (case pM1 => k_is)
      (case iM2 => k_is)
      (case yM2 => k_is)
      (case lM2 => k_is)
      (case kM2 => k_is)
      (case pM2 => k_is)
      (case iM3 => k_is)
      (case yM3 => k_is)
      (case lM3 => k_is)
      (case kM3 => k_is)
      (case pM3 => k_is)
      (case iM4 => k_is)
      (case yM4 => k_is)
      (case lM4 => k_is)
      (case kM4 => k_is)
      (case pM4 => k_is)
      (case iM5 => k_is)
      (case yM5 => k_is)
      (case lM5 => k_is)
      (case kM5 => k_is)
      (case pM5 => k_is)
      (case iM6 => k_is)
      (case yM6 => k_is)
      (case lM6 => k_is)
      (case kM6 => k_is)
      (case pM6 => k_is)
      (case cg => k_is)
      (case ct => k_is)
    case ue =>
      refine' K14.mk_E KX G ?aU ?xU ?hU ?sU ?eU ?tU ?kU ?iU ?nU ?gaU ?ggU ?hdU ?gU ?lU ?coU ?keU ?tyU ?xD ?aL ?aM ?gL ?eL ?tL ?gM ?eM ?tM ?al ?am ?aa
      (case aU => k_is)
      (case xU => k_is)
      (case hU => exact ⟨by decide +kernel, by decide +kernel, by decide +kernel, by decide +kernel, fun x => by first | kernel_rfl | (rw [PySem.refuseLoop_ref]; kernel_rfl)⟩)
      (case sU => k_is)
      (case eU => k_is)
      (case tU => k_is)
      (case kU => k_is)
      (case iU => k_is)
      (case nU => k_is)
      (case gaU => k_is)
      (case ggU => k_is)
      (case hdU => k_is)
      (case gU => k_is)
      (case lU => k_is)
      (case coU => k_is)
      (case keU => k_is)
      (case tyU => k_is)
      (case xD => k_is)
      (case aL => k_is)
      (case aM => k_is)
      (case gL => k_is)
      (case eL => k_is)
      (case tL => k_is)
      (case gM => k_is)
      (case eM => k_is)
      (case tM => k_is)
      (case al => k_is)
      (case am => k_is)
      (case aa => first | rfl | k_is)
    (case pl1 => k_is)
    (case pu1 => rfl)
    (case hd1 => kernel_rfl)
    (case out1 => kernel_rfl)
    (case em1 => exact hY _ (by decide))
    (case hb => intro s u; exact .of_eq rfl)
