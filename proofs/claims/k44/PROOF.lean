import PyProof.Rows.All
import HandS.GenList
import HandS.GenOver
import Wide.All
import OpenK.AllK
import Wide.FinOn
import HandS.ForMost
import HandS.Wide
import HandS.IsInst
import HandS.Walk
import HandS.Style
import HandS.ForExc
import HandS.ExcInit
import HandS.Lambda
import HandS.Defaults
import HandS.MakeKwOnly
import HandS.TryMany
import KE.DataCmp
import HandS.EndTab
import HandS.DictComp
import HandS.DeepEq
import HandS.Property
import HandS.FStr
import HandS.Iter
import HandS.Finally
import HandS.ListItems
import KE.KNestM
import PyProof.ReprRoads
import PyProof.ListStr
import PyProof.StrBlock2
import HandS.Conv
import HandS.WordsDict
import HandS.List
import KE.KFmtOwn
import HandS.OwnEq
import HandS.More
import HandS.RaiseMore
import PyProof.InstNe
import OpenK.KMeth
import OpenK.KOps
import PyProof.EqKinds
import KE.DataEq
import KE.KDictList
import KE.KTupSum
import KE.KMathG
import HandS.Gcd
import KE.SortData
import HandS.Zip
import HandS.Set
import HandS.Keys
import HandS.Dict
import HandS.TupSets
import HandS.SetBool
import HandS.Comp
import PyProof.WalksMore
import PyProof.TupleIter
import HandS.GenYield
import PyProof.GenRules
import HandS.GenCall
import HandS.Star
import HandS.Flow
import HandS.Text
import HandS.Deep
import HandS.ExcOwn
import HandS.ExcValue
import HandS.Words
import HandS.BoundDict
import HandS.ClsMeth
import KE.RegKIsAll
import PySem.Challenge.RW_overrounds_k44_whole_free_registers
set_option Elab.async false
set_option linter.all false
set_option maxRecDepth 100000
set_option maxHeartbeats 2000000
namespace K44
open PySem L2
def top (i : Nat) : Stmt := PySem.Challenge.pw_overrounds_k44_whole_free_registers.main.body.getD i (.Pass ⟨0, 0, 0, 0⟩)
abbrev s_wall : Stmt := top 0
abbrev s_is_name : Stmt := top 11
abbrev s_is_integer : Stmt := top 12
abbrev s_is_between : Stmt := top 13
abbrev s_check_integer : Stmt := top 14
abbrev s_check_between : Stmt := top 15
abbrev s_check_interval : Stmt := top 16
abbrev s_times_alive : Stmt := top 17
abbrev s_ascends : Stmt := top 19
abbrev s_is_span : Stmt := top 23
abbrev s_are_rows : Stmt := top 24
abbrev s_check_spans : Stmt := top 26
abbrev s_is_follow : Stmt := top 29
abbrev s_are_follows : Stmt := top 30
abbrev s_size_of : Stmt := top 31
abbrev s_is_wiring : Stmt := top 32
abbrev s_cycles_of : Stmt := top 33
abbrev s_w_tray : Stmt := top 36
abbrev s_w_roll : Stmt := top 37
abbrev s_w_pick : Stmt := top 38
abbrev s_w_few : Stmt := top 39
abbrev s_w_names : Stmt := top 40
abbrev s_w_rings : Stmt := top 41
abbrev s_w_rows : Stmt := top 42
abbrev s_w_sorted : Stmt := top 43
abbrev s_w_alive : Stmt := top 44
abbrev s_w_places : Stmt := top 45
abbrev s_w_swept : Stmt := top 46
abbrev s_w_drawn : Stmt := top 47
abbrev s_w_follows : Stmt := top 48
abbrev s_w_size : Stmt := top 50
abbrev s_w_free : Stmt := top 51
abbrev s_w_is_once : Stmt := top 52
abbrev s_w_right : Stmt := top 53
abbrev s_law : Stmt := top 54
abbrev s_RoundError_init : Stmt := inClass (top 2) 0
abbrev s_UnknownName_init : Stmt := inClass (top 6) 0
abbrev s_InvalidNumber_init : Stmt := inClass (top 7) 0
abbrev s_Spans_init : Stmt := inClass (top 25) 0
abbrev s_Spans_interval : Stmt := inClass (top 25) 1
abbrev s_Spans_rows : Stmt := inClass (top 25) 2
abbrev s_Spans_names : Stmt := inClass (top 25) 3
abbrev s_Spans_most : Stmt := inClass (top 25) 4
abbrev s_Spans_peaks : Stmt := inClass (top 25) 5
abbrev s_Spans_total : Stmt := inClass (top 25) 6
abbrev s_Spans_pieces : Stmt := inClass (top 25) 7
abbrev s_Spans_normal : Stmt := inClass (top 25) 8
abbrev s_Spans_sums : Stmt := inClass (top 25) 9
abbrev s_Spans_chosen : Stmt := inClass (top 25) 10
abbrev s_Spans_alive : Stmt := inClass (top 25) 11
abbrev s_Spans_across : Stmt := inClass (top 25) 12
abbrev s_Spans_is_full : Stmt := inClass (top 25) 13
abbrev s_Spans_most_of : Stmt := inClass (top 25) 14
abbrev s_Spans_full_slots : Stmt := inClass (top 25) 15
abbrev s_Spans_is_apart : Stmt := inClass (top 25) 16
abbrev s_Spans_linked : Stmt := inClass (top 25) 17
abbrev s_Spans_has_free : Stmt := inClass (top 25) 18
abbrev s_Spans_each_alive : Stmt := inClass (top 25) 19
abbrev s_Spans_getitem : Stmt := inClass (top 25) 20
abbrev s_Spans_contains : Stmt := inClass (top 25) 21
abbrev s_Spans_len : Stmt := inClass (top 25) 22
abbrev s_Spans_iter : Stmt := inClass (top 25) 23
abbrev s_Spans_later : Stmt := inClass (top 25) 24
abbrev s_Spans_add : Stmt := inClass (top 25) 25
abbrev s_Spans_or : Stmt := inClass (top 25) 26
abbrev s_Spans_and : Stmt := inClass (top 25) 27
abbrev s_Spans_eq : Stmt := inClass (top 25) 28
abbrev s_Spans_str : Stmt := inClass (top 25) 29
abbrev s_Wiring_init : Stmt := inClass (top 34) 0
abbrev s_Wiring_spans : Stmt := inClass (top 34) 1
abbrev s_Wiring_follows : Stmt := inClass (top 34) 2
abbrev s_Wiring_registers : Stmt := inClass (top 34) 3
abbrev s_Wiring_cycles : Stmt := inClass (top 34) 4
abbrev s_Wiring_sizes : Stmt := inClass (top 34) 5
abbrev s_Wiring_copies : Stmt := inClass (top 34) 6
abbrev s_Wiring_after : Stmt := inClass (top 34) 7
abbrev s_Wiring_each_free : Stmt := inClass (top 34) 8
abbrev s_Wiring_is_free : Stmt := inClass (top 34) 9
abbrev s_Wiring_exchanged : Stmt := inClass (top 34) 10
abbrev s_Wiring_going_on : Stmt := inClass (top 34) 11
abbrev s_Wiring_end_of : Stmt := inClass (top 34) 12
abbrev s_Wiring_getitem : Stmt := inClass (top 34) 13
abbrev s_Wiring_iter : Stmt := inClass (top 34) 14
abbrev s_Wiring_len : Stmt := inClass (top 34) 15
abbrev s_Wiring_eq : Stmt := inClass (top 34) 16
abbrev s_Wiring_str : Stmt := inClass (top 34) 17
theorem sc_RoundError_init : FnScope ["self", "told"] ["self", "told"] (defScope s_RoundError_init) := ⟨rfl, rfl, rfl, by decide +kernel, rfl, by decide +kernel, by decide +kernel⟩
theorem sc_UnknownName_init : FnScope ["self", "wanted"] ["self", "wanted"] (defScope s_UnknownName_init) := ⟨rfl, rfl, rfl, by decide +kernel, rfl, by decide +kernel, by decide +kernel⟩
theorem sc_InvalidNumber_init : FnScope ["self", "value"] ["self", "value"] (defScope s_InvalidNumber_init) := ⟨rfl, rfl, rfl, by decide +kernel, rfl, by decide +kernel, by decide +kernel⟩
theorem sc_Spans_init : FnScope ["self", "interval", "rows", "name", "begin", "end", "slot"] ["self", "interval", "rows"] (defScope s_Spans_init) := ⟨rfl, rfl, rfl, by decide +kernel, rfl, by decide +kernel, by decide +kernel⟩
theorem sc_Spans_interval : FnScope ["self"] ["self"] (defScope s_Spans_interval) := ⟨rfl, rfl, rfl, by decide +kernel, rfl, by decide +kernel, by decide +kernel⟩
theorem sc_Spans_rows : FnScope ["self"] ["self"] (defScope s_Spans_rows) := ⟨rfl, rfl, rfl, by decide +kernel, rfl, by decide +kernel, by decide +kernel⟩
theorem sc_Spans_names : FnScope ["self"] ["self"] (defScope s_Spans_names) := ⟨rfl, rfl, rfl, by decide +kernel, rfl, by decide +kernel, by decide +kernel⟩
theorem sc_Spans_most : FnScope ["self"] ["self"] (defScope s_Spans_most) := ⟨rfl, rfl, rfl, by decide +kernel, rfl, by decide +kernel, by decide +kernel⟩
theorem sc_Spans_peaks : FnScope ["self"] ["self"] (defScope s_Spans_peaks) := ⟨rfl, rfl, rfl, by decide +kernel, rfl, by decide +kernel, by decide +kernel⟩
theorem sc_Spans_total : FnScope ["self", "begin", "end"] ["self"] (defScope s_Spans_total) := ⟨rfl, rfl, rfl, by decide +kernel, rfl, by decide +kernel, by decide +kernel⟩
theorem sc_Spans_pieces : FnScope ["self"] ["self"] (defScope s_Spans_pieces) := ⟨rfl, rfl, rfl, by decide +kernel, rfl, by decide +kernel, by decide +kernel⟩
theorem sc_Spans_normal : FnScope ["self"] ["self"] (defScope s_Spans_normal) := ⟨rfl, rfl, rfl, by decide +kernel, rfl, by decide +kernel, by decide +kernel⟩
theorem sc_Spans_sums : FnScope ["self", "counts", "names", "slot", "name"] ["self", "counts", "names"] (defScope s_Spans_sums) := ⟨rfl, rfl, rfl, by decide +kernel, rfl, by decide +kernel, by decide +kernel⟩
theorem sc_Spans_chosen : FnScope ["self", "names", "name"] ["self", "names"] (defScope s_Spans_chosen) := ⟨rfl, rfl, rfl, by decide +kernel, rfl, by decide +kernel, by decide +kernel⟩
theorem sc_Spans_alive : FnScope ["self", "tick", "names", "chosen", "name"] ["self", "tick", "names"] (defScope s_Spans_alive) := ⟨rfl, rfl, rfl, by decide +kernel, rfl, by decide +kernel, by decide +kernel⟩
theorem sc_Spans_across : FnScope ["self", "moment", "names", "chosen", "name"] ["self", "moment", "names"] (defScope s_Spans_across) := ⟨rfl, rfl, rfl, by decide +kernel, rfl, by decide +kernel, by decide +kernel⟩
theorem sc_Spans_is_full : FnScope ["self", "moment", "names"] ["self", "moment", "names"] (defScope s_Spans_is_full) := ⟨rfl, rfl, rfl, by decide +kernel, rfl, by decide +kernel, by decide +kernel⟩
theorem sc_Spans_most_of : FnScope ["self", "names"] ["self", "names"] (defScope s_Spans_most_of) := ⟨rfl, rfl, rfl, by decide +kernel, rfl, by decide +kernel, by decide +kernel⟩
theorem sc_Spans_full_slots : FnScope ["self", "names"] ["self", "names"] (defScope s_Spans_full_slots) := ⟨rfl, rfl, rfl, by decide +kernel, rfl, by decide +kernel, by decide +kernel⟩
theorem sc_Spans_is_apart : FnScope ["self", "names"] ["self", "names"] (defScope s_Spans_is_apart) := ⟨rfl, rfl, rfl, by decide +kernel, rfl, by decide +kernel, by decide +kernel⟩
theorem sc_Spans_linked : FnScope ["self", "peak"] ["self", "peak"] (defScope s_Spans_linked) := ⟨rfl, rfl, rfl, by decide +kernel, rfl, by decide +kernel, by decide +kernel⟩
theorem sc_Spans_has_free : FnScope ["self", "names", "peak", "slot"] ["self", "names", "peak", "slot"] (defScope s_Spans_has_free) := ⟨rfl, rfl, rfl, by decide +kernel, rfl, by decide +kernel, by decide +kernel⟩
theorem gc_Spans_each_alive : L2.GScope ["self", "tick", "name", "begin", "end", "last", "many", "turn"] ["self", "tick"] (defScope s_Spans_each_alive) := ⟨rfl, rfl, rfl, by decide +kernel, rfl, by decide +kernel, by decide +kernel⟩
theorem sc_Spans_getitem : FnScope ["self", "name"] ["self", "name"] (defScope s_Spans_getitem) := ⟨rfl, rfl, rfl, by decide +kernel, rfl, by decide +kernel, by decide +kernel⟩
theorem sc_Spans_contains : FnScope ["self", "value"] ["self", "value"] (defScope s_Spans_contains) := ⟨rfl, rfl, rfl, by decide +kernel, rfl, by decide +kernel, by decide +kernel⟩
theorem sc_Spans_len : FnScope ["self"] ["self"] (defScope s_Spans_len) := ⟨rfl, rfl, rfl, by decide +kernel, rfl, by decide +kernel, by decide +kernel⟩
theorem sc_Spans_iter : FnScope ["self"] ["self"] (defScope s_Spans_iter) := ⟨rfl, rfl, rfl, by decide +kernel, rfl, by decide +kernel, by decide +kernel⟩
theorem sc_Spans_later : FnScope ["self", "ticks", "name", "begin", "end"] ["self", "ticks"] (defScope s_Spans_later) := ⟨rfl, rfl, rfl, by decide +kernel, rfl, by decide +kernel, by decide +kernel⟩
theorem sc_Spans_add : FnScope ["self", "other"] ["self", "other"] (defScope s_Spans_add) := ⟨rfl, rfl, rfl, by decide +kernel, rfl, by decide +kernel, by decide +kernel⟩
theorem sc_Spans_or : FnScope ["self", "other", "rows", "name"] ["self", "other"] (defScope s_Spans_or) := ⟨rfl, rfl, rfl, by decide +kernel, rfl, by decide +kernel, by decide +kernel⟩
theorem sc_Spans_and : FnScope ["self", "other", "name"] ["self", "other"] (defScope s_Spans_and) := ⟨rfl, rfl, rfl, by decide +kernel, rfl, by decide +kernel, by decide +kernel⟩
theorem sc_Spans_eq : FnScope ["self", "other"] ["self", "other"] (defScope s_Spans_eq) := ⟨rfl, rfl, rfl, by decide +kernel, rfl, by decide +kernel, by decide +kernel⟩
theorem sc_Spans_str : FnScope ["self"] ["self"] (defScope s_Spans_str) := ⟨rfl, rfl, rfl, by decide +kernel, rfl, by decide +kernel, by decide +kernel⟩
theorem sc_Wiring_init : FnScope ["self", "spans", "follows", "name"] ["self", "spans", "follows"] (defScope s_Wiring_init) := ⟨rfl, rfl, rfl, by decide +kernel, rfl, by decide +kernel, by decide +kernel⟩
theorem sc_Wiring_spans : FnScope ["self"] ["self"] (defScope s_Wiring_spans) := ⟨rfl, rfl, rfl, by decide +kernel, rfl, by decide +kernel, by decide +kernel⟩
theorem sc_Wiring_follows : FnScope ["self"] ["self"] (defScope s_Wiring_follows) := ⟨rfl, rfl, rfl, by decide +kernel, rfl, by decide +kernel, by decide +kernel⟩
theorem sc_Wiring_registers : FnScope ["self"] ["self"] (defScope s_Wiring_registers) := ⟨rfl, rfl, rfl, by decide +kernel, rfl, by decide +kernel, by decide +kernel⟩
theorem sc_Wiring_cycles : FnScope ["self"] ["self"] (defScope s_Wiring_cycles) := ⟨rfl, rfl, rfl, by decide +kernel, rfl, by decide +kernel, by decide +kernel⟩
theorem sc_Wiring_sizes : FnScope ["self", "cycle"] ["self"] (defScope s_Wiring_sizes) := ⟨rfl, rfl, rfl, by decide +kernel, rfl, by decide +kernel, by decide +kernel⟩
theorem sc_Wiring_copies : FnScope ["self"] ["self"] (defScope s_Wiring_copies) := ⟨rfl, rfl, rfl, by decide +kernel, rfl, by decide +kernel, by decide +kernel⟩
theorem sc_Wiring_after : FnScope ["self", "name", "turn", "follower", "wait", "ticks"] ["self", "name", "turn"] (defScope s_Wiring_after) := ⟨rfl, rfl, rfl, by decide +kernel, rfl, by decide +kernel, by decide +kernel⟩
theorem gc_Wiring_each_free : L2.GScope ["self", "moment", "interval", "name", "ticks", "first", "turn"] ["self", "moment"] (defScope s_Wiring_each_free) := ⟨rfl, rfl, rfl, by decide +kernel, rfl, by decide +kernel, by decide +kernel⟩
theorem sc_Wiring_is_free : FnScope ["self", "moment", "value"] ["self", "moment", "value"] (defScope s_Wiring_is_free) := ⟨rfl, rfl, rfl, by decide +kernel, rfl, by decide +kernel, by decide +kernel⟩
theorem sc_Wiring_exchanged : FnScope ["self", "moment", "one", "other"] ["self", "moment", "one", "other"] (defScope s_Wiring_exchanged) := ⟨rfl, rfl, rfl, by decide +kernel, rfl, by decide +kernel, by decide +kernel⟩
theorem sc_Wiring_going_on : FnScope ["self", "value", "other"] ["self", "value", "other"] (defScope s_Wiring_going_on) := ⟨rfl, rfl, rfl, by decide +kernel, rfl, by decide +kernel, by decide +kernel⟩
theorem sc_Wiring_end_of : FnScope ["self", "value"] ["self", "value"] (defScope s_Wiring_end_of) := ⟨rfl, rfl, rfl, by decide +kernel, rfl, by decide +kernel, by decide +kernel⟩
theorem sc_Wiring_getitem : FnScope ["self", "name"] ["self", "name"] (defScope s_Wiring_getitem) := ⟨rfl, rfl, rfl, by decide +kernel, rfl, by decide +kernel, by decide +kernel⟩
theorem sc_Wiring_iter : FnScope ["self"] ["self"] (defScope s_Wiring_iter) := ⟨rfl, rfl, rfl, by decide +kernel, rfl, by decide +kernel, by decide +kernel⟩
theorem sc_Wiring_len : FnScope ["self"] ["self"] (defScope s_Wiring_len) := ⟨rfl, rfl, rfl, by decide +kernel, rfl, by decide +kernel, by decide +kernel⟩
theorem sc_Wiring_eq : FnScope ["self", "other"] ["self", "other"] (defScope s_Wiring_eq) := ⟨rfl, rfl, rfl, by decide +kernel, rfl, by decide +kernel, by decide +kernel⟩
theorem sc_Wiring_str : FnScope ["self"] ["self"] (defScope s_Wiring_str) := ⟨rfl, rfl, rfl, by decide +kernel, rfl, by decide +kernel, by decide +kernel⟩
theorem sc_wall : FnScope ["k"] ["k"] (defScope s_wall) := ⟨rfl, rfl, rfl, by decide +kernel, rfl, by decide +kernel, by decide +kernel⟩
theorem sc_is_name : FnScope ["value", "letter"] ["value"] (defScope s_is_name) := ⟨rfl, rfl, rfl, by decide +kernel, rfl, by decide +kernel, by decide +kernel⟩
theorem sc_is_integer : FnScope ["value"] ["value"] (defScope s_is_integer) := ⟨rfl, rfl, rfl, by decide +kernel, rfl, by decide +kernel, by decide +kernel⟩
theorem sc_is_between : FnScope ["value", "low", "high"] ["value", "low", "high"] (defScope s_is_between) := ⟨rfl, rfl, rfl, by decide +kernel, rfl, by decide +kernel, by decide +kernel⟩
theorem sc_check_integer : FnScope ["value"] ["value"] (defScope s_check_integer) := ⟨rfl, rfl, rfl, by decide +kernel, rfl, by decide +kernel, by decide +kernel⟩
theorem sc_check_between : FnScope ["value", "low", "high"] ["value", "low", "high"] (defScope s_check_between) := ⟨rfl, rfl, rfl, by decide +kernel, rfl, by decide +kernel, by decide +kernel⟩
theorem sc_check_interval : FnScope ["value"] ["value"] (defScope s_check_interval) := ⟨rfl, rfl, rfl, by decide +kernel, rfl, by decide +kernel, by decide +kernel⟩
theorem sc_times_alive : FnScope ["begin", "end", "tick", "interval"] ["begin", "end", "tick", "interval"] (defScope s_times_alive) := ⟨rfl, rfl, rfl, by decide +kernel, rfl, by decide +kernel, by decide +kernel⟩
theorem sc_ascends : FnScope ["row", "at"] ["row"] (defScope s_ascends) := ⟨rfl, rfl, rfl, by decide +kernel, rfl, by decide +kernel, by decide +kernel⟩
theorem sc_is_span : FnScope ["interval", "value"] ["interval", "value"] (defScope s_is_span) := ⟨rfl, rfl, rfl, by decide +kernel, rfl, by decide +kernel, by decide +kernel⟩
theorem sc_are_rows : FnScope ["interval", "value", "name"] ["interval", "value"] (defScope s_are_rows) := ⟨rfl, rfl, rfl, by decide +kernel, rfl, by decide +kernel, by decide +kernel⟩
theorem sc_check_spans : FnScope ["value"] ["value"] (defScope s_check_spans) := ⟨rfl, rfl, rfl, by decide +kernel, rfl, by decide +kernel, by decide +kernel⟩
theorem sc_is_follow : FnScope ["spans", "name", "value"] ["spans", "name", "value"] (defScope s_is_follow) := ⟨rfl, rfl, rfl, by decide +kernel, rfl, by decide +kernel, by decide +kernel⟩
theorem sc_are_follows : FnScope ["spans", "value", "name"] ["spans", "value"] (defScope s_are_follows) := ⟨rfl, rfl, rfl, by decide +kernel, rfl, by decide +kernel, by decide +kernel⟩
theorem sc_size_of : FnScope ["spans", "follows", "names", "name"] ["spans", "follows", "names"] (defScope s_size_of) := ⟨rfl, rfl, rfl, by decide +kernel, rfl, by decide +kernel, by decide +kernel⟩
theorem sc_is_wiring : FnScope ["spans", "value"] ["spans", "value"] (defScope s_is_wiring) := ⟨rfl, rfl, rfl, by decide +kernel, rfl, by decide +kernel, by decide +kernel⟩
theorem sc_cycles_of : FnScope ["follows", "cycles", "left", "cycle", "name"] ["follows"] (defScope s_cycles_of) := ⟨rfl, rfl, rfl, by decide +kernel, rfl, by decide +kernel, by decide +kernel⟩
theorem sc_w_tray : FnScope ["script", "spot", "cell", "great", "begin"] ["script", "spot"] (defScope s_w_tray) := ⟨rfl, rfl, rfl, by decide +kernel, rfl, by decide +kernel, by decide +kernel⟩
theorem sc_w_roll : FnScope ["tray", "total", "found", "one", "two"] ["tray", "total"] (defScope s_w_roll) := ⟨rfl, rfl, rfl, by decide +kernel, rfl, by decide +kernel, by decide +kernel⟩
theorem sc_w_pick : FnScope ["tray", "items"] ["tray", "items"] (defScope s_w_pick) := ⟨rfl, rfl, rfl, by decide +kernel, rfl, by decide +kernel, by decide +kernel⟩
theorem sc_w_few : FnScope ["tray", "items", "many", "left", "found", "turn"] ["tray", "items", "many"] (defScope s_w_few) := ⟨rfl, rfl, rfl, by decide +kernel, rfl, by decide +kernel, by decide +kernel⟩
theorem sc_w_names : FnScope ["tray", "many", "letters", "stem", "found", "letter", "turn", "size"] ["tray", "many"] (defScope s_w_names) := ⟨rfl, rfl, rfl, by decide +kernel, rfl, by decide +kernel, by decide +kernel⟩
theorem sc_w_rings : FnScope ["tray", "interval", "names", "rows", "left", "some", "first", "begin", "name", "last"] ["tray", "interval", "names"] (defScope s_w_rings) := ⟨rfl, rfl, rfl, by decide +kernel, rfl, by decide +kernel, by decide +kernel⟩
theorem sc_w_rows : FnScope ["tray", "interval", "names", "rows", "name", "begin", "size"] ["tray", "interval", "names"] (defScope s_w_rows) := ⟨rfl, rfl, rfl, by decide +kernel, rfl, by decide +kernel, by decide +kernel⟩
theorem sc_w_sorted : FnScope ["rows", "name"] ["rows"] (defScope s_w_sorted) := ⟨rfl, rfl, rfl, by decide +kernel, rfl, by decide +kernel, by decide +kernel⟩
theorem sc_w_alive : FnScope ["rows", "interval", "tick", "found", "name", "begin", "end", "turn"] ["rows", "interval", "tick"] (defScope s_w_alive) := ⟨rfl, rfl, rfl, by decide +kernel, rfl, by decide +kernel, by decide +kernel⟩
theorem sc_w_places : FnScope ["rows", "interval", "index", "sizes", "cut", "tick", "name"] ["rows", "interval", "index"] (defScope s_w_places) := ⟨rfl, rfl, rfl, by decide +kernel, rfl, by decide +kernel, by decide +kernel⟩
theorem sc_w_swept : FnScope ["tray", "rows", "interval", "begins", "ends", "found", "place", "name", "free", "one", "other"] ["tray", "rows", "interval"] (defScope s_w_swept) := ⟨rfl, rfl, rfl, by decide +kernel, rfl, by decide +kernel, by decide +kernel⟩
theorem sc_w_drawn : FnScope ["tray", "rows", "interval", "found", "names", "one", "other", "wait"] ["tray", "rows", "interval"] (defScope s_w_drawn) := ⟨rfl, rfl, rfl, by decide +kernel, rfl, by decide +kernel, by decide +kernel⟩
theorem sc_w_follows : FnScope ["tray", "rows", "interval"] ["tray", "rows", "interval"] (defScope s_w_follows) := ⟨rfl, rfl, rfl, by decide +kernel, rfl, by decide +kernel, by decide +kernel⟩
theorem sc_w_size : FnScope ["rows", "interval", "follows", "names", "name"] ["rows", "interval", "follows", "names"] (defScope s_w_size) := ⟨rfl, rfl, rfl, by decide +kernel, rfl, by decide +kernel, by decide +kernel⟩
theorem sc_w_free : FnScope ["rows", "interval", "follows", "moment", "found", "name", "end", "wait", "turns", "turn"] ["rows", "interval", "follows", "moment"] (defScope s_w_free) := ⟨rfl, rfl, rfl, by decide +kernel, rfl, by decide +kernel, by decide +kernel⟩
theorem sc_w_is_once : FnScope ["wiring", "names", "later", "name", "due", "counts", "turn", "value"] ["wiring", "names"] (defScope s_w_is_once) := ⟨rfl, rfl, rfl, by decide +kernel, rfl, by decide +kernel, by decide +kernel⟩
theorem sc_w_right : FnScope ["tray", "interval", "names", "rows", "follows", "spans", "wiring", "registers", "moment", "free", "far", "due", "cycle", "size", "value", "name", "begin", "turn"] ["tray"] (defScope s_w_right) := ⟨rfl, rfl, rfl, by decide +kernel, rfl, by decide +kernel, by decide +kernel⟩
theorem sc_law : FnScope ["script", "spot", "one", "told", "due"] ["script"] (defScope s_law) := ⟨rfl, rfl, rfl, by decide +kernel, rfl, by decide +kernel, by decide +kernel⟩
/-- where the defs stand, and what the names hold -/
structure T (K : PySem.W.Frag) (mg : Str → Option Value) where
  f_wall : Addr
  d_wall : FuncData
  F_wall : Fun K "_wall" "_wall" s_wall f_wall d_wall
  m_wall : mg "_wall" = some (.ref f_wall)
  b_wall : Binds K d_wall ["k"] []
  f_is_name : Addr
  d_is_name : FuncData
  F_is_name : Fun K "is_name" "is_name" s_is_name f_is_name d_is_name
  m_is_name : mg "is_name" = some (.ref f_is_name)
  b_is_name : Binds K d_is_name ["value"] []
  f_is_integer : Addr
  d_is_integer : FuncData
  F_is_integer : Fun K "is_integer" "is_integer" s_is_integer f_is_integer d_is_integer
  m_is_integer : mg "is_integer" = some (.ref f_is_integer)
  b_is_integer : Binds K d_is_integer ["value"] []
  f_is_between : Addr
  d_is_between : FuncData
  F_is_between : Fun K "is_between" "is_between" s_is_between f_is_between d_is_between
  m_is_between : mg "is_between" = some (.ref f_is_between)
  b_is_between : Binds K d_is_between ["value", "low", "high"] []
  f_check_integer : Addr
  d_check_integer : FuncData
  F_check_integer : Fun K "check_integer" "check_integer" s_check_integer f_check_integer d_check_integer
  m_check_integer : mg "check_integer" = some (.ref f_check_integer)
  b_check_integer : Binds K d_check_integer ["value"] []
  f_check_between : Addr
  d_check_between : FuncData
  F_check_between : Fun K "check_between" "check_between" s_check_between f_check_between d_check_between
  m_check_between : mg "check_between" = some (.ref f_check_between)
  b_check_between : Binds K d_check_between ["value", "low", "high"] []
  f_check_interval : Addr
  d_check_interval : FuncData
  F_check_interval : Fun K "check_interval" "check_interval" s_check_interval f_check_interval d_check_interval
  m_check_interval : mg "check_interval" = some (.ref f_check_interval)
  b_check_interval : Binds K d_check_interval ["value"] []
  f_times_alive : Addr
  d_times_alive : FuncData
  F_times_alive : Fun K "times_alive" "times_alive" s_times_alive f_times_alive d_times_alive
  m_times_alive : mg "times_alive" = some (.ref f_times_alive)
  b_times_alive : Binds K d_times_alive ["begin", "end", "tick", "interval"] []
  f_ascends : Addr
  d_ascends : FuncData
  F_ascends : Fun K "ascends" "ascends" s_ascends f_ascends d_ascends
  m_ascends : mg "ascends" = some (.ref f_ascends)
  b_ascends : Binds K d_ascends ["row"] []
  f_is_span : Addr
  d_is_span : FuncData
  F_is_span : Fun K "_is_span" "_is_span" s_is_span f_is_span d_is_span
  m_is_span : mg "_is_span" = some (.ref f_is_span)
  b_is_span : Binds K d_is_span ["interval", "value"] []
  f_are_rows : Addr
  d_are_rows : FuncData
  F_are_rows : Fun K "_are_rows" "_are_rows" s_are_rows f_are_rows d_are_rows
  m_are_rows : mg "_are_rows" = some (.ref f_are_rows)
  b_are_rows : Binds K d_are_rows ["interval", "value"] []
  f_check_spans : Addr
  d_check_spans : FuncData
  F_check_spans : Fun K "check_spans" "check_spans" s_check_spans f_check_spans d_check_spans
  m_check_spans : mg "check_spans" = some (.ref f_check_spans)
  b_check_spans : Binds K d_check_spans ["value"] []
  f_is_follow : Addr
  d_is_follow : FuncData
  F_is_follow : Fun K "_is_follow" "_is_follow" s_is_follow f_is_follow d_is_follow
  m_is_follow : mg "_is_follow" = some (.ref f_is_follow)
  b_is_follow : Binds K d_is_follow ["spans", "name", "value"] []
  f_are_follows : Addr
  d_are_follows : FuncData
  F_are_follows : Fun K "_are_follows" "_are_follows" s_are_follows f_are_follows d_are_follows
  m_are_follows : mg "_are_follows" = some (.ref f_are_follows)
  b_are_follows : Binds K d_are_follows ["spans", "value"] []
  f_size_of : Addr
  d_size_of : FuncData
  F_size_of : Fun K "_size_of" "_size_of" s_size_of f_size_of d_size_of
  m_size_of : mg "_size_of" = some (.ref f_size_of)
  b_size_of : Binds K d_size_of ["spans", "follows", "names"] []
  f_is_wiring : Addr
  d_is_wiring : FuncData
  F_is_wiring : Fun K "is_wiring" "is_wiring" s_is_wiring f_is_wiring d_is_wiring
  m_is_wiring : mg "is_wiring" = some (.ref f_is_wiring)
  b_is_wiring : Binds K d_is_wiring ["spans", "value"] []
  f_cycles_of : Addr
  d_cycles_of : FuncData
  F_cycles_of : Fun K "_cycles_of" "_cycles_of" s_cycles_of f_cycles_of d_cycles_of
  m_cycles_of : mg "_cycles_of" = some (.ref f_cycles_of)
  b_cycles_of : Binds K d_cycles_of ["follows"] []
  f_w_tray : Addr
  d_w_tray : FuncData
  F_w_tray : Fun K "_law_tray" "_law_tray" s_w_tray f_w_tray d_w_tray
  m_w_tray : mg "_law_tray" = some (.ref f_w_tray)
  b_w_tray : Binds K d_w_tray ["script", "spot"] []
  f_w_roll : Addr
  d_w_roll : FuncData
  F_w_roll : Fun K "_law_roll" "_law_roll" s_w_roll f_w_roll d_w_roll
  m_w_roll : mg "_law_roll" = some (.ref f_w_roll)
  b_w_roll : Binds K d_w_roll ["tray", "total"] []
  f_w_pick : Addr
  d_w_pick : FuncData
  F_w_pick : Fun K "_law_pick" "_law_pick" s_w_pick f_w_pick d_w_pick
  m_w_pick : mg "_law_pick" = some (.ref f_w_pick)
  b_w_pick : Binds K d_w_pick ["tray", "items"] []
  f_w_few : Addr
  d_w_few : FuncData
  F_w_few : Fun K "_law_few" "_law_few" s_w_few f_w_few d_w_few
  m_w_few : mg "_law_few" = some (.ref f_w_few)
  b_w_few : Binds K d_w_few ["tray", "items", "many"] []
  f_w_names : Addr
  d_w_names : FuncData
  F_w_names : Fun K "_law_names" "_law_names" s_w_names f_w_names d_w_names
  m_w_names : mg "_law_names" = some (.ref f_w_names)
  b_w_names : Binds K d_w_names ["tray", "many"] []
  f_w_rings : Addr
  d_w_rings : FuncData
  F_w_rings : Fun K "_law_rings" "_law_rings" s_w_rings f_w_rings d_w_rings
  m_w_rings : mg "_law_rings" = some (.ref f_w_rings)
  b_w_rings : Binds K d_w_rings ["tray", "interval", "names"] []
  f_w_rows : Addr
  d_w_rows : FuncData
  F_w_rows : Fun K "_law_rows" "_law_rows" s_w_rows f_w_rows d_w_rows
  m_w_rows : mg "_law_rows" = some (.ref f_w_rows)
  b_w_rows : Binds K d_w_rows ["tray", "interval", "names"] []
  f_w_sorted : Addr
  d_w_sorted : FuncData
  F_w_sorted : Fun K "_law_sorted" "_law_sorted" s_w_sorted f_w_sorted d_w_sorted
  m_w_sorted : mg "_law_sorted" = some (.ref f_w_sorted)
  b_w_sorted : Binds K d_w_sorted ["rows"] []
  f_w_alive : Addr
  d_w_alive : FuncData
  F_w_alive : Fun K "_law_alive" "_law_alive" s_w_alive f_w_alive d_w_alive
  m_w_alive : mg "_law_alive" = some (.ref f_w_alive)
  b_w_alive : Binds K d_w_alive ["rows", "interval", "tick"] []
  f_w_places : Addr
  d_w_places : FuncData
  F_w_places : Fun K "_law_places" "_law_places" s_w_places f_w_places d_w_places
  m_w_places : mg "_law_places" = some (.ref f_w_places)
  b_w_places : Binds K d_w_places ["rows", "interval", "index"] []
  f_w_swept : Addr
  d_w_swept : FuncData
  F_w_swept : Fun K "_law_swept" "_law_swept" s_w_swept f_w_swept d_w_swept
  m_w_swept : mg "_law_swept" = some (.ref f_w_swept)
  b_w_swept : Binds K d_w_swept ["tray", "rows", "interval"] []
  f_w_drawn : Addr
  d_w_drawn : FuncData
  F_w_drawn : Fun K "_law_drawn" "_law_drawn" s_w_drawn f_w_drawn d_w_drawn
  m_w_drawn : mg "_law_drawn" = some (.ref f_w_drawn)
  b_w_drawn : Binds K d_w_drawn ["tray", "rows", "interval"] []
  f_w_follows : Addr
  d_w_follows : FuncData
  F_w_follows : Fun K "_law_follows" "_law_follows" s_w_follows f_w_follows d_w_follows
  m_w_follows : mg "_law_follows" = some (.ref f_w_follows)
  b_w_follows : Binds K d_w_follows ["tray", "rows", "interval"] []
  f_w_size : Addr
  d_w_size : FuncData
  F_w_size : Fun K "_law_size" "_law_size" s_w_size f_w_size d_w_size
  m_w_size : mg "_law_size" = some (.ref f_w_size)
  b_w_size : Binds K d_w_size ["rows", "interval", "follows", "names"] []
  f_w_free : Addr
  d_w_free : FuncData
  F_w_free : Fun K "_law_free" "_law_free" s_w_free f_w_free d_w_free
  m_w_free : mg "_law_free" = some (.ref f_w_free)
  b_w_free : Binds K d_w_free ["rows", "interval", "follows", "moment"] []
  f_w_is_once : Addr
  d_w_is_once : FuncData
  F_w_is_once : Fun K "_law_is_once" "_law_is_once" s_w_is_once f_w_is_once d_w_is_once
  m_w_is_once : mg "_law_is_once" = some (.ref f_w_is_once)
  b_w_is_once : Binds K d_w_is_once ["wiring", "names"] []
  f_w_right : Addr
  d_w_right : FuncData
  F_w_right : Fun K "_law_right" "_law_right" s_w_right f_w_right d_w_right
  m_w_right : mg "_law_right" = some (.ref f_w_right)
  b_w_right : Binds K d_w_right ["tray"] []
  f_law : Addr
  d_law : FuncData
  F_law : Fun K "law" "law" s_law f_law d_law
  m_law : mg "law" = some (.ref f_law)
  b_law : Binds K d_law ["script"] []
  c_MAX_INTERVAL : ∃ t, mg "MAX_INTERVAL" = some (.int 32 t)
  c_MAX_LETTERS : ∃ t, mg "MAX_LETTERS" = some (.int 8 t)
  c_MAX_VALUES : ∃ t, mg "MAX_VALUES" = some (.int 8 t)
  c_MAX_LIFE : ∃ t, mg "MAX_LIFE" = some (.int 8 t)
  c_MAX_WIRED : ∃ t, mg "MAX_WIRED" = some (.int 72 t)
  z_int : mg "int" = none
  z_abs : mg "abs" = none
  z_len : mg "len" = none
  z_max : mg "max" = none
  z_min : mg "min" = none
  z_range : mg "range" = none
  z_sum : mg "sum" = none
  z_isinstance : mg "isinstance" = none
  z_repr : mg "repr" = none
  z_str : mg "str" = none
  z_all : mg "all" = none
  z_any : mg "any" = none
  z_sorted : mg "sorted" = none
  z_tuple : mg "tuple" = none
  z_list : mg "list" = none
  z_dict : mg "dict" = none
  z_set : mg "set" = none
  z_bool : mg "bool" = none
  z_zip : mg "zip" = none
/-- a list of three ints stands at r -/
def Rl (H : Hp) (r : Addr) : Prop := ∃ a b c : Int, H r = some (.lst [.int a, .int b, .int c])
/-- what the heap held, but for what stands at r -/
def Only (r : Addr) (H H' : Hp) : Prop := ∀ b o, b ≠ r → H b = some o → H' b = some o
theorem Only.refl {r : Addr} {H : Hp} : Only r H H := fun _ _ _ e => e
theorem Only.trans {r : Addr} {H H1 H2 : Hp} (a : Only r H H1) (b : Only r H1 H2) : Only r H H2 := fun c o n e => b c o n (a c o n e)
theorem Only.upd {r : Addr} {H : Hp} {o : HO} : Only r H (upd H r o) := fun b _ n e => by rw [upd_ne n]; exact e
theorem Only.new {r p : Addr} {H : Hp} {o : HO} (n : H p = none) : Only r H (L2.upd H p o) := fun b _ _ e => by rw [upd_ne (ne_of_none e n)]; exact e
theorem Rl.new {r p : Addr} {H : Hp} {o : HO} (h : Rl H r) (n : H p = none) : Rl (upd H p o) r := by
  obtain ⟨a, b, c, e⟩ := h
  exact ⟨a, b, c, by rw [upd_ne (ne_of_none e n)]; exact e⟩
theorem Rl.ne {r p : Addr} {H : Hp} (h : Rl H r) (n : H p = none) : p ≠ r := by
  obtain ⟨a, b, c, e⟩ := h
  exact (ne_of_none e n).symm
theorem Only.seqL {K : PySem.W.Frag} {r l : Addr} {H H' : Hp} {xs : List V} (o : Only r H H') (n : l ≠ r) (h : SqL K H l xs) : SqL K H' l xs := by
  rcases h with (h | ⟨u, h⟩) | h
  · exact .inl (.inl (o _ _ n h))
  · exact .inl (.inr ⟨u, o _ _ n h⟩)
  · exact .inr h
theorem Only.seqT {K : PySem.W.Frag} {r l : Addr} {H H' : Hp} {xs : List V} (o : Only r H H') (n : l ≠ r) (h : SqT K H l xs) : SqT K H' l xs := by
  rcases h with (h | ⟨u, h⟩) | h
  · exact .inl (.inl (o _ _ n h))
  · exact .inl (.inr ⟨u, o _ _ n h⟩)
  · exact .inr h
theorem ix_at {α : Type} {xs : List α} {i : Int} (h0 : 0 ≤ i) (h1 : i < xs.length) : ∃ v, v ∈ xs ∧ atI xs i = some v := by
  have h2 : i.toNat < xs.length := by omega
  refine ⟨xs[i.toNat], List.getElem_mem h2, ?_⟩
  have h3 : ((i.toNat : Nat) : Int) = i := Int.toNat_of_nonneg h0
  have := atI_nat (xs := xs) (j := i.toNat) (List.getElem?_eq_getElem h2)
  rw [h3] at this
  exact this
/-- what a draw is made from: a list, a tuple, a text -/
def SeqV (K : PySem.W.Frag) (H : Hp) (r : Addr) (x : V) (xs : List V) : Prop :=
  (∃ l, x = .ref l ∧ l ≠ r ∧ (SqL K H l xs ∨ SqT K H l xs)) ∨ (∃ z : Str, x = .str z ∧ z.length ≤ sizeLine ∧ xs = z.cps.toList.map fun c => V.str ⟨#[c]⟩)
theorem lg {i : Int} {b : Nat} (h0 : 0 ≤ i) (h : i < 2 ^ b) (hb : 0 < b) : i.natAbs.log2 < b := by
  refine PySem.Flt.log2_lt_of hb ?_
  have : (i.natAbs : Int) = i := Int.natAbs_of_nonneg h0
  have h2 : ((i.natAbs : Nat) : Int) < ((2 ^ b : Nat) : Int) := by rw [this, Int.natCast_pow]; exact h
  exact Int.ofNat_lt.mp h2
section
variable {X : Cx}
theorem op_powW : OpR X (binaryOp .Pow) (rI (fun i j => 0 ≤ j ∧ (Builtin.Int.intBits i : Int) * j ≤ 2 ^ 27) fun i j => .int (i ^ j.toNat)) := opI fun _ _ _ _ _ _ _ hc q => PyProof.Rows.pow_int hc.1 hc.2 q
end
theorem ite_join {c : Bool} {ta tb : TE} {σ : St} {H : Hp} {Q : VK} (R : V → Hp → Prop) (ha : c = true → ∀ Q' : VK, (∀ v H', R v H' → Q' v H') → ta σ H Q') (hb : c = false → ∀ Q' : VK, (∀ v H', R v H' → Q' v H') → tb σ H Q')
    (h : ∀ v H', R v H' → Q v H') : if c = true then ta σ H Q else tb σ H Q := by
  cases c with
  | true => exact iteT (ha rfl Q h)
  | false => exact iteF (hb rfl Q h)
theorem at_ns {ns : List Int} {i : Nat} (h : i < ns.length) : ∃ z, atI (ns.map V.int) (i : Int) = some (.int z) :=
  ⟨ns[i], atI_nat (by rw [List.getElem?_map, List.getElem?_eq_getElem h]; rfl)⟩
theorem bl_t {Q : VK} {b : Bool} {H : Hp} (e : b = true) (k : Q (.bl true) H) : Q (.bl b) H := e ▸ k
theorem int_to {Q : VK} {i j : Int} {H : Hp} (e : i = j) (k : Q (.int j) H) : Q (.int i) H := e ▸ k
theorem if_ne {x y : V} {A B : Prop} (h : x ≠ y) (a : A) : if (!decide (x = y)) = true then A else B := by
  rw [decide_eq_false h]
  exact iteT a
theorem if_dec_t {x y : V} {A B : Prop} (h : x = y) (a : A) : if decide (x = y) = true then A else B := by
  rw [decide_eq_true h]
  exact iteT a
theorem if_dec_f {x y : V} {A B : Prop} (h : x ≠ y) (b : B) : if decide (x = y) = true then A else B := by
  rw [decide_eq_false h]
  exact iteF b
theorem dp_all {K : PySem.W.Frag} {H : Hp} : ∀ ns : List Int, DpAll K H (ns.map V.int) (ns.map PyData.int)
  | [] => .nil
  | n :: r => .cons (.int n) (dp_all r)
theorem dp_ints {K : PySem.W.Frag} {H : Hp} {a : Addr} (ns : List Int) (h : SqL K H a (ns.map V.int)) : Dp K H (.ref a) (.list (ns.map PyData.int)) := .lst h (dp_all ns)
theorem cells_n (n m : Nat) : ((if (if ((n : Nat) : Int) < (m : Int) then ((n : Nat) : Int) else (m : Int)) > 1 then (if ((n : Nat) : Int) < (m : Int) then ((n : Nat) : Int) else (m : Int)) else 1) : Int) ≤ (m : Int) + 1 ∧ 1 ≤ ((if (if ((n : Nat) : Int) < (m : Int) then ((n : Nat) : Int) else (m : Int)) > 1 then (if ((n : Nat) : Int) < (m : Int) then ((n : Nat) : Int) else (m : Int)) else 1) : Int) := by
  split <;> split <;> omega
def nmC (z : Str) : Bool := decide (1 ≤ z.length ∧ z.length ≤ 8) && z.cps.toList.all fun c => decide (97 ≤ c) && decide (c ≤ 122)
def nmD : PyData → Bool
  | .str z => nmC z
  | _ => false
def inD (lo hi : Int) : PyData → Bool
  | .int n => (decide (-1000000000000 < n) && decide (n < 1000000000000)) && (decide (lo ≤ n) && decide (n ≤ hi))
  | _ => false
def isInD : PyData → Bool
  | .int n => decide (-1000000000000 < n) && decide (n < 1000000000000)
  | _ => false
def prD (hi : Int) : PyData → Bool
  | .tuple [a, b] => nmD a && inD 0 hi b
  | _ => false
def rwD (most : Nat) (hi : Int) : PyData → Bool
  | .tuple ds => decide (ds.length ≤ most) && ds.all (prD hi)
  | _ => false
/-- every text in it is short -/
def okD (d : PyData) : Prop := d.weight ≤ 1000000
/-- a value that is the datum d, or a dict -/
def DD (K : PySem.W.Frag) (H : Hp) (x : V) (d : PyData) : Prop := Dp K H x d ∨ ∃ a kvs, x = .ref a ∧ H a = some (.dK kvs) ∧ d = .dict []
theorem Same.seqT {K : PySem.W.Frag} {H H' : Hp} {a : Addr} {xs : List V} (e : Same H H') (h : SqT K H a xs) : SqT K H' a xs := by
  rcases h with (h | ⟨o, h⟩) | h
  · exact .inl (.inl (e _ _ h))
  · exact .inl (.inr ⟨o, e _ _ h⟩)
  · exact .inr h
mutual
theorem dp_same {K : PySem.W.Frag} {H H' : Hp} (s : Same H H') : ∀ (d : PyData) (x : V), Dp K H x d → Dp K H' x d
  | .none, _, h => by cases h; exact .non
  | .bool b, _, h => by cases h; exact .bl b
  | .int i, _, h => by cases h; exact .int i
  | .str z, _, h => by cases h; exact .str z
  | .list ds, _, h => by
    cases h with
    | lst h1 h2 => exact .lst (Same.seq s h1) (dpa_same s ds _ h2)
  | .tuple ds, _, h => by
    cases h with
    | tup h1 h2 => exact .tup (Same.seqT s h1) (dpa_same s ds _ h2)
  | .dict _, _, h => by cases h
theorem dpa_same {K : PySem.W.Frag} {H H' : Hp} (s : Same H H') : ∀ (ds : List PyData) (xs : List V), DpAll K H xs ds → DpAll K H' xs ds
  | [], _, h => by cases h; exact .nil
  | d :: ds, _, h => by
    cases h with
    | cons h1 h2 => exact .cons (dp_same s d _ h1) (dpa_same s ds _ h2)
end
theorem DD.same {K : PySem.W.Frag} {H H' : Hp} {x : V} {d : PyData} (s : Same H H') (h : DD K H x d) : DD K H' x d := by
  rcases h with h | ⟨a, kvs, e1, e2, e3⟩
  · exact .inl (dp_same s d x h)
  · exact .inr ⟨a, kvs, e1, s _ _ e2, e3⟩
theorem dpa_len {K : PySem.W.Frag} {H : Hp} : ∀ {ds : List PyData} {xs : List V}, DpAll K H xs ds → ds.length = xs.length
  | [], _, h => by cases h; rfl
  | d :: ds, _, h => by
    cases h with
    | cons h1 h2 => rw [List.length_cons, List.length_cons, dpa_len h2]
theorem dpa_get {K : PySem.W.Frag} {H : Hp} : ∀ {ds : List PyData} {xs : List V} {i : Nat} {x : V}, DpAll K H xs ds → xs[i]? = some x → ∃ d, ds[i]? = some d ∧ Dp K H x d
  | [], _, i, x, h, e => by cases h; simp at e
  | d :: ds, _, 0, x, h, e => by
    cases h with
    | cons h1 h2 =>
      obtain rfl := Option.some.inj e
      exact ⟨d, rfl, h1⟩
  | d :: ds, _, i + 1, x, h, e => by
    cases h with
    | cons h1 h2 => exact dpa_get (i := i) h2 e
def tyD : PyData → String
  | .none => "NoneType" | .bool _ => "bool" | .int _ => "int" | .str _ => "str" | .list _ => "list" | .tuple _ => "tuple" | .dict _ => "dict"
theorem DD.ty {K : PySem.W.Frag} {H : Hp} {x : V} {d : PyData} (h : DD K H x d) : TyX K H x (.type (tyD d)) := by
  rcases h with h | ⟨a, kvs, rfl, e, rfl⟩
  · cases h with
    | non => exact .base .non
    | bl b => exact .base (.bl b)
    | int i => exact .base (.int i)
    | str z => exact .base (.str z)
    | lst h1 h2 =>
      rcases h1 with (h | ⟨o, h⟩) | ⟨o, its, n, e1, e2, _⟩
      · exact .base (.lst h)
      · exact .base (.frz h)
      · exact .kList e1 e2
    | tup h1 h2 =>
      rcases h1 with (h | ⟨o, h⟩) | ⟨o, its, n, e1, e2, _⟩
      · exact .base (.tup h)
      · exact .fTuple h
      · exact .kTuple e1 e2
  · exact .base (.dK e)
theorem weight_mem : ∀ {ds : List PyData} {d : PyData}, d ∈ ds → d.weight ≤ PyData.weightAll ds
  | a :: r, d, h => by
    rw [PyData.weightAll]
    rcases List.mem_cons.mp h with rfl | h
    · omega
    · have := weight_mem h
      omega
theorem okD_tup {ds : List PyData} (h : okD (.tuple ds)) {d : PyData} (hd : d ∈ ds) : okD d := by
  have h1 := weight_mem hd
  have h2 : PyData.weightAll ds ≤ 1000000 := by
    have h3 : (PyData.tuple ds).weight ≤ 1000000 := h
    rw [PyData.weight] at h3
    exact h3
  exact Nat.le_trans h1 h2
theorem okD_str {z : Str} (h : okD (.str z)) : z.length ≤ 1000000 := by
  have h3 : (PyData.str z).weight ≤ 1000000 := h
  rw [PyData.weight] at h3
  exact h3
theorem bl_to {Q : VK} {b c : Bool} {H : Hp} (e : b = c) (k : Q (.bl c) H) : Q (.bl b) H := e ▸ k
theorem Same.rl {H H' : Hp} {r : Addr} (s : Same H H') (h : Rl H r) : Rl H' r := by
  obtain ⟨a, b, c, e⟩ := h
  exact ⟨a, b, c, s _ _ e⟩
theorem Same.only {H H' : Hp} {r : Addr} (s : Same H H') : Only r H H' := fun b o _ e => s b o e
theorem Same.new {H : Hp} {p : Addr} {o : HO} (n : H p = none) : Same H (upd H p o) := fun b u e => by rw [upd_ne (ne_of_none e n)]; exact e
theorem Same.at {H0 H : Hp} {D : Addr} {o : HO} (n : H0 D = none) (s : Same H0 H) : Same H0 (upd H D o) := fun b u e => by rw [upd_ne (ne_of_none e n)]; exact s b u e
theorem lt_sign (c d : Nat) : (([c] : List Nat) < [d]) ↔ c < d := by
  constructor
  · intro h
    rcases List.cons_lt_cons_iff.mp h with h | ⟨_, h⟩
    · exact h
    · exact absurd h (by simp)
  · intro h
    exact List.cons_lt_cons_iff.mpr (.inl h)
theorem tk_succ {z : Str} {i c : Nat} (h : z.cps[i]? = some c) : z.cps.toList.take (i + 1) = z.cps.toList.take i ++ [c] := by
  have h2 : z.cps.toList[i]? = some c := by rw [Array.getElem?_toList]; exact h
  rw [List.take_add_one, h2]
  rfl
theorem tk_all (z : Str) : z.cps.toList.take z.cps.size = z.cps.toList := List.take_of_length_le (by rw [Array.length_toList]; exact Nat.le_refl _)
theorem not_str {d : PyData} (h : ∀ z, d ≠ .str z) : kitB (tyD d) "str" = some false ∧ nmD d = false := by
  cases d with
  | str z => exact absurd rfl (h z)
  | _ => exact ⟨by simp only [tyD]; decide +kernel, rfl⟩
theorem not_int {d : PyData} (h1 : ∀ n, d ≠ .int n) (h2 : ∀ b, d ≠ .bool b) : kitB (tyD d) "int" = some false ∧ isInD d = false := by
  cases d with
  | int n => exact absurd rfl (h1 n)
  | bool b => exact absurd rfl (h2 b)
  | _ => exact ⟨by simp only [tyD]; decide +kernel, rfl⟩
theorem not_tup {d : PyData} (h : ∀ ds, d ≠ .tuple ds) : kitB (tyD d) "tuple" = some false := by
  cases d with
  | tuple z => exact absurd rfl (h z)
  | _ => simp only [tyD]; decide +kernel
/-- its items ascend -/
def ascD (ds : List PyData) : Bool := (List.range (ds.length - 1)).all fun i => PySem.W.dataLt (ds.getD i .none) (ds.getD (i + 1) .none)
theorem depth_in {hi : Int} {d : PyData} (h : prD hi d = true) : ∃ z n, d = .tuple [.str z, .int n] := by
  unfold prD at h
  split at h
  · rename_i a b
    have h1 := (Bool.and_eq_true_iff.mp h).1
    have h2 := (Bool.and_eq_true_iff.mp h).2
    cases a with
    | str z =>
      cases b with
      | int n => exact ⟨z, n, rfl⟩
      | _ => cases h2
    | _ => cases h1
  · cases h
section
variable {X : Cx}
def rLtD (K : PySem.W.Frag) : R2 := fun x y H Q => ∃ d e, Dp K H x d ∧ Dp K H y e ∧ PySem.W.alike d e = true ∧ d ≠ .none ∧ d.depth ≤ 60 ∧ Q (.bl (PySem.W.dataLt d e)) H
theorem op_ltD (hu : X.A.units + 64 < cLine) : OpR X (compareOp .Lt) (rLtD X.K) := by
  intro pins s σ H x y v u Q I rx ry h
  obtain ⟨d, e, h1, h2, h3, h4, h5, q⟩ := h
  obtain ⟨as, r1⟩ := Dp.reads I d x v h1 rx
  obtain ⟨bs, r2⟩ := Dp.reads I e y u h2 ry
  exact PySem.W.lt_data r1 r2 h3 h4 (by have := Nat.min_le_left d.depth e.depth; omega) ⟨.bl _, H, I, rfl, q⟩
end

section
variable {P : Program} {w : World} {K : PySem.W.Frag}
                                                      {mg : Str → Option Value} {base : Heap}
def sp_w_tray (K : PySem.W.Frag) : Sp := fun vs H Q _ => ∃ (s : Addr) (ns : List Int) (i : Nat), vs = [.ref s, .int (i : Int)] ∧ SqL K H s (ns.map V.int) ∧ ∀ p a b c, H p = none → Q (.ref p) (upd H p (.lst [.int a, .int b, .int c]))
theorem ok_w_tray (T : T K mg) : FnOk P w K mg base CX0 1 T.f_w_tray T.d_w_tray ["script", "spot"] (sp_w_tray K) := by
  refine T.F_w_tray.ok sc_w_tray (fun vs H Q E h => ?_) (fun cdv A outer s H vs Q E hr h => ?_)
  · obtain ⟨s, ns, i, rfl, _⟩ := h
    rfl
  · obtain ⟨s, ns, i, rfl, hS, k⟩ := h
    have hu := hu_of hr
    refine ⟨_, (pss_cons (ps_set (i := 2) sc_w_tray.nd rfl (Or.inl rfl) (pe_ifExp (pt_cmpR op_lt (pv 1) (pe_callB call_len (by rfl) T.z_len (by decide +kernel) (pa_cons (pv 0) pa_nil)) (nomark _)) (pe_ix ix_seq (pv 0) (pv 1) (fun _ _ => rfl)) (pe_op op_add (pe_op op_mul pe_int (pv 1)) pe_int)))
      (pss_cons (ps_set (i := 3) sc_w_tray.nd rfl (Or.inl rfl) (pe_op op_mod (pe_callTy call_int1 (by rfl) T.z_int (by decide +kernel) (pa_cons (pe_callB call_abs (by rfl) T.z_abs (by decide +kernel) (pa_cons (pv 2) pa_nil)) pa_nil)) (pe_op op_powW (pe_op op_pow pe_int pe_int) pe_int)))
      (pss_cons (ps_set (i := 4) sc_w_tray.nd rfl (Or.inl rfl) (pe_op op_add (pe_op op_add (pe_op op_add (pe_op op_mul (pv 3) pe_int) (pe_op op_mul pe_int (pv 1))) (pe_op op_mul pe_int (pe_callTy call_int1 (by rfl) T.z_int (by decide +kernel) (pa_cons (pe_cmpR op_lt (pv 2) pe_int (nomark _)) pa_nil)))) pe_int))
      (pss_one (ps_ret (pe_lst (pa_cons (pe_callB (call_max2 rfl) (by rfl) T.z_max (by decide +kernel) (pa_cons pe_int (pa_cons (pe_op op_sub (pv 3) (pe_op op_pow pe_int pe_int)) pa_nil))) (pa_cons (pe_op op_mod (pe_callTy call_int1 (by rfl) T.z_int (by decide +kernel) (pa_cons (pv 4) pa_nil)) pe_int) (pa_cons pe_int pa_nil))))))))), ?_⟩
    refine ⟨_, rfl, _, rfl, _, _, rfl, .inl ⟨_, hS, rfl⟩, _, _, rfl, rfl, _, rfl, ?_⟩
    refine ite_join (fun v H' => H' = H ∧ ∃ z, v = .int z) (fun c Q' q => ?_) (fun c Q' q => ?_) ?_
    · have hi := of_decide_eq_true c
      rw [List.length_map] at hi
      obtain ⟨z, hz⟩ := at_ns (ns := ns) (i := i) (by omega)
      exact ⟨_, rfl, _, rfl, .inl ⟨_, _, _, _, rfl, rfl, hS, hz, q _ _ ⟨rfl, z, rfl⟩⟩⟩
    · exact ⟨_, rfl, _, _, rfl, rfl, .inl ⟨by decide, by decide⟩, _, _, rfl, rfl, q _ _ ⟨rfl, _, rfl⟩⟩
    rintro v H' ⟨rfl, z, rfl⟩
    refine ⟨_, rfl, _, rfl, .inl ⟨_, rfl, ?_⟩⟩
    refine ⟨_, _, rfl, rfl, ⟨by decide, by decide, by decide⟩, _, _, rfl, rfl, ⟨by decide, by decide +kernel⟩, _, _, rfl, rfl, (by show (0 : Int) < _; decide +kernel), ?_⟩
    refine ⟨_, rfl, _, _, rfl, rfl, .inr ⟨by decide, by decide⟩, ?_⟩
    refine ⟨_, rfl, _, _, rfl, rfl, .inl ⟨by decide, by decide⟩, _, _, rfl, rfl, ?_⟩
    refine ⟨_, rfl, _, _, rfl, rfl, .inr ⟨_, rfl, ?_⟩⟩
    refine ⟨_, _, rfl, rfl, .inl ⟨by decide, by decide⟩, _, _, rfl, rfl, _, _, rfl, rfl, ?_⟩
    refine ⟨_, rfl, _, _, rfl, rfl, ⟨by decide, by decide, by decide⟩, _, _, rfl, rfl, _, _, rfl, _, rfl, .inl ⟨_, rfl, ?_⟩⟩
    refine ⟨_, _, rfl, rfl, (by show (0 : Int) < _; decide), (by show 3 ≤ sizeLine; decide), fun p hp => ?_⟩
    exact k p _ _ _ hp
def sp_w_roll (K : PySem.W.Frag) : Sp := fun vs H Q _ => ∃ (r : Addr) (n : Int), vs = [.ref r, .int n] ∧ Rl H r ∧ 0 < n ∧ n.natAbs.log2 < 9000 ∧ ∀ v H', 0 ≤ v → v < n → Rl H' r → Only r H H' → Q (.int v) H'
theorem ok_w_roll (T : T K mg) : FnOk P w K mg base CX0 1 T.f_w_roll T.d_w_roll ["tray", "total"] (sp_w_roll K) := by
  refine T.F_w_roll.ok sc_w_roll (fun vs H Q E h => ?_) (fun cdv A outer s H vs Q E hr h => ?_)
  · obtain ⟨r, n, rfl, _⟩ := h
    rfl
  · obtain ⟨r, n, rfl, ⟨a, b, c, e⟩, h0, h9, k⟩ := h
    have hu := hu_of hr
    refine ⟨_, (pss_cons (ps_if (pt_cmpR op_gt (pe_ix ix_seq (pv 0) pe_int (fun _ _ => rfl)) pe_int (nomark _))
      (pss_cons (ps_set (i := 2) sc_w_roll.nd rfl (Or.inl rfl) (pe_op op_mod (pe_callTy call_int1 (by rfl) T.z_int (by decide +kernel) (pa_cons (pe_ix ix_seq (pv 0) pe_int (fun _ _ => rfl)) pa_nil)) (pv 1)))
      (pss_cons (ps_asg (pe_op op_fdivW (pe_ix ix_seq (pv 0) pe_int (fun _ _ => rfl)) (pv 1)) (pg_sub (pv 0) pe_int set_list))
      (pss_one (ps_ret (pv 2)))))
      pss_nil)
      (pss_cons (ps_asg (pe_op op_add (pe_ix ix_seq (pv 0) pe_int (fun _ _ => rfl)) pe_int) (pg_sub (pv 0) pe_int set_list))
      (pss_cons (ps_set (i := 3) sc_w_roll.nd rfl (Or.inl rfl) (pe_op op_mod (pe_callTy call_int1 (by rfl) T.z_int (by decide +kernel) (pa_cons (pe_op op_add (pe_ix ix_seq (pv 0) pe_int (fun _ _ => rfl)) (pe_op op_mul pe_int (pe_ix ix_seq (pv 0) pe_int (fun _ _ => rfl)))) pa_nil)) pe_int))
      (pss_cons (ps_set (i := 4) sc_w_roll.nd rfl (Or.inl rfl) (pe_op op_add (pe_op op_mul (pe_op op_mod (pe_callTy call_int1 (by rfl) T.z_int (by decide +kernel) (pa_cons (pe_op op_mul (pv 3) (pv 3)) pa_nil)) pe_int) (pv 3)) (pe_op op_mul pe_int (pe_ix ix_seq (pv 0) pe_int (fun _ _ => rfl)))))
      (pss_one (ps_ret (pe_op op_mod (pe_callTy call_int1 (by rfl) T.z_int (by decide +kernel) (pa_cons (pe_op op_fdivW (pe_op op_mod (pe_callTy call_int1 (by rfl) T.z_int (by decide +kernel) (pa_cons (pe_op op_add (pv 4) (pe_ix ix_seq (pv 0) pe_int (fun _ _ => rfl))) pa_nil)) pe_int) pe_int) pa_nil)) (pv 1)))))))), ?_⟩
    have u3 : ∀ {x y z : V} {G : Hp}, G r = some (.lst [x, y, z]) → SqL K G r [x, y, z] := fun g => SqL.of g
    refine ⟨_, rfl, .inl ⟨_, _, _, _, rfl, rfl, u3 e, rfl, ?_⟩⟩
    refine ⟨_, _, rfl, rfl, _, rfl, ?_⟩
    refine ite2 (fun c1 => ?_) (fun c1 => ?_)
    · refine ⟨_, rfl, .inl ⟨_, _, _, _, rfl, rfl, u3 e, rfl, .inl ⟨_, rfl, ?_⟩⟩⟩
      refine ⟨_, rfl, _, _, rfl, rfl, h0, ?_⟩
      refine ⟨_, rfl, .inl ⟨_, _, _, _, rfl, rfl, u3 e, rfl, ?_⟩⟩
      refine ⟨_, rfl, _, _, rfl, rfl, ⟨h0, h9⟩, _, rfl, _, _, _, 0, rfl, rfl, e, rfl, ?_⟩
      refine ⟨_, rfl, ?_⟩
      exact k _ _ (Int.emod_nonneg _ (by omega)) (Int.emod_lt_of_pos _ h0) ⟨_, _, _, upd_same⟩ Only.upd
    · refine ⟨_, rfl, .inl ⟨_, _, _, _, rfl, rfl, u3 e, rfl, ?_⟩⟩
      refine ⟨_, _, rfl, rfl, _, rfl, _, _, _, 2, rfl, rfl, e, rfl, ?_⟩
      have e2 : (upd H r (.lst [.int a, .int b, .int (c + 1)])) r = some (.lst [.int a, .int b, .int (c + 1)]) := upd_same
      refine ⟨_, rfl, .inl ⟨_, _, _, _, rfl, rfl, u3 e2, rfl, ?_⟩⟩
      refine ⟨_, rfl, .inl ⟨_, _, _, _, rfl, rfl, u3 e2, rfl, ?_⟩⟩
      refine ⟨_, _, rfl, rfl, .inl ⟨by decide, by decide⟩, _, _, rfl, rfl, .inl ⟨_, rfl, ?_⟩⟩
      refine ⟨_, _, rfl, rfl, (by show (0 : Int) < _; decide), ?_⟩
      have o1 : -(2 ^ 64) < (b + 922337203 * (c + 1)) % 2305843009213693951 ∧ (b + 922337203 * (c + 1)) % 2305843009213693951 < 2 ^ 64 := by omega
      refine ⟨_, rfl, _, rfl, _, _, rfl, rfl, .inl o1, .inl ⟨_, rfl, ?_⟩⟩
      refine ⟨_, _, rfl, rfl, (by show (0 : Int) < _; decide), _, rfl, _, _, rfl, rfl, .inr o1, ?_⟩
      refine ⟨_, rfl, .inl ⟨_, _, _, _, rfl, rfl, u3 e2, rfl, ?_⟩⟩
      refine ⟨_, _, rfl, rfl, .inl ⟨by decide, by decide⟩, _, _, rfl, rfl, ?_⟩
      refine ⟨_, rfl, _, rfl, .inl ⟨_, _, _, _, rfl, rfl, u3 e2, rfl, ?_⟩⟩
      refine ⟨_, _, rfl, rfl, .inl ⟨_, rfl, ?_⟩⟩
      refine ⟨_, _, rfl, rfl, (by show (0 : Int) < _; decide), ?_⟩
      refine ⟨_, _, rfl, rfl, ⟨by decide, by decide⟩, .inl ⟨_, rfl, ?_⟩⟩
      refine ⟨_, rfl, _, _, rfl, rfl, h0, ?_⟩
      exact k _ _ (Int.emod_nonneg _ (by omega)) (Int.emod_lt_of_pos _ h0) ⟨_, _, _, e2⟩ Only.upd
def sp_w_pick (K : PySem.W.Frag) : Sp := fun vs H Q _ => ∃ (r : Addr) (x : V) (xs : List V), vs = [.ref r, x] ∧ Rl H r ∧ SeqV K H r x xs ∧ 0 < xs.length ∧ xs.length ≤ sizeLine ∧ ∀ v H', v ∈ xs → Rl H' r → Only r H H' → Q v H'
theorem ok_w_pick (T : T K mg) : FnOk P w K mg base CX0 2 T.f_w_pick T.d_w_pick ["tray", "items"] (sp_w_pick K) := by
  have G_w_roll : FnOk P w K mg base CX0 1 T.f_w_roll T.d_w_roll ["tray", "total"] (sp_w_roll K) := ok_w_roll T
  refine T.F_w_pick.ok sc_w_pick (fun vs H Q E h => ?_) (fun cdv A outer s H vs Q E hr h => ?_)
  · obtain ⟨r, x, xs, rfl, _⟩ := h
    rfl
  · obtain ⟨r, x, xs, rfl, hR, hx, h0, h1, k⟩ := h
    have hu := hu_of hr
    have hr_w_roll : Room 1 _ := hr.mono (by decide)
    refine ⟨_, (pss_one (ps_ret (pe_ix ix_seq (pv 1) (pe_call G_w_roll hr_w_roll rfl T.m_w_roll T.F_w_roll.kp T.b_w_roll .nil pass0 (pa_cons (pv 0) (pa_cons (pe_callB call_len (by rfl) T.z_len (by decide +kernel) (pa_cons (pv 1) pa_nil)) pa_nil))) (fun _ _ => rfl)))), ?_⟩
    have hl : (xs.length : Int).natAbs.log2 < 9000 := by
      have : xs.length < 2 ^ 63 := Nat.lt_of_le_of_lt h1 (by decide)
      exact Nat.lt_trans (lg (b := 63) (by omega) (by omega) (by decide)) (by decide)
    refine ⟨_, rfl, _, rfl, _, rfl, x, xs.length, rfl, ?_, ?_⟩
    · rcases hx with ⟨l, rfl, hn, h | h⟩ | ⟨z, rfl, hz, rfl⟩
      · exact .inl ⟨_, h, rfl⟩
      · exact .inr ⟨_, h, rfl⟩
      · exact ⟨hz, by rw [List.length_map]; rfl⟩
    refine ⟨r, _, rfl, hR, by omega, hl, fun v H' v0 v1 R' O' => ?_⟩
    obtain ⟨y, hy, ha⟩ := ix_at v0 v1
    rcases hx with ⟨l, rfl, hn, h | h⟩ | ⟨z, rfl, hz, rfl⟩
    · exact .inl ⟨_, _, _, _, rfl, rfl, O'.seqL hn h, ha, k _ _ hy R' O'⟩
    · exact .inr (.inl ⟨_, _, _, _, rfl, rfl, O'.seqT hn h, ha, k _ _ hy R' O'⟩)
    · obtain ⟨i, hi⟩ : ∃ c, atI z.cps.toList v = some c := by
        unfold atI at ha ⊢
        rw [List.length_map] at ha
        cases e : ixN z.cps.toList.length v with
        | none => rw [e] at ha; cases ha
        | some j =>
          rw [e] at ha
          simp only [Option.bind_some] at ha ⊢
          rw [List.getElem?_map] at ha
          cases e2 : z.cps.toList[j]? with
          | none => rw [e2] at ha; cases ha
          | some c => exact ⟨c, rfl⟩
      have hc : i ∈ z.cps.toList := by
        unfold atI at hi
        cases e : ixN z.cps.toList.length v with
        | none => rw [e] at hi; cases hi
        | some j => rw [e] at hi; exact List.mem_of_getElem? hi
      exact .inr (.inr ⟨_, _, _, rfl, rfl, hz, hi, k _ _ (List.mem_map.mpr ⟨i, hc, rfl⟩) R' O'⟩)
def sp_is_name (K : PySem.W.Frag) : Sp := fun vs H Q _ => ∃ (x : V) (d : PyData), vs = [x] ∧ DD K H x d ∧ okD d ∧ ∀ H', Same H H' → Q (.bl (nmD d)) H'
theorem ok_is_name (T : T K mg) : FnOk P w K mg base CX0 1 T.f_is_name T.d_is_name ["value"] (sp_is_name K) := by
  refine T.F_is_name.ok sc_is_name (fun vs H Q E h => ?_) (fun cdv A outer s H vs Q E hr h => ?_)
  · obtain ⟨x, d, rfl, _⟩ := h
    rfl
  · obtain ⟨x, d, rfl, hx, hw, k⟩ := h
    have hu := hu_of hr
    obtain ⟨_, c_MAX_LETTERS⟩ := T.c_MAX_LETTERS
    refine ⟨_, (pss_cons (ps_if (PW.pt (pw_or (pt_not (pt_val (pe_callB call_isi (by rfl) T.z_isinstance (by decide +kernel) (pa_cons (pv 0) (pa_cons (pe_bltn (v := V.ty "str") (u := Value.type "str") (by rfl) T.z_str (by decide +kernel) rfl) pa_nil))))) (pw_or1 (pt_not (pt_chain op_le op_le pe_int (pe_callB call_len (by rfl) T.z_len (by decide +kernel) (pa_cons (pv 0) pa_nil)) (pe_glob (v := V.int 8) rfl c_MAX_LETTERS ⟨_, rfl⟩))))))
      (pss_one (ps_ret pe_bl))
      pss_nil)
      (pss_one (ps_ret (pe_callB (cr_all rfl) (by rfl) T.z_all (by decide +kernel) (pa_cons (pe_lc (own := [("letter", 1)]) (g := gName 1) rfl sc_is_name.nd (pi_str (pv 0)) (blkOk_by (N := ["value", "letter"]) (sc := defScope s_is_name) (by decide +kernel)) (fun _ _ _ _ _ => (pg_name (i := 1) sc_is_name.nd rfl (Or.inl rfl))) (fun _ _ _ _ _ => pts_nil) (fun _ _ _ _ _ => (pe_chain op_le_str op_le_str pe_str (pv 1) pe_str))) pa_nil))))), ?_⟩
    by_cases hs : ∃ z, d = .str z
    · obtain ⟨z, rfl⟩ := hs
      have hz := okD_str hw
      obtain rfl : x = .str z := by
        rcases hx with h | ⟨_, _, _, _, h⟩
        · cases h
          rfl
        · cases h
      refine ⟨_, rfl, _, _, _, _, true, rfl, .ty _, .base (.str _), kit_ty (by decide +kernel), _, rfl, iteF ?_⟩
      refine ⟨_, rfl, _, _, rfl, ⟨Nat.le_trans hz (by decide), rfl⟩, _, _, rfl, rfl, _, rfl, ?_⟩
      refine ite2 (fun c1 => ?_) (fun c1 => ?_)
      · have h1 := of_decide_eq_true c1
        refine ⟨_, _, rfl, rfl, _, rfl, ?_⟩
        by_cases h2 : (z.length : Int) ≤ 8
        · rw [decide_eq_true h2]
          refine iteF ?_
          refine ⟨_, rfl, _, rfl, fun D hD => ?_⟩
          refine lc_it walk_str (fun i H' => H' D = some (.lst (((z.cps.toList.take i).map fun c => decide (97 ≤ c) && decide (c ≤ 122)).map V.bl)) ∧ Same H H') ⟨upd_same, Same.new hD⟩ (fun _ _ _ _ => trivial) ?_ ?_
          · rintro i y H1 H2 hi ⟨eD, S⟩ ⟨rfl, c, hc, rfl⟩
            refine ⟨rfl, ?_⟩
            unfold tYes
            dsimp only
            rw [if_pos rfl]
            refine ⟨_, rfl, _, _, rfl, rfl, _, rfl, ?_⟩
            have done : ∀ b : Bool, b = (decide (97 ≤ c) && decide (c ≤ 122)) → ∃ acc, H2 D = some (.lst acc) ∧ acc.length < sizeLine ∧ (upd H2 D (.lst (acc ++ [V.bl b]))) D = some (.lst (((z.cps.toList.take (i + 1)).map fun c => decide (97 ≤ c) && decide (c ≤ 122)).map V.bl)) ∧ Same H (upd H2 D (.lst (acc ++ [V.bl b]))) := by
              rintro b rfl
              refine ⟨_, eD, ?_, ?_, Same.at hD S⟩
              · rw [List.length_map, List.length_map, List.length_take]
                have : z.cps.toList.length = z.length := by simp [Str.length]
                exact Nat.lt_of_le_of_lt (Nat.le_trans (Nat.min_le_right _ _) (by omega : z.cps.toList.length ≤ 100)) (by decide)
              · rw [upd_same, tk_succ hc, List.map_append, List.map_append]
                rfl
            refine ite2 (fun c2 => ?_) (fun c2 => ?_)
            · have h3 : 97 ≤ c := by
                rw [Bool.not_eq_true', decide_eq_false_iff_not] at c2
                have c3 : ¬ (([c] : List Nat) < [97]) := c2
                rw [lt_sign] at c3
                omega
              refine ⟨_, _, rfl, rfl, done _ ?_⟩
              rw [decide_eq_true h3, Bool.true_and]
              by_cases h4 : c ≤ 122
              · rw [decide_eq_true h4]
                show (!decide (([122] : List Nat) < [c])) = true
                rw [decide_eq_false (by rw [lt_sign]; omega)]
                rfl
              · rw [decide_eq_false h4]
                show (!decide (([122] : List Nat) < [c])) = false
                rw [decide_eq_true (by rw [lt_sign]; omega)]
                rfl
            · have h3 : ¬ 97 ≤ c := by
                rw [Bool.not_eq_true', decide_eq_false_iff_not] at c2
                have c3 := Classical.not_not.mp c2
                have c4 : ([c] : List Nat) < [97] := c3
                rw [lt_sign] at c4
                omega
              refine done _ ?_
              rw [decide_eq_false h3, Bool.false_and]
          · rintro H9 ⟨eD, S⟩
            refine ⟨_, _, rfl, SqL.of eD, ?_⟩
            refine bl_to ?_ (k _ S)
            rw [tk_all]
            show _ = (decide (1 ≤ z.length ∧ z.length ≤ 8) && _)
            rw [decide_eq_true (show 1 ≤ z.length ∧ z.length ≤ 8 by omega), Bool.true_and, List.all_map]
            rfl
        · rw [decide_eq_false h2]
          refine iteT ?_
          refine bl_to ?_ (k _ (Same.refl _))
          show false = (decide (1 ≤ z.length ∧ z.length ≤ 8) && _)
          rw [decide_eq_false (show ¬ (1 ≤ z.length ∧ z.length ≤ 8) by omega), Bool.false_and]
      · have h1 : ¬ (1 : Int) ≤ (z.length : Int) := fun q => c1 (decide_eq_true q)
        refine ⟨_, rfl, iteT ?_⟩
        refine bl_to ?_ (k _ (Same.refl _))
        show false = (decide (1 ≤ z.length ∧ z.length ≤ 8) && _)
        rw [decide_eq_false (show ¬ (1 ≤ z.length ∧ z.length ≤ 8) by omega), Bool.false_and]
    · have hn := not_str fun z e => hs ⟨z, e⟩
      refine ⟨_, rfl, _, _, _, _, false, rfl, .ty _, hx.ty, kit_ty hn.1, _, rfl, iteT ?_⟩
      exact iteT (bl_to hn.2.symm (k _ (Same.refl _)))
def sp_is_integer (K : PySem.W.Frag) : Sp := fun vs H Q _ => ∃ (x : V) (d : PyData), vs = [x] ∧ DD K H x d ∧ Q (.bl (isInD d)) H
theorem ok_is_integer (T : T K mg) : FnOk P w K mg base CX0 1 T.f_is_integer T.d_is_integer ["value"] (sp_is_integer K) := by
  refine T.F_is_integer.ok sc_is_integer (fun vs H Q E h => ?_) (fun cdv A outer s H vs Q E hr h => ?_)
  · obtain ⟨x, d, rfl, _⟩ := h
    rfl
  · obtain ⟨x, d, rfl, hx, k⟩ := h
    have hu := hu_of hr
    refine ⟨_, (pss_cons (ps_if (PW.pt (pw_or (pt_not (pt_val (pe_callB call_isi (by rfl) T.z_isinstance (by decide +kernel) (pa_cons (pv 0) (pa_cons (pe_bltn (v := V.ty "int") (u := Value.type "int") (by rfl) T.z_int (by decide +kernel) rfl) pa_nil))))) (pw_or1 (pt_val (pe_callB call_isi (by rfl) T.z_isinstance (by decide +kernel) (pa_cons (pv 0) (pa_cons (pe_bltn (v := V.ty "bool") (u := Value.type "bool") (by rfl) T.z_bool (by decide +kernel) rfl) pa_nil)))))))
      (pss_one (ps_ret pe_bl))
      pss_nil)
      (pss_one (ps_ret (pe_chain op_lt op_lt (pe_un un_neg (pe_op op_pow pe_int pe_int)) (pv 0) (pe_op op_pow pe_int pe_int))))), ?_⟩
    by_cases h1 : ∃ n, d = .int n
    · obtain ⟨n, rfl⟩ := h1
      obtain rfl : x = .int n := by
        rcases hx with h | ⟨_, _, _, _, h⟩
        · cases h
          rfl
        · cases h
      refine ⟨_, rfl, _, _, _, _, true, rfl, .ty _, .base (.int _), kit_ty (by decide +kernel), _, rfl, iteF ?_⟩
      refine ⟨_, rfl, _, _, _, _, false, rfl, .ty _, .base (.int _), kit_ty (by decide +kernel), _, rfl, iteF ?_⟩
      refine ⟨_, _, rfl, rfl, ⟨by decide, by decide, by decide⟩, _, rfl, _, rfl, _, _, rfl, rfl, _, rfl, ?_⟩
      have e1 : decide (-(10 ^ Int.toNat 12) < n) = decide (-1000000000000 < n) := rfl
      refine ite2 (fun c => ?_) (fun c => ?_)
      · refine ⟨_, _, rfl, rfl, ⟨by decide, by decide, by decide⟩, _, _, rfl, rfl, ?_⟩
        refine bl_to ?_ k
        show _ = (decide (-1000000000000 < n) && decide (n < 1000000000000))
        rw [← e1, c, Bool.true_and]
        rfl
      · refine bl_to ?_ k
        show _ = (decide (-1000000000000 < n) && decide (n < 1000000000000))
        rw [← e1, Bool.eq_false_iff.mpr c, Bool.false_and]
    · by_cases h2 : ∃ b, d = .bool b
      · obtain ⟨b, rfl⟩ := h2
        refine ⟨_, rfl, _, _, _, _, true, rfl, .ty _, hx.ty, kit_ty (a := "bool") (b := "int") (by decide +kernel), _, rfl, iteF ?_⟩
        refine ⟨_, rfl, _, _, _, _, true, rfl, .ty _, hx.ty, kit_ty (a := "bool") (b := "bool") (by decide +kernel), _, rfl, iteT ?_⟩
        exact k
      · have hn := not_int (fun n e => h1 ⟨n, e⟩) fun b e => h2 ⟨b, e⟩
        refine ⟨_, rfl, _, _, _, _, false, rfl, .ty _, hx.ty, kit_ty hn.1, _, rfl, iteT ?_⟩
        exact iteT (bl_to hn.2.symm k)
def sp_is_between (K : PySem.W.Frag) : Sp := fun vs H Q _ => ∃ (x : V) (d : PyData) (lo hi : Int), vs = [x, .int lo, .int hi] ∧ DD K H x d ∧ Q (.bl (inD lo hi d)) H
theorem ok_is_between (T : T K mg) : FnOk P w K mg base CX0 2 T.f_is_between T.d_is_between ["value", "low", "high"] (sp_is_between K) := by
  have G_is_integer : FnOk P w K mg base CX0 1 T.f_is_integer T.d_is_integer ["value"] (sp_is_integer K) := ok_is_integer T
  refine T.F_is_between.ok sc_is_between (fun vs H Q E h => ?_) (fun cdv A outer s H vs Q E hr h => ?_)
  · obtain ⟨x, d, lo, hi, rfl, _⟩ := h
    rfl
  · obtain ⟨x, d, lo, hi, rfl, hx, k⟩ := h
    have hu := hu_of hr
    have hr_is_integer : Room 1 _ := hr.mono (by decide)
    refine ⟨_, (pss_one (ps_ret (pe_and (pe_call G_is_integer hr_is_integer rfl T.m_is_integer T.F_is_integer.kp T.b_is_integer .nil pass0 (pa_cons (pv 0) pa_nil)) (pe_one (pe_chain op_le op_le (pv 1) (pv 0) (pv 2)))))), ?_⟩
    refine ⟨_, rfl, x, d, rfl, hx, _, rfl, ?_⟩
    by_cases h : isInD d = true
    · rw [h]
      refine iteT ?_
      obtain ⟨n, rfl⟩ : ∃ n, d = .int n := by
        cases d with
        | int n => exact ⟨n, rfl⟩
        | _ => cases h
      obtain rfl : x = .int n := by
        rcases hx with h | ⟨_, _, _, _, h⟩
        · cases h
          rfl
        · cases h
      have hi2 : (decide (-1000000000000 < n) && decide (n < 1000000000000)) = true := h
      have k2 : Q (.bl (decide (lo ≤ n) && decide (n ≤ hi))) H := bl_to (by show _ = ((decide (-1000000000000 < n) && decide (n < 1000000000000)) && _); rw [hi2, Bool.true_and]) k
      refine ⟨_, rfl, _, rfl, _, _, rfl, rfl, _, rfl, ?_⟩
      refine ite2 (fun c => ?_) (fun c => ?_)
      · exact ⟨_, rfl, _, _, rfl, rfl, bl_to (by rw [c, Bool.true_and]) k2⟩
      · exact bl_to (by rw [Bool.eq_false_iff.mpr c, Bool.false_and]) k2
    · rw [Bool.eq_false_iff.mpr h]
      refine iteF (bl_to ?_ k)
      cases d with
      | int n =>
        show false = ((decide (-1000000000000 < n) && decide (n < 1000000000000)) && _)
        have h3 : ¬ (decide (-1000000000000 < n) && decide (n < 1000000000000)) = true := h
        rw [Bool.eq_false_iff.mpr h3, Bool.false_and]
      | _ => rfl
def sp_check_integer (K : PySem.W.Frag) : Sp := fun vs H Q _ => ∃ (n : Int), vs = [.int n] ∧ (-1000000000000 < n ∧ n < 1000000000000) ∧ Q .non H
theorem ok_check_integer (T : T K mg) : FnOk P w K mg base CX0 2 T.f_check_integer T.d_check_integer ["value"] (sp_check_integer K) := by
  have G_is_integer : FnOk P w K mg base CX0 1 T.f_is_integer T.d_is_integer ["value"] (sp_is_integer K) := ok_is_integer T
  refine T.F_check_integer.ok sc_check_integer (fun vs H Q E h => ?_) (fun cdv A outer s H vs Q E hr h => ?_)
  · obtain ⟨n, rfl, _⟩ := h
    rfl
  · obtain ⟨n, rfl, hn, k⟩ := h
    have hu := hu_of hr
    have hr_is_integer : Room 1 _ := hr.mono (by decide)
    refine ⟨_, (pss_one (ps_if (pt_not (pt_val (pe_call G_is_integer hr_is_integer rfl T.m_is_integer T.F_is_integer.kp T.b_is_integer .nil pass0 (pa_cons (pv 0) pa_nil))))
      (pss_one ps_never)
      pss_nil)), ?_⟩
    refine ⟨_, rfl, _, .int n, rfl, .inl (.int n), _, rfl, ?_⟩
    rw [show isInD (.int n) = true from by show (decide (-1000000000000 < n) && decide (n < 1000000000000)) = true; rw [decide_eq_true hn.1, decide_eq_true hn.2]; rfl]
    exact iteF k
def sp_check_between (K : PySem.W.Frag) : Sp := fun vs H Q _ => ∃ (n lo hi : Int), vs = [.int n, .int lo, .int hi] ∧ (-1000000000000 < n ∧ n < 1000000000000) ∧ lo ≤ n ∧ n ≤ hi ∧ Q .non H
theorem ok_check_between (T : T K mg) : FnOk P w K mg base CX0 3 T.f_check_between T.d_check_between ["value", "low", "high"] (sp_check_between K) := by
  have G_is_between : FnOk P w K mg base CX0 2 T.f_is_between T.d_is_between ["value", "low", "high"] (sp_is_between K) := ok_is_between T
  refine T.F_check_between.ok sc_check_between (fun vs H Q E h => ?_) (fun cdv A outer s H vs Q E hr h => ?_)
  · obtain ⟨n, lo, hi, rfl, _⟩ := h
    rfl
  · obtain ⟨n, lo, hi, rfl, hn, h1, h2, k⟩ := h
    have hu := hu_of hr
    have hr_is_between : Room 2 _ := hr.mono (by decide)
    refine ⟨_, (pss_one (ps_if (pt_not (pt_val (pe_call G_is_between hr_is_between rfl T.m_is_between T.F_is_between.kp T.b_is_between .nil pass0 (pa_cons (pv 0) (pa_cons (pv 1) (pa_cons (pv 2) pa_nil))))))
      (pss_one ps_never)
      pss_nil)), ?_⟩
    refine ⟨_, rfl, _, rfl, _, rfl, _, .int n, lo, hi, rfl, .inl (.int n), _, rfl, ?_⟩
    rw [show inD lo hi (.int n) = true from by show ((decide (-1000000000000 < n) && decide (n < 1000000000000)) && (decide (lo ≤ n) && decide (n ≤ hi))) = true; rw [decide_eq_true hn.1, decide_eq_true hn.2, decide_eq_true h1, decide_eq_true h2]; rfl]
    exact iteF k
def sp_check_interval (K : PySem.W.Frag) : Sp := fun vs H Q _ => ∃ (n : Int), vs = [.int n] ∧ 1 ≤ n ∧ n ≤ 32 ∧ Q .non H
theorem ok_check_interval (T : T K mg) : FnOk P w K mg base CX0 4 T.f_check_interval T.d_check_interval ["value"] (sp_check_interval K) := by
  have G_check_between : FnOk P w K mg base CX0 3 T.f_check_between T.d_check_between ["value", "low", "high"] (sp_check_between K) := ok_check_between T
  refine T.F_check_interval.ok sc_check_interval (fun vs H Q E h => ?_) (fun cdv A outer s H vs Q E hr h => ?_)
  · obtain ⟨n, rfl, _⟩ := h
    rfl
  · obtain ⟨n, rfl, h1, h2, k⟩ := h
    have hu := hu_of hr
    have hr_check_between : Room 3 _ := hr.mono (by decide)
    obtain ⟨_, c_MAX_INTERVAL⟩ := T.c_MAX_INTERVAL
    refine ⟨_, (pss_one (ps_expr (pe_call G_check_between hr_check_between rfl T.m_check_between T.F_check_between.kp T.b_check_between .nil pass0 (pa_cons (pv 0) (pa_cons pe_int (pa_cons (pe_glob (v := V.int 32) rfl c_MAX_INTERVAL ⟨_, rfl⟩) pa_nil)))))), ?_⟩
    refine ⟨_, rfl, n, 1, 32, rfl, ⟨by omega, by omega⟩, h1, h2, ?_⟩
    exact k
def sp_times_alive (K : PySem.W.Frag) : Sp := fun vs H Q _ => ∃ (b e t n : Int), vs = [.int b, .int e, .int t, .int n] ∧ (-1000000000000 < b ∧ b ≤ e ∧ e < 1000000000000) ∧ (-1000000000000 < t ∧ t < 1000000000000) ∧ 1 ≤ n ∧ n ≤ 32 ∧ Q (.int ((t - b) / n - (t - e) / n)) H
theorem ok_times_alive (T : T K mg) : FnOk P w K mg base CX0 5 T.f_times_alive T.d_times_alive ["begin", "end", "tick", "interval"] (sp_times_alive K) := by
  have G_check_integer : FnOk P w K mg base CX0 2 T.f_check_integer T.d_check_integer ["value"] (sp_check_integer K) := ok_check_integer T
  have G_check_interval : FnOk P w K mg base CX0 4 T.f_check_interval T.d_check_interval ["value"] (sp_check_interval K) := ok_check_interval T
  refine T.F_times_alive.ok sc_times_alive (fun vs H Q E h => ?_) (fun cdv A outer s H vs Q E hr h => ?_)
  · obtain ⟨b, e, t, n, rfl, _⟩ := h
    rfl
  · obtain ⟨b, e, t, n, rfl, hb, ht, h1, h2, k⟩ := h
    have hu := hu_of hr
    have hr_check_integer : Room 2 _ := hr.mono (by decide)
    have hr_check_interval : Room 4 _ := hr.mono (by decide)
    refine ⟨_, (pss_cons (ps_expr (pe_call G_check_integer hr_check_integer rfl T.m_check_integer T.F_check_integer.kp T.b_check_integer .nil pass0 (pa_cons (pv 0) pa_nil)))
      (pss_cons (ps_expr (pe_call G_check_integer hr_check_integer rfl T.m_check_integer T.F_check_integer.kp T.b_check_integer .nil pass0 (pa_cons (pv 1) pa_nil)))
      (pss_cons (ps_if (pt_cmpR op_lt (pv 1) (pv 0) (nomark _))
      (pss_one ps_never)
      pss_nil)
      (pss_cons (ps_expr (pe_call G_check_integer hr_check_integer rfl T.m_check_integer T.F_check_integer.kp T.b_check_integer .nil pass0 (pa_cons (pv 2) pa_nil)))
      (pss_cons (ps_expr (pe_call G_check_interval hr_check_interval rfl T.m_check_interval T.F_check_interval.kp T.b_check_interval .nil pass0 (pa_cons (pv 3) pa_nil)))
      (pss_one (ps_ret (pe_op op_sub (pe_op op_fdivW (pe_op op_sub (pv 2) (pv 0)) (pv 3)) (pe_op op_fdivW (pe_op op_sub (pv 2) (pv 1)) (pv 3)))))))))), ?_⟩
    refine ⟨_, rfl, b, rfl, ⟨by omega, by omega⟩, ?_⟩
    refine ⟨_, rfl, e, rfl, ⟨by omega, by omega⟩, ?_⟩
    refine ⟨_, rfl, _, rfl, _, _, rfl, rfl, _, rfl, ?_⟩
    rw [decide_eq_false (show ¬ e < b by omega)]
    refine iteF ?_
    refine ⟨_, rfl, t, rfl, ⟨by omega, by omega⟩, ?_⟩
    refine ⟨_, rfl, n, rfl, h1, h2, ?_⟩
    have hl : n.natAbs.log2 < 9000 := Nat.lt_trans (lg (b := 6) (by omega) (by omega) (by decide)) (by decide)
    refine ⟨_, rfl, _, rfl, _, _, rfl, rfl, _, rfl, _, _, rfl, rfl, ⟨by omega, hl⟩, ?_⟩
    refine ⟨_, rfl, _, rfl, _, _, rfl, rfl, _, rfl, _, _, rfl, rfl, ⟨by omega, hl⟩, ?_⟩
    exact ⟨_, _, rfl, rfl, k⟩
end
end K44
namespace K44
open PySem L2
section
variable {P : Program} {w : World} {K : PySem.W.Frag}
                                                      {mg : Str → Option Value} {base : Heap}
/-- draws without putting back: some of the items, in some order -/
def sp_w_few (K : PySem.W.Frag) : Sp := fun vs H Q _ => ∃ (r l : Addr) (xs : List V) (many : Int), vs = [.ref r, .ref l, .int many] ∧ Rl H r ∧ (SqL K H l xs ∨ SqT K H l xs) ∧ xs.length ≤ 100 ∧ 0 ≤ many ∧ many ≤ 100 ∧
  ∀ l' ys rest H', Rl H' r → Only r H H' → H l' = none → H' l' = some (.lst ys) → xs.Perm (ys ++ rest) → (ys.length : Int) = (if (xs.length : Int) < many then (xs.length : Int) else many) → Q (.ref l') H'
theorem er_perm {α : Type} : ∀ {l : List α} {k : Nat} (h : k < l.length), (l[k] :: l.eraseIdx k).Perm l
  | [], k, h => absurd h (Nat.not_lt_zero k)
  | x :: l, 0, _ => .refl _
  | x :: l, k + 1, h => by
    have hk : k < l.length := Nat.lt_of_succ_lt_succ h
    have ih := er_perm hk
    exact (List.Perm.swap x l[k] _).trans (ih.cons x)
theorem perm_take {xs ys rest : List V} {k : Nat} {y : V} (h : xs.Perm (ys ++ rest)) (e : rest[k]? = some y) : xs.Perm ((ys ++ [y]) ++ rest.eraseIdx k) := by
  obtain ⟨hk, rfl⟩ := List.getElem?_eq_some_iff.mp e
  refine h.trans ?_
  rw [List.append_assoc]
  refine List.Perm.append_left ys ?_
  exact (er_perm hk).symm
theorem ok_w_few (T : T K mg) : FnOk P w K mg base CX0 2 T.f_w_few T.d_w_few ["tray", "items", "many"] (sp_w_few K) := by
  have G_w_roll : FnOk P w K mg base CX0 1 T.f_w_roll T.d_w_roll ["tray", "total"] (sp_w_roll K) := ok_w_roll T
  refine T.F_w_few.ok sc_w_few (fun vs H Q E h => ?_) (fun cdv A outer s H vs Q E hr h => ?_)
  · obtain ⟨r, l, xs, many, rfl, _⟩ := h
    rfl
  · obtain ⟨r, l, xs, many, rfl, hR, hl, h100, m0, m1, k⟩ := h
    have hu := hu_of hr
    have hr_w_roll : Room 1 _ := hr.mono (by decide)
    refine ⟨_, (pss_cons (ps_par (i := 3) (j := 4) (by rfl) sc_w_few.nd rfl rfl (by decide) rfl rfl (pa_cons (pe_callTy call_list_of (by rfl) T.z_list (by decide +kernel) (pa_cons (pv 1) pa_nil)) (pa_cons (pe_lst pa_nil) pa_nil)) (by rfl))
      (pss_cons (ps_for PassesOwn.never rfl (pi_range1 (by rfl) T.z_range (pa_cons (pe_callB (call_min2 rfl) (by rfl) T.z_min (by decide +kernel) (pa_cons (pv 2) (pa_cons (pe_callB call_len (by rfl) T.z_len (by decide +kernel) (pa_cons (pv 3) pa_nil)) pa_nil))) pa_nil)) (pg_name (i := 5) sc_w_few.nd rfl (Or.inl rfl))
      (pss_one (ps_expr (pe_bm PySem.F.plainAttrs_list PySem.F.slot_list_append PySem.F.type_list_append mt_append (pv 4) (pa_cons (pe_bm PySem.F.plainAttrs_list PySem.F.slot_list_pop PySem.F.type_list_pop mt_popAt (pv 3) (pa_cons (pe_call G_w_roll hr_w_roll rfl T.m_w_roll T.F_w_roll.kp T.b_w_roll .nil pass0 (pa_cons (pv 0) (pa_cons (pe_callB call_len (by rfl) T.z_len (by decide +kernel) (pa_cons (pv 3) pa_nil)) pa_nil))) pa_nil)) pa_nil)))))
      (pss_one (ps_ret (pv 4))))), ?_⟩
    refine ⟨_, rfl, l, xs, rfl, hl, fun a ha => ?_⟩
    refine ⟨by show 0 ≤ sizeLine; decide, fun b hb => ?_⟩
    refine ⟨_, _, rfl, ?_⟩
    have nab : b ≠ a := fun z => by rw [z, upd_same] at hb; cases hb
    have hb0 : H b = none := by
      rw [upd_ne nab] at hb
      exact hb
    have nra : r ≠ a := fun z => by obtain ⟨x, y, z', q⟩ := hR; rw [z, ha] at q; cases q
    have nrb : r ≠ b := fun z => by obtain ⟨x, y, z', q⟩ := hR; rw [z, hb0] at q; cases q
    have S2 : Same H (upd (upd H a (.lst xs)) b (.lst [])) := fun c o e => by
      rw [upd_ne (ne_of_none e hb0), upd_ne (ne_of_none e ha)]
      exact e
    have eA0 : (upd (upd H a (.lst xs)) b (.lst [])) a = some (.lst xs) := by rw [upd_ne nab.symm, upd_same]
    refine ⟨_, rfl, _, rfl, _, _, rfl, .inl ⟨_, SqL.of eA0, rfl⟩, _, _, rfl, _, rfl, by split <;> omega, by split <;> omega, ?_⟩
    refine for_range (n := (if (xs.length : Int) < many then (xs.length : Int) else many).toNat) (fun i σ H' => ∃ v, σ = [some (.ref r), some (.ref l), some (.int many), some (.ref a), some (.ref b), v] ∧ Rl H' r ∧ Only r H H' ∧ ∃ ys rest, H' a = some (.lst rest) ∧ H' b = some (.lst ys) ∧ xs.Perm (ys ++ rest) ∧ ys.length = i)
      ⟨none, rfl, Same.rl S2 hR, Same.only S2, [], xs, eA0, upd_same, .refl _, rfl⟩ ?_ ?_
    · rintro i σ H' hi ⟨v, rfl, R', O', ys, rest, eA, eB, pm, ly⟩
      have hpl := pm.length_eq
      rw [List.length_append] at hpl
      have hi2 : (i : Int) < (if (xs.length : Int) < many then (xs.length : Int) else many) := by omega
      have hrl : 0 < rest.length := by
        split at hi2 <;> omega
      refine ⟨_, rfl, .inl ⟨rfl, _, SqL.of eB⟩, ?_⟩
      refine ⟨_, rfl, .inl ⟨rfl, _, SqL.of eA⟩, ?_⟩
      refine ⟨_, rfl, _, rfl, _, _, rfl, .inl ⟨_, SqL.of eA, rfl⟩, r, _, rfl, R', by omega, ?_, fun v G4 v0 v1 R4 O4 => ?_⟩
      · exact Nat.lt_trans (lg (b := 63) (by omega) (by omega) (by decide)) (by decide)
      have eA4 : G4 a = some (.lst rest) := O4 _ _ nra.symm eA
      have eB4 : G4 b = some (.lst ys) := O4 _ _ nrb.symm eB
      have hv : v.toNat < rest.length := by omega
      have ey : rest[v.toNat]? = some rest[v.toNat] := List.getElem?_eq_getElem hv
      generalize rest[v.toNat] = y at ey
      refine ⟨a, rest, v, v.toNat, y, rfl, rfl, eA4, by omega, by omega, PySem.StrLaws.seqIndex_nonneg v0 (by omega), ey, ?_⟩
      have eB5 : (upd G4 a (.lst (rest.eraseIdx v.toNat))) b = some (.lst ys) := by rw [upd_ne nab]; exact eB4
      refine ⟨b, ys, y, rfl, rfl, eB5, by rw [sizeLine_eq]; omega, ?_⟩
      refine ⟨_, rfl, ?_, ?_, ys ++ [y], rest.eraseIdx v.toNat, ?_, upd_same, perm_take pm ey, ?_⟩
      · obtain ⟨x1, x2, x3, q⟩ := R4
        exact ⟨x1, x2, x3, by rw [upd_ne nrb, upd_ne nra]; exact q⟩
      · intro c o nc e
        rw [upd_ne (ne_of_none e hb0), upd_ne (ne_of_none e ha)]
        exact O4 _ _ nc (O' _ _ nc e)
      · rw [upd_ne nab.symm, upd_same]
      · rw [List.length_append, ly]
        rfl
    · rintro σ H' ⟨v, rfl, R', O', ys, rest, eA, eB, pm, ly⟩
      refine ⟨_, rfl, k b ys rest H' R' O' hb0 eB pm ?_⟩
      rw [ly]
      split <;> omega
end
end K44
/-! data with dicts: what they read as, repr; list(text), text * int -/
namespace RL
open PySem PySem.Spec PyProof.Rows L2
/-- a key as a datum -/
def keyD : Key → PyData
  | .inl i => .int i
  | .inr z => .str z
mutual
/-- a value that is a datum, dicts with int and text keys too -/
inductive DS (K : PySem.W.Frag) (H : Hp) : V → PyData → Prop
  | non : DS K H .non .none
  | bl (b : Bool) : DS K H (.bl b) (.bool b)
  | int (i : Int) : DS K H (.int i) (.int i)
  | str (x : Str) : DS K H (.str x) (.str x)
  | lst {a : Addr} {xs : List V} {ds : List PyData} : SqL K H a xs → DSs K H xs ds → DS K H (.ref a) (.list ds)
  | tup {a : Addr} {xs : List V} {ds : List PyData} : SqT K H a xs → DSs K H xs ds → DS K H (.ref a) (.tuple ds)
  | dic {a : Addr} {kvs : List (Key × V)} {es : List (PyData × PyData)} : H a = some (.dK kvs) → DSk K H kvs es → DS K H (.ref a) (.dict es)
inductive DSs (K : PySem.W.Frag) (H : Hp) : List V → List PyData → Prop
  | nil : DSs K H [] []
  | cons {v : V} {vs : List V} {d : PyData} {ds : List PyData} : DS K H v d → DSs K H vs ds → DSs K H (v :: vs) (d :: ds)
inductive DSk (K : PySem.W.Frag) (H : Hp) : List (Key × V) → List (PyData × PyData) → Prop
  | nil : DSk K H [] []
  | cons {k : Key} {v : V} {kvs : List (Key × V)} {d : PyData} {es : List (PyData × PyData)} : DS K H v d → DSk K H kvs es → DSk K H ((k, v) :: kvs) ((keyD k, d) :: es)
end
section
variable {X : Cx} {pins : List (Addr × Obj)}
                                             {σ : L2.St} {H : Hp} {s : Shared}
theorem pairs_rel {prog : Program} {w : World} : ∀ {es : List DictEntry} {vs : List (Key × Value)}, Pairs (mixKind prog w) es vs → ∀ {kvs : List (Key × V)}, KV kvs vs → Vals (kvs.map (·.2)) (es.map (·.val)) ∧ Vals (kvs.map fun kv => kV kv.1) (es.map (·.key))
  | _, _, .nil, _, h => by
    unfold KV at h
    cases h
    exact ⟨.nil, .nil⟩
  | _, _, .cons hk hv hr, _, h => by
    unfold KV at h
    cases h with
    | cons h1 h2 =>
      obtain ⟨e1, e2⟩ := h1
      have ih := pairs_rel hr h2
      refine ⟨.cons (by dsimp only; rw [hv]; exact e2) ih.1, .cons ?_ ih.2⟩
      dsimp only
      rw [e1]
      exact keyIs_rel hk
mutual
theorem DS.reads (I : Inv X pins σ H s) : ∀ (d : PyData) (v : V) (u : Value), DS X.K H v d → RelV v u → ∃ as, Reads s.heap u d as
  | .none, _, _, h, r => by
    cases h
    cases r
    exact ⟨_, Reads.none⟩
  | .bool b, _, _, h, r => by
    cases h
    cases r
    exact ⟨_, Reads.bool b⟩
  | .int i, _, _, h, r => by
    cases h
    obtain ⟨t, rfl⟩ := r
    exact ⟨_, Reads.int i t⟩
  | .str x, _, _, h, r => by
    cases h
    obtain ⟨t, rfl⟩ := r
    exact ⟨_, Reads.str x t⟩
  | .list ds, _, _, h, r => by
    cases h with
    | lst hs ha =>
      cases r
      obtain ⟨its, rv, ⟨o, n, ho, hc, _, hd⟩, _⟩ := I.list hs
      obtain ⟨as, hr⟩ := DSs.reads I ds _ its ha rv
      exact ⟨_, Reads.list ho hc hd hr⟩
  | .tuple ds, _, _, h, r => by
    cases h with
    | tup hs ha =>
      cases r
      obtain ⟨its, rv, ⟨o, ho, hc, n, hd⟩, _⟩ := I.tuple hs
      obtain ⟨as, hr⟩ := DSs.reads I ds _ its ha rv
      exact ⟨_, Reads.tuple ho hc hd hr⟩
  | .dict es, _, _, h, r => by
    cases h with
    | dic ha hk =>
      cases r
      obtain ⟨_, _, vs, kv, o, ee, ep, h1, h2, h3, _, hp, _⟩ := dk_of I.hok ha
      obtain ⟨r1, r2⟩ := pairs_rel hp kv
      obtain ⟨as, a1⟩ := DSk.readsK I es _ (ee.toList.map (·.key)) hk r2
      obtain ⟨bs, a2⟩ := DSk.readsV I es _ (ee.toList.map (·.val)) hk r1
      exact ⟨_, Reads.dict h1 h2.1 h3 a1 a2⟩
theorem DSs.reads (I : Inv X pins σ H s) : ∀ (ds : List PyData) (vs : List V) (us : List Value), DSs X.K H vs ds → Vals vs us → ∃ as, ReadsAll s.heap us ds as
  | [], _, _, h, r => by
    cases h
    cases r
    exact ⟨_, ReadsAll.nil⟩
  | d :: ds, _, _, h, r => by
    cases h with
    | cons h1 h2 =>
      cases r with
      | cons r1 r2 =>
        obtain ⟨as, a1⟩ := DS.reads I d _ _ h1 r1
        obtain ⟨bs, a2⟩ := DSs.reads I ds _ _ h2 r2
        exact ⟨_, ReadsAll.cons a1 a2⟩
theorem DSk.readsV (I : Inv X pins σ H s) : ∀ (es : List (PyData × PyData)) (kvs : List (Key × V)) (us : List Value), DSk X.K H kvs es → Vals (kvs.map (·.2)) us → ∃ as, ReadsAll s.heap us (es.map (·.2)) as
  | [], _, _, h, r => by
    cases h
    cases r
    exact ⟨_, ReadsAll.nil⟩
  | (kd, d) :: es, _, _, h, r => by
    cases h with
    | cons h1 h2 =>
      cases r with
      | cons r1 r2 =>
        obtain ⟨as, a1⟩ := DS.reads I d _ _ h1 r1
        obtain ⟨bs, a2⟩ := DSk.readsV I es _ _ h2 r2
        exact ⟨_, ReadsAll.cons a1 a2⟩
theorem DSk.readsK (I : Inv X pins σ H s) : ∀ (es : List (PyData × PyData)) (kvs : List (Key × V)) (us : List Value), DSk X.K H kvs es → Vals (kvs.map fun kv => kV kv.1) us → ∃ as, ReadsAll s.heap us (es.map (·.1)) as
  | [], _, _, h, r => by
    cases h
    cases r
    exact ⟨_, ReadsAll.nil⟩
  | (kd, d) :: es, _, _, h, r => by
    cases h with
    | @cons k _ _ _ _ h1 h2 =>
      cases r with
      | cons r1 r2 =>
        obtain ⟨bs, a2⟩ := DSk.readsK I es _ _ h2 r2
        cases k with
        | inl i =>
          obtain ⟨t, rfl⟩ := r1
          exact ⟨_, ReadsAll.cons (Reads.int i t) a2⟩
        | inr z =>
          obtain ⟨t, rfl⟩ := r1
          exact ⟨_, ReadsAll.cons (Reads.str z t) a2⟩
end
/-! ### what it shows -/
mutual
theorem DS.show (I : Inv X pins σ H s) : ∀ (d : PyData) (v : V) (u : Value), DS X.K H v d → RelV v u → d.showable = true → d.shown.length ≤ sizeLine → ∃ bs, ReadAtMost s.heap d.depth bs ∧ ReprK X.prog X.w bs s.heap d.depth u d.shown
  | .none, _, _, h, r, _, _ => by
    cases h
    cases r
    exact ⟨[], (fun _ h => nomatch h), by simp only [PyData.shown]; exact .of_is ReprIs.none _ _ _⟩
  | .bool b, _, _, h, r, _, _ => by
    cases h
    cases r
    exact ⟨[], (fun _ h => nomatch h), by simp only [PyData.shown]; exact .of_is (ReprIs.bool b) _ _ _⟩
  | .int i, _, _, h, r, hs, _ => by
    cases h
    obtain ⟨t, rfl⟩ := r
    exact ⟨[], (fun _ h => nomatch h), by simp only [PyData.shown]; exact .of_is (ReprIs.int t (by simpa [PyData.showable] using hs)) _ _ _⟩
  | .str x, _, _, h, r, _, hz => by
    cases h
    obtain ⟨t, rfl⟩ := r
    exact ⟨[], (fun _ h => nomatch h), by simp only [PyData.shown]; exact .of_is (ReprIs.str x t (by simpa only [PyData.shown] using hz)) _ _ _⟩
  | .list ds, _, _, h, r, hs, hz => by
    obtain ⟨as, rd⟩ := DS.reads I _ _ _ h r
    cases h with
    | lst hq ha =>
      cases r
      have hz' : (listText (PyData.shownAll ds)).length ≤ sizeLine := by simpa only [PyData.shown] using hz
      obtain ⟨its, rv, ⟨o, n, h1, h2, _, h3⟩, _⟩ := I.list hq
      obtain ⟨bs, hb, hk⟩ := DSs.show I ds _ its ha rv (by simpa [PyData.showable] using hs) (fun t ht => Nat.le_trans (listText_mem_le ht) hz')
      have hna := not_mem_of_deeper rd (by simp only [PyData.depth]; omega) hb
      refine ⟨_ :: bs, ReadAtMost.cons rd (by simp only [PyData.depth]; omega) hb, ?_⟩
      simp only [PyData.depth, PyData.shown]
      cases its with
      | nil =>
        cases rv
        cases ha
        simp only [PyData.shownAll, listText_nil]
        exact ReprK.listEmpty h1 h2 h3
      | cons x l => exact ReprK.list h1 h2 h3 hna
                                                  (by simpa using hk.length_eq) (fun i y e => hk.item i y (by simpa using e))
  | .tuple ds, _, _, h, r, hs, hz => by
    obtain ⟨as, rd⟩ := DS.reads I _ _ _ h r
    cases h with
    | tup hq ha =>
      cases r
      have hz' : (tupleText (PyData.shownAll ds)).length ≤ sizeLine := by simpa only [PyData.shown] using hz
      obtain ⟨its, rv, ⟨o, h1, h2, n, h3⟩, _⟩ := I.tuple hq
      obtain ⟨bs, hb, hk⟩ := DSs.show I ds _ its ha rv (by simpa [PyData.showable] using hs) (fun t ht => Nat.le_trans (tupleText_mem_le ht) hz')
      have hna := not_mem_of_deeper rd (by simp only [PyData.depth]; omega) hb
      refine ⟨_ :: bs, ReadAtMost.cons rd (by simp only [PyData.depth]; omega) hb, ?_⟩
      simp only [PyData.depth, PyData.shown]
      exact ReprK.tuple h1 h2 h3 hna (by simpa using hk)
  | .dict es, _, _, h, r, hs, hz => by
    obtain ⟨as, rd⟩ := DS.reads I _ _ _ h r
    cases h with
    | dic ha hk =>
      cases r
      have hz' : (dictText (PyData.shownKv es)).length ≤ sizeLine := by simpa only [PyData.shown] using hz
      obtain ⟨_, hsys, vs, kv, o, ee, ep, h1, h2, h3, _, hp, _⟩ := dk_of I.hok ha
      obtain ⟨r1, r2⟩ := pairs_rel hp kv
      obtain ⟨hs1, hs2⟩ := PyData.showableKv_split es (by simpa [PyData.showable] using hs)
      obtain ⟨b1, hb1, k1⟩ := DSk.showK I es _ (ee.toList.map (·.key)) hk r2 hs1 (fun t ht => let ⟨p, hp, hl⟩ := PyData.shownKv_key_le es t ht; Nat.le_trans hl (Nat.le_trans (dictText_mem_le hp) hz'))
      obtain ⟨b2, hb2, k2⟩ := DSk.showV I es _ (ee.toList.map (·.val)) hk r1 hs2 (fun t ht => let ⟨p, hp, hl⟩ := PyData.shownKv_val_le es t ht; Nat.le_trans hl (Nat.le_trans (dictText_mem_le hp) hz'))
      have hb : ReadAtMost s.heap (PyData.depthKv es) (b1 ++ b2) := (hb1.mono (PyData.depthAll_keys_le es)).append (hb2.mono (PyData.depthAll_vals_le es))
      have hna := not_mem_of_deeper rd (by simp only [PyData.depth]; omega) hb
      refine ⟨_ :: (b1 ++ b2), ReadAtMost.cons rd (by simp only [PyData.depth]; omega) hb, ?_⟩
      simp only [PyData.depth, PyData.shown, PyData.shownKv_eq]
      exact ReprK.dict h1 h2.1 h3 hsys hna (ReprEntriesK.of_two ee.toList _ _
        (k1.more_le (fun b hb => List.mem_append_left _ hb) (PyData.depthAll_keys_le es)) (k2.more_le (fun b hb => List.mem_append_right _ hb) (PyData.depthAll_vals_le es)))
theorem DSs.show (I : Inv X pins σ H s) : ∀ (ds : List PyData) (vs : List V) (us : List Value), DSs X.K H vs ds → Vals vs us → PyData.showableAll ds = true → (∀ t ∈ PyData.shownAll ds, t.length ≤ sizeLine) → ∃ bs, ReadAtMost s.heap (PyData.depthAll ds) bs ∧ ReprAllK X.prog X.w bs s.heap (PyData.depthAll ds) us (PyData.shownAll ds)
  | [], _, _, h, r, _, _ => by
    cases h
    cases r
    exact ⟨[], (fun _ h => nomatch h), by simp only [PyData.shownAll]; exact .nil⟩
  | d :: ds, _, _, h, r, hs, hz => by
    cases h with
    | cons h1 h2 =>
      cases r with
      | cons r1 r2 =>
        have hs' : d.showable = true ∧ PyData.showableAll ds = true := by simpa [PyData.showableAll] using hs
        obtain ⟨b1, hb1, k1⟩ := DS.show I d _ _ h1 r1 hs'.1 (hz _ (by simp only [PyData.shownAll]; exact List.mem_cons_self ..))
        obtain ⟨b2, hb2, k2⟩ := DSs.show I ds _ _ h2 r2 hs'.2 (fun t ht => hz t (by simp only [PyData.shownAll]; exact List.mem_cons_of_mem _ ht))
        refine ⟨b1 ++ b2, ?_, ?_⟩
        · simp only [PyData.depthAll]
          exact (hb1.mono (Nat.le_max_left _ _)).append (hb2.mono (Nat.le_max_right _ _))
        · simp only [PyData.depthAll, PyData.shownAll]
          exact .cons ((k1.more fun b hb => List.mem_append_left _ hb).level_le
                                                                                (Nat.le_max_left _ _)) (k2.more_le (fun b hb => List.mem_append_right _ hb) (Nat.le_max_right _ _))
theorem DSk.showV (I : Inv X pins σ H s) : ∀ (es : List (PyData × PyData)) (kvs : List (Key × V)) (us : List Value), DSk X.K H kvs es → Vals (kvs.map (·.2)) us → PyData.showableAll (es.map (·.2)) = true → (∀ t ∈ PyData.shownAll (es.map (·.2)), t.length ≤ sizeLine) →
    ∃ bs, ReadAtMost s.heap (PyData.depthAll (es.map (·.2))) bs ∧ ReprAllK X.prog X.w bs s.heap (PyData.depthAll (es.map (·.2))) us (PyData.shownAll (es.map (·.2)))
  | [], _, _, h, r, _, _ => by
    cases h
    cases r
    exact ⟨[], (fun _ h => nomatch h), by simp only [List.map_nil, PyData.shownAll]; exact .nil⟩
  | (kd, d) :: es, _, _, h, r, hs, hz => by
    cases h with
    | cons h1 h2 =>
      cases r with
      | cons r1 r2 =>
        have hs' : d.showable = true ∧ PyData.showableAll (es.map (·.2)) = true := by simpa [PyData.showableAll] using hs
        obtain ⟨b1, hb1, k1⟩ := DS.show I d _ _ h1 r1 hs'.1 (hz _ (by simp only [List.map_cons, PyData.shownAll]; exact List.mem_cons_self ..))
        obtain ⟨b2, hb2, k2⟩ := DSk.showV I es _ _ h2 r2 hs'.2 (fun t ht => hz t (by simp only [List.map_cons, PyData.shownAll]; exact List.mem_cons_of_mem _ ht))
        refine ⟨b1 ++ b2, ?_, ?_⟩
        · simp only [List.map_cons, PyData.depthAll]
          exact (hb1.mono (Nat.le_max_left _ _)).append (hb2.mono (Nat.le_max_right _ _))
        · simp only [List.map_cons, PyData.depthAll, PyData.shownAll]
          exact .cons ((k1.more fun b hb => List.mem_append_left _ hb).level_le
                                                                                (Nat.le_max_left _ _)) (k2.more_le (fun b hb => List.mem_append_right _ hb) (Nat.le_max_right _ _))
theorem DSk.showK (I : Inv X pins σ H s) : ∀ (es : List (PyData × PyData)) (kvs : List (Key × V)) (us : List Value), DSk X.K H kvs es → Vals (kvs.map fun kv => kV kv.1) us → PyData.showableAll (es.map (·.1)) = true → (∀ t ∈ PyData.shownAll (es.map (·.1)), t.length ≤ sizeLine) →
    ∃ bs, ReadAtMost s.heap (PyData.depthAll (es.map (·.1))) bs ∧ ReprAllK X.prog X.w bs s.heap (PyData.depthAll (es.map (·.1))) us (PyData.shownAll (es.map (·.1)))
  | [], _, _, h, r, _, _ => by
    cases h
    cases r
    exact ⟨[], (fun _ h => nomatch h), by simp only [List.map_nil, PyData.shownAll]; exact .nil⟩
  | (kd, d) :: es, _, _, h, r, hs, hz => by
    cases h with
    | @cons k _ _ _ _ h1 h2 =>
      cases r with
      | cons r1 r2 =>
        have hs' : (keyD k).showable = true ∧ PyData.showableAll (es.map (·.1)) = true := by simpa [PyData.showableAll] using hs
        have hz1 : (keyD k).shown.length ≤ sizeLine := hz _ (by simp only [List.map_cons, PyData.shownAll]; exact List.mem_cons_self ..)
        obtain ⟨b2, hb2, k2⟩ := DSk.showK I es _ _ h2 r2 hs'.2 (fun t ht => hz t (by simp only [List.map_cons, PyData.shownAll]; exact List.mem_cons_of_mem _ ht))
        refine ⟨b2, ?_, ?_⟩
        · simp only [List.map_cons, PyData.depthAll]
          exact hb2.mono (Nat.le_max_right _ _)
        · simp only [List.map_cons, PyData.depthAll, PyData.shownAll]
          refine .cons ?_ (k2.more_le (fun b hb => hb) (Nat.le_max_right _ _))
          cases k with
          | inl i =>
            obtain ⟨t, rfl⟩ := r1
            simp only [keyD, PyData.shown]
            exact .of_is (ReprIs.int t (by simpa [keyD, PyData.showable] using hs'.1)) _ _ _
          | inr z =>
            obtain ⟨t, rfl⟩ := r1
            simp only [keyD, PyData.shown] at hz1 ⊢
            exact .of_is (ReprIs.str z t hz1) _ _ _
end
end
/-! ### repr -/
section
variable {X : Cx}
def rReprD (K : PySem.W.Frag) : List V → Hp → VK → Prop := fun xs H Q => ∃ (a : Addr) (d : PyData), xs = [.ref a] ∧ DS K H (.ref a) d ∧ d.showable = true ∧ d.shown.length ≤ sizeLine ∧ d.depth ≤ 60 ∧ Q (.str d.shown) H
theorem cr_reprD (hgd : X.A.guards = some []) (hu : X.A.units + 64 < cLine) : CallR X (.builtin "repr") (rReprD X.K) := by
  intro pins s σ H xs us Q I r h
  obtain ⟨a, d, rfl, hd, h1, h2, h3, q⟩ := h
  obtain ⟨u, rfl, ru⟩ := vals1 r
  obtain rfl : u = Value.ref a := ru
  have fin : ∀ h' u tk, (∀ b o, s.heap.get? b = some o → h'.get? b = some o) → EP X pins σ Q (.str d.shown u) { s with heap := h', toks := tk } := fun h' u tk k => ⟨.str _, H, I.kept (t' := tk) k, ⟨_, rfl⟩, q⟩
  obtain ⟨as, rd⟩ := DS.reads I _ _ _ hd rfl
  obtain ⟨bs, hb, hk⟩ := DS.show I _ _ _ hd rfl h1 h2
  cases hd with
  | @lst _ xs ds hq ha =>
    have hz' : (listText (PyData.shownAll ds)).length ≤ sizeLine := by simpa only [PyData.shown] using h2
    obtain ⟨its, rv, ⟨o, n, e1, e2, _, e3⟩, _⟩ := I.list hq
    obtain ⟨bs, hb, hk⟩ := DSs.show I ds _ its ha rv (by simpa [PyData.showable] using h1) (fun t ht => Nat.le_trans (listText_mem_le ht) hz')
    have hna := not_mem_of_deeper rd (by simp only [PyData.depth]; omega) hb
    simp only [PyData.depth] at h3
    simp only [PyData.shown] at fin
    refine PySem.call_repr_slot (by omega) ⟨o, e1, e2⟩ PySem.F.slot_list_repr.toG ?_
    cases its with
    | nil =>
      cases rv
      cases ha
      simp only [PyData.shownAll, listText_nil] at fin
      exact call_list_repr_empty ⟨o, e1, e2⟩ e1 e3 ⟨_, _, rfl, fin s.heap _ _ fun _ _ e => e⟩
    | cons x l =>
      exact call_list_reprK e1 e2 e3 hna (by simpa using hk.length_eq) (fun i y e => hk.item i y (by simpa using e)) hgd (fun b _ => Clear.nil b) (by show X.A.units + 1 + _ < cLine; omega) (fun _ _ e => e) (fun h' u tk k => ⟨_, _, rfl, fin h' u tk k⟩) hz'
  | @tup _ xs ds hq ha =>
    have hz' : (tupleText (PyData.shownAll ds)).length ≤ sizeLine := by simpa only [PyData.shown] using h2
    obtain ⟨its, rv, ⟨o, e1, e2, n, e3⟩, _⟩ := I.tuple hq
    obtain ⟨bs, hb, hk⟩ := DSs.show I ds _ its ha rv (by simpa [PyData.showable] using h1) (fun t ht => Nat.le_trans (tupleText_mem_le ht) hz')
    have hna := not_mem_of_deeper rd (by simp only [PyData.depth]; omega) hb
    simp only [PyData.depth] at h3
    simp only [PyData.shown] at fin
    refine PySem.call_repr_slot (by omega) ⟨o, e1, e2⟩ PySem.F.slot_tuple_repr ?_
    exact call_tuple_reprK e1 e2 e3 hna (by simpa using hk) hgd (fun b _ => Clear.nil b) (by show X.A.units + 1 + _ < cLine; omega) (fun _ _ e => e) (fun h' u tk k => ⟨_, _, rfl, fin h' u tk k⟩) hz'
  | @dic _ kvs es ha hkv =>
    have hz' : (dictText (PyData.shownKv es)).length ≤ sizeLine := by simpa only [PyData.shown] using h2
    obtain ⟨_, hsys, vs, kv, o, ee, ep, e1, e2, e3, _, hp, _⟩ := dk_of I.hok ha
    obtain ⟨r1, r2⟩ := pairs_rel hp kv
    obtain ⟨hs1, hs2⟩ := PyData.showableKv_split es (by simpa [PyData.showable] using h1)
    obtain ⟨b1, hb1, k1⟩ := DSk.showK I es _ (ee.toList.map (·.key)) hkv r2 hs1 (fun t ht => let ⟨p, hp, hl⟩ := PyData.shownKv_key_le es t ht; Nat.le_trans hl (Nat.le_trans (dictText_mem_le hp) hz'))
    obtain ⟨b2, hb2, k2⟩ := DSk.showV I es _ (ee.toList.map (·.val)) hkv r1 hs2 (fun t ht => let ⟨p, hp, hl⟩ := PyData.shownKv_val_le es t ht; Nat.le_trans hl (Nat.le_trans (dictText_mem_le hp) hz'))
    have hb : ReadAtMost s.heap (PyData.depthKv es) (b1 ++ b2) := (hb1.mono (PyData.depthAll_keys_le es)).append (hb2.mono (PyData.depthAll_vals_le es))
    have hna := not_mem_of_deeper rd (by simp only [PyData.depth]; omega) hb
    simp only [PyData.depth] at h3
    simp only [PyData.shown, PyData.shownKv_eq] at fin
    refine PySem.call_repr_slot (by omega) ⟨o, e1, e2.1⟩ PySem.F.slot_dict_repr ?_
    exact call_dict_reprK e1 e2.1 e3 hsys hna (ReprEntriesK.of_two ee.toList _ _
      (k1.more_le (fun b hb => List.mem_append_left _ hb) (PyData.depthAll_keys_le es)) (k2.more_le (fun b hb => List.mem_append_right _ hb) (PyData.depthAll_vals_le es))) hgd (fun b _ => Clear.nil b) (by show X.A.units + 1 + _ < cLine; omega) (fun _ _ e => e) (fun h' u tk k => ⟨_, _, rfl, fin h' u tk k⟩) (by rw [← PyData.shownKv_eq]; exact hz')
/-! ### list(text) -/
def rListStr : List V → Hp → VK → Prop := fun xs H Q => ∃ z : Str, xs = [.str z] ∧ z.length ≤ sizeLine ∧ ∀ l, H l = none → Q (.ref l) (upd H l (.lst (z.cps.toList.map fun c => V.str ⟨#[c]⟩)))
theorem cr_listStr (hc : X.calm = true) : CallR X (.type "list") rListStr := by
  intro pins s σ H xs us Q I r h
  obtain ⟨z, rfl, hz, q⟩ := h
  obtain ⟨u, rfl, ru⟩ := vals1 r
  obtain ⟨t, rfl⟩ := ru
  refine call_list_str (I.ok.hd hc) z t (fun h' tk acc' c' kp hS hacc => ?_) hz
  refine ⟨.ref s.heap.objs.size, upd H s.heap.objs.size (.lst (z.cps.toList.map fun c => V.str ⟨#[c]⟩)), I.laid kp (Nat.le_refl _) (show ObjOk X.prog X.w _ _ _ (.lst _) from ⟨?_, acc'.toList, c', ?_, ?_⟩), rfl, q _ (I.hok.fresh (Nat.le_refl _))⟩
  · rw [List.length_map, Array.length_toList]; exact hz
  · refine vals_of_at (by rw [List.length_map, Array.length_toList, Array.length_toList, hacc.1]) fun j x w h1 h2 => ?_
    obtain ⟨c, u, hk, rfl⟩ := hacc.2 j w (by rw [← Array.getElem?_toList]; exact h2)
    rw [List.getElem?_map, Array.getElem?_toList, hk] at h1
    cases h1
    exact ⟨u, rfl⟩
  · rw [Array.toArray_toList]; exact hS
/-! ### text * int -/
def rMulS : R2 := fun x y H Q => ∃ (z : Str) (n : Int), x = .str z ∧ y = .int n ∧ MulOk z n ∧ Q (.str (Txt.mul z n)) H
theorem op_mulS : OpR X (binaryOp .Mult) rMulS := by
  intro pins s σ H x y v u Q I rx ry h
  obtain ⟨z, n, rfl, rfl, ok, q⟩ := h
  obtain ⟨t, rfl⟩ := rx
  obtain ⟨t', rfl⟩ := ry
  exact SB.mul ok fun t k => ⟨.str _, H, I.tok _, ⟨_, rfl⟩, q⟩
end
end RL
namespace K44
open PySem L2
open PyProof.Rows PySem.Spec
/-- names with their begins and ends -/
abbrev Rws := List (Str × Int × Int)
def Kvs (L : List (Str × Addr)) : List (Key × V) := L.map fun p => (Sum.inr p.1, V.ref p.2)
def TupAt (H : Hp) (t : Addr) (b e : Int) : Prop := H t = some (.tup [.int b, .int e])
inductive Tups (H : Hp) : List (Str × Addr) → Rws → Prop
  | nil : Tups H [] []
  | cons {n : Str} {t : Addr} {b e : Int} {L : List (Str × Addr)} {R : Rws} : TupAt H t b e → Tups H L R → Tups H ((n, t) :: L) ((n, b, e) :: R)
/-- what keeps tuples -/
def KT (H H' : Hp) : Prop := ∀ t xs, H t = some (.tup xs) → H' t = some (.tup xs)
theorem KT.refl {H : Hp} : KT H H := fun _ _ e => e
theorem KT.trans {H H1 H2 : Hp} (a : KT H H1) (b : KT H1 H2) : KT H H2 := fun t xs e => b t xs (a t xs e)
theorem KT.same {H H' : Hp} (s : Same H H') : KT H H' := fun t xs e => s t _ e
theorem KT.only {H H' : Hp} {r : Addr} (o : Only r H H') (h : Rl H r) : KT H H' := fun t xs e => o t _ (fun w => by obtain ⟨x, y, z, q⟩ := h; rw [w, q] at e; cases e) e
theorem KT.put {H : Hp} {d : Addr} {o u : HO} (h : H d = some u) (n : ∀ xs, u ≠ .tup xs) : KT H (upd H d o) := fun t xs e => by
  rw [upd_ne (fun w => n xs (by rw [w, h] at e; exact Option.some.inj e))]
  exact e
theorem KT.new {H : Hp} {d : Addr} {o : HO} (h : H d = none) : KT H (upd H d o) := fun t xs e => by rw [upd_ne (ne_of_none e h)]; exact e
theorem Tups.keep {H H' : Hp} (k : KT H H') : ∀ {L : List (Str × Addr)} {R : Rws}, Tups H L R → Tups H' L R
  | _, _, .nil => .nil
  | _, _, .cons h t => .cons (k _ _ h) (Tups.keep k t)
theorem Tups.names {H : Hp} : ∀ {L : List (Str × Addr)} {R : Rws}, Tups H L R → L.map (·.1) = R.map (·.1)
  | _, _, .nil => rfl
  | _, _, .cons _ t => by rw [List.map_cons, List.map_cons, Tups.names t]
theorem Tups.len {H : Hp} {L : List (Str × Addr)} {R : Rws} (h : Tups H L R) : L.length = R.length := by
  rw [← List.length_map (f := (·.1)) (as := L), h.names, List.length_map]
theorem Tups.snoc {H : Hp} {n : Str} {t : Addr} {b e : Int} : ∀ {L : List (Str × Addr)} {R : Rws}, Tups H L R → TupAt H t b e → Tups H (L ++ [(n, t)]) (R ++ [(n, b, e)])
  | _, _, .nil, q => .cons q .nil
  | _, _, .cons h t, q => .cons h (Tups.snoc t q)
theorem Tups.get {H : Hp} {n : Str} : ∀ {L : List (Str × Addr)} {R : Rws}, Tups H L R → n ∈ R.map (·.1) → ∃ t b e, valV (Kvs L) (.inr n) = some (.ref t) ∧ TupAt H t b e ∧ (n, b, e) ∈ R
  | _, _, .nil, h => by cases h
  | _, _, .cons (n := m) (t := t) (b := b) (e := e) (L := L) (R := R) h ts, hn => by
    by_cases c : m = n
    · subst c
      exact ⟨t, b, e, valV_pos (p := ((Sum.inr m : Key), V.ref t)) rfl, h, List.mem_cons_self⟩
    · rcases List.mem_cons.mp hn with q | q
      · exact absurd q.symm c
      · obtain ⟨t', b', e', h1, h2, h3⟩ := Tups.get ts q
        exact ⟨t', b', e', (valV_neg (p := ((Sum.inr m : Key), V.ref t)) (fun z => c (Sum.inr.inj z))).trans h1, h2, List.mem_cons_of_mem _ h3⟩
theorem nodup_uniq : ∀ {R : Rws} {n : Str} {p q : Int × Int}, (R.map (·.1)).Nodup → (n, p) ∈ R → (n, q) ∈ R → p = q
  | [], _, _, _, _, h, _ => by cases h
  | (m, u) :: R, n, p, q, nd, h1, h2 => by
    rw [List.map_cons, List.nodup_cons] at nd
    rcases List.mem_cons.mp h1 with e1 | e1
    · rcases List.mem_cons.mp h2 with e2 | e2
      · cases e1; cases e2; rfl
      · cases e1
        exact absurd (List.mem_map.mpr ⟨_, e2, rfl⟩) nd.1
    · rcases List.mem_cons.mp h2 with e2 | e2
      · cases e2
        exact absurd (List.mem_map.mpr ⟨_, e1, rfl⟩) nd.1
      · exact nodup_uniq nd.2 e1 e2
theorem Tups.at {H : Hp} {L : List (Str × Addr)} {R : Rws} (h : Tups H L R) (nd : (R.map (·.1)).Nodup) {n : Str} {b e : Int} (m : (n, b, e) ∈ R) : ∃ t, valV (Kvs L) (.inr n) = some (.ref t) ∧ TupAt H t b e := by
  obtain ⟨t, b', e', h1, h2, h3⟩ := h.get (n := n) (List.mem_map.mpr ⟨_, m, rfl⟩)
  have := nodup_uniq nd m h3
  cases this
  exact ⟨t, h1, h2⟩
theorem valV_none {L : List (Str × Addr)} {n : Str} (h : n ∉ L.map (·.1)) : valV (Kvs L) (.inr n) = none := by
  cases e : valV (Kvs L) (.inr n) with
  | none => rfl
  | some v =>
    refine absurd ?_ h
    have := valV_in e
    unfold Kvs at this
    rw [List.map_map] at this
    obtain ⟨p, hp, q⟩ := List.mem_map.mp this
    exact List.mem_map.mpr ⟨p, hp, Sum.inr.inj q⟩
theorem kvs_snoc (L : List (Str × Addr)) (n : Str) (t : Addr) : Kvs (L ++ [(n, t)]) = Kvs L ++ [(Sum.inr n, V.ref t)] := by
  unfold Kvs
  rw [List.map_append]
  rfl
theorem putK_kvs {L : List (Str × Addr)} {n : Str} {t : Addr} (h : n ∉ L.map (·.1)) : putK (Kvs L) (.inr n) (.ref t) = Kvs (L ++ [(n, t)]) := by
  rw [putK_new _ (valV_none h), kvs_snoc]
theorem kvs_len (L : List (Str × Addr)) : (Kvs L).length = L.length := List.length_map ..
theorem kvs_keys (L : List (Str × Addr)) : (Kvs L).map (·.1) = (L.map (·.1)).map Sum.inr := by
  unfold Kvs
  rw [List.map_map, List.map_map]
  rfl
theorem mergeK_kvs : ∀ (M L : List (Str × Addr)), ((L ++ M).map (·.1)).Nodup → mergeK (Kvs L) (Kvs M) = Kvs (L ++ M)
  | [], L, _ => by rw [List.append_nil]; rfl
  | (n, t) :: M, L, nd => by
    have hn : n ∉ L.map (·.1) := fun h => by
      rw [List.map_append, List.map_cons] at nd
      have := (List.nodup_append.mp nd).2.2 n h n List.mem_cons_self
      exact this rfl
    have e : mergeK (Kvs L) (Kvs ((n, t) :: M)) = mergeK (putK (Kvs L) (.inr n) (.ref t)) (Kvs M) := rfl
    rw [e, putK_kvs hn, mergeK_kvs M (L ++ [(n, t)]) (by rw [List.append_assoc]; exact nd), List.append_assoc]
    rfl
/-- such a dict as a datum -/
def rowD (r : Str × Int × Int) : PyData × PyData := (.str r.1, .tuple [.int r.2.1, .int r.2.2])
def rowsD (R : Rws) : PyData := .dict (R.map rowD)
theorem tupAt_ds {K : PySem.W.Frag} {H : Hp} {t : Addr} {b e : Int} (h : TupAt H t b e) : RL.DS K H (.ref t) (.tuple [.int b, .int e]) := .tup (SqT.of h) (.cons (.int _) (.cons (.int _) .nil))
theorem Tups.dsk {K : PySem.W.Frag} {H : Hp} : ∀ {L : List (Str × Addr)} {R : Rws}, Tups H L R → RL.DSk K H (Kvs L) (R.map rowD)
  | _, _, .nil => .nil
  | _, _, .cons h t => .cons (k := Sum.inr _) (tupAt_ds h) (Tups.dsk t)
theorem rows_ds {K : PySem.W.Frag} {H : Hp} {a : Addr} {L : List (Str × Addr)} {R : Rws} (ha : H a = some (.dK (Kvs L))) (h : Tups H L R) : RL.DS K H (.ref a) (rowsD R) := .dic ha h.dsk
/-! ### sorting -/
theorem risingS_pw : ∀ (p : Str) (l : List Str), risingS p l = true → (∀ y ∈ l, ltCps y.cps.toList p.cps.toList = false) ∧ l.Pairwise (fun a b => ltCps b.cps.toList a.cps.toList = false)
  | p, [], _ => ⟨(fun _ h => by cases h), List.Pairwise.nil⟩
  | p, x :: r, h => by
    have h' : (!ltCps x.cps.toList p.cps.toList && risingS x r) = true := h
    rw [Bool.and_eq_true] at h'
    obtain ⟨h1, h2⟩ := h'
    obtain ⟨i1, i2⟩ := risingS_pw x r h2
    have hx : ltCps x.cps.toList p.cps.toList = false := by simpa using h1
    refine ⟨fun y hy => ?_, List.pairwise_cons.mpr ⟨i1, i2⟩⟩
    rcases List.mem_cons.mp hy with rfl | hy
    · exact hx
    · have hy2 := i1 y hy
      rw [ltCps_eq] at hx hy2 ⊢
      rw [decide_eq_false_iff_not] at hx hy2 ⊢
      exact List.not_lt.mpr (List.le_trans (List.not_lt.mp hx) (List.not_lt.mp hy2))
theorem sortedS_pw {l : List Str} (h : sortedS l = true) : l.Pairwise (fun a b => ltCps b.cps.toList a.cps.toList = false) := by
  cases l with
  | nil => exact List.Pairwise.nil
  | cons x r =>
    obtain ⟨a, b⟩ := risingS_pw x r h
    exact List.pairwise_cons.mpr ⟨a, b⟩
theorem str_ext {a b : Str} (h : a.cps.toList = b.cps.toList) : a = b := by
  obtain ⟨⟨a⟩⟩ := a
  obtain ⟨⟨b⟩⟩ := b
  simp only at h
  rw [h]
theorem sorted_eq {xs ys zs : List Str} (p1 : ys.Perm xs) (p2 : zs.Perm xs) (s1 : sortedS ys = true) (s2 : sortedS zs = true) : ys = zs := by
  refine List.Perm.eq_of_pairwise (le := fun a b => ltCps b.cps.toList a.cps.toList = false) (fun a b _ _ h1 h2 => ?_) (sortedS_pw s1) (sortedS_pw s2) (p1.trans p2.symm)
  rw [ltCps_eq, decide_eq_false_iff_not] at h1 h2
  exact str_ext (List.le_antisymm (List.not_lt.mp h1) (List.not_lt.mp h2))
/-- the rows in the order of their names -/
structure Srd (R S : Rws) : Prop where
  pm : S.Perm R
  so : sortedS (S.map (·.1)) = true
theorem Srd.eq {R S S' : Rws} (nd : (R.map (·.1)).Nodup) (a : Srd R S) (b : Srd R S') : S = S' := by
  have e := sorted_eq (a.pm.map (·.1)) (b.pm.map (·.1)) a.so b.so
  have key : ∀ {X Y : Rws}, X.map (·.1) = Y.map (·.1) → (∀ x ∈ X, x ∈ R) → (∀ y ∈ Y, y ∈ R) → X = Y := by
    intro X
    induction X with
    | nil =>
      intro Y h _ _
      cases Y with
      | nil => rfl
      | cons _ _ => cases h
    | cons x X ih =>
      intro Y h h1 h2
      cases Y with
      | nil => cases h
      | cons y Y =>
        obtain ⟨xn, xp⟩ := x
        obtain ⟨yn, yp⟩ := y
        obtain ⟨e1, e2⟩ := List.cons.inj h
        obtain rfl : xn = yn := e1
        have : xp = yp := nodup_uniq nd (h1 _ List.mem_cons_self) (h2 _ List.mem_cons_self)
        rw [this, ih e2 (fun x hx => h1 x (List.mem_cons_of_mem _ hx)) (fun x hx => h2 x (List.mem_cons_of_mem _ hx))]
  exact key e (fun x hx => a.pm.mem_iff.mp hx) (fun x hx => b.pm.mem_iff.mp hx)
theorem Srd.nodup {R S : Rws} (nd : (R.map (·.1)).Nodup) (a : Srd R S) : (S.map (·.1)).Nodup := (a.pm.map (·.1)).nodup_iff.mpr nd
/-- a span of an interval -/
def SpOk (T : Int) (r : Str × Int × Int) : Prop := 1 ≤ r.2.2 - r.2.1 ∧ r.2.2 - r.2.1 ≤ 8 * T
def Near (c : Int) (r : Str × Int × Int) : Prop := -c ≤ r.2.1 ∧ r.2.2 ≤ c
def Fin1 (t : Int) (r : Str × Int × Int) : Prop := Near 1000 r ∧ -t ≤ r.2.1 ∧ r.2.2 ≤ 11 * t
end K44
namespace K44
open PySem L2
open PyProof.Rows PySem.Spec
abbrev tx (cs : List Nat) : Str := ⟨cs.toArray⟩
abbrev chV (c : Nat) : V := V.str ⟨#[c]⟩
def LETC : List Nat := [97, 98, 99, 100, 101, 102, 103, 104, 105, 106, 107, 108, 109, 110, 111, 112, 113, 114, 115, 116, 117, 118, 119, 120, 121, 122]
def low (cs : List Nat) : Prop := ∀ c ∈ cs, 97 ≤ c ∧ c ≤ 122
theorem low_letc : low LETC := by
  show ∀ c ∈ LETC, 97 ≤ c ∧ c ≤ 122
  decide
theorem nd_letc : LETC.Nodup := by decide
theorem letters_eq : ((Str.ofString "abcdefghijklmnopqrstuvwxyz").cps.toList.map fun c => V.str ⟨#[c]⟩) = LETC.map chV := by rfl
theorem tx_inj {a b : List Nat} (h : tx a = tx b) : a = b := by
  have : a.toArray = b.toArray := congrArg Str.cps h
  exact congrArg Array.toList this
theorem ch_inj {a b : Nat} (h : chV a = chV b) : a = b := by
  have h1 : (⟨#[a]⟩ : Str) = ⟨#[b]⟩ := V.str.inj h
  have h2 : (#[a] : Array Nat) = #[b] := congrArg Str.cps h1
  simpa using h2
theorem join_ones : ∀ cs : List Nat, Txt.join (Str.ofString "") (cs.map fun c => (⟨#[c]⟩ : Str)) = tx cs := by
  have e0 : Str.ofString "" = Str.empty := by rfl
  have key : ∀ cs : List Nat, Str.join Str.empty (cs.map fun c => (⟨#[c]⟩ : Str)) = tx cs := by
    intro cs
    induction cs with
    | nil => rfl
    | cons c cs ih =>
      cases cs with
      | nil => rfl
      | cons d cs =>
        show (⟨#[c]⟩ : Str) ++ Str.empty ++ Str.join Str.empty ((d :: cs).map fun c => (⟨#[c]⟩ : Str)) = _
        rw [ih]
        show (⟨(#[c] ++ (#[] : Array Nat)) ++ (d :: cs).toArray⟩ : Str) = ⟨(c :: d :: cs).toArray⟩
        simp
  intro cs
  rw [TL.join_eq, e0, key]
theorem nmC_tx {cs : List Nat} (h1 : 1 ≤ cs.length) (h2 : cs.length ≤ 8) (h : low cs) : nmC (tx cs) = true := by
  unfold nmC
  have e : (tx cs).length = cs.length := by show (cs.toArray).size = _; simp
  rw [e, decide_eq_true ⟨h1, h2⟩, Bool.true_and, List.all_eq_true]
  intro c hc
  have hc' : c ∈ cs := by simpa using hc
  rw [decide_eq_true (h c hc').1, decide_eq_true (h c hc').2]
  rfl
theorem sub_map {α : Type} {f : α → V} {xs : List α} : ∀ {ys : List V}, (∀ y ∈ ys, y ∈ xs.map f) → ∃ cs : List α, ys = cs.map f ∧ ∀ c ∈ cs, c ∈ xs
  | [], _ => ⟨[], rfl, fun _ h => by cases h⟩
  | y :: ys, h => by
    obtain ⟨cs, e, m⟩ := sub_map (ys := ys) fun z hz => h z (List.mem_cons_of_mem _ hz)
    obtain ⟨c, hc, e2⟩ := List.mem_map.mp (h y List.mem_cons_self)
    refine ⟨c :: cs, by rw [List.map_cons, e, e2], fun d hd => ?_⟩
    rcases List.mem_cons.mp hd with rfl | hd
    · exact hc
    · exact m d hd
theorem nd_of_map {α β : Type} {f : α → β} {cs : List α} (h : (cs.map f).Nodup) : cs.Nodup := by
  unfold List.Nodup at h ⊢
  rw [List.pairwise_map] at h
  exact h.imp fun hab e => hab (by rw [e])
theorem nd_map {α β : Type} {f : α → β} {cs : List α} (inj : ∀ a ∈ cs, ∀ b ∈ cs, f a = f b → a = b) (h : cs.Nodup) : (cs.map f).Nodup := by
  induction cs with
  | nil => exact List.nodup_nil
  | cons c cs ih =>
    rw [List.nodup_cons] at h
    rw [List.map_cons, List.nodup_cons]
    refine ⟨fun hm => ?_, ih (fun a ha b hb => inj a (List.mem_cons_of_mem _ ha) b (List.mem_cons_of_mem _ hb)) h.2⟩
    obtain ⟨d, hd, e⟩ := List.mem_map.mp hm
    have := inj d (List.mem_cons_of_mem _ hd) c List.mem_cons_self e
    exact h.1 (this ▸ hd)
theorem few_of {α : Type} {f : α → V} {xs : List α} (inj : ∀ a ∈ xs, ∀ b ∈ xs, f a = f b → a = b) (nd : xs.Nodup) {ys rest : List V} (pm : (xs.map f).Perm (ys ++ rest)) : ∃ cs : List α, ys = cs.map f ∧ (∀ c ∈ cs, c ∈ xs) ∧ cs.Nodup := by
  obtain ⟨cs, rfl, m⟩ := sub_map (f := f) (xs := xs) (ys := ys) fun y hy => pm.mem_iff.mpr (List.mem_append_left _ hy)
  exact ⟨cs, rfl, m, nd_of_map (List.nodup_append.mp (pm.nodup_iff.mp (nd_map inj nd))).1⟩
theorem few_letters {ys rest : List V} (pm : (LETC.map chV).Perm (ys ++ rest)) : ∃ cs : List Nat, ys = cs.map chV ∧ low cs ∧ cs.Nodup := by
  obtain ⟨cs, e, m, nd⟩ := few_of (fun a _ b _ h => ch_inj h) nd_letc pm
  exact ⟨cs, e, fun c hc => low_letc c (m c hc), nd⟩
theorem chs_map (cs : List Nat) : cs.map chV = (cs.map fun c => (⟨#[c]⟩ : Str)).map V.str := by
  rw [List.map_map]
  rfl
theorem ones_len (cs : List Nat) : ((cs.map fun c => (⟨#[c]⟩ : Str)).map (·.length)).sum = cs.length := by
  induction cs with
  | nil => rfl
  | cons c cs ih =>
    rw [List.map_cons, List.map_cons, List.sum_cons, ih, List.length_cons]
    show 1 + cs.length = cs.length + 1
    omega
theorem cut_tx (cs : List Nat) (k : Nat) : cutS (tx cs) none (some (k : Int)) = tx (cs.take k) := by
  unfold cutS
  rw [HT.sIx_none, HT.sIx_nat]
  have e : (tx cs).length = cs.length := by show (cs.toArray).size = _; simp
  rw [e]
  show (⟨((cs.toArray.toList.drop 0).take (min k cs.length - 0)).toArray⟩ : Str) = _
  simp only [List.drop_zero, Nat.sub_zero]
  congr 2
  show cs.take (min k cs.length) = cs.take k
  rcases Nat.le_total k cs.length with h | h
  · rw [Nat.min_eq_left h]
  · rw [Nat.min_eq_right h, List.take_length, List.take_of_length_le h]
section
variable {P : Program} {w : World} {K : PySem.W.Frag}
                                                      {mg : Str → Option Value} {base : Heap}
/-- the names: different, each a name -/
def sp_w_names (K : PySem.W.Frag) : Sp := fun vs H Q _ => ∃ (r : Addr) (many : Nat), vs = [.ref r, .int (many : Int)] ∧ Rl H r ∧ 1 ≤ many ∧ many ≤ 8 ∧
  ∀ l (ns : List Str) H', Rl H' r → Only r H H' → H l = none → H' l = some (.lst (ns.map V.str)) → ns.Nodup → ns.length = many → (∀ n ∈ ns, nmC n = true) → Q (.ref l) H'
theorem ok_w_names (T : T K mg) : FnOk P w K mg base CX0 3 T.f_w_names T.d_w_names ["tray", "many"] (sp_w_names K) := by
  have G_w_few : FnOk P w K mg base CX0 2 T.f_w_few T.d_w_few ["tray", "items", "many"] (sp_w_few K) := ok_w_few T
  have G_w_pick : FnOk P w K mg base CX0 2 T.f_w_pick T.d_w_pick ["tray", "items"] (sp_w_pick K) := ok_w_pick T
  have G_w_roll : FnOk P w K mg base CX0 1 T.f_w_roll T.d_w_roll ["tray", "total"] (sp_w_roll K) := ok_w_roll T
  refine T.F_w_names.ok sc_w_names (fun vs H Q E h => ?_) (fun cdv A outer s H vs Q E hr h => ?_)
  · obtain ⟨r, many, rfl, _⟩ := h
    rfl
  · obtain ⟨r, many, rfl, hR, m1, m8, k⟩ := h
    have hu := hu_of hr
    have hr_w_few : Room 2 _ := hr.mono (by decide)
    have hr_w_pick : Room 2 _ := hr.mono (by decide)
    have hr_w_roll : Room 1 _ := hr.mono (by decide)
    refine ⟨_, (pss_cons (ps_set (i := 2) sc_w_names.nd rfl (Or.inr rfl) (pe_callTy (RL.cr_listStr rfl) (by rfl) T.z_list (by decide +kernel) (pa_cons pe_str pa_nil)))
      (pss_cons (ps_if (pt_cmpR op_eq (pe_call G_w_roll hr_w_roll rfl T.m_w_roll T.F_w_roll.kp T.b_w_roll .nil pass0 (pa_cons (pv 0) (pa_cons pe_int pa_nil))) pe_int (nomark _))
      (pss_cons (ps_set (i := 3) sc_w_names.nd rfl (Or.inr rfl) (pe_join pe_str (pe_lc (own := [("turn", 6)]) (g := gName 6) rfl sc_w_names.nd (pi_range1 (by rfl) T.z_range (pa_cons pe_int pa_nil)) (blkOk_by (N := ["tray", "many", "letters", "stem", "found", "letter", "turn", "size"]) (sc := defScope s_w_names) (by decide +kernel)) (fun _ _ _ _ _ => (pg_name (i := 6) sc_w_names.nd rfl (Or.inl rfl))) (fun _ _ _ _ _ => pts_nil) (fun _ _ _ _ _ => (pe_call G_w_pick hr_w_pick rfl T.m_w_pick T.F_w_pick.kp T.b_w_pick .nil pass0 (pa_cons (pv 0) (pa_cons (pv 2) pa_nil)))))))
      (pss_one (ps_ret (pe_lc (own := [("size", 7)]) (g := gName 7) rfl sc_w_names.nd (pi_list (pe_call G_w_few hr_w_few rfl T.m_w_few T.F_w_few.kp T.b_w_few .nil pass0 (pa_cons (pv 0) (pa_cons (pe_lst (pa_cons pe_int (pa_cons pe_int (pa_cons pe_int (pa_cons pe_int (pa_cons pe_int (pa_cons pe_int (pa_cons pe_int (pa_cons pe_int pa_nil))))))))) (pa_cons (pv 1) pa_nil))))) (blkOk_by (N := ["tray", "many", "letters", "stem", "found", "letter", "turn", "size"]) (sc := defScope s_w_names) (by decide +kernel)) (fun _ _ _ _ _ => (pg_name (i := 7) sc_w_names.nd rfl (Or.inl rfl))) (fun _ _ _ _ _ => pts_nil) (fun _ _ _ _ _ => (pe_slice sl_str (pv 3) po_none (po_some (pv 7))))))))
      pss_nil)
      (pss_cons (ps_asg (pe_tup (pa_cons (pe_join pe_str (pe_call G_w_few hr_w_few rfl T.m_w_few T.F_w_few.kp T.b_w_few .nil pass0 (pa_cons (pv 0) (pa_cons (pv 2) (pa_cons (pe_call G_w_roll hr_w_roll rfl T.m_w_roll T.F_w_roll.kp T.b_w_roll .nil pass0 (pa_cons (pv 0) (pa_cons pe_int pa_nil))) pa_nil))))) (pa_cons (pe_lst pa_nil) pa_nil))) (pg_tup rfl (pgs_cons (pg_name (i := 3) sc_w_names.nd rfl (Or.inr rfl)) (pgs_cons (pg_name (i := 4) sc_w_names.nd rfl (Or.inl rfl)) pgs_nil))))
      (pss_cons (ps_for PassesOwn.never rfl (pi_list (pe_call G_w_few hr_w_few rfl T.m_w_few T.F_w_few.kp T.b_w_few .nil pass0 (pa_cons (pv 0) (pa_cons (pv 2) (pa_cons (pv 1) pa_nil))))) (pg_name (i := 5) sc_w_names.nd rfl (Or.inl rfl))
      (pss_one (ps_expr (pe_bm PySem.F.plainAttrs_list PySem.F.slot_list_append PySem.F.type_list_append mt_append (pv 4) (pa_cons (pe_op op_add_str (pe_op op_add_str (pv 3) (pv 5)) (pe_join pe_str (pe_call G_w_few hr_w_few rfl T.m_w_few T.F_w_few.kp T.b_w_few .nil pass0 (pa_cons (pv 0) (pa_cons (pv 2) (pa_cons (pe_call G_w_pick hr_w_pick rfl T.m_w_pick T.F_w_pick.kp T.b_w_pick .nil pass0 (pa_cons (pv 0) (pa_cons (pe_lst (pa_cons pe_int (pa_cons pe_int (pa_cons pe_int (pa_cons pe_int (pa_cons pe_int pa_nil)))))) pa_nil))) pa_nil)))))) pa_nil)))))
      (pss_one (ps_ret (pv 4))))))), ?_⟩
    refine ⟨_, rfl, by show 26 ≤ sizeLine; decide, fun la hla => ?_⟩
    have S0 : Same H (upd H la (.lst (LETC.map chV))) := Same.new hla
    have e0 : (upd H la (.lst (LETC.map chV))) la = some (.lst (LETC.map chV)) := upd_same
    have R0 := Same.rl S0 hR
    have nla : la ≠ r := hR.ne hla
    rw [letters_eq]
    generalize upd H la (.lst (LETC.map chV)) = H0 at S0 e0 R0 ⊢
    refine ⟨_, rfl, r, 4, rfl, R0, by decide, by decide +kernel, fun v H1 v0 v1 R1 O1 => ⟨rfl, _, rfl, ?_⟩⟩
    have e1 := O1 _ _ nla e0
    refine ite2 (fun c => ?_) (fun c => ?_)
    · clear c
      refine ⟨⟨_, rfl⟩, ?_⟩
      refine ⟨_, rfl, by decide, by decide, fun D hD => ?_⟩
      have nDr : D ≠ r := R1.ne hD
      have nDa : la ≠ D := ne_of_none e1 hD
      refine lc_range (n := 8) (fun i H' => ∃ cs : List Nat, cs.length = i ∧ low cs ∧ H' D = some (.lst (cs.map chV)) ∧ Rl H' r ∧ Only r H1 H') ⟨[], rfl, (fun _ h => by cases h), upd_same, R1.new hD, Only.new hD⟩ ?_ ?_
      · rintro i H2 hi ⟨cs, lc, lw, eD, R2, O2⟩
        refine ⟨rfl, ?_⟩
        unfold tYes
        dsimp only
        rw [if_pos rfl]
        refine ⟨_, rfl, _, rfl, r, _, LETC.map chV, rfl, R2, .inl ⟨la, rfl, nla, .inl (SqL.of (O2 _ _ nla e1))⟩, by decide, by decide, fun u H3 hu3 R3 O3 => ?_⟩
        obtain ⟨c, hc, rfl⟩ := List.mem_map.mp hu3
        refine ⟨_, O3 _ _ nDr eD, by rw [List.length_map, lc, sizeLine_eq]; omega, cs ++ [c], by rw [List.length_append, lc]; rfl, ?_, by rw [upd_same, List.map_append]; rfl, ?_, ?_⟩
        · intro d hd
          rcases List.mem_append.mp hd with hd | hd
          · exact lw d hd
          · rw [List.mem_singleton.mp hd]
            exact low_letc c hc
        · obtain ⟨x1, x2, x3, q⟩ := R3
          exact ⟨x1, x2, x3, by rw [upd_ne nDr.symm]; exact q⟩
        · intro b o nb e
          rw [upd_ne (ne_of_none e hD)]
          exact O3 _ _ nb (O2 _ _ nb e)
      · rintro H2 ⟨cs, lc, lw, eD, R2, O2⟩
        refine ⟨_, D, cs.map fun c => (⟨#[c]⟩ : Str), rfl, rfl, .inl (SqL.of (by rw [eD, chs_map])), by rw [ones_len, lc, List.length_map, lc]; decide, ?_⟩
        rw [join_ones]
        refine ⟨_, rfl, by show 8 ≤ sizeLine; decide, fun l8 hl8 => ?_⟩
        have n8 : l8 ≠ r := R2.ne hl8
        refine ⟨_, rfl, r, l8, _, many, rfl, R2.new hl8, .inl (SqL.of upd_same), by decide, by omega, by omega, fun l' ys rest H3 R3 O3 hl' el' pm ly => ?_⟩
        have O23 : Only r H2 H3 := Only.trans (Only.new hl8) O3
        have O13 : Only r H1 H3 := Only.trans O2 O23
        have nl'r : l' ≠ r := by
          have := R2.new (o := .lst [V.int 1, .int 2, .int 3, .int 4, .int 5, .int 6, .int 7, .int 8]) hl8
          exact this.ne hl'
        obtain ⟨ks, rfl, mk, ndk⟩ := few_of (f := fun n : Nat => V.int (n : Int)) (xs := [1, 2, 3, 4, 5, 6, 7, 8]) (fun a _ b _ h => by have := V.int.inj h; omega) (by decide) pm
        rw [List.length_map] at ly
        have lk : ks.length = many := by
          have h8 : (if ((([V.int 1, .int 2, .int 3, .int 4, .int 5, .int 6, .int 7, .int 8] : List V).length : Nat) : Int) < (many : Int) then ((([V.int 1, .int 2, .int 3, .int 4, .int 5, .int 6, .int 7, .int 8] : List V).length : Nat) : Int) else (many : Int)) = many := by
            show (if ((8 : Nat) : Int) < (many : Int) then _ else _) = _
            rw [if_neg (by omega)]
          have := ly.trans h8
          omega
        refine ⟨l', rfl, ⟨_, SqL.of el'⟩, fun F hF => ?_⟩
        have nFl : l' ≠ F := ne_of_none el' hF
        refine lc_list (xs := ks.map fun n : Nat => V.int (n : Int)) (fun i H' => H' F = some (.lst ((ks.take i).map fun n => V.str (tx (cs.take n)))) ∧ Same H3 H') ⟨upd_same, Same.new hF⟩ (fun i H' _ h => SqL.of (h.2 _ _ el')) ?_ ?_
        · rintro i x H4 hx ⟨eF, S4⟩
          refine ⟨rfl, ?_⟩
          unfold tYes
          dsimp only
          rw [if_pos rfl]
          rw [List.getElem?_map] at hx
          cases e2 : ks[i]? with
          | none => rw [e2] at hx; cases hx
          | some n =>
            rw [e2] at hx
            cases hx
            refine ⟨_, rfl, _, rfl, _, rfl, _, rfl, by show (cs.toArray).size ≤ sizeLine; rw [List.size_toArray, lc]; decide, ?_⟩
            rw [cut_tx]
            have li : i < ks.length := (List.getElem?_eq_some_iff.mp e2).1
            refine ⟨_, eF, by rw [List.length_map, List.length_take, sizeLine_eq]; omega, ?_, Same.at hF S4⟩
            rw [upd_same, List.take_add_one, e2, List.map_append]
            rfl
        · rintro H4 ⟨eF, S4⟩
          rw [List.length_map, List.take_length] at eF
          refine k F (ks.map fun n => tx (cs.take n)) H4 (Same.rl S4 R3) ?_ ?_ (by rw [eF, List.map_map]; rfl) ?_ (by rw [List.length_map, lk]) ?_
          · exact Only.trans (Only.trans (Same.only S0) (Only.trans O1 O13)) (Same.only S4)
          · cases e5 : H F with
            | none => rfl
            | some o =>
              have nFr : F ≠ r := fun z => by rw [z] at hF; obtain ⟨_, _, _, q⟩ := R3; rw [q] at hF; cases hF
              have := O13 _ _ nFr (O1 _ _ nFr (S0 _ _ e5))
              rw [this] at hF
              cases hF
          · refine nd_map (fun a ha b hb e => ?_) ndk
            have ha' := mk a ha
            have hb' := mk b hb
            have e6 := congrArg List.length (tx_inj e)
            rw [List.length_take, List.length_take, lc] at e6
            simp only [List.mem_cons, List.not_mem_nil, or_false] at ha' hb'
            omega
          · intro n hn
            obtain ⟨m, hm, rfl⟩ := List.mem_map.mp hn
            have hm' := mk m hm
            simp only [List.mem_cons, List.not_mem_nil, or_false] at hm'
            refine nmC_tx ?_ ?_ fun c hc => lw c (List.mem_of_mem_take hc)
            · rw [List.length_take, lc]; omega
            · rw [List.length_take, lc]; omega
    · clear c
      refine ⟨⟨_, rfl⟩, ?_⟩
      refine ⟨_, rfl, _, rfl, _, rfl, r, 4, rfl, R1, by decide, by decide +kernel, fun u H2 u0 u1 R2 O2 => ?_⟩
      have e2 := O2 _ _ nla e1
      refine ⟨r, la, _, u, rfl, R2, .inl (SqL.of e2), by decide, u0, by omega, fun l' ys rest H3 R3 O3 hl' el' pm ly => ?_⟩
      obtain ⟨ss, rfl, ls, _⟩ := few_letters pm
      have lss : ss.length ≤ 3 := by
        rw [List.length_map] at ly
        have e26 : (LETC.map chV).length = 26 := rfl
        rw [e26, if_neg (by omega)] at ly
        omega
      refine ⟨_, l', ss.map fun c => (⟨#[c]⟩ : Str), rfl, rfl, .inl (SqL.of (by rw [el', chs_map])), by rw [ones_len, List.length_map]; show ss.length + ss.length * 0 ≤ _; omega, ?_⟩
      rw [join_ones]
      have e3 := O3 _ _ nla e2
      refine ⟨by show 0 ≤ sizeLine; decide, fun f hf => ⟨by show 2 ≤ sizeLine; decide, fun t ht => ?_⟩⟩
      have nfr : f ≠ r := R3.ne hf
      have nfa : la ≠ f := ne_of_none e3 hf
      have nft : f ≠ t := ne_of_none (upd_same (a := f) (H := H3) (o := .lst [])) ht
      have htu := ht
      rw [upd_ne nft.symm] at ht
      have S3 : Same H3 (upd (upd H3 f (.lst [])) t (.tup [V.str (tx ss), V.ref f])) := fun b o e => by
        rw [upd_ne (ne_of_none e ht), upd_ne (ne_of_none e hf)]
        exact e
      have ef : (upd (upd H3 f (.lst [])) t (.tup [V.str (tx ss), V.ref f])) f = some (.lst []) := by rw [upd_ne nft, upd_same]
      refine ⟨t, _, rfl, SqT.of upd_same, rfl, _, _, rfl, ?_⟩
      have R4 := Same.rl S3 R3
      have e4 := S3 _ _ e3
      have O14 : Only r H1 (upd (upd H3 f (.lst [])) t (.tup [V.str (tx ss), V.ref f])) := Only.trans (Only.trans O2 O3) (Same.only S3)
      have hf1 : H f = none := by
        cases e5 : H f with
        | none => rfl
        | some o =>
          have := O3 _ _ nfr (O2 _ _ nfr (O1 _ _ nfr (S0 _ _ e5)))
          rw [this] at hf
          cases hf
      generalize upd (upd H3 f (.lst [])) t (.tup [V.str (tx ss), V.ref f]) = H4 at S3 ef R4 e4 O14 ⊢
      refine ⟨_, _, rfl, rfl, ?_⟩
      refine ⟨_, rfl, _, rfl, _, rfl, r, la, _, many, rfl, R4, .inl (SqL.of e4), by decide, by omega, by omega, fun lm ys rest H5 R5 O5 hlm elm pm ly => ?_⟩
      obtain ⟨cs, rfl, lc, ndc⟩ := few_letters pm
      have lcm : cs.length = many := by
        rw [List.length_map] at ly
        have e26 : (LETC.map chV).length = 26 := rfl
        rw [e26, if_neg (by omega)] at ly
        omega
      have ef5 := O5 _ _ nfr ef
      have e5 := O5 _ _ nla e4
      have nlm : lm ≠ r := R4.ne hlm
      have nlf : lm ≠ f := fun z => by rw [z, ef] at hlm; cases hlm
      refine ⟨lm, rfl, ⟨_, SqL.of elm⟩, for_list (xs := cs.map chV) (fun i σ H' => (∃ v, σ = [some (.ref r), some (.int many), some (.ref la), some (.str (tx ss)), some (.ref f), v, none, none]) ∧ Rl H' r ∧ (∀ b o, b ≠ r → b ≠ f → H5 b = some o → H' b = some o) ∧
        ∃ ps : List (Nat × List Nat), ps.map (·.1) = cs.take i ∧ H' f = some (.lst (ps.map fun p => V.str (tx (ss ++ p.1 :: p.2)))) ∧ ∀ p ∈ ps, low p.2 ∧ p.2.length ≤ 4)
        ⟨⟨none, rfl⟩, R5, (fun b o _ _ e => e), [], rfl, ef5, fun _ h => by cases h⟩ (fun i σ H' _ h => SqL.of (h.2.2.1 _ _ nlm nlf elm)) ?_ ?_⟩
      · rintro i x σ' H6 hx ⟨⟨v', rfl⟩, R6, O6, ps, ep, ef6, hps⟩
        rw [List.getElem?_map] at hx
        cases ec : cs[i]? with
        | none => rw [ec] at hx; cases hx
        | some c =>
          rw [ec] at hx
          cases hx
          have li : i < cs.length := (List.getElem?_eq_some_iff.mp ec).1
          have hc : 97 ≤ c ∧ c ≤ 122 := lc c (List.mem_of_getElem? ec)
          refine ⟨_, rfl, .inl ⟨rfl, _, SqL.of ef6⟩, ?_⟩
          have l1 : (tx ss).length = ss.length := by show (ss.toArray).size = _; simp
          refine ⟨_, rfl, _, rfl, _, _, rfl, rfl, by rw [l1, sizeLine_eq]; show ss.length + 1 ≤ _; omega, ?_⟩
          refine ⟨⟨_, rfl⟩, _, rfl, _, rfl, _, rfl, by show 5 ≤ sizeLine; decide, fun l5 hl5 => ?_⟩
          have R7 : Rl (upd H6 l5 (.lst [V.int 0, .int 0, .int 1, .int 2, .int 4])) r := R6.new hl5
          refine ⟨r, _, [V.int 0, .int 0, .int 1, .int 2, .int 4], rfl, R7, .inl ⟨l5, rfl, R6.ne hl5, .inl (SqL.of upd_same)⟩, by decide, by show 5 ≤ sizeLine; decide, fun pv' H7 hpv R8 O8 => ?_⟩
          have eL : H6 la = some (.lst (LETC.map chV)) := O6 _ _ nla nfa e5
          obtain ⟨n4, rfl, h0, h4⟩ : ∃ n : Int, pv' = .int n ∧ 0 ≤ n ∧ n ≤ 4 := by
            simp only [List.mem_cons, List.not_mem_nil, or_false] at hpv
            rcases hpv with rfl | rfl | rfl | rfl | rfl
            · exact ⟨0, rfl, by decide, by decide⟩
            · exact ⟨0, rfl, by decide, by decide⟩
            · exact ⟨1, rfl, by decide, by decide⟩
            · exact ⟨2, rfl, by decide, by decide⟩
            · exact ⟨4, rfl, by decide, by decide⟩
          have O67 : Only r H6 H7 := Only.trans (Only.new hl5) O8
          refine ⟨r, la, _, n4, rfl, R8, .inl (SqL.of (O67 _ _ nla eL)), by decide, h0, by omega, fun lt ys rest H8 R9 O9 hlt elt pm ly => ?_⟩
          obtain ⟨ts, rfl, lt4, _⟩ := few_letters pm
          have ltl : ts.length ≤ 4 := by
            rw [List.length_map] at ly
            have e26 : (LETC.map chV).length = 26 := rfl
            rw [e26, if_neg (by omega)] at ly
            omega
          refine ⟨_, lt, ts.map fun c => (⟨#[c]⟩ : Str), rfl, rfl, .inl (SqL.of (by rw [elt, chs_map])), by rw [ones_len, List.length_map]; show ts.length + ts.length * 0 ≤ _; omega, ?_⟩
          rw [join_ones]
          have l2 : (tx ts).length = ts.length := by show (ts.toArray).size = _; simp
          refine ⟨_, _, rfl, rfl, ?_, ?_⟩
          · show ((ss.toArray ++ #[c]).size + ts.toArray.size) ≤ sizeLine
            simp only [Array.size_append, List.size_toArray, sizeLine_eq]
            show ss.length + 1 + ts.length ≤ _
            omega
          have ecat : (tx ss ++ (⟨#[c]⟩ : Str)) ++ tx ts = tx (ss ++ c :: ts) := by
            show (⟨(ss.toArray ++ #[c]) ++ ts.toArray⟩ : Str) = ⟨(ss ++ c :: ts).toArray⟩
            simp
          rw [ecat]
          have O68 : Only r H6 H8 := Only.trans O67 O9
          refine ⟨f, _, _, rfl, rfl, O68 _ _ nfr ef6, ?_, ⟨_, rfl⟩, ?_, ?_, ps ++ [(c, ts)], ?_, ?_, ?_⟩
          · rw [List.length_map, sizeLine_eq]
            have := congrArg List.length ep
            rw [List.length_map, List.length_take] at this
            omega
          · obtain ⟨x1, x2, x3, q⟩ := R9
            exact ⟨x1, x2, x3, by rw [upd_ne nfr.symm]; exact q⟩
          · intro b o nb nbf e
            rw [upd_ne nbf]
            exact O68 _ _ nb (O6 _ _ nb nbf e)
          · rw [List.map_append, ep, List.take_add_one, ec]
            rfl
          · rw [upd_same, List.map_append]
            rfl
          · intro p hp
            rcases List.mem_append.mp hp with hp | hp
            · exact hps p hp
            · rw [List.mem_singleton.mp hp]
              exact ⟨lt4, ltl⟩
      · rintro σ' H6 ⟨⟨v', rfl⟩, R6, O6, ps, ep, ef6, hps⟩
        rw [List.length_map, List.take_length] at ep
        refine ⟨_, rfl, k f (ps.map fun p => tx (ss ++ p.1 :: p.2)) H6 R6 ?_ hf1 (by rw [ef6, List.map_map]; rfl) ?_ (by rw [List.length_map, ← lcm, ← ep, List.length_map]) ?_⟩
        · intro b o nb e
          have nbf : b ≠ f := ne_of_none e hf1
          exact O6 _ _ nb nbf (O5 _ _ nb (O14 _ _ nb (O1 _ _ nb (S0 _ _ e))))
        · have ndp : (ps.map (·.1)).Nodup := by rw [ep]; exact ndc
          refine nd_map (fun a ha b hb e => ?_) (nd_of_map ndp)
          have e7 := tx_inj e
          have e8 := List.append_cancel_left e7
          obtain ⟨e9, e10⟩ := List.cons.inj e8
          obtain ⟨a1, a2⟩ := a
          obtain ⟨b1, b2⟩ := b
          simp only at e9 e10
          rw [e9, e10]
        · intro n hn
          obtain ⟨p, hp, rfl⟩ := List.mem_map.mp hn
          obtain ⟨q1, q2⟩ := hps p hp
          have hpc : p.1 ∈ cs := by rw [← ep]; exact List.mem_map.mpr ⟨p, hp, rfl⟩
          refine nmC_tx (by rw [List.length_append, List.length_cons]; omega) (by rw [List.length_append, List.length_cons]; omega) fun c hc => ?_
          rcases List.mem_append.mp hc with hc | hc
          · exact ls c hc
          · rcases List.mem_cons.mp hc with rfl | hc
            · exact lc _ hpc
            · exact q1 c hc
end
end K44
namespace K44
open PySem L2
open PyProof.Rows PySem.Spec
section
variable {P : Program} {w : World} {K : PySem.W.Frag}
                                                      {mg : Str → Option Value} {base : Heap}
/-- pairs (name, the tuple of the name) -/
def PairsAt (H : Hp) (ps : List Addr) (L : List (Str × Addr)) : Prop := Paired (fun p q => H p = some (.tup [.str q.1, .ref q.2])) ps L
theorem PairsAt.keep {H H' : Hp} (k : KT H H') {ps : List Addr} {L : List (Str × Addr)} (h : PairsAt H ps L) : PairsAt H' ps L := by
  unfold PairsAt at h ⊢
  induction h with
  | nil => exact .nil
  | cons a b ih => exact .cons (k _ _ a) ih
theorem PairsAt.snoc {H : Hp} {ps : List Addr} {L : List (Str × Addr)} (h : PairsAt H ps L) {p t : Addr} {n : Str} (q : H p = some (.tup [.str n, .ref t])) : PairsAt H (ps ++ [p]) (L ++ [(n, t)]) := by
  unfold PairsAt at h ⊢
  induction h with
  | nil => exact .cons q .nil
  | cons a b ih => exact .cons a ih
theorem PairsAt.pd {K : PySem.W.Frag} {H : Hp} {ps : List Addr} {L : List (Str × Addr)} (h : PairsAt H ps L) : Paired (fun p kv => SqT K H p [kV kv.1, kv.2]) ps (Kvs L) := by
  unfold PairsAt at h
  induction h with
  | nil => exact .nil
  | cons a b ih => exact .cons (SqT.of a) ih
/-- the rows that some names have -/
def pickR (R : Rws) (ns : List Str) : Rws := ns.map fun n => (n, (R.lookup n).getD (0, 0))
theorem lookup_mem : ∀ {R : Rws} {n : Str} {p : Int × Int}, (R.map (·.1)).Nodup → (n, p) ∈ R → R.lookup n = some p
  | [], _, _, _, h => by cases h
  | (m, u) :: R, n, p, nd, h => by
    rw [List.map_cons, List.nodup_cons] at nd
    rcases List.mem_cons.mp h with e | e
    · cases e
      exact List.lookup_cons_self
    · have hne : (n == m) = false := by
        rw [beq_eq_false_iff_ne]
        rintro rfl
        exact nd.1 (List.mem_map.mpr ⟨_, e, rfl⟩)
      rw [List.lookup_cons, hne]
      exact lookup_mem nd.2 e
theorem pickR_names (R : Rws) (ns : List Str) : (pickR R ns).map (·.1) = ns := by
  unfold pickR
  rw [List.map_map]
  exact List.map_id' _
theorem pickR_mem {R : Rws} {ns : List Str} (nd : (R.map (·.1)).Nodup) (sub : ∀ n ∈ ns, n ∈ R.map (·.1)) : ∀ x ∈ pickR R ns, x ∈ R := by
  intro x hx
  obtain ⟨n, hn, rfl⟩ := List.mem_map.mp hx
  obtain ⟨⟨m, p⟩, hm, e⟩ := List.mem_map.mp (sub n hn)
  obtain rfl : m = n := e
  rw [lookup_mem nd hm]
  exact hm
theorem pickR_perm {R : Rws} {ns : List Str} (nd : (R.map (·.1)).Nodup) (pm : ns.Perm (R.map (·.1))) : (pickR R ns).Perm R := by
  have e : pickR R (R.map (·.1)) = R := by
    unfold pickR
    rw [List.map_map]
    have : ∀ x ∈ R, ((fun n => (n, (R.lookup n).getD (0, 0))) ∘ fun x => x.1) x = x := by
      rintro ⟨n, p⟩ hx
      show (n, (R.lookup n).getD (0, 0)) = (n, p)
      rw [lookup_mem nd hx]
      rfl
    rw [List.map_congr_left this]
    exact List.map_id' _
  have := pm.map fun n => (n, (R.lookup n).getD (0, 0))
  unfold pickR at e
  rw [e] at this
  exact this
theorem pickR_snoc (R : Rws) (ns : List Str) (n : Str) {p : Int × Int} (h : R.lookup n = some p) : pickR R (ns ++ [n]) = pickR R ns ++ [(n, p)] := by
  unfold pickR
  rw [List.map_append]
  show _ ++ [(n, (R.lookup n).getD (0, 0))] = _
  rw [h]
  rfl
def sp_w_sorted (K : PySem.W.Frag) : Sp := fun vs H Q _ => ∃ (d : Addr) (L : List (Str × Addr)) (R : Rws), vs = [.ref d] ∧ H d = some (.dK (Kvs L)) ∧ Tups H L R ∧ (R.map (·.1)).Nodup ∧ R.length ≤ 8 ∧
  ∀ d' L' S H', Same H H' → H d' = none → H' d' = some (.dK (Kvs L')) → Tups H' L' S → Srd R S → Q (.ref d') H'
theorem ok_w_sorted (T : T K mg) : FnOk P w K mg base CX0 1 T.f_w_sorted T.d_w_sorted ["rows"] (sp_w_sorted K) := by
  refine T.F_w_sorted.ok sc_w_sorted (fun vs H Q E h => ?_) (fun cdv A outer s H vs Q E hr h => ?_)
  · obtain ⟨d, L, R, rfl, _⟩ := h
    rfl
  · obtain ⟨d, L, R, rfl, hd, ts, nd, l8, k⟩ := h
    have hu := hu_of hr
    refine ⟨_, (pss_one (ps_ret (pe_callTy (call_dictP rfl) (by rfl) T.z_dict (by decide +kernel) (pa_cons (pe_lc (own := [("name", 1)]) (g := gName 1) rfl sc_w_sorted.nd (pi_list (pe_callB (call_sortedD rfl) (by rfl) T.z_sorted (by decide +kernel) (pa_cons (pv 0) pa_nil))) (blkOk_by (N := ["rows", "name"]) (sc := defScope s_w_sorted) (by decide +kernel)) (fun _ _ _ _ _ => (pg_name (i := 1) sc_w_sorted.nd rfl (Or.inl rfl))) (fun _ _ _ _ _ => pts_nil) (fun _ _ _ _ _ => (pe_tup (pa_cons (pv 1) (pa_cons (pe_dget (by exact hu) (pv 0) (pv 1) (fun _ _ => rfl)) pa_nil))))) pa_nil)))), ?_⟩
    refine ⟨_, rfl, d, _, L.map (·.1), rfl, .inl hd, kvs_keys L, by rw [List.length_map, ts.len]; omega, fun ys p pm so hp => ?_⟩
    have S1 := Same.new (o := .lst (ys.map V.str)) hp
    have ep : (upd H p (.lst (ys.map V.str))) p = some (.lst (ys.map V.str)) := upd_same
    generalize upd H p (.lst (ys.map V.str)) = H1 at S1 ep ⊢
    rw [ts.names] at pm
    refine ⟨p, rfl, ⟨_, SqL.of ep⟩, fun D hD => ?_⟩
    refine lc_list (xs := ys.map V.str) (fun i H' => Same H1 H' ∧ ∃ (ps : List Addr) (M : List (Str × Addr)), H' D = some (.lst (ps.map V.ref)) ∧ PairsAt H' ps M ∧ Tups H' M (pickR R (ys.take i)) ∧ ps.length = i) ⟨Same.new hD, [], [], upd_same, .nil, .nil, rfl⟩ (fun i H' _ h => SqL.of (h.1 _ _ ep)) ?_ ?_
    · rintro i x H2 hx ⟨S2, ps, M, eD, pa, tm, lp⟩
      refine ⟨rfl, ?_⟩
      unfold tYes
      dsimp only
      rw [if_pos rfl]
      rw [List.getElem?_map] at hx
      cases e2 : ys[i]? with
      | none => rw [e2] at hx; cases hx
      | some n =>
        rw [e2] at hx
        cases hx
        have hn : n ∈ R.map (·.1) := pm.mem_iff.mp (List.mem_of_getElem? e2)
        have S12 := Same.trans S1 S2
        have ts2 := ts.keep (KT.same S12)
        obtain ⟨t, b, e, hv, ht, hm⟩ := ts2.get hn
        refine ⟨_, rfl, _, rfl, _, rfl, d, V.ref t, rfl, ?_, by show 2 ≤ sizeLine; decide, fun q hq => ?_⟩
        · have := DGet.k (k := Sum.inr n) (S12 _ _ hd)
          rw [hv] at this
          exact this
        have nDq : D ≠ q := ne_of_none eD hq
        have li : i < ys.length := (List.getElem?_eq_some_iff.mp e2).1
        have l8' : ys.length ≤ 8 := by rw [pm.length_eq, List.length_map]; exact l8
        refine ⟨_, (by rw [upd_ne nDq]; exact eD), by rw [List.length_map, lp, sizeLine_eq]; omega, ?_, ps ++ [q], M ++ [(n, t)], by rw [upd_same, List.map_append]; rfl, ?_, ?_, by rw [List.length_append, lp]; rfl⟩
        · exact Same.at hD (Same.trans S2 (Same.new hq))
        · have kt : KT H2 (upd (upd H2 q (.tup [V.str n, V.ref t])) D (.lst (ps.map V.ref ++ [V.ref q]))) := KT.trans (KT.new hq) (KT.put (u := .lst (ps.map V.ref)) (by rw [upd_ne nDq]; exact eD) (fun _ z => by cases z))
          exact (pa.keep kt).snoc (by rw [upd_ne nDq.symm, upd_same])
        · have kt : KT H2 (upd (upd H2 q (.tup [V.str n, V.ref t])) D (.lst (ps.map V.ref ++ [V.ref q]))) := KT.trans (KT.new hq) (KT.put (u := .lst (ps.map V.ref)) (by rw [upd_ne nDq]; exact eD) (fun _ z => by cases z))
          rw [List.take_add_one, e2]
          show Tups _ _ (pickR R (ys.take i ++ [n]))
          rw [pickR_snoc R _ n (lookup_mem nd hm)]
          exact (tm.keep kt).snoc (kt _ _ ht)
    · rintro H2 ⟨S2, ps, M, eD, pa, tm, lp⟩
      rw [List.length_map, List.take_length] at tm
      refine ⟨D, ps, Kvs M, rfl, SqL.of eD, pa.pd, fun q hq => ?_⟩
      have nm : (M.map (·.1)).Nodup := by
        rw [tm.names, pickR_names]
        exact pm.nodup_iff.mpr nd
      have e0 : mergeK [] (Kvs M) = Kvs M := mergeK_kvs M [] (by simpa using nm)
      rw [e0]
      refine k q M (pickR R ys) _ (Same.trans S1 (Same.trans S2 (Same.new hq))) ?_ upd_same (tm.keep (KT.new hq)) ⟨pickR_perm nd pm, by rw [pickR_names]; exact so⟩
      cases e5 : H q with
      | none => rfl
      | some o =>
        rw [S2 _ _ (S1 _ _ e5)] at hq
        cases hq
end
end K44
namespace K44
open PySem L2
open PyProof.Rows PySem.Spec
theorem un64 {k : Nat} {A : Around} (r : Room k A) : A.units + 64 < cLine := by
  have := r.un
  omega
theorem nm_ok {z : Str} (h : nmC z = true) : PyData.strOk z = true := by
  unfold nmC at h
  have q := (Bool.and_eq_true_iff.mp h).2
  unfold PyData.strOk
  rw [← Array.all_toList, List.all_eq_true]
  intro c hc
  have e := List.all_eq_true.mp q c hc
  have e2 := of_decide_eq_true (Bool.and_eq_true_iff.mp e).2
  exact decide_eq_true (by omega)
theorem nmC_len {z : Str} (h : nmC z = true) : 1 ≤ z.length ∧ z.length ≤ 8 := by
  unfold nmC at h
  exact of_decide_eq_true (Bool.and_eq_true_iff.mp h).1
theorem shaped_names {ns : List Str} (h : ∀ n ∈ ns, nmC n = true) : SeqAt.shaped (.list (ns.map PyData.str)) = true := by
  have key : ∀ ns : List Str, (∀ n ∈ ns, nmC n = true) → PyData.canLayAll0 (ns.map PyData.str) = true ∧ PyData.depthAll (ns.map PyData.str) ≤ 1 := by
    intro ns
    induction ns with
    | nil => intro _; exact ⟨by simp [PyData.canLayAll0], by simp [PyData.depthAll]⟩
    | cons n ns ih =>
      intro h
      obtain ⟨h1, h2⟩ := ih fun q hq => h q (List.mem_cons_of_mem _ hq)
      have h3 := nm_ok (h n List.mem_cons_self)
      refine ⟨?_, ?_⟩
      · simp [PyData.canLayAll0, PyData.canLay0, h1, h3]
      · simp [PyData.depthAll, PyData.depth]
        omega
  obtain ⟨k1, k2⟩ := key ns h
  show ((PyData.list (ns.map PyData.str)).canLay0 && decide ((PyData.list (ns.map PyData.str)).depth ≤ 64)) = true
  rw [Bool.and_eq_true]
  exact ⟨by simp only [PyData.canLay0]; exact k1, decide_eq_true (by simp only [PyData.depth]; omega)⟩
theorem dpa_strs {K : PySem.W.Frag} {H : Hp} : ∀ ns : List Str, DpAll K H (ns.map V.str) (ns.map PyData.str)
  | [] => .nil
  | n :: ns => .cons (.str n) (dpa_strs ns)
theorem flat_strs (ns : List Str) : (ns.map V.str).all flatV = true := by
  rw [List.all_map, List.all_eq_true]
  intro n _
  rfl
theorem inV_strs (n : Str) (ns : List Str) : inV (.str n) (ns.map V.str) = decide (n ∈ ns) := by
  unfold inV
  rw [List.any_map]
  induction ns with
  | nil => rfl
  | cons m ns ih =>
    rw [List.any_cons, ih]
    show ((m == n) || _) = _
    by_cases e : n = m
    · subst e
      simp
    · have e' : (m == n) = false := by rw [beq_eq_false_iff_ne]; exact fun z => e z.symm
      rw [e', Bool.false_or]
      simp [e]
section
variable {P : Program} {w : World} {K : PySem.W.Frag}
                                                      {mg : Str → Option Value} {base : Heap}
def sp_w_rings (K : PySem.W.Frag) : Sp := fun vs H Q _ => ∃ (r l : Addr) (t : Int) (ns : List Str), vs = [.ref r, .int t, .ref l] ∧ Rl H r ∧ SqL K H l (ns.map V.str) ∧ 1 ≤ t ∧ t ≤ 32 ∧ ns.Nodup ∧ ns.length ≤ 8 ∧ (∀ n ∈ ns, nmC n = true) ∧
  ∀ d L (R : Rws) H', Rl H' r → Only r H H' → H d = none → H' d = some (.dK (Kvs L)) → Tups H' L R → (R.map (·.1)).Perm ns → (∀ x ∈ R, SpOk t x ∧ Fin1 t x) → Q (.ref d) H'
def sp_w_rows (K : PySem.W.Frag) : Sp := fun vs H Q _ => ∃ (r l : Addr) (t : Int) (ns : List Str), vs = [.ref r, .int t, .ref l] ∧ Rl H r ∧ l ≠ r ∧ SqL K H l (ns.map V.str) ∧ 1 ≤ t ∧ t ≤ 32 ∧ ns.Nodup ∧ ns.length ≤ 8 ∧ (∀ n ∈ ns, nmC n = true) ∧
  ∀ d L (R : Rws) H', Rl H' r → Only r H H' → H d = none → H' d = some (.dK (Kvs L)) → Tups H' L R → (R.map (·.1)).Perm ns → (∀ x ∈ R, SpOk t x ∧ Fin1 t x) → Q (.ref d) H'
theorem tups_put {H : Hp} {d q : Addr} {L : List (Str × Addr)} {R : Rws} {n : Str} {b e : Int} (hd : H d = some (.dK (Kvs L))) (ts : Tups H L R) (hn : n ∉ R.map (·.1)) (ht : TupAt H q b e) :
    (upd H d (.dK (putK (Kvs L) (.inr n) (.ref q)))) d = some (.dK (Kvs (L ++ [(n, q)]))) ∧ Tups (upd H d (.dK (putK (Kvs L) (.inr n) (.ref q)))) (L ++ [(n, q)]) (R ++ [(n, b, e)]) := by
  have hn' : n ∉ L.map (·.1) := by rw [ts.names]; exact hn
  have kt : KT H (upd H d (.dK (putK (Kvs L) (.inr n) (.ref q)))) := KT.put hd (fun _ z => by cases z)
  exact ⟨by rw [upd_same, putK_kvs hn'], (ts.keep kt).snoc (kt _ _ ht)⟩
theorem ok_w_rows (T : T K mg) (G_w_rings : FnOk P w K mg base CX0 3 T.f_w_rings T.d_w_rings ["tray", "interval", "names"] (sp_w_rings K)) : FnOk P w K mg base CX0 4 T.f_w_rows T.d_w_rows ["tray", "interval", "names"] (sp_w_rows K) := by
  have G_w_pick : FnOk P w K mg base CX0 2 T.f_w_pick T.d_w_pick ["tray", "items"] (sp_w_pick K) := ok_w_pick T
  have G_w_roll : FnOk P w K mg base CX0 1 T.f_w_roll T.d_w_roll ["tray", "total"] (sp_w_roll K) := ok_w_roll T
  refine T.F_w_rows.ok sc_w_rows (fun vs H Q E h => ?_) (fun cdv A outer s H vs Q E hr h => ?_)
  · obtain ⟨r, l, t, ns, rfl, _⟩ := h
    rfl
  · obtain ⟨r, l, t, ns, rfl, hR, nlr, hl, t1, t2, nd, l8, hnm, k⟩ := h
    have hu := hu_of hr
    have hr_w_pick : Room 2 _ := hr.mono (by decide)
    have hr_w_rings : Room 3 _ := hr.mono (by decide)
    have hr_w_roll : Room 1 _ := hr.mono (by decide)
    refine ⟨_, (pss_cons (ps_if (pt_cmpR op_eq (pe_call G_w_roll hr_w_roll rfl T.m_w_roll T.F_w_roll.kp T.b_w_roll .nil pass0 (pa_cons (pv 0) (pa_cons pe_int pa_nil))) pe_int (nomark _))
      (pss_one (ps_ret (pe_call G_w_rings hr_w_rings rfl T.m_w_rings T.F_w_rings.kp T.b_w_rings .nil pass0 (pa_cons (pv 0) (pa_cons (pv 1) (pa_cons (pv 2) pa_nil))))))
      pss_nil)
      (pss_cons (ps_set (i := 3) sc_w_rows.nd rfl (Or.inl rfl) pe_dnewK)
      (pss_cons (ps_for PassesOwn.never rfl (pi_list (pv 2)) (pg_name (i := 4) sc_w_rows.nd rfl (Or.inl rfl))
      (pss_cons (ps_set (i := 5) sc_w_rows.nd rfl (Or.inl rfl) (pe_op op_sub (pe_call G_w_roll hr_w_roll rfl T.m_w_roll T.F_w_roll.kp T.b_w_roll .nil pass0 (pa_cons (pv 0) (pa_cons (pe_op op_mul pe_int (pv 1)) pa_nil))) (pv 1)))
      (pss_cons (ps_set (i := 6) sc_w_rows.nd rfl (Or.inl rfl) (pe_op op_add pe_int (pe_call G_w_roll hr_w_roll rfl T.m_w_roll T.F_w_roll.kp T.b_w_roll .nil pass0 (pa_cons (pv 0) (pa_cons (pe_call G_w_pick hr_w_pick rfl T.m_w_pick T.F_w_pick.kp T.b_w_pick .nil pass0 (pa_cons (pv 0) (pa_cons (pe_lst (pa_cons (pv 1) (pa_cons (pv 1) (pa_cons (pv 1) (pa_cons (pe_op op_mul pe_int (pv 1)) (pa_cons (pe_op op_mul pe_int (pv 1)) pa_nil)))))) pa_nil))) pa_nil)))))
      (pss_one (ps_dput (by exact hu) (pv 3) (pv 4) (pe_tup (pa_cons (pv 5) (pa_cons (pe_op op_add (pv 5) (pv 6)) pa_nil))) rfl)))))
      (pss_one (ps_ret (pv 3)))))), ?_⟩
    refine ⟨_, rfl, r, 3, rfl, hR, by decide, by decide +kernel, fun v H1 v0 v1 R1 O1 => ⟨rfl, _, rfl, ?_⟩⟩
    have hl1 := O1.seqL nlr hl
    refine ite2 (fun c => ?_) (fun c => ?_)
    · clear c
      refine ⟨_, rfl, _, rfl, _, rfl, r, l, t, ns, rfl, R1, hl1, t1, t2, nd, l8, hnm, fun d L R H' R' O' hd ed ts pm hx => ?_⟩
      refine k d L R H' R' (Only.trans O1 O') ?_ ed ts pm hx
      cases e5 : H d with
      | none => rfl
      | some o =>
        have ndr : d ≠ r := R1.ne hd
        rw [O1 _ _ ndr e5] at hd
        cases hd
    · clear c
      intro d hd
      have ndr : d ≠ r := R1.ne hd
      have hdH : H d = none := by
        cases e5 : H d with
        | none => rfl
        | some o =>
          rw [O1 _ _ ndr e5] at hd
          cases hd
      have R2 := R1.new (o := .dK []) hd
      have O2 : Only r H (upd H1 d (.dK [])) := Only.trans O1 (Only.new hd)
      have ed2 : (upd H1 d (.dK [])) d = some (.dK (Kvs [])) := upd_same
      have hl2 := (Only.new (r := r) (o := .dK []) hd).seqL nlr hl1
      generalize upd H1 d (.dK []) = H2 at R2 O2 ed2 hl2 ⊢
      refine ⟨_, rfl, l, rfl, ⟨_, hl2⟩, for_list (xs := ns.map V.str) (fun i σ H' => (∃ v1 v2 v3, σ = [some (.ref r), some (.int t), some (.ref l), some (.ref d), v1, v2, v3]) ∧ Rl H' r ∧ Only r H H' ∧ SqL K H' l (ns.map V.str) ∧ ∃ L R, H' d = some (.dK (Kvs L)) ∧ Tups H' L R ∧ R.map (·.1) = ns.take i ∧ ∀ x ∈ R, SpOk t x ∧ Fin1 t x)
        ⟨⟨none, none, none, rfl⟩, R2, O2, hl2, [], [], ed2, .nil, rfl, fun _ h => by cases h⟩ (fun i σ H' _ h => h.2.2.2.1) ?_ ?_⟩
      · rintro i x σ' H3 hx ⟨⟨v1, v2, v3, rfl⟩, R3, O3, hl3, L, R, ed, ts, en, hR3⟩
        rw [List.getElem?_map] at hx
        cases en2 : ns[i]? with
        | none => rw [en2] at hx; cases hx
        | some n =>
          rw [en2] at hx
          cases hx
          have li : i < ns.length := (List.getElem?_eq_some_iff.mp en2).1
          refine ⟨_, rfl, _, rfl, _, _, rfl, rfl, .inl ⟨by decide, by decide⟩, r, 3 * t, rfl, R3, by omega, Nat.lt_trans (lg (b := 10) (by omega) (by omega) (by decide)) (by decide), fun u H4 u0 u1 R4 O4 => ?_⟩
          refine ⟨_, rfl, _, _, rfl, rfl, ?_⟩
          refine ⟨_, rfl, _, rfl, _, rfl, _, rfl, _, rfl, _, rfl, _, _, rfl, rfl, .inl ⟨by decide, by decide⟩, _, rfl, _, _, rfl, rfl, .inl ⟨by decide, by decide⟩, by show 5 ≤ sizeLine; decide, fun l5 hl5 => ?_⟩
          have R5 := R4.new (o := .lst [V.int t, .int t, .int t, .int (2 * t), .int (8 * t)]) hl5
          refine ⟨r, _, [V.int t, .int t, .int t, .int (2 * t), .int (8 * t)], rfl, R5, .inl ⟨l5, rfl, R4.ne hl5, .inl (SqL.of upd_same)⟩, Nat.succ_pos _, by show 5 ≤ sizeLine; decide, fun pv' H6 hpv R6 O6 => ?_⟩
          obtain ⟨m, rfl, m0, m1⟩ : ∃ n : Int, pv' = .int n ∧ 1 ≤ n ∧ n ≤ 8 * t := by
            simp only [List.mem_cons, List.not_mem_nil, or_false] at hpv
            rcases hpv with rfl | rfl | rfl | rfl | rfl
            · exact ⟨t, rfl, by omega, by omega⟩
            · exact ⟨t, rfl, by omega, by omega⟩
            · exact ⟨t, rfl, by omega, by omega⟩
            · exact ⟨2 * t, rfl, by omega, by omega⟩
            · exact ⟨8 * t, rfl, by omega, by omega⟩
          refine ⟨r, m, rfl, R6, by omega, Nat.lt_trans (lg (b := 10) (by omega) (by omega) (by decide)) (by decide), fun z H7 z0 z1 R7 O7 => ?_⟩
          refine ⟨_, _, rfl, rfl, ?_⟩
          refine ⟨_, rfl, _, rfl, _, rfl, _, _, rfl, rfl, by show 2 ≤ sizeLine; decide, fun q hq => ?_⟩
          have O37 : Only r H3 H7 := Only.trans O4 (Only.trans (Only.trans (Only.new hl5) O6) O7)
          have ed7 := O37 _ _ ndr ed
          have ts7 := ts.keep (KT.only O37 R3)
          have S8 := Same.new (o := .tup [V.int (u - t), .int (u - t + (1 + z))]) hq
          have eq8 : (upd H7 q (.tup [V.int (u - t), .int (u - t + (1 + z))])) q = some (.tup [V.int (u - t), .int (u - t + (1 + z))]) := upd_same
          have R8 := Same.rl S8 R7
          generalize upd H7 q (.tup [V.int (u - t), .int (u - t + (1 + z))]) = H8 at S8 eq8 R8 ⊢
          have ed8 := S8 _ _ ed7
          have ts8 := ts7.keep (KT.same S8)
          have hn : n ∉ R.map (·.1) := by
            rw [en]
            intro hm
            have nd2 := nd
            rw [← List.take_append_drop i ns] at nd2
            have hd2 : n ∈ ns.drop i := by
              rw [List.mem_iff_getElem?]
              exact ⟨0, by rw [List.getElem?_drop]; exact en2⟩
            exact (List.nodup_append.mp nd2).2.2 n hm n hd2 rfl
          have hl8 : SqL K H8 l (ns.map V.str) := Only.seqL (Only.trans O37 (Same.only S8)) nlr hl3
          obtain ⟨f1, f2⟩ := tups_put ed8 ts8 hn (show TupAt H8 q (u - t) (u - t + (1 + z)) from eq8)
          refine ⟨_, rfl, _, rfl, d, _, rfl, DPut.k (k := Sum.inr n) ed8 (by rw [kvs_len, ts8.len, ← List.length_map (f := (·.1)) (as := R), en, List.length_take, sizeLine_eq]; omega), ?_⟩
          have od : ∀ b o, b ≠ r → H b = some o → (upd H8 d (.dK (putK (Kvs L) (.inr n) (.ref q)))) b = some o := fun b o nb e => by
            rw [upd_ne (ne_of_none e hdH)]
            exact S8 _ _ (O37 _ _ nb (O3 _ _ nb e))
          refine ⟨⟨_, _, _, rfl⟩, ?_, od, ?_, L ++ [(n, q)], R ++ [(n, u - t, u - t + (1 + z))], f1, f2, ?_, ?_⟩
          · obtain ⟨x1, x2, x3, e⟩ := R8
            exact ⟨x1, x2, x3, by rw [upd_ne ndr.symm]; exact e⟩
          · rcases hl8 with (h | ⟨o, h⟩) | h
            · exact .inl (.inl (by rw [upd_ne (fun z => by rw [z, ed8] at h; cases h)]; exact h))
            · exact .inl (.inr ⟨o, by rw [upd_ne (fun z => by rw [z, ed8] at h; cases h)]; exact h⟩)
            · exact .inr h
          · rw [List.map_append, en, List.take_add_one, en2]
            rfl
          · intro x hx
            rcases List.mem_append.mp hx with hx | hx
            · exact hR3 x hx
            · rw [List.mem_singleton.mp hx]
              refine ⟨⟨?_, ?_⟩, ⟨?_, ?_⟩, ?_, ?_⟩
              · show 1 ≤ u - t + (1 + z) - (u - t); omega
              · show u - t + (1 + z) - (u - t) ≤ 8 * t; omega
              · show -1000 ≤ u - t; omega
              · show u - t + (1 + z) ≤ 1000; omega
              · show -t ≤ u - t; omega
              · show u - t + (1 + z) ≤ 11 * t; omega
      · rintro σ' H3 ⟨⟨v1, v2, v3, rfl⟩, R3, O3, hl3, L, R, ed, ts, en, hR3⟩
        rw [List.length_map, List.take_length] at en
        exact ⟨_, rfl, k d L R H3 R3 O3 hdH ed ts (by rw [en]) hR3⟩
end
end K44
namespace K44
open PySem L2
open PyProof.Rows PySem.Spec
theorem filter_perm {lf cs : List Str} (nl : lf.Nodup) (nc : cs.Nodup) (sub : ∀ c ∈ cs, c ∈ lf) : (cs ++ lf.filter fun n => !decide (n ∈ cs)).Perm lf := by
  refine (List.perm_ext_iff_of_nodup ?_ nl).mpr fun n => ?_
  · refine List.nodup_append.mpr ⟨nc, nl.filter _, fun a ha b hb e => ?_⟩
    have hb2 := (List.mem_filter.mp hb).2
    subst e
    simp [ha] at hb2
  · rw [List.mem_append, List.mem_filter]
    constructor
    · rintro (h | h)
      · exact sub n h
      · exact h.1
    · intro h
      by_cases c : n ∈ cs
      · exact .inl c
      · exact .inr ⟨h, by simp [c]⟩
theorem cutV_last (xs : List V) : cutV xs none (some (-1)) = xs.dropLast := by
  unfold cutV
  rw [HT.sIx_none]
  have e : HT.sIx xs.length xs.length (some (-1)) = xs.length - 1 := by
    show (if (-1 : Int) < 0 then ((-1 : Int) + (xs.length : Int)).toNat else min (-1 : Int).toNat xs.length) = _
    rw [if_pos (by decide)]
    omega
  rw [e, List.dropLast_eq_take]
  simp only [List.drop_zero, Nat.sub_zero]
section
variable {P : Program} {w : World} {K : PySem.W.Frag}
                                                      {mg : Str → Option Value} {base : Heap}
/-- ahead of a turn of _law_rings -/
def RingW (K : PySem.W.Frag) (r d : Addr) (t : Int) (ns : List Str) (H0 : Hp) (σa σb : L2.St) (m : Nat) (σ' : L2.St) (G : Hp) : Prop := (∃ la v5 v6 v7 v8 v9, σ' = σa ++ [some (.ref la), v5, v6, v7, v8, v9] ∧ ∃ (lf : List Str) (L : List (Str × Addr)) (R : Rws), G la = some (.lst (lf.map V.str)) ∧ la ≠ r ∧ la ≠ d ∧ lf.length = m ∧
  G d = some (.dK (Kvs L)) ∧ Tups G L R ∧ (R.map (·.1) ++ lf).Perm ns ∧ (∀ x ∈ R, SpOk t x ∧ Fin1 t x)) ∧ Rl G r ∧ (∀ b o, b ≠ r → H0 b = some o → G b = some o)
theorem ok_w_rings (T : T K mg) : FnOk P w K mg base CX0 3 T.f_w_rings T.d_w_rings ["tray", "interval", "names"] (sp_w_rings K) := by
  have G_w_few : FnOk P w K mg base CX0 2 T.f_w_few T.d_w_few ["tray", "items", "many"] (sp_w_few K) := ok_w_few T
  have G_w_pick : FnOk P w K mg base CX0 2 T.f_w_pick T.d_w_pick ["tray", "items"] (sp_w_pick K) := ok_w_pick T
  have G_w_roll : FnOk P w K mg base CX0 1 T.f_w_roll T.d_w_roll ["tray", "total"] (sp_w_roll K) := ok_w_roll T
  refine T.F_w_rings.ok sc_w_rings (fun vs H Q E h => ?_) (fun cdv A outer s H vs Q E hr h => ?_)
  · obtain ⟨r, l, t, ns, rfl, _⟩ := h
    rfl
  · obtain ⟨r, l, t, ns, rfl, hR, hl, t1, t2, nd, l8, hnm, k⟩ := h
    have hu := hu_of hr
    have hr_w_few : Room 2 _ := hr.mono (by decide)
    have hr_w_pick : Room 2 _ := hr.mono (by decide)
    have hr_w_roll : Room 1 _ := hr.mono (by decide)
    refine ⟨_, (pss_cons (ps_par (i := 3) (j := 4) (by rfl) sc_w_rings.nd rfl rfl (by decide) rfl rfl (pa_cons pe_dnewK (pa_cons (pe_callTy call_list_of (by rfl) T.z_list (by decide +kernel) (pa_cons (pv 2) pa_nil)) pa_nil)) (by rfl))
      (pss_cons (ps_while PassesOwn.never (pt_cmpR (op_neD (un64 hr)) (pv 4) (pe_lst pa_nil) (nomark _))
      (pss_cons (ps_set (i := 5) sc_w_rings.nd rfl (Or.inr rfl) (pe_call G_w_few hr_w_few rfl T.m_w_few T.F_w_few.kp T.b_w_few .nil pass0 (pa_cons (pv 0) (pa_cons (pv 4) (pa_cons (pe_op op_add pe_int (pe_call G_w_roll hr_w_roll rfl T.m_w_roll T.F_w_roll.kp T.b_w_roll .nil pass0 (pa_cons (pv 0) (pa_cons pe_int pa_nil)))) pa_nil)))))
      (pss_cons (ps_setLc (i := 4) (own := [("name", 8)]) (g := gName 8) rfl sc_w_rings.nd rfl rfl (sw_true rfl rfl rfl (by decide +kernel)) (pi_list (pv 4)) (blkOk_by (N := ["tray", "interval", "names", "rows", "left", "some", "first", "begin", "name", "last"]) (sc := defScope s_w_rings) (by decide +kernel)) (fun _ _ _ _ _ => (pg_name (i := 8) sc_w_rings.nd rfl (Or.inl rfl))) (fun _ _ _ _ _ => pts_one (pt_cmpR (r := rIn K true) op_notIn_seq (pv 8) (pv 5) rfl)) (fun _ _ _ _ _ => (pv 8)))
      (pss_cons (ps_set (i := 6) sc_w_rings.nd rfl (Or.inl rfl) (pe_call G_w_roll hr_w_roll rfl T.m_w_roll T.F_w_roll.kp T.b_w_roll .nil pass0 (pa_cons (pv 0) (pa_cons (pe_op op_mul pe_int (pv 1)) pa_nil))))
      (pss_cons (ps_set (i := 7) sc_w_rings.nd rfl (Or.inl rfl) (pv 6))
      (pss_cons (ps_for PassesOwn.never rfl (pi_list (pe_slice sl_list (pv 5) po_none (po_some (pe_un un_neg pe_int)))) (pg_name (i := 8) sc_w_rings.nd rfl (Or.inl rfl))
      (pss_cons (ps_dput (by exact hu) (pv 3) (pv 8) (pe_tup (pa_cons (pv 7) (pa_cons (pe_op op_add (pe_op op_add (pv 7) pe_int) (pe_call G_w_roll hr_w_roll rfl T.m_w_roll T.F_w_roll.kp T.b_w_roll .nil pass0 (pa_cons (pv 0) (pa_cons (pv 1) pa_nil)))) pa_nil))) rfl)
      (pss_one (ps_set (i := 7) sc_w_rings.nd rfl (Or.inl rfl) (pe_ix ix_seq (pe_dget (by exact hu) (pv 3) (pv 8) (fun _ _ => rfl)) pe_int (fun _ _ => rfl))))))
      (pss_cons (ps_set (i := 9) sc_w_rings.nd rfl (Or.inl rfl) (pe_op op_add (pe_op op_add pe_int (pe_op op_mod (pe_callTy call_int1 (by rfl) T.z_int (by decide +kernel) (pa_cons (pe_op op_sub (pe_op op_sub (pv 6) (pv 7)) pe_int) pa_nil)) (pv 1))) (pe_op op_mul (pv 1) (pe_call G_w_pick hr_w_pick rfl T.m_w_pick T.F_w_pick.kp T.b_w_pick .nil pass0 (pa_cons (pv 0) (pa_cons (pe_lst (pa_cons pe_int (pa_cons pe_int (pa_cons pe_int (pa_cons pe_int pa_nil))))) pa_nil))))))
      (pss_one (ps_dput (by exact hu) (pv 3) (pe_ix ix_seq (pv 5) (pe_un un_neg pe_int) (fun _ _ => rfl)) (pe_tup (pa_cons (pv 7) (pa_cons (pe_op op_add (pv 7) (pv 9)) pa_nil))) rfl))))))))) 
      (pss_one (ps_ret (pv 3))))), ?_⟩
    intro d hd
    have ndr : d ≠ r := hR.ne hd
    have hl1 : SqL K (upd H d (.dK [])) l (ns.map V.str) := Same.seq (Same.new hd) hl
    refine ⟨_, rfl, l, _, rfl, .inl hl1, fun la hla => ?_⟩
    have nda : la ≠ d := fun z => by rw [z, upd_same] at hla; cases hla
    have hla0 : H la = none := by rw [upd_ne nda] at hla; exact hla
    have nla : la ≠ r := hR.ne hla0
    refine ⟨_, _, rfl, ?_⟩
    refine ⟨RingW K r d t ns H [some (.ref r), some (.int t), some (.ref l), some (.ref d)] [], ⟨ns.length, ⟨la, none, none, none, none, none, rfl, ns, [], [], upd_same, nla, nda, rfl, by rw [upd_ne nda.symm, upd_same]; rfl, .nil, by simp, fun _ h => by cases h⟩, ?_, ?_⟩, ?_⟩
    · obtain ⟨x1, x2, x3, e⟩ := hR
      exact ⟨x1, x2, x3, by rw [upd_ne nla.symm, upd_ne ndr.symm]; exact e⟩
    · intro b o _ e
      rw [upd_ne (ne_of_none e hla0), upd_ne (ne_of_none e hd)]
      exact e
    clear hl1 hla hla0 nla nda la
    rintro m σ' G ⟨⟨la, v5, v6, v7, v8, v9, rfl, lf, L, R, ea, nar, nad, lm, ed, ts, pm, hx⟩, RG, OG⟩
    have ndL : (R.map (·.1) ++ lf).Nodup := pm.nodup_iff.mpr nd
    have nlf : lf.Nodup := (List.nodup_append.mp ndL).2.1
    have ll8 : R.length + lf.length ≤ 8 := by
      have := pm.length_eq
      rw [List.length_append, List.length_map] at this
      omega
    have nmL : ∀ n ∈ lf, nmC n = true := fun n hn => hnm n (pm.mem_iff.mp (List.mem_append_right _ hn))
    refine ⟨_, rfl, by show 0 ≤ sizeLine; decide, fun e he => ?_⟩
    have S3 : Same G (upd G e (.lst [])) := Same.new he
    have e_e : (upd G e (.lst [])) e = some (.lst []) := upd_same
    have ea3 := S3 _ _ ea
    have ed3 := S3 _ _ ed
    have ts3 := ts.keep (KT.same S3)
    have R3 := Same.rl S3 RG
    refine ⟨.list (lf.map PyData.str), .list [], .lst (SqL.of ea3) (dpa_strs lf), .lst (SqL.of upd_same) .nil, shaped_names nmL, by decide +kernel, _, rfl, ?_⟩
    generalize upd G e (.lst []) = G3 at S3 e_e ea3 ed3 ts3 R3 ⊢
    cases lf with
    | nil =>
      rw [show PyData.eqv (.list (([] : List Str).map PyData.str)) (.list []) = true from by decide +kernel]
      refine iteF ⟨_, rfl, k d L R G3 R3 (fun b o nb e => S3 _ _ (OG b o nb e)) hd ed3 ts3 (by simpa using pm) hx⟩
    | cons n0 lf0 =>
      rw [show PyData.eqv (.list ((n0 :: lf0).map PyData.str)) (.list []) = false from by simp [PyData.eqv, PyData.eqvAll]]
      refine iteT ⟨_, fun σ' H' h => h, ?_⟩
      have hne : 1 ≤ (n0 :: lf0).length := by rw [List.length_cons]; omega
      have OG3 : ∀ b o, b ≠ r → H b = some o → G3 b = some o := fun b o nb e => S3 _ _ (OG b o nb e)
      generalize n0 :: lf0 = lf at ea ea3 lm pm ndL nlf ll8 nmL hne ⊢
      clear ea ed ts S3 RG OG e_e he
      -- some
      refine ⟨_, rfl, _, rfl, _, rfl, r, 3, rfl, R3, by decide, by decide +kernel, fun u H4 u0 u1 R4 O4 => ⟨_, _, rfl, rfl, ?_⟩⟩
      refine ⟨r, la, lf.map V.str, 1 + u, rfl, R4, .inl (SqL.of (O4 _ _ nar ea3)), by rw [List.length_map]; omega, by omega, by omega, fun ls ys rest H5 R5 O5 hls els pmf lys => ?_⟩
      obtain ⟨cs, rfl, mcs, ndcs⟩ := few_of (f := V.str) (xs := lf) (fun a _ b _ h => V.str.inj h) nlf pmf
      have lcs : 1 ≤ cs.length := by
        rw [List.length_map, List.length_map] at lys
        split at lys <;> omega
      have O35 : Only r G3 H5 := Only.trans O4 O5
      have nls : ls ≠ r := R4.ne hls
      have ed5 := O35 _ _ ndr ed3
      have ea5 := O35 _ _ nar ea3
      have ts5 := ts3.keep (KT.only O35 R3)
      have OG5 : ∀ b o, b ≠ r → H b = some o → H5 b = some o := fun b o nb e => O35 _ _ nb (OG3 b o nb e)
      have nlsd : ls ≠ d := fun z => by rw [z, ed5] at els; cases els
      clear ea3 ed3 ts3 OG3 R3 O35 lys pmf
      -- left
      refine ⟨_, rfl, la, rfl, ⟨_, SqL.of ea5⟩, fun D hD => ?_⟩
      have nDr : D ≠ r := R5.ne hD
      have nDd : D ≠ d := fun z => by rw [z, ed5] at hD; cases hD
      have nDl : ls ≠ D := ne_of_none els hD
      refine lc_list (xs := lf.map V.str) (fun i H' => H' D = some (.lst (((lf.take i).filter fun n => !decide (n ∈ cs)).map V.str)) ∧ Same H5 H') ⟨upd_same, Same.new hD⟩ (fun i H' _ h => SqL.of (h.2 _ _ ea5)) ?_ ?_
      · rintro i x H6 hx6 ⟨eD, S6⟩
        rw [List.getElem?_map] at hx6
        cases en2 : lf[i]? with
        | none => rw [en2] at hx6; cases hx6
        | some n =>
          rw [en2] at hx6
          cases hx6
          refine ⟨rfl, ?_⟩
          refine ⟨_, rfl, _, rfl, ls, _, rfl, .inl (SqL.of (S6 _ _ els)), rfl, flat_strs _, _, rfl, ?_⟩
          rw [inV_strs]
          have tk : (lf.take (i + 1)).filter (fun n => !decide (n ∈ cs)) = (lf.take i).filter (fun n => !decide (n ∈ cs)) ++ (if n ∈ cs then [] else [n]) := by
            rw [List.take_add_one, en2, List.filter_append]
            congr 1
            by_cases c : n ∈ cs
            · simp [c]
            · simp [c]
          have li : i < lf.length := (List.getElem?_eq_some_iff.mp en2).1
          by_cases c : n ∈ cs
          · simp only [if_true, c, decide_true, Bool.not_true, Bool.false_eq_true, if_false]
            refine ⟨?_, S6⟩
            rw [tk, if_pos c, List.append_nil]
            exact eD
          · simp only [if_true, c, decide_false, Bool.not_false]
            refine ⟨_, rfl, _, eD, ?_, ?_, Same.at hD S6⟩
            · rw [List.length_map, sizeLine_eq]
              have := List.length_filter_le (fun n => !decide (n ∈ cs)) (lf.take i)
              rw [List.length_take] at this
              omega
            · rw [upd_same, tk, if_neg c, List.map_append]
              rfl
      rintro H6 ⟨eD, S6⟩
      rw [List.length_map, List.take_length] at eD
      have R6 := Same.rl S6 R5
      have ed6 := S6 _ _ ed5
      have ts6 := ts5.keep (KT.same S6)
      have els6 := S6 _ _ els
      have OG6 : ∀ b o, b ≠ r → H b = some o → H6 b = some o := fun b o nb e => S6 _ _ (OG5 b o nb e)
      clear ed5 ts5 ea5 els OG5 S6 R5 hD hls R4 O4 O5
      -- first, begin
      refine ⟨_, rfl, _, rfl, _, _, rfl, rfl, .inl ⟨by decide, by decide⟩, r, 2 * t, rfl, R6, by omega, Nat.lt_trans (lg (b := 10) (by omega) (by omega) (by decide)) (by decide), fun f H7 f0 f1 R7 O7 => ?_⟩
      have ed7 := O7 _ _ ndr ed6
      have ts7 := ts6.keep (KT.only O7 R6)
      have els7 := O7 _ _ nls els6
      have eD7 := O7 _ _ nDr eD
      have OG7 : ∀ b o, b ≠ r → H b = some o → H7 b = some o := fun b o nb e => O7 _ _ nb (OG6 b o nb e)
      clear ed6 ts6 els6 eD OG6 R6 O7
      obtain ⟨c0, z, rfl⟩ : ∃ c0 z, cs = c0 ++ [z] := by
        rcases List.eq_nil_or_concat cs with e | ⟨c0, z, e⟩
        · rw [e] at lcs
          exact absurd lcs (by decide)
        · exact ⟨c0, z, by rw [e, List.concat_eq_append]⟩
      refine ⟨_, rfl, _, rfl, _, rfl, _, rfl, ls, _, rfl, SqL.of els7, fun p hp => ?_⟩
      have ecut : cutV ((c0 ++ [z]).map V.str) none (some (-1)) = c0.map V.str := by
        rw [cutV_last, List.map_append]
        exact List.dropLast_concat
      rw [ecut]
      have S8 := Same.new (o := .lst (c0.map V.str)) hp
      have ep8 : (upd H7 p (.lst (c0.map V.str))) p = some (.lst (c0.map V.str)) := upd_same
      have R8 := Same.rl S8 R7
      have npr : p ≠ r := R7.ne hp
      have npd : p ≠ d := fun z => by rw [z, ed7] at hp; cases hp
      generalize upd H7 p (.lst (c0.map V.str)) = H8 at S8 ep8 R8 ⊢
      have ed8 := S8 _ _ ed7
      have ts8 := ts7.keep (KT.same S8)
      have els8 := S8 _ _ els7
      have eD8 := S8 _ _ eD7
      have OG8 : ∀ b o, b ≠ r → H b = some o → H8 b = some o := fun b o nb e => S8 _ _ (OG7 b o nb e)
      clear ed7 ts7 els7 eD7 OG7 R7 S8 hp ecut
      have ndc0 : c0.Nodup := (List.nodup_append.mp ndcs).1
      have fresh : ∀ i n, (c0 ++ [z])[i]? = some n → n ∉ R.map (·.1) ++ (c0 ++ [z]).take i := fun i n e hm => by
        have hn : n ∈ c0 ++ [z] := List.mem_of_getElem? e
        rcases List.mem_append.mp hm with hm | hm
        · exact (List.nodup_append.mp ndL).2.2 n hm n (mcs n hn) rfl
        · have nd2 := ndcs
          rw [← List.take_append_drop i (c0 ++ [z])] at nd2
          have hd2 : n ∈ (c0 ++ [z]).drop i := by
            rw [List.mem_iff_getElem?]
            exact ⟨0, by rw [List.getElem?_drop]; exact e⟩
          exact (List.nodup_append.mp nd2).2.2 n hm n hd2 rfl
      have lcs8 : R.length + c0.length + 1 ≤ 8 := by
        have h1 : (c0 ++ [z]).length ≤ lf.length := by
          have := (filter_perm nlf ndcs mcs).length_eq
          rw [List.length_append] at this
          omega
        rw [List.length_append] at h1
        have h2 : ([z] : List Str).length = 1 := rfl
        omega
      refine ⟨p, rfl, ⟨_, SqL.of ep8⟩, for_list (xs := c0.map V.str) (fun i σ H' => (∃ b v8, σ = [some (.ref r), some (.int t), some (.ref l), some (.ref d), some (.ref D), some (.ref ls), some (.int f), some (.int b), v8, v9] ∧ f ≤ b ∧ b ≤ f + t * i) ∧ Rl H' r ∧ (∀ b o, b ≠ r → b ≠ d → H8 b = some o → H' b = some o) ∧
        ∃ L' R', H' d = some (.dK (Kvs L')) ∧ Tups H' L' R' ∧ R'.map (·.1) = R.map (·.1) ++ (c0 ++ [z]).take i ∧ ∀ x ∈ R', SpOk t x ∧ Fin1 t x) ⟨⟨f, _, rfl, Int.le_refl _, by simp⟩, R8, (fun b o _ _ e => e), L, R, ed8, ts8, by simp, hx⟩ (fun i σ H' _ h => SqL.of (h.2.2.1 _ _ npr npd ep8)) ?_ ?_⟩
      · rintro i x σ' H9 hx9 ⟨⟨b, v8, rfl, b0, b1⟩, R9, O9, L', R', ed9, ts9, en9, hR9⟩
        rw [List.getElem?_map] at hx9
        cases en2 : c0[i]? with
        | none => rw [en2] at hx9; cases hx9
        | some n =>
          rw [en2] at hx9
          cases hx9
          have li : i < c0.length := (List.getElem?_eq_some_iff.mp en2).1
          have en3 : (c0 ++ [z])[i]? = some n := by rw [List.getElem?_append_left li]; exact en2
          have bi : t * i ≤ 32 * 8 := Int.le_trans (Int.mul_le_mul_of_nonneg_right t2 (by omega)) (by omega)
          refine ⟨_, rfl, _, rfl, _, _, rfl, rfl, _, rfl, _, rfl, r, t, rfl, R9, by omega, Nat.lt_trans (lg (b := 10) (by omega) (by omega) (by decide)) (by decide), fun g H10 g0 g1 R10 O10 => ?_⟩
          refine ⟨_, _, rfl, rfl, by show 2 ≤ sizeLine; decide, fun q hq => ?_⟩
          have S11 := Same.new (o := .tup [V.int b, .int (b + 1 + g)]) hq
          have eq11 : (upd H10 q (.tup [V.int b, .int (b + 1 + g)])) q = some (.tup [V.int b, .int (b + 1 + g)]) := upd_same
          have R11 := Same.rl S11 R10
          generalize upd H10 q (.tup [V.int b, .int (b + 1 + g)]) = H11 at S11 eq11 R11 ⊢
          have ed11 := S11 _ _ (O10 _ _ ndr ed9)
          have ts11 := (ts9.keep (KT.only O10 R9)).keep (KT.same S11)
          have hn : n ∉ R'.map (·.1) := by rw [en9]; exact fresh i n en3
          obtain ⟨g1', g2'⟩ := tups_put ed11 ts11 hn (show TupAt H11 q b (b + 1 + g) from eq11)
          have lL : L'.length ≤ 8 := by
            rw [ts9.len, ← List.length_map (f := (·.1)) (as := R'), en9, List.length_append, List.length_map, List.length_take]
            omega
          refine ⟨_, rfl, _, rfl, d, _, rfl, DPut.k (k := Sum.inr n) ed11 (by rw [kvs_len, sizeLine_eq]; omega), ?_⟩
          have keep : ∀ b' o, b' ≠ r → b' ≠ d → H8 b' = some o → (upd H11 d (.dK (putK (Kvs L') (.inr n) (.ref q)))) b' = some o := fun b' o nb nbd e => by
            rw [upd_ne nbd]
            exact S11 _ _ (O10 _ _ nb (O9 _ _ nb nbd e))
          have nqd : q ≠ d := fun z => by rw [z, ed11] at eq11; cases eq11
          have eq12 : (upd H11 d (.dK (putK (Kvs L') (.inr n) (.ref q)))) q = some (.tup [V.int b, .int (b + 1 + g)]) := by rw [upd_ne nqd]; exact eq11
          have R12 : Rl (upd H11 d (.dK (putK (Kvs L') (.inr n) (.ref q)))) r := by
            obtain ⟨x1, x2, x3, e⟩ := R11
            exact ⟨x1, x2, x3, by rw [upd_ne ndr.symm]; exact e⟩
          generalize upd H11 d (.dK (putK (Kvs L') (.inr n) (.ref q))) = H12 at g1' g2' keep eq12 R12 ⊢
          have hv : valV (Kvs (L' ++ [(n, q)])) (.inr n) = some (.ref q) := by
            rw [kvs_snoc, valV_snoc _ _ _ _ (valV_none (by rw [ts9.names]; exact hn)), if_pos rfl]
          refine ⟨_, rfl, _, rfl, d, V.ref q, rfl, ?_, .inr (.inl ⟨q, _, _, _, rfl, rfl, SqT.of eq12, rfl, ?_⟩)⟩
          · have := DGet.k (k := Sum.inr n) g1'
            rw [hv] at this
            exact this
          refine ⟨⟨b + 1 + g, _, rfl, by omega, ?_⟩, R12, keep, L' ++ [(n, q)], R' ++ [(n, b, b + 1 + g)], g1', g2', ?_, ?_⟩
          · have : t * ((i + 1 : Nat) : Int) = t * i + t := by rw [Int.natCast_add, Int.mul_add]; simp
            omega
          · rw [List.map_append, en9, List.take_add_one, en3, List.append_assoc]
            rfl
          · intro x hx'
            rcases List.mem_append.mp hx' with hx' | hx'
            · exact hR9 x hx'
            · rw [List.mem_singleton.mp hx']
              refine ⟨⟨?_, ?_⟩, ⟨?_, ?_⟩, ?_, ?_⟩
              · show 1 ≤ b + 1 + g - b; omega
              · show b + 1 + g - b ≤ 8 * t; omega
              · show -1000 ≤ b; omega
              · show b + 1 + g ≤ 1000; omega
              · show -t ≤ b; omega
              · show b + 1 + g ≤ 11 * t; have h9 : t * (i : Int) ≤ t * 7 := Int.mul_le_mul_of_nonneg_left (by omega) (by omega); omega
      · rintro σ' H9 ⟨⟨b, v8, rfl, b0, b1⟩, R9, O9, L', R', ed9, ts9, en9, hR9⟩
        rw [List.length_map] at b1 en9
        have bi : t * c0.length ≤ 32 * 8 := Int.le_trans (Int.mul_le_mul_of_nonneg_right t2 (by omega)) (by omega)
        refine ⟨_, rfl, _, rfl, _, _, rfl, rfl, _, _, rfl, rfl, .inl ⟨_, rfl, _, rfl, _, _, rfl, rfl, by omega, _, _, rfl, rfl, ?_⟩⟩
        have mo0 : 0 ≤ (f - b - 1) % t := Int.emod_nonneg _ (by omega)
        have mo1 : (f - b - 1) % t < t := Int.emod_lt_of_pos _ (by omega)
        refine ⟨_, rfl, _, rfl, by show 4 ≤ sizeLine; decide, fun l4 hl4 => ?_⟩
        have R10 := R9.new (o := .lst [V.int 0, .int 0, .int 0, .int 1]) hl4
        refine ⟨r, _, [V.int 0, .int 0, .int 0, .int 1], rfl, R10, .inl ⟨l4, rfl, R9.ne hl4, .inl (SqL.of upd_same)⟩, Nat.succ_pos _, by show 4 ≤ sizeLine; decide, fun pv' H11 hpv R11 O11 => ?_⟩
        obtain ⟨c, rfl, c01⟩ : ∃ n : Int, pv' = .int n ∧ (n = 0 ∨ n = 1) := by
          simp only [List.mem_cons, List.not_mem_nil, or_false] at hpv
          rcases hpv with rfl | rfl | rfl | rfl
          · exact ⟨0, rfl, .inl rfl⟩
          · exact ⟨0, rfl, .inl rfl⟩
          · exact ⟨0, rfl, .inl rfl⟩
          · exact ⟨1, rfl, .inr rfl⟩
        refine ⟨_, _, rfl, rfl, .inl ⟨by omega, by omega⟩, _, _, rfl, rfl, ?_⟩
        have tc : 0 ≤ t * c ∧ t * c ≤ t := by rcases c01 with rfl | rfl <;> omega
        have O9b : Only r H9 H11 := Only.trans (Only.new hl4) O11
        generalize (f - b - 1) % t = mo at mo0 mo1 ⊢
        generalize t * c = tc' at tc ⊢
        refine ⟨_, rfl, _, rfl, _, rfl, _, _, rfl, rfl, by show 2 ≤ sizeLine; decide, fun q hq => ?_⟩
        have S12 := Same.new (o := .tup [V.int b, .int (b + (1 + mo + tc'))]) hq
        have eq12 : (upd H11 q (.tup [V.int b, .int (b + (1 + mo + tc'))])) q = some (.tup [V.int b, .int (b + (1 + mo + tc'))]) := upd_same
        have R12 := Same.rl S12 R11
        generalize upd H11 q (.tup [V.int b, .int (b + (1 + mo + tc'))]) = H12 at S12 eq12 R12 ⊢
        have ed12 := S12 _ _ (O9b _ _ ndr ed9)
        have ts12 := (ts9.keep (KT.only O9b R9)).keep (KT.same S12)
        have els12 := S12 _ _ (O9b _ _ nls (O9 _ _ nls nlsd els8))
        have eD12 := S12 _ _ (O9b _ _ nDr (O9 _ _ nDr nDd eD8))
        have en3 : (c0 ++ [z])[c0.length]? = some z := by rw [List.getElem?_append_right (Nat.le_refl _)]; simp
        have en10 : R'.map (·.1) = R.map (·.1) ++ c0 := by rw [en9, List.take_append_of_le_length (Nat.le_refl _), List.take_length]
        have hn : z ∉ R'.map (·.1) := by rw [en9]; exact fresh _ _ en3
        obtain ⟨g1', g2'⟩ := tups_put ed12 ts12 hn (show TupAt H12 q b (b + (1 + mo + tc')) from eq12)
        have hat : atI ((c0 ++ [z]).map V.str) (-1) = some (.str z) := by
          rw [List.map_append]
          exact atI_last (c0.map V.str) (V.str z)
        refine ⟨_, rfl, _, rfl, _, rfl, .inl ⟨ls, _, _, _, rfl, rfl, SqL.of els12, hat, ?_⟩⟩
        have lL : L'.length ≤ 8 := by
          rw [ts9.len, ← List.length_map (f := (·.1)) (as := R'), en10, List.length_append, List.length_map]
          omega
        refine ⟨d, _, rfl, DPut.k (k := Sum.inr z) ed12 (by rw [kvs_len, sizeLine_eq]; omega), ?_⟩
        have nDd' : D ≠ d := nDd
        refine ⟨(lf.filter fun n => !decide (n ∈ c0 ++ [z])).length, ?_, ⟨D, _, _, _, _, _, rfl, lf.filter fun n => !decide (n ∈ c0 ++ [z]), L' ++ [(z, q)], R' ++ [(z, b, b + (1 + mo + tc'))], by rw [upd_ne nDd]; exact eD12, nDr, nDd, rfl, g1', g2', ?_, ?_⟩, ?_, ?_⟩
        · have h1 := (filter_perm nlf ndcs mcs).length_eq
          rw [List.length_append, List.length_append] at h1
          have h2 : ([z] : List Str).length = 1 := rfl
          omega
        · rw [List.map_append, en10]
          show ((R.map (·.1) ++ c0) ++ [z] ++ _).Perm ns
          rw [List.append_assoc (R.map (·.1)) c0 [z], List.append_assoc]
          exact ((filter_perm nlf ndcs mcs).append_left _).trans pm
        · intro x hx'
          rcases List.mem_append.mp hx' with hx' | hx'
          · exact hR9 x hx'
          · rw [List.mem_singleton.mp hx']
            refine ⟨⟨?_, ?_⟩, ⟨?_, ?_⟩, ?_, ?_⟩
            · show 1 ≤ b + (1 + mo + tc') - b; omega
            · show b + (1 + mo + tc') - b ≤ 8 * t; omega
            · show -1000 ≤ b; omega
            · show b + (1 + mo + tc') ≤ 1000; omega
            · show -t ≤ b; omega
            · show b + (1 + mo + tc') ≤ 11 * t; have h9 : t * (c0.length : Int) ≤ t * 7 := Int.mul_le_mul_of_nonneg_left (by omega) (by omega); omega
        · obtain ⟨x1, x2, x3, e⟩ := R12
          exact ⟨x1, x2, x3, by rw [upd_ne ndr.symm]; exact e⟩
        · intro b' o nb e
          rw [upd_ne (ne_of_none e hd)]
          exact S12 _ _ (O9b _ _ nb (O9 _ _ nb (ne_of_none e hd) (OG8 b' o nb e)))
end
end K44
namespace K44
open PySem L2
open PyProof.Rows PySem.Spec
/-- a dict comprehension over a walk -/
theorem dc_it {J : It} {n : Nat} {G : Hp → Prop} {Y : Nat → Hp → V → Hp → Prop} (w : Walk J n G Y) {g : TG} {tt : TT} {tk tv : TE} {vs : List Nat} {σ : L2.St} {H1 : Hp} {D : Addr} {Qd : Hp → Prop} (Pv : Nat → Hp → Prop) (h0 : Pv 0 (upd H1 D (.dK []))) (hG : ∀ i H, i ≤ n → Pv i H → G H)
    (hs : ∀ i x H H', i < n → Pv i H → Y i H x H' → g x
                                                        (wipe σ vs) H' fun σ2 H2 => wipe σ2 vs = wipe σ vs ∧ tt σ2 H2 fun b H3 =>
      if b = true then tk σ2 H3 fun y H4 => tv σ2 H4 fun z H5 => ∃ kvs k, y = kV k ∧ H5 D = some (.dK kvs) ∧ kvs.length < sizeLine ∧ Pv (i + 1) (upd H5 D (.dK (putK kvs k z))) else Pv (i + 1) H3) (hd : ∀ H, Pv n H → Qd H) :
    ∃ W : Nat → Nat → Hp → Prop, (∃ m, W 0 m
                                             (upd H1 D (.dK []))) ∧ ∀ i m H, W i m H →
      (J.stop i H ∧ Qd H) ∨ (J.go i H ∧ ∃ Nx : Hp → Prop, (∀ H', Nx H' → ∃ m', m' < m ∧ W
                                                                                          (i + 1) m' H') ∧ ∀ x H', J.yld i H x H' → g x (wipe σ vs) H' fun σ2 H2 => wipe σ2 vs = wipe σ vs ∧ tt σ2 H2 fun b H3 =>
        if b = true then tk σ2 H3 fun y H4 => tv σ2 H4 fun z H5 => ∃ kvs k, y = kV k ∧ H5 D = some
                                                                                                   (.dK kvs) ∧ kvs.length < sizeLine ∧ Nx (upd H5 D (.dK (putK kvs k z))) else Nx H3) := by
  refine ⟨fun i m H => m = n - i ∧ i ≤ n ∧ Pv i H,
                                                   ⟨n, by simp, Nat.zero_le _, h0⟩, ?_⟩
  rintro i m H ⟨rfl, hi, p⟩
  have q := hG i H hi p
  by_cases hlt : i < n
  · refine .inr ⟨w.goes i H hlt q, Pv (i + 1), fun H' p' => ⟨n -
                                                                 (i + 1), by omega, rfl, hlt, p'⟩, fun x H' y => hs i x H H' hlt p (w.yields i H x H' hlt q y)⟩
  · have e : i = n := by omega
    subst e
    exact .inl ⟨w.stops H q, hd H p⟩
theorem upd_idem {H : Hp} {d : Addr} {u : HO} (h : H d = some u) : upd H d u = H := by
  funext b
  by_cases e : b = d
  · rw [e, upd_same, h]
  · rw [upd_ne e]
theorem same_lock {H G : Hp} {d : Addr} {u o : HO} (hd : H d = some u) (s : Same (upd H d o) G) : Same H (upd G d u) := fun b v e => by
  by_cases c : b = d
  · rw [c, upd_same]
    rw [c, hd] at e
    exact e
  · rw [upd_ne c]
    exact s b v (by rw [upd_ne c]; exact e)
theorem kt_lock {H : Hp} {d : Addr} {u o : HO} (hd : H d = some u) (n : ∀ xs, u ≠ .tup xs) : KT H (upd H d o) := KT.put hd n
section
variable {P : Program} {w : World} {K : PySem.W.Frag}
                                                      {mg : Str → Option Value} {base : Heap}
def sp_is_span (K : PySem.W.Frag) : Sp := fun vs H Q _ => ∃ (t : Int) (a : Addr) (b e : Int), vs = [.int t, .ref a] ∧ TupAt H a b e ∧ (-1000000000000 < b ∧ b < 1000000000000) ∧ (-1000000000000 < e ∧ e < 1000000000000) ∧ (1 ≤ t ∧ t ≤ 32) ∧ 1 ≤ e - b ∧ e - b ≤ 8 * t ∧ Q (.bl true) H
theorem isInD_int {n : Int} (h : -1000000000000 < n ∧ n < 1000000000000) : isInD (.int n) = true := by
  show (decide (-1000000000000 < n) && decide (n < 1000000000000)) = true
  rw [decide_eq_true h.1, decide_eq_true h.2]
  rfl
theorem ok_is_span (T : T K mg) : FnOk P w K mg base CX0 2 T.f_is_span T.d_is_span ["interval", "value"] (sp_is_span K) := by
  have G_is_integer : FnOk P w K mg base CX0 1 T.f_is_integer T.d_is_integer ["value"] (sp_is_integer K) := ok_is_integer T
  refine T.F_is_span.ok sc_is_span (fun vs H Q E h => ?_) (fun cdv A outer s H vs Q E hr h => ?_)
  · obtain ⟨t, a, b, e, rfl, _⟩ := h
    rfl
  · obtain ⟨t, a, b, e, rfl, ha, hb, he, ht, h1, h2, k⟩ := h
    have hu := hu_of hr
    have hr_is_integer : Room 1 _ := hr.mono (by decide)
    obtain ⟨_, c_MAX_LIFE⟩ := T.c_MAX_LIFE
    refine ⟨_, (pss_cons (ps_if (PW.pt (pw_or (pt_not (pt_val (pe_callB call_isi (by rfl) T.z_isinstance (by decide +kernel) (pa_cons (pv 1) (pa_cons (pe_bltn (v := V.ty "tuple") (u := Value.type "tuple") (by rfl) T.z_tuple (by decide +kernel) rfl) pa_nil))))) (pw_or1 (pt_cmpR op_ne (pe_callB call_len (by rfl) T.z_len (by decide +kernel) (pa_cons (pv 1) pa_nil)) pe_int (nomark _)))))
      (pss_one (ps_ret pe_bl))
      pss_nil)
      (pss_cons (ps_if (PW.pt (pw_or (pt_not (pt_val (pe_call G_is_integer hr_is_integer rfl T.m_is_integer T.F_is_integer.kp T.b_is_integer .nil pass0 (pa_cons (pe_ix ix_seq (pv 1) pe_int (fun _ _ => rfl)) pa_nil)))) (pw_or1 (pt_not (pt_val (pe_call G_is_integer hr_is_integer rfl T.m_is_integer T.F_is_integer.kp T.b_is_integer .nil pass0 (pa_cons (pe_ix ix_seq (pv 1) pe_int (fun _ _ => rfl)) pa_nil)))))))
      (pss_one (ps_ret pe_bl))
      pss_nil)
      (pss_one (ps_ret (pe_chain op_le op_le pe_int (pe_op op_sub (pe_ix ix_seq (pv 1) pe_int (fun _ _ => rfl)) (pe_ix ix_seq (pv 1) pe_int (fun _ _ => rfl))) (pe_op op_mul (pe_glob (v := V.int 8) rfl c_MAX_LIFE ⟨_, rfl⟩) (pv 0))))))), ?_⟩
    have sq : SqT K H a [V.int b, .int e] := SqT.of ha
    refine ⟨_, rfl, _, _, _, _, true, rfl, .ty _, .base (.tup ha), kit_ty (by decide +kernel), _, rfl, iteF ?_⟩
    refine ⟨_, rfl, _, _, rfl, .inr ⟨_, sq, rfl⟩, rfl, _, rfl, ?_⟩
    rw [show (!decide (V.int ((([V.int b, V.int e] : List V).length : Nat) : Int) = V.int 2)) = false from rfl]
    refine iteF ?_
    refine ⟨_, rfl, .inr (.inl ⟨_, _, _, _, rfl, rfl, sq, rfl, ?_⟩)⟩
    refine ⟨_, .int b, rfl, .inl (.int _), _, rfl, ?_⟩
    rw [isInD_int hb]
    refine iteF ?_
    refine ⟨_, rfl, .inr (.inl ⟨_, _, _, _, rfl, rfl, sq, rfl, ?_⟩)⟩
    refine ⟨_, .int e, rfl, .inl (.int _), _, rfl, ?_⟩
    rw [isInD_int he]
    refine iteF ?_
    refine ⟨_, rfl, .inr (.inl ⟨_, _, _, _, rfl, rfl, sq, rfl, ?_⟩)⟩
    refine ⟨_, rfl, .inr (.inl ⟨_, _, _, _, rfl, rfl, sq, rfl, ?_⟩)⟩
    refine ⟨_, _, rfl, rfl, _, _, rfl, rfl, _, rfl, ?_⟩
    rw [decide_eq_true h1]
    refine iteT ?_
    refine ⟨_, rfl, _, _, rfl, rfl, .inl ⟨by decide, by decide⟩, _, _, rfl, rfl, ?_⟩
    exact bl_to (decide_eq_true h2) k
/-- the rows of spans -/
structure Good (t : Int) (R : Rws) : Prop where
  nd : (R.map (·.1)).Nodup
  l1 : 1 ≤ R.length
  l8 : R.length ≤ 8
  nm : ∀ x ∈ R, nmC x.1 = true
  sp : ∀ x ∈ R, SpOk t x
  nr : ∀ x ∈ R, Near 900000000000 x
  t1 : 1 ≤ t
  t2 : t ≤ 32
def sp_are_rows (K : PySem.W.Frag) : Sp := fun vs H Q _ => ∃ (t : Int) (d : Addr) (L : List (Str × Addr)) (R : Rws), vs = [.int t, .ref d] ∧ H d = some (.dK (Kvs L)) ∧ Tups H L R ∧ Good t R ∧ ∀ H', Same H H' → Q (.bl true) H'
theorem okD_nm {z : Str} (h : nmC z = true) : okD (.str z) := by
  unfold okD
  rw [PyData.weight]
  have e : z.cps.size = z.length := rfl
  have := (nmC_len h).2
  omega
theorem ok_are_rows (T : T K mg) : FnOk P w K mg base CX0 3 T.f_are_rows T.d_are_rows ["interval", "value"] (sp_are_rows K) := by
  have G_is_span : FnOk P w K mg base CX0 2 T.f_is_span T.d_is_span ["interval", "value"] (sp_is_span K) := ok_is_span T
  have G_is_name : FnOk P w K mg base CX0 1 T.f_is_name T.d_is_name ["value"] (sp_is_name K) := ok_is_name T
  refine T.F_are_rows.ok sc_are_rows (fun vs H Q E h => ?_) (fun cdv A outer s H vs Q E hr h => ?_)
  · obtain ⟨t, d, L, R, rfl, _⟩ := h
    rfl
  · obtain ⟨t, d, L, R, rfl, hd, ts, gd, k⟩ := h
    have hu := hu_of hr
    have hr_is_span : Room 2 _ := hr.mono (by decide)
    have hr_is_name : Room 1 _ := hr.mono (by decide)
    obtain ⟨_, c_MAX_VALUES⟩ := T.c_MAX_VALUES
    refine ⟨_, (pss_cons (ps_if (PW.pt (pw_or (pt_not (pt_val (pe_callB call_isi (by rfl) T.z_isinstance (by decide +kernel) (pa_cons (pv 1) (pa_cons (pe_bltn (v := V.ty "dict") (u := Value.type "dict") (by rfl) T.z_dict (by decide +kernel) rfl) pa_nil))))) (pw_or1 (pt_not (pt_chain op_le op_le pe_int (pe_callB call_lenD (by rfl) T.z_len (by decide +kernel) (pa_cons (pv 1) pa_nil)) (pe_glob (v := V.int 8) rfl c_MAX_VALUES ⟨_, rfl⟩))))))
      (pss_one (ps_ret pe_bl))
      pss_nil)
      (pss_one (ps_ret (pe_callB (cr_all rfl) (by rfl) T.z_all (by decide +kernel) (pa_cons (pe_lock (pe_lc (own := [("name", 2)]) (g := gName 2) rfl sc_are_rows.nd (pi_keys (pv 1)) (blkOk_by (N := ["interval", "value", "name"]) (sc := defScope s_are_rows) (by decide +kernel)) (fun _ _ _ _ _ => (pg_name (i := 2) sc_are_rows.nd rfl (Or.inl rfl))) (fun _ _ _ _ _ => pts_nil) (fun _ _ _ _ _ => (pe_and (pe_call G_is_name hr_is_name rfl T.m_is_name T.F_is_name.kp T.b_is_name .nil pass0 (pa_cons (pv 2) pa_nil)) (pe_one (pe_call G_is_span hr_is_span rfl T.m_is_span T.F_is_span.kp T.b_is_span .nil pass0 (pa_cons (pv 0) (pa_cons (pe_dget (by exact hu) (pv 1) (pv 2) (fun _ _ => rfl)) pa_nil)))))))) pa_nil))))), ?_⟩
    refine ⟨_, rfl, _, _, _, _, true, rfl, .ty _, .base (.dK hd), kit_ty (by decide +kernel), _, rfl, iteF ?_⟩
    have hlen : (Kvs L).length = R.length := by rw [kvs_len, ts.len]
    refine ⟨_, rfl, d, Kvs L, rfl, hd, _, _, rfl, rfl, _, rfl, ?_⟩
    rw [hlen, decide_eq_true (by have := gd.l1; omega)]
    refine iteT ?_
    refine ⟨_, _, rfl, rfl, _, rfl, ?_⟩
    rw [decide_eq_true (by have := gd.l8; omega)]
    refine iteF ?_
    refine ⟨d, _, hd, True.intro, fun od => ?_⟩
    refine ⟨_, rfl, d, od, rfl, .inl ⟨Kvs L, upd_same, fun D hD => ?_⟩⟩
    have nDd : d ≠ D := fun z => by rw [← z, upd_same] at hD; cases hD
    have hD0 : H D = none := by rw [upd_ne nDd.symm] at hD; exact hD
    have kl : KT H (upd H d (.frz od (.dK (Kvs L)))) := KT.put hd (fun _ z => by cases z)
    refine lc_it walk_keys (fun i H' => H' D = some (.lst ((List.replicate i true).map V.bl)) ∧ Same (upd H d (.frz od (.dK (Kvs L)))) H') ⟨upd_same, Same.new hD⟩ (fun i H' _ h => h.2 _ _ upd_same) ?_ ?_
    · rintro i x H1 H2 hi ⟨eD, S⟩ ⟨rfl, kk, vv, ek, rfl⟩
      refine ⟨rfl, ?_⟩
      unfold tYes
      dsimp only
      rw [if_pos rfl]
      obtain ⟨⟨n, a⟩, hm, e3⟩ : ∃ p ∈ L, (Sum.inr p.1, V.ref p.2) = (kk, vv) := by
        have := List.mem_of_getElem? ek
        exact List.mem_map.mp this
      obtain ⟨e4, e5⟩ := Prod.mk.inj e3
      subst e4 e5
      have hn : n ∈ R.map (·.1) := by rw [← ts.names]; exact List.mem_map.mpr ⟨_, hm, rfl⟩
      have ts1 := ts.keep (KT.trans kl (KT.same S))
      obtain ⟨q, b, e, hv, hq, hR⟩ := ts1.get hn
      have g1 := gd.nr _ hR
      have g2 := gd.sp _ hR
      have g3 := gd.t2
      have g4 := gd.t1
      unfold Near at g1
      unfold SpOk at g2
      simp only at g1 g2
      refine ⟨_, rfl, _, .str n, rfl, .inl (.str _), okD_nm (gd.nm _ hR), fun H3 S3 => ?_⟩
      rw [show nmD (.str n) = true from gd.nm _ hR]
      refine ⟨_, rfl, iteT ?_⟩
      refine ⟨_, rfl, _, rfl, _, rfl, d, V.ref q, rfl, ?_, ?_⟩
      · refine .inl ⟨Kvs L, Sum.inr n, .inr ⟨od, S3 _ _ (S _ _ upd_same)⟩, rfl, hv.symm⟩
      refine ⟨t, q, b, e, rfl, (KT.same S3) _ _ hq, by omega, by omega, by omega, by omega, by omega, ?_⟩
      refine ⟨_, S3 _ _ eD, by rw [List.length_map, List.length_replicate, sizeLine_eq]; have := gd.l8; omega, ?_, Same.at hD (Same.trans S S3)⟩
      rw [upd_same, List.replicate_succ', List.map_append]
      rfl
    · rintro H1 ⟨eD, S⟩
      refine ⟨S _ _ upd_same, ?_⟩
      refine ⟨_, _, rfl, SqL.of (by rw [upd_ne nDd.symm]; exact eD), ?_⟩
      refine bl_to ?_ (k _ (same_lock hd S))
      rw [List.all_eq_true]
      intro b hb
      exact (List.mem_replicate.mp hb).2
end
end K44
/-! an own class's ==, !=, str, by the promises of its defs -/
namespace OW
open PySem PySem.Spec PyProof.Rows L2

section
variable {prog : Program} {w : World} {A : Around} {E : Value → Shared → Prop} {s : Shared} {K : PySem.W.Frag} {x C L : Addr} {h₀ : Heap} {m : Str → Option Value} {ox : Obj} {od : Option Obj} {b tb : Value}
/-- a comparison by what the left one's special method gives -/
theorem cmp_left {op : CmpOp} {Q : Value → Shared → Prop} (hu : A.units < cLine) (X : K.In s.heap) (I : PySem.W.InstAt s.heap x ox C od) (hb : PySem.W.Looks (model prog w) s.heap (typeOf b) tb) (hn : PySem.W.notFirst K C tb = true)
    (one : wpAny (model prog w) A (tryCompare (.ref x) (cmpInfo op).2.1 b) (fun r s' => ∃ v, r = some v ∧ Q v s') E s) : wpAny (model prog w) A (richCompare op (.ref x) b) Q E s := by
  unfold richCompare
  simp only [oneThing_ref]
  refine wpAny_holding (wpAny_bind (wpAny_cRoomFor hu (wpAny_bind (I.type.here (wpAny_bind (hb.here ?_))))))
  have fin : ∀ {k : Option Value → Sem Value}, (∀ v, k (some v) = pure v) → wpAny (model prog w) A (tryCompare (.ref x) (cmpInfo op).2.1 b >>= k) Q E s := fun hk => by
    refine wpAny_bind (wpAny_mono one
                                      (fun r s' z => ?_) fun _ _ e => e)
    obtain ⟨v, rfl, q⟩ := z
    rw [hk]
    exact wpAny_pure q
  split
  · rename_i q
    have e : PySem.W.subIn K tb (.ref C) = some false := by
      rcases Bool.or_eq_true_iff.mp hn with e | e
      · rw [beq_iff_eq.mp e] at q
        simp at q
      · exact beq_iff_eq.mp e
    refine wpAny_bind ((PySem.W.looks_subIn X e).here ?_)
    simp only [Bool.false_eq_true, if_false]
    exact fin fun v => rfl
  · refine wpAny_bind (wpAny_pure ?_)
    simp only [Bool.false_eq_true, if_false]
    exact fin fun v => rfl
/-- a special method that the class has from object -/
theorem if_builtin {M : Model} {name : Str} {id : String} {args : List Value} {Q : Option Value → Shared → Prop} (X : K.In s.heap) (I : PySem.W.InstAt s.heap x ox C od) (hs : PySem.W.findIn K (.ref C) name = some (some (.builtin id)))
    (hb : ∀ self, bindSpecial (.builtin id) self = pure (.builtin id, [self])) (h : wpAny M A (call (.builtin id) (.ref x :: args)) (fun v => Q (some v)) E s) : wpAny M A (callSpecialIfBound? (.ref x) name args) Q E s := by
  simp only [callSpecialIfBound?, bindSpecialIfBound?]
  refine wpAny_holding (wpAny_bind (wpAny_bind (wpAny_bind (I.type.here ((PySem.W.looks_findIn X hs).here (wpAny_bind (wpAny_askSetting (wpAny_ite ?_))))))))
  have fin : wpAny M A (call (.builtin id) ([.ref x] ++ args) >>= fun v => pure (some v)) Q E s := wpAny_bind (wpAny_mono h (fun v s' h' => wpAny_pure h') fun _ _ h' => h')
  split
  · exact wpAny_bind (wpAny_of_eq (hb _) (wpAny_pure (by exact fin)))
  · exact wpAny_tryCatch (wpAny_bind (wpAny_of_eq (hb _) (wpAny_pure (by exact fin))))
/-- != from an own == -/
theorem ne_left {f : Addr} {Q : Value → Shared → Prop} (hu : A.in1.units < cLine) (X : K.In s.heap) (I : PySem.W.InstAt s.heap x ox C od) (hm : PySem.W.mroIn K C (.type "object") = some true) (hn : PySem.W.findIn K (.ref C) "__ne__" = some (some (.builtin "object.__ne__")))
    (hs : PySem.W.findIn K (.ref C) "__eq__" = some (some (.ref f))) (hf : PySem.W.isFn K (.ref f) = true)
    (h : wpAny (model prog w) A.in1 (call (.ref f) [.ref x, b]) (fun v s' => ∃ z, v = .bool z ∧ Q (.bool (!z)) s') E s) : wpAny (model prog w) A (tryCompare (.ref x) (cmpInfo .NotEq).2.1 b) (fun r s' => ∃ v, r = some v ∧ Q v s') E s := by
  unfold tryCompare
  refine wpAny_bind (if_builtin X I hn F.cmp_object.ne.bind (wpAny_call (codeAny_call_builtin F.cmp_object.ne.plain F.cmpEntry_ne (PySem.W.check_slot F.cmpKind_ne F.cmpSplit_ne (I.type.andThen (PySem.W.looks_mroIn X hm)) (F.cmpArgs_ne _ _) ?_))))
  unfold Builtin.«object.__ne__»
  refine wpAny_bind (wpAny_of_eq (a := ((Value.ref x), [b])) rfl ?_)
  dsimp only
  refine wpAny_bind (wpAny_cRoomFor hu ?_)
  refine wpAny_bind (PySem.W.ifBound_K X I hs hf (wpAny_mono h (fun v s' z => ?_) fun _ _ e => e))
  obtain ⟨z, rfl, q⟩ := z
  refine wpAny_bind (wpAny_truthy_bool ?_)
  exact wpAny_pure (wpAny_pure ⟨_, rfl, q⟩)
end

/-- the type of a value -/
def Tyd (K : PySem.W.Frag) (H : Hp) (y : V) (tb : Value) : Prop :=
  match y with
  | .non => tb = .type "NoneType"
  | .bl _ => tb = .type "bool"
  | .int _ => tb = .type "int"
  | .str _ => tb = .type "str"
  | .ref a => ((∃ xs, SqL K H a xs) ∧ tb = .type "list") ∨ ((∃ xs, SqT K H a xs) ∧ tb = .type "tuple") ∨ ∃ C dx fs, H a = some (.ins C dx fs) ∧ tb = .ref C
  | _ => False
section
variable {X : Cx} {pins : List (Addr × Obj)} {σ : L2.St} {H : Hp} {s : Shared} {y : V} {u tb : Value}
theorem tyd_at {h : Heap} {a : Addr} {o : Obj} {M : Model} {t : Value} (ho : h.get? a = some o) (hc : o.cls = t) : PySem.W.Looks M h (typeOf (.ref a)) t := fun A Q E s k q => wpAny_typeOf_ref (k _ _ ho) (by rw [hc]; exact q)
theorem tyd_looks (I : Inv X pins σ H s) (r : RelV y u) (t : Tyd X.K H y tb) : PySem.W.Looks (model X.prog X.w) s.heap (typeOf u) tb := by
  cases y with
  | non => cases r; cases t; exact PySem.W.Looks.of_pure rfl
  | bl b => cases r; cases t; exact PySem.W.Looks.of_pure rfl
  | int i => obtain ⟨tk, rfl⟩ := r; cases t; exact PySem.W.Looks.of_pure rfl
  | str x => obtain ⟨tk, rfl⟩ := r; cases t; exact PySem.W.Looks.of_pure rfl
  | ref a =>
    cases r
    rcases t with ⟨⟨xs, h⟩, rfl⟩ | ⟨⟨xs, h⟩, rfl⟩ | ⟨C, dx, fs, h, rfl⟩
    · obtain ⟨its, _, pl, _⟩ := I.list h
      obtain ⟨o, ho, hc, _⟩ := pl.isList
      exact tyd_at ho hc
    · obtain ⟨its, _, ⟨o, ho, hc, _⟩, _⟩ := I.tuple h
      exact tyd_at ho hc
    · obtain ⟨mA, O, _⟩ := ins_get I.hok h
      obtain ⟨od, J, _⟩ := O.look
      exact J.type
  | byt _ => exact t.elim
  | flt _ => exact t.elim
  | ty _ => exact t.elim

/-- a def called from within a builtin -/
theorem run_at {CX : CXT} {n : Nat} {f : Addr} {fd : FuncData} {ps : List Str} {sp : Sp} {E : XK} {A : Around} {Q : VK} {us : List Value} {vs : List V} (F : FnOk X.prog X.w X.K X.mg X.base CX n f fd ps sp) (sb : Sub X n A) (hb : Binds X.K fd ps []) (hx : Passes CX X E)
    (I : Inv X pins σ H s) (r : Vals vs us) (h : sp vs H Q E) : wpAny (model X.prog X.w) A (call (.ref f) us) (EP X pins σ Q) X.xe s := by
  have e0 : Env0 X.prog X.w X.K X.mg X.base A X.stack s H := by
    have e := I.env0
    exact ⟨by rw [sb.fr]; exact e.frames, e.mod, e.bs, e.bsz, e.funs, e.frf, e.hok, e.bare⟩
  have hl := F.len _ _ _ _ h
  refine wpAny_call (codeAny_mono (F.run A X.stack s H ⟨us, []⟩ us vs Q E sb.room e0 (by
    have := hb s us I.kIn (by rw [List.append_nil, ← r.length]; exact hl)
    rwa [List.append_nil] at this) r h) fun r s' hq => ?_)
  cases r with
  | error e => exact hx pins σ H s e s' I hq
  | ok fl =>
    cases fl with
    | ret w => exact I.after hq
    | next => exact False.elim hq
    | brk => exact False.elim hq
    | cont => exact False.elim hq
theorem not_ni {z : V} {v : Value} {R : Prop} (r : RelV z v) (h : v ≠ .notImplemented → R) : R := h fun e => by
  subst e
  cases z <;> first | exact nomatch r | (obtain ⟨t, e⟩ := r; exact nomatch e) | (cases r)

/-- the class's own == -/
structure OwnEq (X : Cx) (C f : Addr) : Prop where
  fs : PySem.W.findIn X.K (.ref C) "__eq__" = some (some (.ref f))
  fn : PySem.W.isFn X.K (.ref f) = true
def rOwnEq (K : PySem.W.Frag) (C : Addr) (sp : Sp) (E : XK) : R2 := fun x y H Q => ∃ a dx fs tb, x = .ref a ∧ H a = some (.ins C dx fs) ∧ Tyd K H y tb ∧ PySem.W.notFirst K C tb = true ∧ sp [x, y] H Q E
theorem op_ownEq {CX : CXT} {n : Nat} {C f : Addr} {fd : FuncData} {ps : List Str} {sp : Sp} {E : XK} (F : FnOk X.prog X.w X.K X.mg X.base CX n f fd ps sp) (o : OwnEq X C f) (hr : Room n X.A) (hb : Binds X.K fd ps []) (hx : Passes CX X E) :
    OpR X (compareOp .Eq) (rOwnEq X.K C sp E) := by
  intro pins s σ H x y v u Q I rx ry h
  obtain ⟨a, dx, fs, tb, rfl, ha, ty, nf, q⟩ := h
  cases rx
  obtain ⟨mA, O, _⟩ := ins_get I.hok ha
  obtain ⟨od, J, _⟩ := O.look
  show wpAny _ _ (richCompare .Eq (.ref a) u) _ _ _
  refine cmp_left hr.units0 I.kIn J (tyd_looks I ry ty) nf ?_
  unfold tryCompare
  refine wpAny_bind (PySem.W.ifBound_K I.kIn J o.fs o.fn (wpAny_mono (run_at F ⟨hr, rfl⟩ hb hx I (vs := [.ref a, y]) (.cons rfl (.cons ry .nil)) q) (fun v s' z => ?_) fun _ _ e => e))
  obtain ⟨zv, H', I', r', q'⟩ := z
  refine not_ni r' fun ne => ?_
  cases v <;> first | exact absurd rfl ne | exact wpAny_pure ⟨_, rfl, zv, H', I', r', q'⟩
def rOwnNe (K : PySem.W.Frag) (C : Addr) (sp : Sp) (E : XK) : R2 := fun x y H Q => ∃ a dx fs tb, x = .ref a ∧ H a = some (.ins C dx fs) ∧ Tyd K H y tb ∧ PySem.W.notFirst K C tb = true ∧ sp [x, y] H (fun v H' => ∃ b, v = .bl b ∧ Q (.bl (!b)) H') E
theorem op_ownNe {CX : CXT} {n : Nat} {C f : Addr} {fd : FuncData} {ps : List Str} {sp : Sp} {E : XK} (F : FnOk X.prog X.w X.K X.mg X.base CX n f fd ps sp) (o : OwnEq X C f) (hm : PySem.W.mroIn X.K C (.type "object") = some true)
    (hn : PySem.W.findIn X.K (.ref C) "__ne__" = some (some (.builtin "object.__ne__"))) (hr : Room (n + 1) X.A) (hb : Binds X.K fd ps []) (hx : Passes CX X E) :
    OpR X (compareOp .NotEq) (rOwnNe X.K C sp E) := by
  intro pins s σ H x y v u Q I rx ry h
  obtain ⟨a, dx, fs, tb, rfl, ha, ty, nf, q⟩ := h
  cases rx
  obtain ⟨mA, O, _⟩ := ins_get I.hok ha
  obtain ⟨od, J, _⟩ := O.look
  show wpAny _ _ (richCompare .NotEq (.ref a) u) _ _ _
  refine cmp_left hr.units0 I.kIn J (tyd_looks I ry ty) nf ?_
  refine ne_left hr.in1.units0 I.kIn J hm hn o.fs o.fn (wpAny_mono (run_at F ⟨hr.in1, rfl⟩ hb hx I (vs := [.ref a, y]) (.cons rfl (.cons ry .nil)) q) (fun v s' z => ?_) fun _ _ e => e)
  obtain ⟨zv, H', I', r', b, rfl, q'⟩ := z
  cases r'
  exact ⟨b, rfl, .bl (!b), H', I', rfl, q'⟩
end
end OW
/-! an own class's in, len, [..], +, str, by the promises of its defs -/
namespace OW
open PySem PySem.Spec PyProof.Rows L2
section
variable {X : Cx} {CX : CXT} {n : Nat} {C f : Addr} {fd : FuncData} {ps : List Str} {sp : Sp} {E : XK}
/-- the class has a def at f as its special method -/
structure OwnM (X : Cx) (C : Addr) (name : Str) (f : Addr) : Prop where
  fs : PySem.W.findIn X.K (.ref C) name = some (some (.ref f))
  fn : PySem.W.isFn X.K (.ref f) = true
/-- what holds of a tracked instance -/
theorem inst_at {pins : List (Addr × Obj)} {σ : L2.St} {H : Hp} {s : Shared} {a dx : Addr} {fs : List (Str × V)} (I : Inv X pins σ H s) (ha : H a = some (.ins C dx fs)) : ∃ ox od, PySem.W.InstAt s.heap a ox C od := by
  obtain ⟨mA, O, _⟩ := ins_get I.hok ha
  obtain ⟨od, J, _⟩ := O.look
  exact ⟨_, od, J⟩
def rOwnIn (C : Addr) (sp : Sp) (E : XK) (neg : Bool) : R2 := fun y x H Q => ∃ a dx fs, x = .ref a ∧ H a = some (.ins C dx fs) ∧ sp [x, y] H (fun v H' => ∃ b, v = .bl b ∧ Q (.bl (if neg then !b else b)) H') E
theorem op_ownIn (F : FnOk X.prog X.w X.K X.mg X.base CX n f fd ps sp) (o : OwnM X C "__contains__" f) (hr : Room n X.A) (hb : Binds X.K fd ps []) (hx : Passes CX X E) : OpR X (compareOp .In) (rOwnIn C sp E false) := by
  intro pins s σ H y x u v Q I ry rx h
  obtain ⟨a, dx, fs, rfl, ha, q⟩ := h
  cases rx
  obtain ⟨ox, od, J⟩ := inst_at I ha
  obtain ⟨m, hF⟩ := I.fr
  refine PySem.W.in_K hF I.ok.mod.kin J o.fs o.fn (wpAny_mono (run_at F ⟨hr, rfl⟩ hb hx I (vs := [.ref a, y]) (.cons rfl (.cons ry .nil)) q) (fun v s' z => ?_) fun _ _ e => e)
  obtain ⟨zv, H', I', r', b, rfl, q'⟩ := z
  cases r'
  exact wpAny_truthy_bool ⟨.bl b, H', I', rfl, q'⟩
theorem op_ownNotIn (F : FnOk X.prog X.w X.K X.mg X.base CX n f fd ps sp) (o : OwnM X C "__contains__" f) (hr : Room n X.A) (hb : Binds X.K fd ps []) (hx : Passes CX X E) : OpR X (compareOp .NotIn) (rOwnIn C sp E true) := by
  intro pins s σ H y x u v Q I ry rx h
  obtain ⟨a, dx, fs, rfl, ha, q⟩ := h
  cases rx
  obtain ⟨ox, od, J⟩ := inst_at I ha
  obtain ⟨m, hF⟩ := I.fr
  refine PySem.W.notIn_K hF I.ok.mod.kin J o.fs o.fn (wpAny_mono (run_at F ⟨hr, rfl⟩ hb hx I (vs := [.ref a, y]) (.cons rfl (.cons ry .nil)) q) (fun v s' z => ?_) fun _ _ e => e)
  obtain ⟨zv, H', I', r', b, rfl, q'⟩ := z
  cases r'
  exact wpAny_truthy_bool ⟨.bl (!b), H', I', rfl, q'⟩
/-- len(o) -/
def rOwnLen (C : Addr) (sp : Sp) (E : XK) : List V → Hp → VK → Prop := fun xs H Q => ∃ a dx fs, xs = [.ref a] ∧ H a = some (.ins C dx fs) ∧ sp [.ref a] H (fun v H' => ∃ i : Int, v = .int i ∧ 0 ≤ i ∧ i < 2 ^ 63 ∧ Q (.int i) H') E
theorem cr_ownLen (F : FnOk X.prog X.w X.K X.mg X.base CX n f fd ps sp) (o : OwnM X C "__len__" f) (hr : Room (n + 1) X.A) (hb : Binds X.K fd ps []) (hx : Passes CX X E) : CallR X (.builtin "len") (rOwnLen C sp E) := by
  intro pins s σ H xs us Q I r h
  obtain ⟨a, dx, fs, rfl, ha, q⟩ := h
  rw [Vals.ref1 r]
  obtain ⟨ox, od, J⟩ := inst_at I ha
  obtain ⟨m, hF⟩ := I.fr
  refine PySem.W.len_K hF I.ok.mod.kin J o.fs o.fn (wpAny_mono (run_at F ⟨hr.in1, rfl⟩ hb hx I (vs := [.ref a]) (.cons rfl .nil) q) (fun v s' z => ?_) fun _ _ e => e)
  obtain ⟨zv, H', I', r', i, rfl, h0, h1, q'⟩ := z
  obtain ⟨t, rfl⟩ := r'
  exact ⟨⟨h0, h1⟩, .int i, H', I'.tok _, ⟨_, rfl⟩, q'⟩
/-- o + p of one class -/
def rOwnAdd (C : Addr) (sp : Sp) (E : XK) : R2 := fun x y H Q => ∃ a dx fs b dy gs, x = .ref a ∧ H a = some (.ins C dx fs) ∧ y = .ref b ∧ H b = some (.ins C dy gs) ∧ sp [x, y] H Q E
theorem op_ownAdd (F : FnOk X.prog X.w X.K X.mg X.base CX n f fd ps sp) (o : OwnM X C "__add__" f) (hc : PySem.W.selfFirst X.K C = true) (hr : Room n X.A) (hb : Binds X.K fd ps []) (hx : Passes CX X E) : OpR X (binaryOp .Add) (rOwnAdd C sp E) := by
  intro pins s σ H x y u v Q I rx ry h
  obtain ⟨a, dx, fs, b, dy, gs, rfl, ha, rfl, hb', q⟩ := h
  cases rx
  cases ry
  obtain ⟨ox, od, J⟩ := inst_at I ha
  obtain ⟨oy, od', J'⟩ := inst_at I hb'
  obtain ⟨m, hF⟩ := I.fr
  refine PySem.W.binop_K hF I.ok.mod.kin J J'.type hc o.fs o.fn (wpAny_mono (run_at F ⟨hr, rfl⟩ hb hx I (vs := [.ref a, .ref b]) (.cons rfl (.cons rfl .nil)) q) (fun v s' z => ?_) fun _ _ e => e)
  obtain ⟨zv, H', I', r', q'⟩ := z
  refine not_ni r' fun ne => ?_
  cases v <;> first | exact absurd rfl ne | exact ⟨zv, H', I', r', q'⟩
end
section
variable {prog : Program} {w : World} {A : Around} {E : Value → Shared → Prop} {s : Shared} {K : PySem.W.Frag} {x C f : Addr} {ox : Obj} {od : Option Obj}
open Builtin Builtin.Str in
/-- str(o), an own __str__ -/
theorem str_own {Q : Value → Shared → Prop} (hu : A.in1.in1.units < cLine) (X : K.In s.heap) (I : PySem.W.InstAt s.heap x ox C od) (hs : PySem.W.findIn K (.ref C) "__str__" = some (some (.ref f))) (hf : PySem.W.isFn K (.ref f) = true)
    (h : wpAny (model prog w) A.in1.in1 (call (.ref f) [.ref x]) (PySem.W.StrBack Q) E s) : wpAny (model prog w) A (call (.type "str") [.ref x]) Q E s := by
  refine callType_codes (T := "str") (Bi := Builtin.«object.__init__»)
                                                                       (Q₁ := fun r s₁ => ∃ y u, r = .str y u ∧ Q r s₁) PySem.F.called_str (PySem.F.typeCall_str_1 _) PySem.F.entry_object_init ?_ ?_
  · refine codeAny_of_tree ?_
    show wpAny _ A.in1.in1 (do checkBuiltinCall "str.__new__"
                                                              ⟨[.type "str", .ref x], []⟩; again (.builtin "str.__new__" ⟨[.type "str", .ref x], []⟩)) _ _ s
    refine wpAny_bind (wpAny_of_eq (PySem.F.newCall_str_1 _) (wpAny_pure
                                                                         ⟨plainId_quiet (by decide +kernel) _, codeAny_builtin PySem.F.entry_str_new ?_⟩))
    rw [Around.under_plainId (by decide +kernel) _, str_new_tree]
    refine wpAny_bind (wpAny_pure (wpAny_bind (wpAny_of_eq isSubtype_str_str ?_)))
    have key : wpAny (model prog w) A.in1.in1 (PySem.Builtin.Str.strOf
                                                                       (.ref x)) (fun r s₁ => ∃ y u, r = .str y u ∧ Q r s₁) E s := by
      unfold PySem.Builtin.Str.strOf
      rw [show isExactStr (.ref x) = false from rfl]
      refine wpAny_bind
                        (m := cRoomFor _ _) (wpAny_cRoomFor hu ?_)
      refine wpAny_bind (m := callSpecial? (.ref x) (Str.ofString "__str__")) (PySem.W.special_fn X I hs (beq_iff_eq.mp hf) (wpAny_mono h (fun r s' z => ?_) fun _ _ y => y))
      cases r <;> first | exact z.elim | exact wpAny_pure
                                                          ⟨_, _, rfl, z⟩
    exact wpAny_bind (wpAny_mono key
                                     (fun r s₁ hr => wpAny_pure hr) fun _ _ y => y)
  · rintro obj s₁ ⟨y, u, rfl, hq⟩
    exact ⟨typeIs_str _ _ _, PySem.F.args_object_init_2 _ _, object_init_meets PySem.F.called_str.init.lookup PySem.F.called_str.made
                                                                                                                                      (by decide) prog w A.in1 _ s₁ ⟨typeIs_str _ _ _, rfl, hq⟩⟩
end
section
variable {X : Cx} {CX : CXT} {n : Nat} {C f : Addr} {fd : FuncData} {ps : List Str} {sp : Sp} {E : XK}
def rOwnStr (C : Addr) (sp : Sp) (E : XK) : List V → Hp → VK → Prop := fun xs H Q => ∃ a dx fs, xs = [.ref a] ∧ H a = some (.ins C dx fs) ∧ sp [.ref a] H (fun v H' => ∃ z, v = .str z ∧ Q (.str z) H') E
theorem cr_ownStr (F : FnOk X.prog X.w X.K X.mg X.base CX n f fd ps sp) (o : OwnM X C "__str__" f) (hr : Room (n + 2) X.A) (hb : Binds X.K fd ps []) (hx : Passes CX X E) : CallR X (.type "str") (rOwnStr C sp E) := by
  intro pins s σ H xs us Q I r h
  obtain ⟨a, dx, fs, rfl, ha, q⟩ := h
  rw [Vals.ref1 r]
  obtain ⟨ox, od, J⟩ := inst_at I ha
  refine str_own hr.in1.in1.units0 I.kIn J o.fs o.fn (wpAny_mono (run_at F ⟨hr.in1.in1, rfl⟩ hb hx I (vs := [.ref a]) (.cons rfl .nil) q) (fun v s' z => ?_) fun _ _ e => e)
  obtain ⟨zv, H', I', r', y, rfl, q'⟩ := z
  obtain ⟨t, rfl⟩ := r'
  exact ⟨.str y, H', I', ⟨t, rfl⟩, q'⟩
/-- o[i] -/
def rOwnItem (C : Addr) (sp : Sp) (E : XK) : R2 := fun x y H Q => ∃ a dx fs, x = .ref a ∧ H a = some (.ins C dx fs) ∧ sp [x, y] H Q E
theorem pe_ownItem {a b : Expr} {ta tb : TE} {pos : Pos} (ha : PE X a ta) (hb : PE X b tb) (F : FnOk X.prog X.w X.K X.mg X.base CX n f fd ps sp) (o : OwnM X C "__getitem__" f) (hfn : PySem.W.fnIn X.K f = true) (hr : Room (n + 1) X.A) (hbd : Binds X.K fd ps []) (hx : Passes CX X E)
    (hsl : ∀ x i, subscripted b true (.ref x) i = runValue (.builtin "lifetime.subscript" ⟨[.ref x, i], []⟩)) : PE X (.Subscript a b pos) (tOp (rOwnItem C sp E) ta tb) := by
  refine ⟨fun pins s σ H Q I h => ?_⟩
  refine Subscript_
                    (binT ha hb I h fun v u s2 x y H2 I2 rx ry q => ?_)
  obtain ⟨p, dx, fs, rfl, hp, q⟩ := q
  cases rx
  obtain ⟨ox, od, J⟩ := inst_at I2 hp
  obtain ⟨m, hF⟩ := I2.fr
  exact PySem.W.sub_K hF I2.ok.mod.kin J o.fs hfn o.fn (run_at F ⟨hr.in1, rfl⟩ hbd hx I2 (vs := [.ref p, y]) (.cons rfl (.cons ry .nil)) q) (hsl _ _)
end
end OW
/-! == of dicts of data in one order; in, of a value that is no text, in a tuple of texts -/
namespace RL
open PySem PySem.Spec PyProof.Rows L2
/-- all values equal, place by place -/
def allE : List (PyData × PyData) → List (PyData × PyData) → Bool
  | (_, d) :: es, (_, e) :: fs => PyData.eqv d e && allE es fs
  | _, _ => true
section
variable {X : Cx} {pins : List (Addr × Obj)}
                                             {σ : L2.St} {H : Hp} {s : Shared}
theorem dic_hits (I : Inv X pins σ H s) {A : Around} (hu : A.units + 60 < cLine) {ls : List (Key × V)} {vb : List (Key × Value)} (rb : KV ls vb) :
    ∀ {es' fs' : List (PyData × PyData)} {ks' ls' : List (Key × V)} {va' : List (Key × Value)}, DSk X.K H ks' es' → DSk X.K H ls' fs' → KV ks' va' → ks'.map (·.1) = ls'.map (·.1) → (∀ p ∈ ls', valV ls p.1 = some p.2) →
      PyData.plainAll (es'.map (·.2)) = true → PyData.plainAll (fs'.map (·.2)) = true → PyData.depthAll (es'.map (·.2)) ≤ 60 → PySem.W.KeqHitsP X.prog X.w A s vb va' (allE es' fs')
  | [], _, _, _, _, h1, h2, r, e, _, _, _, _ => by
    cases h1
    unfold KV at r
    cases r
    simp only [allE]
    exact .nil
  | (kd, d) :: es', _, _, _, _, h1, h2, r, e, hv, p1, p2, hd => by
    cases h1 with
    | @cons k v ks' _ _ hd1 hk1 =>
      cases h2 with
      | nil => cases e
      | @cons k2 v2 ls' d2 fs' hd2 hk2 =>
        obtain ⟨rfl, e2⟩ := List.cons.inj e
        unfold KV at r
        cases r with
        | @cons _ q _ qs h t =>
          obtain ⟨hq1, hq2⟩ := h
          obtain ⟨qk, qv⟩ := q
          obtain rfl : k = qk := hq1
          have rr : RelO (some v2) (valueAt vb k) := by
            rw [← hv _ List.mem_cons_self]
            exact rb.val k
          obtain ⟨y, hy, ry⟩ := rr.some_of
          have p1' : d.plain = true ∧ PyData.plainAll (es'.map (·.2)) = true := by simpa [PyData.plainAll] using p1
          have p2' : d2.plain = true ∧ PyData.plainAll (fs'.map (·.2)) = true := by simpa [PyData.plainAll] using p2
          have hdd : d.depth ≤ 60 ∧ PyData.depthAll (es'.map (·.2)) ≤ 60 := by
            simp only [List.map_cons, PyData.depthAll] at hd
            omega
          obtain ⟨as, ra⟩ := DS.reads I _ _ _ hd1 hq2
          obtain ⟨bs, rb'⟩ := DS.reads I _ _ _ hd2 ry
          refine .hit hy (SeqAt.EqAt.eqP (SeqAt.eqAt_plain d d2 A s qv y as bs ra rb' p1'.1 p2'.1 (by have := Nat.min_le_left d.depth d2.depth; omega))) ?_
          exact dic_hits I hu rb hk1 hk2 t e2 (fun p hp => hv p (List.mem_cons_of_mem _ hp)) p1'.2 p2'.2 hdd.2
/-- a == b, two dicts with the same keys in one order -/
def rEqDic (K : PySem.W.Frag) : R2 := fun x y H Q => ∃ a b ks ls es fs, x = .ref a ∧ y = .ref b ∧ H a = some (.dK ks) ∧ H b = some (.dK ls) ∧ DSk K H ks es ∧ DSk K H ls fs ∧ ks.map (·.1) = ls.map (·.1) ∧ (∀ p ∈ ls, valV ls p.1 = some p.2) ∧
  PyData.plainAll (es.map (·.2)) = true ∧ PyData.plainAll (fs.map (·.2)) = true ∧ PyData.depthAll (es.map (·.2)) ≤ 60 ∧ Q (.bl (allE es fs)) H
theorem op_eqDic (hu : X.A.units + 64 < cLine) : OpR X (compareOp .Eq) (rEqDic X.K) := by
  intro pins s σ H x y v u Q I rx ry h
  obtain ⟨a, b, ks, ls, es, fs, rfl, rfl, ha, hb, h1, h2, e, hv, p1, p2, hd, q⟩ := h
  cases rx
  cases ry
  obtain ⟨_, ya, va, ra, da⟩ :=
                                (show ObjOk X.prog X.w H s.heap a (.dK ks) from I.hok a _ ha)
  obtain ⟨_, yb, vb, rb, db⟩ :=
                                (show ObjOk X.prog X.w H s.heap b (.dK ls) from I.hok b _ hb)
  have hl : va.length = vb.length := by
    rw [← ra.length, ← rb.length, ← List.length_map (f := (·.1)) (as := ks), e, List.length_map]
  refine PySem.W.rcP_dicts (knd := mixKind X.prog X.w) (r := allE es fs) ya yb da db (by omega) (fun _ => dic_hits I (by show X.A.units + 1 + 60 < cLine; omega) rb h1 h2 ra e hv p1 p2 hd) _ _ ?_
  rw [show (va.length == vb.length && allE es fs) = allE es fs from by rw [hl]; simp]
  exact ⟨.bl _, H, I, rfl, q⟩
end
/-! ### in a tuple of texts -/
section
open AutoSeq1 (wpAny_loadPart')
open SeqAt MeetsSeq MeetsSeq2 MeetsSeq3 SeqRoads2
variable {prog : Program} {w : World}
theorem tuple_containsJ (l : Addr) (items : Array Value) (n : Nat) (dd : Option Addr) (sl : Array (Option Value)) (x : Value) (J : Shared → Prop) :
    MeetsIn prog w (Builtin.«tuple.__contains__» ⟨[.ref l, x], []⟩)
      (fun A R s => s.heap.get? l = some { cls := .type "tuple", dict := dd, data := .seq items n, slots := sl } ∧ J s ∧ (∀ y, y ∈ items → ∀ s', J s' → wpAny (model prog w) A.in1 (eqBool y x) (fun b s'' => b = false ∧ J s'') (fun e s' => R (.error e) s') s') ∧ ∀ s', J s' → R (.ok (.ret (.bool false))) s') :=
  .of_wp fun A R s h => by
    obtain ⟨hp, g, d, tk, os⟩ := s; obtain ⟨hl, hj, he, h⟩ := h
    wp_walk using wpAny_loadPart' hl, wpAny_forIn_array _ (fun rest b s' => b.1 = none ∧ J s' ∧ (∀ y, y ∈ rest → y ∈ items)) _
    case turn =>
      rintro y rest b s' ⟨hb, hj', hmem⟩
      refine wpAny_bind (wpAny_mono (he y (hmem y (List.mem_cons_self ..)) s' hj') (fun b' s'' z => ?_) fun _ _ z => z)
      obtain ⟨rfl, hj2⟩ := z
      wp_walk
      exact ⟨rfl, hj2, fun z hz => hmem z (List.mem_cons_of_mem _ hz)⟩
    case fin =>
      rintro ⟨b1, b2⟩ s' ⟨hb, hj', -⟩
      simp only at hb
      subst hb
      wp_walk
      exact ⟨_, rfl, h _ hj'⟩
    case h =>
      exact ⟨rfl, hj, fun y hy => by simpa using hy⟩
end
end RL
/-! ### a text beside a dict, beside an instance -/
namespace RL
open PySem PySem.Spec PyProof.Rows L2
open AutoSeq1 (wpAny_loadPart')
theorem str_declines_dict (b : Str) (u : Tok) (l : Addr) (c : Value) (es : Array DictEntry) (n : Nat) (dd : Option Addr) (sl : Array (Option Value)) :
    Meets (Builtin.«str.__eq__» ⟨[.str b u, .ref l], []⟩) (fun _ R s => s.heap.get? l = some { cls := c, dict := dd, data := .dict es n, slots := sl } ∧ R (.ok (.ret .notImplemented)) s) :=
  .of_wp fun prog w A R s h => by obtain ⟨hp, g, d, tk, os⟩ := s; obtain
                                                                         ⟨hl, h⟩ := h; wp_walk using wpAny_loadPart' hl, wpAny_load hl; exact ⟨_, rfl, h⟩
theorem str_declines_plain (b : Str) (u : Tok) (l : Addr) (c : Value) (dd : Option Addr) (sl : Array (Option Value)) :
    Meets (Builtin.«str.__eq__» ⟨[.str b u, .ref l], []⟩) (fun _ R s => s.heap.get? l = some { cls := c, dict := dd, data := .plain, slots := sl } ∧ R (.ok (.ret .notImplemented)) s) :=
  .of_wp fun prog w A R s h => by obtain ⟨hp, g, d, tk, os⟩ := s; obtain
                                                                         ⟨hl, h⟩ := h; wp_walk using wpAny_loadPart' hl, wpAny_load hl; exact ⟨_, rfl, h⟩
section
variable {prog : Program}
                          {w : World} {A : Around} {s : Shared}
theorem dict_declines_str {K : Type} [DecidableEq K] {knd : KeyKind prog w K} {a : Addr} {ka : List (K × Value)} {z : Str} {t : Tok} {E Q : Value → Shared → Prop} (da : s.heap.DictOf knd a ka) (h : Q .notImplemented s) :
    wpAny (model prog w) A (call (.builtin "dict.__eq__") [.ref a, .str z t]) Q E s := by
  refine wpAny_call_entry PySem.F.slot_dict_eq da.typeIs PySem.F.entry_dict_eq ?_ (PySem.F.args_dict_eq_2 _ _)
  show wpAny _ _ (Builtin.Dict.dictSlotArgs "__eq__" ⟨[.ref a, .str z t], []⟩ >>= _) _ _ s
  refine wpAny_bind ?_
  unfold Builtin.Dict.dictSlotArgs
  refine wpAny_bind (wpAny_notOrdered_dict da.typeIs ?_)
  show wpAny _ _ (pure (Value.ref a, Value.str z t)) _ _ s
  refine wpAny_pure ?_
  refine wpAny_bind (wpAny_isInstance (T := "str") (typeIs_str s z t) PySem.F.sub_str_dict ?_)
  simp only [Bool.not_false, if_true]
  refine wpAny_bind (wpAny_rule ?_)
  exact wpAny_pure ⟨_, rfl, h⟩
end
end RL
namespace RL
open PySem PySem.Spec PyProof.Rows L2
open AutoSeq1 (wpAny_loadPart')
section
variable {prog : Program}
                          {w : World} {A : Around} {s : Shared}
theorem eqb_of_rc {z : Str} {t : Tok} {a : Addr} {E : Value → Shared → Prop} {Q : Bool → Shared → Prop} (h : wpAny (model prog w) A (richCompare .Eq (.str z t) (.ref a)) (fun v s' => ∃ b, v = .bool b ∧ Q b s') E s) : wpAny (model prog w) A (eqBool (.str z t) (.ref a)) Q E s := by
  unfold eqBool
  refine wpAny_holding ?_
  refine wpAny_ite_split (fun hab => absurd
                                            (eq_of_beq hab) nofun) (fun _ => ?_)
  refine wpAny_bind (wpAny_mono h (fun v s' z => ?_) fun _ _ z => z)
  obtain ⟨b, rfl, q⟩ := z
  exact wpAny_truthy_bool q
theorem rc_str_dict {K : Type} [DecidableEq K] {knd : KeyKind prog w K} {a : Addr} {ka : List (K × Value)} {z : Str} {t : Tok} {E Q : Value → Shared → Prop} (hu : A.units < cLine) (da : s.heap.DictOf knd a ka) (h : Q (.bool false) s) :
    wpAny (model prog w) A (richCompare .Eq (.str z t) (.ref a)) Q E s := by
  obtain ⟨⟨cls, dd, data, sl⟩, es, ep, ho, hx, hd, hr⟩ := id da
  have hc := hx.1
  simp only at hc hd
  subst hc hd
  exact SeqAt.rc_eq_decline_or (k := false) (typeIs_str s z t) da.typeIs (by decide) PySem.F.sub_dict_str PySem.F.slot_str_eq PySem.F.slot_dict_eq
    (fun _ hq => call_meets PySem.F.slot_str_eq (typeIs_str s z t) PySem.F.entry_str_eq (PySem.F.args_str_eq_2 _ _) (str_declines_dict z t a (.type "dict") es ep dd sl) ⟨ho, hq⟩)
    (fun _ hq => dict_declines_str da hq)
    (fun _ hq => wpAny_of_eq (rfl : isSame (.str z t) (.ref a) = pure false) hq) (.inr hu) h
theorem rc_str_inst {K : PySem.W.Frag} {x C dx f : Addr} {od : Option Obj} {z : Str} {t : Tok} {E Q : Value → Shared → Prop} (hu : A.units < cLine) (X : K.In s.heap) (ho : s.heap.get? x = some (PySem.W.instObj C dx)) (I : PySem.W.InstAt s.heap x (PySem.W.instObj C dx) C od)
    (hn : PySem.W.subIn K (.ref C) (.type "str") = some false) (hs : PySem.W.findIn K (.ref C) "__eq__" = some (some (.ref f))) (hf : PySem.W.isFn K (.ref f) = true)
    (h : wpAny (model prog w) A (call (.ref f) [.ref x, .str z t]) (fun v s' => v ≠ .notImplemented ∧ Q v s') E s) : wpAny (model prog w) A (richCompare .Eq (.str z t) (.ref x)) Q E s := by
  have ha := typeIs_str s z t
  simp only [richCompare, ha.oneThing_none]
  try with_reducible refine wpAny_holding ?_
  refine wpAny_bind (wpAny_cRoomFor hu ?_)
  refine wpAny_bind (wpAny_typeOf ha (wpAny_bind (wpAny_typeOf_ref ho ?_)))
  have hne : (Value.type "str" != (PySem.W.instObj C dx).cls) = true := rfl
  simp only [hne, if_true]
  refine wpAny_bind ((PySem.W.looks_subIn X hn).here ?_)
  simp only [Bool.false_eq_true, if_false, Bool.not_false, if_true]
  refine wpAny_bind (m := tryCompare (.str z t) _ (.ref x)) (wpAny_tryCompare_declines ha PySem.F.slot_str_eq (call_meets PySem.F.slot_str_eq ha PySem.F.entry_str_eq (PySem.F.args_str_eq_2 _ _) (str_declines_plain z t x (.ref C) (some dx) #[]) ⟨ho, rfl, ?_⟩))
  refine wpAny_bind (m := tryCompare (.ref x) _ (.str z t)) ?_
  unfold tryCompare
  refine wpAny_bind (PySem.W.ifBound_K X I hs hf (wpAny_mono h (fun v s' y => ?_) fun _ _ e => e))
  obtain ⟨y1, y2⟩ := y
  cases v <;> first | exact absurd rfl y1 | exact wpAny_pure (wpAny_pure y2)
end
section
variable {X : Cx} {CX : CXT} {n : Nat} {C f : Addr} {fd : FuncData} {ps : List Str} {sp : Sp} {E : XK}
/-- x in y, y a tuple of texts, x no text -/
def rInOdd (K : PySem.W.Frag) (C : Addr) (sp : Sp) (E : XK) : R2 := fun x y H Q => ∃ (p : Addr) (ns : List Str), y = .ref p ∧ SqT K H p (ns.map V.str) ∧ Q (.bl false) H ∧
  ((∃ d, DS K H x d ∧ d.plain = true ∧ d.depth ≤ 60 ∧ ∀ z, PyData.eqv (.str z) d = false) ∨ (∃ a kvs, x = .ref a ∧ H a = some (.dK kvs)) ∨
    ∃ a dx fs, x = .ref a ∧ H a = some (.ins C dx fs) ∧ ∀ z : Str, sp [x, .str z] H (fun v H' => v = .bl false ∧ H' = H) E)
theorem strs_vals : ∀ {ns : List Str} {its : List Value}, Vals (ns.map V.str) its → ∀ y ∈ its, ∃ z t, y = Value.str z t
  | [], _, h, y, hy => by
    cases h
    cases hy
  | n :: ns, _, h, y, hy => by
    cases h with
    | cons h1 h2 =>
      rcases List.mem_cons.mp hy with rfl | hy
      · obtain ⟨t, e⟩ := h1
        exact ⟨n, t, e⟩
      · exact strs_vals h2 y hy
theorem op_inOdd (F : FnOk X.prog X.w X.K X.mg X.base CX n f fd ps sp) (o : OW.OwnEq X C f) (hsub : PySem.W.subIn X.K (.ref C) (.type "str") = some false) (hr : Room (n + 2) X.A) (hun : X.A.units + 64 < cLine) (hb : Binds X.K fd ps []) (hx : Passes CX X E) :
    OpR X (compareOp .In) (rInOdd X.K C sp E) := by
  intro pins s σ H x y v u Q I rx ry h
  obtain ⟨p, ns, rfl, hq, q, hk⟩ := h
  cases ry
  obtain ⟨its, rv, ⟨⟨cls, dd, data, sl⟩, ho, hc, m, hd⟩, _⟩ := I.tuple hq
  simp only at hc hd
  subst hc hd
  have hT : s.TypeIs (.ref p) "tuple" := ⟨_, ho, rfl⟩
  have key : wpAny (model X.prog X.w) X.A (call (.builtin "tuple.__contains__") [.ref p, v]) (fun r s' => r = Value.bool false ∧ Inv X pins σ H s') X.xe s := by
    refine call_meetsIn PySem.F.slot_tuple_contains hT PySem.F.entry_tuple_contains (PySem.F.args_tuple_contains_2 _ _) (tuple_containsJ p its.toArray m dd sl v (fun s' => Inv X pins σ H s')) ⟨ho, I, ?_, fun s' I' => ⟨rfl, I'⟩⟩
    intro y hy s' I'
    obtain ⟨z, t, rfl⟩ := strs_vals rv y (by simpa using hy)
    have hu1 : X.A.in1.units < cLine := by show X.A.units + 1 < cLine; omega
    rcases hk with ⟨d, h1, h2, h3, h4⟩ | ⟨a, kvs, rfl, ha⟩ | ⟨a, dx, fs, rfl, ha, hsp⟩
    · obtain ⟨as, rd⟩ := DS.reads I' _ _ _ h1 rx
      have g := SeqAt.eqAt_plain (.str z) d X.A.in1 s' (.str z t) v _ as (Reads.str z t) rd rfl h2 (by show X.A.units + 1 + _ < cLine; have := Nat.min_le_right (PyData.str z).depth d.depth; omega)
      rw [h4 z] at g
      exact g X.prog X.w _ _ ⟨rfl, I'⟩
    · cases rx
      obtain ⟨_, _, va, _, da⟩ := dk_of I'.hok ha
      exact eqb_of_rc (rc_str_dict hu1 da ⟨false, rfl, rfl, I'⟩)
    · cases rx
      obtain ⟨mA, O, _⟩ := ins_get I'.hok ha
      obtain ⟨od, J, _⟩ := O.look
      have ho' : s'.heap.get? a = some (PySem.W.instObj C dx) := by
        obtain ⟨_, _, _, e, _⟩ := (show ObjOk X.prog X.w H s'.heap a (.ins C dx fs) from I'.hok a _ ha)
        exact e
      refine eqb_of_rc (rc_str_inst hu1 I'.kIn ho' J hsub o.fs o.fn (wpAny_mono (OW.run_at F ⟨hr.in1.mono (by omega), rfl⟩ hb hx I' (vs := [.ref a, .str z]) (.cons rfl (.cons ⟨t, rfl⟩ .nil)) (hsp z)) (fun r s2 y => ?_) fun _ _ e => ?_))
      · obtain ⟨zv, H', I2, r2, rfl, rfl⟩ := y
        cases r2
        exact ⟨(fun e => nomatch e), false, rfl, rfl, I2⟩
      · exact e
  show wpAny _ X.A (do return Value.bool (← contains (.ref p) v)) _ _ s
  refine wpAny_bind (wpAny_contains_slot hT PySem.F.slot_tuple_contains (wpAny_mono key (fun r s' z => ?_) fun _ _ e => e))
  obtain ⟨rfl, I'⟩ := z
  exact wpAny_truthy_bool (wpAny_pure ⟨.bl false, H, I', rfl, q⟩)
end
end RL
namespace RL
open PySem PySem.Spec PyProof.Rows L2 OW
section
variable {X : Cx}
/-- an own == beside a dict -/
def rOwnEqD (K : PySem.W.Frag) (C : Addr) (sp : Sp) (E : XK) : R2 := fun x y H Q => ∃ a dx fs b kvs, x = .ref a ∧ H a = some (.ins C dx fs) ∧ y = .ref b ∧ H b = some (.dK kvs) ∧ PySem.W.notFirst K C (.type "dict") = true ∧ sp [x, y] H Q E
theorem dict_looks {pins : List (Addr × Obj)} {σ : L2.St} {H : Hp} {s : Shared} {b : Addr} {kvs : List (Key × V)} (I : Inv X pins σ H s) (hb : H b = some (.dK kvs)) : PySem.W.Looks (model X.prog X.w) s.heap (typeOf (.ref b)) (.type "dict") := by
  obtain ⟨_, _, va, _, da⟩ := dk_of I.hok hb
  obtain ⟨o, es, ep, ho, hx, _⟩ := da
  exact tyd_at ho hx.1
theorem op_ownEqD {CX : CXT} {n : Nat} {C f : Addr} {fd : FuncData} {ps : List Str} {sp : Sp} {E : XK} (F : FnOk X.prog X.w X.K X.mg X.base CX n f fd ps sp) (o : OwnEq X C f) (hr : Room n X.A) (hb : Binds X.K fd ps []) (hx : Passes CX X E) :
    OpR X (compareOp .Eq) (rOwnEqD X.K C sp E) := by
  intro pins s σ H x y v u Q I rx ry h
  obtain ⟨a, dx, fs, b, kvs, rfl, ha, rfl, hb', nf, q⟩ := h
  cases rx
  cases ry
  obtain ⟨mA, O, _⟩ := ins_get I.hok ha
  obtain ⟨od, J, _⟩ := O.look
  show wpAny _ _ (richCompare .Eq (.ref a) (.ref b)) _ _ _
  refine cmp_left hr.units0 I.kIn J (dict_looks I hb') nf ?_
  unfold tryCompare
  refine wpAny_bind (PySem.W.ifBound_K I.kIn J o.fs o.fn (wpAny_mono (run_at F ⟨hr, rfl⟩ hb hx I (vs := [.ref a, .ref b]) (.cons rfl (.cons rfl .nil)) q) (fun v s' z => ?_) fun _ _ e => e))
  obtain ⟨zv, H', I', r', q'⟩ := z
  refine not_ni r' fun ne => ?_
  cases v <;> first | exact absurd rfl ne | exact wpAny_pure ⟨_, rfl, zv, H', I', r', q'⟩
def rOwnNeD (K : PySem.W.Frag) (C : Addr) (sp : Sp) (E : XK) : R2 := fun x y H Q => ∃ a dx fs b kvs, x = .ref a ∧ H a = some (.ins C dx fs) ∧ y = .ref b ∧ H b = some (.dK kvs) ∧ PySem.W.notFirst K C (.type "dict") = true ∧ sp [x, y] H (fun v H' => ∃ b, v = .bl b ∧ Q (.bl (!b)) H') E
theorem op_ownNeD {CX : CXT} {n : Nat} {C f : Addr} {fd : FuncData} {ps : List Str} {sp : Sp} {E : XK} (F : FnOk X.prog X.w X.K X.mg X.base CX n f fd ps sp) (o : OwnEq X C f) (hm : PySem.W.mroIn X.K C (.type "object") = some true)
    (hn : PySem.W.findIn X.K (.ref C) "__ne__" = some (some (.builtin "object.__ne__"))) (hr : Room (n + 1) X.A) (hb : Binds X.K fd ps []) (hx : Passes CX X E) :
    OpR X (compareOp .NotEq) (rOwnNeD X.K C sp E) := by
  intro pins s σ H x y v u Q I rx ry h
  obtain ⟨a, dx, fs, b, kvs, rfl, ha, rfl, hb', nf, q⟩ := h
  cases rx
  cases ry
  obtain ⟨mA, O, _⟩ := ins_get I.hok ha
  obtain ⟨od, J, _⟩ := O.look
  show wpAny _ _ (richCompare .NotEq (.ref a) (.ref b)) _ _ _
  refine cmp_left hr.units0 I.kIn J (dict_looks I hb') nf ?_
  refine ne_left hr.in1.units0 I.kIn J hm hn o.fs o.fn (wpAny_mono (run_at F ⟨hr.in1, rfl⟩ hb hx I (vs := [.ref a, .ref b]) (.cons rfl (.cons rfl .nil)) q) (fun v s' z => ?_) fun _ _ e => e)
  obtain ⟨zv, H', I', r', b, rfl, q'⟩ := z
  cases r'
  exact ⟨b, rfl, .bl (!b), H', I', rfl, q'⟩
end
end RL
/-! tuple(d) of a dict with int and text keys -/
namespace RL
open PySem PySem.Spec PyProof.Rows L2
section
variable {prog : Program} {w : World} {A : Around} {E : Value → Shared → Prop} {s : Shared} {T : String} {r d : Addr} {n : Nat} {Pk : Nat → Value → Prop} {OK : Heap → Prop}
theorem collect_kdl {Q : List Value → Shared → Prop} (Ks : PySem.W.KdlSrc prog w T r d n Pk OK) (hh : A.handled = none) (hok : OK s.heap) (hn : n ≤ sizeLine)
    (hQ : ∀ (h' : Heap) (tk : Nat) (acc : Array Value), (∀ b o, s.heap.get? b = some o → h'.get? b = some o) → ItemsOf Pk acc n → Q acc.toList { s with heap := h', toks := tk }) :
    wpAny (model prog w) A (collect (.ref r)) Q E s := by
  unfold collect
  refine wpAny_bind (wpAny_runValue
                                    (codeAny_builtin F.entry_proto_collect ?_))
  rw [Around.under_plainId F.plain_proto_collect _]
  show wpAny _ A.in1 (newList [] >>= fun l => again
                                                    (.builtin "list.__iadd__" ⟨[l, .ref r], []⟩)) _ _ s
  refine wpAny_bind (wpAny_newObj_type ?_)
  refine wpAny_pure
                    ⟨plainId_quiet F.plain_list_iadd _, codeAny_builtin F.entry_list_iadd ?_⟩
  rw [Around.under_plainId F.plain_list_iadd _]
  show wpAny _ A.in1 (Builtin.List.listExtendWith
                                                  (.ref s.heap.objs.size) (.ref r) (.ref s.heap.objs.size)) _ _ _
  have hS : (s.heap.push { cls := .type "list", data := .seq ([] : List Value).toArray }).get? s.heap.objs.size = some
                                                                                                                       { cls := .type "list", data := .seq #[] 0 } := Heap.get?_push_size _ rfl
  have th := Ks.there _ hok
  refine wpAny_mono (PySem.W.kdl_extend (A := A) (R := fun rr s' => rr = .ok (.ret (.ref s.heap.objs.size)) ∧ ∃ (h' : Heap) (tk : Nat) (acc : Array Value) (c' : Nat), s' = { s with heap := h', toks := tk } ∧
      (∀ b o, s.heap.get? b = some o → h'.get? b = some o) ∧ h'.get? s.heap.objs.size = some { cls := .type "list", dict := none, data := .seq acc c', slots := #[] } ∧ ItemsOf Pk acc n)
    (s := { s with heap := s.heap.push { cls := .type "list", data := .seq ([] : List Value).toArray } }) Ks hh (Ks.keep _ _ hok fun b _ o e => Heap.get?_push_of_some _ e) _ (Nat.ne_of_gt th.1) (Nat.ne_of_gt th.2) _ 0 hS
    (fun h' tk acc c' hk e hi => ⟨rfl, h', tk, acc, c', rfl, fun b o q => hk b o (Nat.ne_of_lt (Heap.lt_size q)) (Heap.get?_push_of_some _ q), e, hi⟩) hn) (fun fin s' h => ?_) (fun e s' h => ?_)
  · cases fin with
    | done f =>
      obtain ⟨e, h', tk, acc, c', rfl, hk, hS', hi⟩ := h
      cases e
      show wpAny _ A (load s.heap.objs.size >>= _) _ _ _
      exact wpAny_bind (wpAny_load hS'
                                       (wpAny_pure (hQ h' tk acc hk hi)))
    | again c' =>
      refine ⟨h.1, codeAny_mono h.2 fun rr s'' hr' => ?_⟩
      obtain ⟨rfl, h', tk, acc, c', rfl, hk, hS', hi⟩ := hr'
      show wpAny _ A (load s.heap.objs.size >>= _) _ _ _
      exact wpAny_bind (wpAny_load hS'
                                       (wpAny_pure (hQ h' tk acc hk hi)))
  · exact absurd h.1 (by simp)
theorem call_tuple_kdl {Q : Value → Shared → Prop} (Ks : PySem.W.KdlSrc prog w T r d n Pk OK) (hh : A.handled = none) (hok : OK s.heap) (hn : n ≤ sizeLine)
    (hQ : ∀ (h' : Heap) (tk : Nat) (acc : Array Value), (∀ b o, s.heap.get? b = some o → h'.get? b = some o) → ItemsOf Pk acc n → Q (.ref h'.objs.size) { s with heap := h'.push { cls := .type "tuple", data := .seq acc }, toks := tk }) :
    wpAny (model prog w) A (call
                                 (.type "tuple") [.ref r]) Q E s := by
  refine callType_codes (Q₁ := fun obj s₁ => s₁.TypeIs obj "tuple" ∧ Q obj s₁) F.called_tuple
                                                                                              (F.typeCall_tuple_1 _) F.entry_object_init
    ?_ fun obj s₁ h₁ => ⟨h₁.1, F.args_object_init_2 obj _, object_init_meets F.called_tuple.init.lookup F.called_tuple.made (by decide) prog w A.in1 _ s₁ ⟨h₁.1, rfl, h₁.2⟩⟩
  refine codeAny_of_tree ?_
  show wpAny _ A.in1.in1 (do checkBuiltinCall "tuple.__new__" ⟨[.type "tuple", .ref r], []⟩; again (.builtin "tuple.__new__" ⟨[.type "tuple", .ref r], []⟩)) _ _ s
  refine wpAny_bind (wpAny_of_eq (F.newCall_tuple_1 _) (wpAny_pure
                                                                   ⟨plainId_quiet F.plain_tuple_new _, codeAny_builtin F.entry_tuple_new ?_⟩))
  rw [Around.under_plainId F.plain_tuple_new _]
  have hsub := sub_tuple_self
  have hinit := init_tuple_lookup
  have hmh := madeHere_tuple
  have hTI : s.TypeIs (.ref r) T := Ks.type s hok
  have hh1 : A.in1.in1.handled = none := hh
  have hnt : (Value.type T == Value.type "tuple") = false := Ks.notTuple
  wp_walk using wpAny_typeOf hTI, collect_kdl (A := A.in1.in1) Ks hh1 hok hn
  intro h' tk acc hk hacc
  show wpAny _ _
                 (Builtin.Tuple.tupleExact acc.toList.toArray >>= fun v => ret v) _ _ _
  unfold Builtin.Tuple.tupleExact
  refine wpAny_bind (wpAny_newObj_type ?_
                                          (by show acc.toList.toArray.size ≤ sizeLine; simp only [Array.toArray_toList]; rw [hacc.1]; exact hn))
  refine wpAny_pure ?_
  have e : acc.toList.toArray = acc := by simp
  rw [e]
  exact ⟨⟨_, Heap.get?_push_size _ rfl, rfl⟩, hQ h' tk acc hk hacc⟩
end
section
variable {X : Cx}
def rTupD : List V → Hp → VK → Prop := fun xs H Q => ∃ (p : Addr) (kvs : List (Key × V)), xs = [.ref p] ∧ H p = some (.dK kvs) ∧ ∀ q, H q = none → Q (.ref q) (upd H q (.tup (kvs.map fun kv => kV kv.1)))
theorem cr_tupD (hc : X.calm = true) : CallR X (.type "tuple") rTupD := by
  intro pins s σ H xs us Q I r h
  obtain ⟨p, kvs, rfl, hk, q⟩ := h
  obtain ⟨u, rfl, rx⟩ := vals1 r
  obtain rfl : u = Value.ref p := rx
  obtain ⟨z, lo, vs, rk, hd⟩ :=
                                (show ObjOk X.prog X.w H s.heap p (.dK kvs) from I.hok p _ hk)
  obtain ⟨ep, hat⟩ := hd.dictAt
  have hl : kvs.length = vs.length := Paired.length rk
  refine call_tuple_kdl (PySem.W.kdl_dict (knd := mixKind X.prog X.w) (kvs := vs) (ep := ep) lo) (I.ok.hd hc) hat (by rw [← hl]; exact z) fun h' tk acc hkeep hacc => ?_
  have el : acc.toList.length = acc.size := by simp
  have I2 : Inv X pins σ H { s with heap := h', toks := tk } := I.kept hkeep
  refine ⟨.ref h'.objs.size, upd H h'.objs.size (.tup (kvs.map fun kv => kV kv.1)), I2.laid (t' := tk) (fun c o e => Heap.get?_push_of_some _ e) (Nat.le_refl _) (show ObjOk X.prog X.w _ _ _ (.tup (kvs.map fun kv => kV kv.1)) from ⟨by rw [List.length_map]; exact z, acc.toList, ?_, ?_⟩), rfl, q _ (I2.hok.fresh (Nat.le_refl _))⟩
  · refine vals_of_at (by rw [List.length_map, el, hacc.1, hl]) fun j x w h1 h2 => ?_
    obtain ⟨k, y, hky, hi⟩ := hacc.2 j w
                                         (by rw [← Array.getElem?_toList]; exact h2)
    have e1 : (kvs.map (·.1))[j]? = some k := by
      rw [KV.keys rk, List.getElem?_map, hky] <;> rfl
    have e2 :
              (kvs.map fun kv => kV kv.1)[j]? = some (kV k) := by
      have e3 : (kvs.map fun kv => kV kv.1) = (kvs.map
                                                       (·.1)).map kV := by rw [List.map_map] <;> rfl
      rw [e3, List.getElem?_map, e1] <;> rfl
    rw [e2] at h1
    cases h1
    exact keyIs_rel hi
  · rw [Array.toArray_toList]
    exact IsTup.new _ _
end
end RL
namespace K44
open PySem L2
open PyProof.Rows PySem.Spec
/-- a property of the class -/
structure Pp (K : PySem.W.Frag) (C : Addr) (x qual : Str) (st : Stmt) where
  p : Addr
  g : Addr
  d : FuncData
  F : FunD K x qual (defArgs st) (defBody st) (defScope st) [] [] g d
  pr : PropOf K C x p g
  b : Binds K d ["self"] []
/-- a method of the class -/
structure Mt (K : PySem.W.Frag) (C : Addr) (x qual : Str) (st : Stmt) (ps : List Str) where
  f : Addr
  d : FuncData
  F : FunD K x qual (defArgs st) (defBody st) (defScope st) [] [] f d
  m : Meth K C x f
  b : Binds K d ps []
/-- a method with a parameter for more names -/
structure Ms (K : PySem.W.Frag) (C : Addr) (x qual : Str) (st : Stmt) where
  f : Addr
  d : FuncData
  F : Fun K x qual st f d
  m : Meth K C x f
structure UX (K : PySem.W.Frag) (mg : Str → Option Value) where
  C : Addr
  mC : mg "Spans" = some (.ref C)
  cl : Cls K C
  mo : PySem.W.mroIn K C (.type "object") = some true
  ne : PySem.W.findIn K (.ref C) "__ne__" = some (some (.builtin "object.__ne__"))
  fI : Addr
  dI : FuncData
  FI : FunD K "__init__" "Spans.__init__" (defArgs s_Spans_init) (defBody s_Spans_init) (defScope s_Spans_init) [] [] fI dI
  mkI : Mk K C fI
  bI : Binds K dI ["self", "interval", "rows"] []
  n1 : NoAttr K C "_interval"
  n2 : NoAttr K C "_rows"
  n3 : NoAttr K C "_names"
  n4 : NoAttr K C "_living"
  n5 : NoAttr K C "_crossing"
  pi : Pp K C "interval" "Spans.interval" s_Spans_interval
  pn : Pp K C "names" "Spans.names" s_Spans_names
  mi : Mt K C "__getitem__" "Spans.__getitem__" s_Spans_getitem ["self", "name"]
  mh : Mt K C "_chosen" "Spans._chosen" s_Spans_chosen ["self", "names"]
  m8 : Mt K C "each_alive" "Spans.each_alive" s_Spans_each_alive ["self", "tick"]
  mc : Ms K C "across" "Spans.across" s_Spans_across
  ca : PySem.W.findIn K (.ref C) "__class__" = some
                                                    (some (.builtin "object.__class__"))
  cg : PySem.W.specialIn K (.builtin "object.__class__") "__get__" = some (some (.builtin "getset_descriptor.__get__"))
  ct : PySem.W.takesIn K
                         (.builtin "object.__class__") = some true
  fn : PySem.W.fnIn K mi.f = true
  sf : PySem.W.selfFirst K C = true
  D : Addr
  mD : mg "Wiring" = some (.ref D)
  clD : Cls K D
  moD : PySem.W.mroIn K D (.type "object") = some true
  neD : PySem.W.findIn K (.ref D) "__ne__" = some (some (.builtin "object.__ne__"))
  fJ : Addr
  dJ : FuncData
  FJ : FunD K "__init__" "Wiring.__init__" (defArgs s_Wiring_init) (defBody s_Wiring_init) (defScope s_Wiring_init) [] [] fJ dJ
  mkJ : Mk K D fJ
  bJ : Binds K dJ ["self", "spans", "follows"] []
  k1 : NoAttr K D "_spans"
  k2 : NoAttr K D "_follows"
  k3 : NoAttr K D "_cycles"
  ps : Pp K D "spans" "Wiring.spans" s_Wiring_spans
  pf : Pp K D "follows" "Wiring.follows" s_Wiring_follows
  pr : Pp K D "registers" "Wiring.registers" s_Wiring_registers
  pc : Pp K D "cycles" "Wiring.cycles" s_Wiring_cycles
  pz : Pp K D "sizes" "Wiring.sizes" s_Wiring_sizes
  wa : Mt K D "after" "Wiring.after" s_Wiring_after ["self", "name", "turn"]
  wg : Mt K D "__getitem__" "Wiring.__getitem__" s_Wiring_getitem ["self", "name"]
  wf : Mt K D "each_free" "Wiring.each_free" s_Wiring_each_free ["self", "moment"]
  fnW : PySem.W.fnIn K wg.f = true
/-- what spans keep -/
def spF (t : Int) (rd nm : Addr) (lv cr : V) : List (Str × V) := putF "_crossing" cr (putF "_living" lv (putF "_names" (.ref nm) (putF "_rows" (.ref rd) (putF "_interval" (.int t) []))))
/-- spans stand at p: S is their rows in the order of names -/
def SpAt (H : Hp) (C p : Addr) (t : Int) (S : Rws) : Prop := Good t S ∧ sortedS (S.map (·.1)) = true ∧ ∃ dx rd nm lv cr L, H p = some (.ins C dx (spF t rd nm lv cr)) ∧ H rd = some (.dK (Kvs L)) ∧ Tups H L S ∧ H nm = some (.tup ((S.map (·.1)).map V.str))
theorem SpAt.same {H H' : Hp} {C p : Addr} {t : Int} {S : Rws} (s : Same H H') (h : SpAt H C p t S) : SpAt H' C p t S := by
  obtain ⟨g, so, dx, rd, nm, lv, cr, L, h1, h2, h3, h4⟩ := h
  exact ⟨g, so, dx, rd, nm, lv, cr, L, s _ _ h1, s _ _ h2, h3.keep (KT.same s), s _ _ h4⟩
theorem SpAt.only {H H' : Hp} {C p r : Addr} {t : Int} {S : Rws} (o : Only r H H') (hr : Rl H r) (h : SpAt H C p t S) : SpAt H' C p t S := by
  obtain ⟨g, so, dx, rd, nm, lv, cr, L, h1, h2, h3, h4⟩ := h
  have ne : ∀ {a : Addr} {u : HO}, H a = some u → (∀ xs, u ≠ .lst xs) → a ≠ r := fun e n w => by
    obtain ⟨x, y, z, q⟩ := hr
    rw [w, q] at e
    exact n _ (Option.some.inj e).symm
  exact ⟨g, so, dx, rd, nm, lv, cr, L, o _ _ (ne h1 (fun _ z => by cases z)) h1, o _ _ (ne h2 (fun _ z => by cases z)) h2, h3.keep (KT.only o hr), o _ _ (ne h4 (fun _ z => by cases z)) h4⟩
theorem Good.perm {t : Int} {R S : Rws} (g : Good t R) (p : S.Perm R) : Good t S :=
  ⟨(p.map (·.1)).nodup_iff.mpr g.nd, by rw [p.length_eq]; exact g.l1, by rw [p.length_eq]; exact g.l8, fun x hx => g.nm x (p.mem_iff.mp hx), fun x hx => g.sp x (p.mem_iff.mp hx), fun x hx => g.nr x (p.mem_iff.mp hx), g.t1, g.t2⟩
theorem kvs_kv (L : List (Str × Addr)) : ((Kvs L).map fun kv => kV kv.1) = (L.map (·.1)).map V.str := by
  unfold Kvs
  rw [List.map_map, List.map_map]
  rfl
section
variable {P : Program} {w : World} {K : PySem.W.Frag}
                                                      {mg : Str → Option Value} {base : Heap}
/-- all but p is kept -/
def But (p : Addr) (H H' : Hp) : Prop := ∀ b o, b ≠ p → H b = some o → H' b = some o
theorem But.trans {p : Addr} {H H1 H2 : Hp} (a : But p H H1) (b : But p H1 H2) : But p H H2 := fun c o n e => b c o n (a c o n e)
theorem But.same {p : Addr} {H H' : Hp} (s : Same H H') : But p H H' := fun b o _ e => s b o e
theorem But.upd {p : Addr} {H : Hp} {o : HO} : But p H (upd H p o) := fun b u n e => by rw [upd_ne n]; exact e
theorem But.kt {p : Addr} {H H' : Hp} (s : But p H H') (h : ∀ xs, H p ≠ some (.tup xs)) : KT H H' := fun t xs e => s t _ (fun w => h xs (w ▸ e)) e
def sp_init (K : PySem.W.Frag) (C : Addr) : Sp := fun vs H Q _ => ∃ (p d dx : Addr) (t : Int) (L : List (Str × Addr)) (R : Rws), vs = [.ref p, .int t, .ref d] ∧ H p = some (.ins C dx []) ∧ H d = some (.dK (Kvs L)) ∧ Tups H L R ∧ Good t R ∧
  ∀ S H', But p H H' → SpAt H' C p t S → Srd R S → (∀ H'', (∀ b o, (H b = none ∨ b = p) → H' b = some o → H'' b = some o) → KT H' H'' → SpAt H'' C p t S) → Q .non H'
theorem ok_init (T : T K mg) (U : UX K mg) : FnOk P w K mg base CX0 6 U.fI U.dI ["self", "interval", "rows"] (sp_init K U.C) := by
  have G_are_rows : FnOk P w K mg base CX0 3 T.f_are_rows T.d_are_rows ["interval", "value"] (sp_are_rows K) := ok_are_rows T
  have G_check_interval : FnOk P w K mg base CX0 4 T.f_check_interval T.d_check_interval ["value"] (sp_check_interval K) := ok_check_interval T
  have G_times_alive : FnOk P w K mg base CX0 5 T.f_times_alive T.d_times_alive ["begin", "end", "tick", "interval"] (sp_times_alive K) := ok_times_alive T
  refine U.FI.ok sc_Spans_init (fun vs H Q E h => ?_) (fun cdv A outer s H vs Q E hr h => ?_)
  · obtain ⟨p, d, dx, t, L, R, rfl, _⟩ := h
    rfl
  · obtain ⟨p, d, dx, t, L, R, rfl, hp, hd, ts, gd, k⟩ := h
    have hu := hu_of hr
    have hr_are_rows : Room 3 _ := hr.mono (by decide)
    have hr_check_interval : Room 4 _ := hr.mono (by decide)
    have hr_times_alive : Room 5 _ := hr.mono (by decide)
    refine ⟨_, (pss_cons (ps_expr (pe_call G_check_interval hr_check_interval rfl T.m_check_interval T.F_check_interval.kp T.b_check_interval .nil pass0 (pa_cons (pv 1) pa_nil)))
      (pss_cons (ps_if (pt_not (pt_val (pe_call G_are_rows hr_are_rows rfl T.m_are_rows T.F_are_rows.kp T.b_are_rows .nil pass0 (pa_cons (pv 1) (pa_cons (pv 2) pa_nil)))))
      (pss_one ps_never)
      pss_nil)
      (pss_cons (ps_fld (pv 0) (pv 1) rfl)
      (pss_cons (ps_fld (pv 0) (pe_dc (own := [("name", 3)]) (g := gName 3) rfl sc_Spans_init.nd (pi_list (pe_callB (call_sortedD rfl) (by rfl) T.z_sorted (by decide +kernel) (pa_cons (pv 2) pa_nil))) (blkOk_by (N := ["self", "interval", "rows", "name", "begin", "end", "slot"]) (sc := defScope s_Spans_init) (by decide +kernel)) (fun _ _ _ _ _ => (pg_name (i := 3) sc_Spans_init.nd rfl (Or.inl rfl))) (fun _ _ _ _ _ => pts_nil) (fun _ _ _ _ _ => (pv 3)) (fun _ _ _ _ _ => (pe_dget (by exact hu) (pv 2) (pv 3) (fun _ _ => rfl)))) rfl)
      (pss_cons (ps_fld (pv 0) (pe_callTy (RL.cr_tupD rfl) (by rfl) T.z_tuple (by decide +kernel) (pa_cons (pe_fld (pv 0) rfl) pa_nil)) rfl)
      (pss_cons (ps_fld (pv 0) (pe_lock (pe_dc (own := [("name", 3), ("begin", 4), ("end", 5)]) (g := gTup K 2 (gCons (gName 3) (gCons (gTup K 2 (gCons (gName 4) (gCons (gName 5) gNil))) gNil))) rfl sc_Spans_init.nd (pi_items (pe_fld (pv 0) rfl)) (blkOk_by (N := ["self", "interval", "rows", "name", "begin", "end", "slot"]) (sc := defScope s_Spans_init) (by decide +kernel)) (fun _ _ _ _ _ => (pg_tup rfl (pgs_cons (pg_name (i := 3) sc_Spans_init.nd rfl (Or.inl rfl)) (pgs_cons (pg_tup rfl (pgs_cons (pg_name (i := 4) sc_Spans_init.nd rfl (Or.inr rfl)) (pgs_cons (pg_name (i := 5) sc_Spans_init.nd rfl (Or.inr rfl)) pgs_nil))) pgs_nil)))) (fun _ _ _ _ _ => pts_nil) (fun _ _ _ _ _ => (pv 3)) (fun _ _ _ _ _ => (pe_lc (own := [("slot", 6)]) (g := gName 6) rfl sc_Spans_init.nd (pi_range1 (by rfl) T.z_range (pa_cons (pv 1) pa_nil)) (blkOk_by (N := ["self", "interval", "rows", "name", "begin", "end", "slot"]) (sc := _) (by rfl)) (fun _ _ _ _ _ => (pg_name (i := 6) sc_Spans_init.nd rfl (Or.inl rfl))) (fun _ _ _ _ _ => pts_nil) (fun _ _ _ _ _ => (pe_call G_times_alive hr_times_alive rfl T.m_times_alive T.F_times_alive.kp T.b_times_alive .nil pass0 (pa_cons (pv 4) (pa_cons (pv 5) (pa_cons (pv 6) (pa_cons (pv 1) pa_nil)))))))))) rfl)
      (pss_one (ps_fld (pv 0) (pe_lock (pe_dc (own := [("name", 3), ("begin", 4), ("end", 5)]) (g := gTup K 2 (gCons (gName 3) (gCons (gTup K 2 (gCons (gName 4) (gCons (gName 5) gNil))) gNil))) rfl sc_Spans_init.nd (pi_items (pe_fld (pv 0) rfl)) (blkOk_by (N := ["self", "interval", "rows", "name", "begin", "end", "slot"]) (sc := defScope s_Spans_init) (by decide +kernel)) (fun _ _ _ _ _ => (pg_tup rfl (pgs_cons (pg_name (i := 3) sc_Spans_init.nd rfl (Or.inl rfl)) (pgs_cons (pg_tup rfl (pgs_cons (pg_name (i := 4) sc_Spans_init.nd rfl (Or.inr rfl)) (pgs_cons (pg_name (i := 5) sc_Spans_init.nd rfl (Or.inr rfl)) pgs_nil))) pgs_nil)))) (fun _ _ _ _ _ => pts_nil) (fun _ _ _ _ _ => (pv 3)) (fun _ _ _ _ _ => (pe_lc (own := [("slot", 6)]) (g := gName 6) rfl sc_Spans_init.nd (pi_range1 (by rfl) T.z_range (pa_cons (pv 1) pa_nil)) (blkOk_by (N := ["self", "interval", "rows", "name", "begin", "end", "slot"]) (sc := _) (by rfl)) (fun _ _ _ _ _ => (pg_name (i := 6) sc_Spans_init.nd rfl (Or.inl rfl))) (fun _ _ _ _ _ => pts_nil) (fun _ _ _ _ _ => (pe_call G_times_alive hr_times_alive rfl T.m_times_alive T.F_times_alive.kp T.b_times_alive .nil pass0 (pa_cons (pe_op op_add (pv 4) pe_int) (pa_cons (pv 5) (pa_cons (pv 6) (pa_cons (pv 1) pa_nil)))))))))) rfl)))))))), ?_⟩
    refine ⟨_, rfl, t, rfl, gd.t1, gd.t2, ?_⟩
    refine ⟨_, rfl, _, rfl, t, d, L, R, rfl, hd, ts, gd, fun H1 S1 => ⟨_, rfl, iteF ?_⟩⟩
    have h1p := S1 _ _ hp
    have h1d := S1 _ _ hd
    have h1T := ts.keep (KT.same S1)
    have ndp : d ≠ p := fun z => by rw [z, hp] at hd; cases hd
    refine ⟨_, rfl, _, rfl, p, U.C, dx, _, rfl, h1p, U.cl, U.n1, (by show 0 < 1000; decide), ?_⟩
    have h2p : (upd H1 p (.ins U.C dx (putF "_interval" (.int t) []))) p = some (.ins U.C dx (putF "_interval" (.int t) [])) := upd_same
    have B2 : But p H (upd H1 p (.ins U.C dx (putF "_interval" (.int t) []))) := But.trans (But.same S1) But.upd
    have h2d : (upd H1 p (.ins U.C dx (putF "_interval" (.int t) []))) d = some (.dK (Kvs L)) := by rw [upd_ne ndp]; exact h1d
    have h2T := h1T.keep (KT.put (o := .ins U.C dx (putF "_interval" (.int t) [])) h1p (fun _ z => by cases z))
    generalize upd H1 p (.ins U.C dx (putF "_interval" (.int t) [])) = H2 at h2p B2 h2d h2T ⊢
    clear h1p h1d h1T S1
    -- _rows
    refine ⟨_, rfl, d, _, L.map (·.1), rfl, .inl h2d, kvs_keys L, by rw [List.length_map, ts.len]; have := gd.l8; omega, fun ys q pm so hq => ?_⟩
    have S3 := Same.new (o := .lst (ys.map V.str)) hq
    have eq3 : (upd H2 q (.lst (ys.map V.str))) q = some (.lst (ys.map V.str)) := upd_same
    generalize upd H2 q (.lst (ys.map V.str)) = H3 at S3 eq3 ⊢
    rw [ts.names] at pm
    refine ⟨q, rfl, ⟨_, SqL.of eq3⟩, fun D hD => ?_⟩
    have nDp : D ≠ p := fun z => by rw [z, S3 _ _ h2p] at hD; cases hD
    refine dc_it walk_list (fun i H' => Same H3 H' ∧ ∃ M, H' D = some (.dK (Kvs M)) ∧ Tups H' M (pickR R (ys.take i))) ⟨Same.new hD, [], upd_same, .nil⟩ (fun i H' _ h => SqL.of (h.1 _ _ eq3)) ?_ ?_
    · rintro i x Ha Hb hi ⟨Sa, M, eD, tm⟩ ⟨rfl, hx⟩
      refine ⟨rfl, ?_⟩
      unfold tYes
      dsimp only
      rw [if_pos rfl]
      rw [List.getElem?_map] at hx
      cases e2 : ys[i]? with
      | none => rw [e2] at hx; cases hx
      | some n =>
        rw [e2] at hx
        cases hx
        have hn : n ∈ R.map (·.1) := pm.mem_iff.mp (List.mem_of_getElem? e2)
        have Sc := Same.trans S3 Sa
        have ts2 := h2T.keep (KT.same Sc)
        obtain ⟨t', b, e, hv, ht, hm⟩ := ts2.get hn
        refine ⟨_, rfl, _, rfl, _, rfl, d, V.ref t', rfl, ?_, ?_⟩
        · have := DGet.k (k := Sum.inr n) (Sc _ _ h2d)
          rw [hv] at this
          exact this
        have nyd : ys.Nodup := pm.nodup_iff.mpr gd.nd
        have hnM : n ∉ M.map (·.1) := by
          rw [tm.names, pickR_names]
          intro hm2
          have nd2 := nyd
          rw [← List.take_append_drop i ys] at nd2
          have hd2 : n ∈ ys.drop i := by
            rw [List.mem_iff_getElem?]
            exact ⟨0, by rw [List.getElem?_drop]; exact e2⟩
          exact (List.nodup_append.mp nd2).2.2 n hm2 n hd2 rfl
        have li : i < ys.length := (List.getElem?_eq_some_iff.mp e2).1
        have l8' : ys.length ≤ 8 := by rw [pm.length_eq, List.length_map]; exact gd.l8
        have lM : M.length ≤ 8 := by
          rw [tm.len, ← List.length_map (f := (·.1)) (as := pickR R (ys.take i)), pickR_names, List.length_take]
          omega
        refine ⟨Kvs M, Sum.inr n, rfl, eD, by rw [kvs_len, sizeLine_eq]; omega, Same.at hD Sa, M ++ [(n, t')], by rw [upd_same, putK_kvs hnM], ?_⟩
        have kt : KT Hb (upd Hb D (.dK (putK (Kvs M) (.inr n) (.ref t')))) := KT.put eD (fun _ z => by cases z)
        rw [List.take_add_one, e2]
        show Tups _ _ (pickR R (ys.take i ++ [n]))
        rw [pickR_snoc R _ n (lookup_mem gd.nd hm)]
        exact (tm.keep kt).snoc (kt _ _ ht)
    rintro H4 ⟨S4, M, h4D, h4T⟩
    have hDn : H D = none := by
      cases z : H D with
      | none => rfl
      | some o =>
        have := S3 _ _ (B2 _ _ nDp z)
        rw [hD] at this
        cases this
    rw [List.length_map, List.take_length] at h4T
    have gS : Good t (pickR R ys) := gd.perm (pickR_perm gd.nd pm)
    have B4 : But p H H4 := But.trans B2 (But.same (Same.trans S3 S4))
    have h4p := S4 _ _ (S3 _ _ h2p)
    clear h2p B2 h2d h2T S3 eq3 hD hq S4
    refine ⟨_, rfl, p, U.C, dx, _, rfl, h4p, U.cl, U.n2, (by show 1 < 1000; decide), ?_⟩
    have h5p : (upd H4 p (.ins U.C dx (putF "_rows" (.ref D) (putF "_interval" (.int t) [])))) p = some (.ins U.C dx (putF "_rows" (.ref D) (putF "_interval" (.int t) []))) := upd_same
    have B5 : But p H (upd H4 p (.ins U.C dx (putF "_rows" (.ref D) (putF "_interval" (.int t) [])))) := But.trans B4 But.upd
    have h5D : (upd H4 p (.ins U.C dx (putF "_rows" (.ref D) (putF "_interval" (.int t) [])))) D = some (.dK (Kvs M)) := by rw [upd_ne nDp]; exact h4D
    have h5T := h4T.keep (KT.put (o := .ins U.C dx (putF "_rows" (.ref D) (putF "_interval" (.int t) []))) h4p (fun _ z => by cases z))
    generalize upd H4 p (.ins U.C dx (putF "_rows" (.ref D) (putF "_interval" (.int t) []))) = H5 at h5p B5 h5D h5T ⊢
    clear h4p B4 h4D h4T
    -- _names
    refine ⟨_, rfl, p, U.C, dx, _, .ref D, rfl, h5p, U.cl, U.n2, rfl, D, Kvs M, rfl, h5D, fun nm hnm => ?_⟩
    rw [kvs_kv]
    have S6 := Same.new (o := .tup ((M.map (·.1)).map V.str)) hnm
    have e6N : (upd H5 nm (.tup ((M.map (·.1)).map V.str))) nm = some (.tup ((M.map (·.1)).map V.str)) := upd_same
    generalize upd H5 nm (.tup ((M.map (·.1)).map V.str)) = H6 at S6 e6N ⊢
    have e6p := S6 _ _ h5p
    refine ⟨_, rfl, p, U.C, dx, _, rfl, e6p, U.cl, U.n3, (by show 2 < 1000; decide), ?_⟩
    have H7p : (upd H6 p (.ins U.C dx (putF "_names" (.ref nm) (putF "_rows" (.ref D) (putF "_interval" (.int t) []))))) p = some (.ins U.C dx (putF "_names" (.ref nm) (putF "_rows" (.ref D) (putF "_interval" (.int t) [])))) := upd_same
    have BH7 : But p H (upd H6 p (.ins U.C dx (putF "_names" (.ref nm) (putF "_rows" (.ref D) (putF "_interval" (.int t) []))))) := But.trans B5 (But.trans (But.same S6) But.upd)
    have H7D : (upd H6 p (.ins U.C dx (putF "_names" (.ref nm) (putF "_rows" (.ref D) (putF "_interval" (.int t) []))))) D = some (.dK (Kvs M)) := by rw [upd_ne nDp]; exact S6 _ _ h5D
    have kt7 : KT H6 (upd H6 p (.ins U.C dx (putF "_names" (.ref nm) (putF "_rows" (.ref D) (putF "_interval" (.int t) []))))) := KT.put e6p (fun _ z => by cases z)
    have H7T := (h5T.keep (KT.same S6)).keep kt7
    have H7N := kt7 _ _ e6N
    generalize upd H6 p (.ins U.C dx (putF "_names" (.ref nm) (putF "_rows" (.ref D) (putF "_interval" (.int t) [])))) = H7 at H7p BH7 H7D H7T H7N ⊢
    clear h5p B5 h5D h5T S6 e6p e6N kt7 hnm

    -- _living
    refine ⟨D, _, H7D, True.intro, fun od => ?_⟩
    have lk8 : (upd H7 D (.frz od (.dK (Kvs M)))) D = some (.frz od (.dK (Kvs M))) := upd_same
    have ktl8 : KT H7 (upd H7 D (.frz od (.dK (Kvs M)))) := KT.put H7D (fun _ z => by cases z)
    refine ⟨_, rfl, p, U.C, dx, _, .ref D, rfl, (by rw [upd_ne nDp.symm]; exact H7p), U.cl, U.n2, rfl, D, od, Kvs M, rfl, lk8, fun F8 hF => ?_⟩
    have nFD : F8 ≠ D := fun z => by rw [z, upd_same] at hF; cases hF
    have hF0 : H7 F8 = none := by rw [upd_ne nFD] at hF; exact hF
    have nFp : F8 ≠ p := fun z => by rw [z, H7p] at hF0; cases hF0
    refine dc_it walk_items (fun i H' => Same (upd H7 D (.frz od (.dK (Kvs M)))) H' ∧ ∃ kvs, H' F8 = some (.dK kvs) ∧ kvs.length ≤ i) ⟨Same.new hF, [], upd_same, Nat.le_refl _⟩ (fun i H' _ h => h.1 _ _ lk8) ?_ ?_
    · rintro i x Ha Hb hi ⟨Sa, kvs, eF, lF⟩ ⟨TT, x1, y1, rfl, hTT, rfl, ex1, ey1⟩
      obtain ⟨⟨kk, vv⟩, ekv⟩ : ∃ kv, (Kvs M)[i]? = some kv := ⟨_, List.getElem?_eq_getElem hi⟩
      dsimp only at ex1 ey1
      rw [ekv] at ex1 ey1
      obtain ⟨⟨n, a⟩, hm, e3⟩ : ∃ q ∈ M, (Sum.inr q.1, V.ref q.2) = (kk, vv) := List.mem_map.mp (List.mem_of_getElem? ekv)
      obtain ⟨e4, e5⟩ := Prod.mk.inj e3
      subst e4 e5
      obtain rfl : V.str n = x1 := Option.some.inj ex1
      obtain rfl : V.ref a = y1 := Option.some.inj ey1
      have Sb : Same (upd H7 D (.frz od (.dK (Kvs M)))) (upd Ha TT (.tup [V.str n, V.ref a])) := Same.trans Sa (Same.new hTT)
      have eTT : (upd Ha TT (.tup [V.str n, V.ref a])) TT = some (.tup [V.str n, V.ref a]) := upd_same
      have eFb : (upd Ha TT (.tup [V.str n, V.ref a])) F8 = some (.dK kvs) := (Same.new hTT) _ _ eF
      generalize upd Ha TT (.tup [V.str n, V.ref a]) = Hc at Sb eTT eFb ⊢
      have tsb := H7T.keep (KT.trans ktl8 (KT.same Sb))
      obtain ⟨b, e, hab, hS⟩ : ∃ b e, TupAt Hc a b e ∧ (n, b, e) ∈ pickR R ys := by
        have key : ∀ {M : List (Str × Addr)} {S : Rws}, Tups Hc M S → (n, a) ∈ M → ∃ b e, TupAt Hc a b e ∧ (n, b, e) ∈ S := by
          intro M S h
          induction h with
          | nil => intro h; cases h
          | cons h1 h2 ih =>
            intro h
            rcases List.mem_cons.mp h with h | h
            · cases h
              exact ⟨_, _, h1, List.mem_cons_self⟩
            · obtain ⟨b, e, q1, q2⟩ := ih h
              exact ⟨b, e, q1, List.mem_cons_of_mem _ q2⟩
        exact key tsb hm
      have g1 := gS.nr _ hS
      have g2 := gS.sp _ hS
      have g3 := gS.t2
      have g4 := gS.t1
      unfold Near at g1
      unfold SpOk at g2
      simp only at g1 g2
      refine ⟨TT, _, rfl, SqT.of eTT, rfl, _, _, rfl, _, _, rfl, a, _, rfl, SqT.of hab, rfl, _, _, rfl, _, _, rfl, rfl, rfl, ?_⟩
      refine ⟨rfl, ?_⟩
      unfold tYes
      dsimp only
      rw [if_pos rfl]
      refine ⟨_, rfl, _, rfl, _, rfl, by omega, by omega, fun G hG => ?_⟩
      dsimp only
      refine lc_range (tt := fun _ H Q => Q true H) (g := gName 6) (lo := 0) (vs := [6]) (n := t.toNat) (fun j H' => Same Hc H' ∧ ∃ zs, H' G = some (.lst zs) ∧ zs.length ≤ j) ⟨Same.new hG, [], upd_same, Nat.le_refl _⟩ ?_ ?_
      · rintro j Hd hj ⟨Sd, zs, eG, lz⟩
        refine ⟨rfl, ?_⟩
        dsimp only
        rw [if_pos rfl]
        refine ⟨_, rfl, _, rfl, _, rfl, _, rfl, _, _, _, t, rfl, ⟨by omega, by omega, by omega⟩, ⟨by omega, by omega⟩, g4, g3, ?_⟩
        refine ⟨_, eG, by rw [sizeLine_eq]; omega, Same.at hG Sd, _, upd_same, by rw [List.length_append]; show _ + 1 ≤ _; omega⟩
      · rintro Hd ⟨Sd, zs, eG, lz⟩
        have eFd := Sd _ _ eFb
        have lM : i < 8 := by rw [kvs_len, H7T.len] at hi; have := gS.l8; omega
        refine ⟨kvs, Sum.inr n, rfl, eFd, by rw [sizeLine_eq]; omega, ?_, _, upd_same, by have := length_putK kvs (Sum.inr n : Key) (V.ref G); omega⟩
        exact Same.at hF (Same.trans Sb Sd)
    rintro Ha ⟨Sa, kvs, eF, lF⟩
    refine ⟨Sa _ _ lk8, ?_⟩
    have SH8 := same_lock H7D Sa
    generalize upd Ha D (.dK (Kvs M)) = H8' at SH8 ⊢
    have H8'p := SH8 _ _ H7p
    refine ⟨_, rfl, p, U.C, dx, _, rfl, H8'p, U.cl, U.n4, (by show 3 < 1000; decide), ?_⟩
    have H8p : (upd H8' p (.ins U.C dx (putF "_living" (.ref F8) (putF "_names" (.ref nm) (putF "_rows" (.ref D) (putF "_interval" (.int t) [])))))) p = some (.ins U.C dx (putF "_living" (.ref F8) (putF "_names" (.ref nm) (putF "_rows" (.ref D) (putF "_interval" (.int t) []))))) := upd_same
    have BH8 : But p H (upd H8' p (.ins U.C dx (putF "_living" (.ref F8) (putF "_names" (.ref nm) (putF "_rows" (.ref D) (putF "_interval" (.int t) [])))))) := But.trans BH7 (But.trans (But.same SH8) But.upd)
    have KH8 : KT H7 (upd H8' p (.ins U.C dx (putF "_living" (.ref F8) (putF "_names" (.ref nm) (putF "_rows" (.ref D) (putF "_interval" (.int t) [])))))) := KT.trans (KT.same SH8) (KT.put H8'p (fun _ z => by cases z))
    have H8D : (upd H8' p (.ins U.C dx (putF "_living" (.ref F8) (putF "_names" (.ref nm) (putF "_rows" (.ref D) (putF "_interval" (.int t) [])))))) D = some (.dK (Kvs M)) := by rw [upd_ne nDp]; exact SH8 _ _ H7D
    have H8N : (upd H8' p (.ins U.C dx (putF "_living" (.ref F8) (putF "_names" (.ref nm) (putF "_rows" (.ref D) (putF "_interval" (.int t) [])))))) nm = some (.tup ((M.map (·.1)).map V.str)) := KH8 _ _ H7N
    have H8T := H7T.keep KH8
    generalize upd H8' p (.ins U.C dx (putF "_living" (.ref F8) (putF "_names" (.ref nm) (putF "_rows" (.ref D) (putF "_interval" (.int t) []))))) = H8 at H8p BH8 H8D H8N H8T ⊢
    clear SH8 H8'p KH8 Sa eF lF hF hF0 nFD

    -- _crossing
    refine ⟨D, _, H8D, True.intro, fun od => ?_⟩
    have lk9 : (upd H8 D (.frz od (.dK (Kvs M)))) D = some (.frz od (.dK (Kvs M))) := upd_same
    have ktl9 : KT H8 (upd H8 D (.frz od (.dK (Kvs M)))) := KT.put H8D (fun _ z => by cases z)
    refine ⟨_, rfl, p, U.C, dx, _, .ref D, rfl, (by rw [upd_ne nDp.symm]; exact H8p), U.cl, U.n2, rfl, D, od, Kvs M, rfl, lk9, fun F9 hF => ?_⟩
    have nFD : F9 ≠ D := fun z => by rw [z, upd_same] at hF; cases hF
    have hF0 : H8 F9 = none := by rw [upd_ne nFD] at hF; exact hF
    have nFp : F9 ≠ p := fun z => by rw [z, H8p] at hF0; cases hF0
    refine dc_it walk_items (fun i H' => Same (upd H8 D (.frz od (.dK (Kvs M)))) H' ∧ ∃ kvs, H' F9 = some (.dK kvs) ∧ kvs.length ≤ i) ⟨Same.new hF, [], upd_same, Nat.le_refl _⟩ (fun i H' _ h => h.1 _ _ lk9) ?_ ?_
    · rintro i x Ha Hb hi ⟨Sa, kvs, eF, lF⟩ ⟨TT, x1, y1, rfl, hTT, rfl, ex1, ey1⟩
      obtain ⟨⟨kk, vv⟩, ekv⟩ : ∃ kv, (Kvs M)[i]? = some kv := ⟨_, List.getElem?_eq_getElem hi⟩
      dsimp only at ex1 ey1
      rw [ekv] at ex1 ey1
      obtain ⟨⟨n, a⟩, hm, e3⟩ : ∃ q ∈ M, (Sum.inr q.1, V.ref q.2) = (kk, vv) := List.mem_map.mp (List.mem_of_getElem? ekv)
      obtain ⟨e4, e5⟩ := Prod.mk.inj e3
      subst e4 e5
      obtain rfl : V.str n = x1 := Option.some.inj ex1
      obtain rfl : V.ref a = y1 := Option.some.inj ey1
      have Sb : Same (upd H8 D (.frz od (.dK (Kvs M)))) (upd Ha TT (.tup [V.str n, V.ref a])) := Same.trans Sa (Same.new hTT)
      have eTT : (upd Ha TT (.tup [V.str n, V.ref a])) TT = some (.tup [V.str n, V.ref a]) := upd_same
      have eFb : (upd Ha TT (.tup [V.str n, V.ref a])) F9 = some (.dK kvs) := (Same.new hTT) _ _ eF
      generalize upd Ha TT (.tup [V.str n, V.ref a]) = Hc at Sb eTT eFb ⊢
      have tsb := H8T.keep (KT.trans ktl9 (KT.same Sb))
      obtain ⟨b, e, hab, hS⟩ : ∃ b e, TupAt Hc a b e ∧ (n, b, e) ∈ pickR R ys := by
        have key : ∀ {M : List (Str × Addr)} {S : Rws}, Tups Hc M S → (n, a) ∈ M → ∃ b e, TupAt Hc a b e ∧ (n, b, e) ∈ S := by
          intro M S h
          induction h with
          | nil => intro h; cases h
          | cons h1 h2 ih =>
            intro h
            rcases List.mem_cons.mp h with h | h
            · cases h
              exact ⟨_, _, h1, List.mem_cons_self⟩
            · obtain ⟨b, e, q1, q2⟩ := ih h
              exact ⟨b, e, q1, List.mem_cons_of_mem _ q2⟩
        exact key tsb hm
      have g1 := gS.nr _ hS
      have g2 := gS.sp _ hS
      have g3 := gS.t2
      have g4 := gS.t1
      unfold Near at g1
      unfold SpOk at g2
      simp only at g1 g2
      refine ⟨TT, _, rfl, SqT.of eTT, rfl, _, _, rfl, _, _, rfl, a, _, rfl, SqT.of hab, rfl, _, _, rfl, _, _, rfl, rfl, rfl, ?_⟩
      refine ⟨rfl, ?_⟩
      unfold tYes
      dsimp only
      rw [if_pos rfl]
      refine ⟨_, rfl, _, rfl, _, rfl, by omega, by omega, fun G hG => ?_⟩
      dsimp only
      refine lc_range (tt := fun _ H Q => Q true H) (g := gName 6) (lo := 0) (vs := [6]) (n := t.toNat) (fun j H' => Same Hc H' ∧ ∃ zs, H' G = some (.lst zs) ∧ zs.length ≤ j) ⟨Same.new hG, [], upd_same, Nat.le_refl _⟩ ?_ ?_
      · rintro j Hd hj ⟨Sd, zs, eG, lz⟩
        refine ⟨rfl, ?_⟩
        dsimp only
        rw [if_pos rfl]
        refine ⟨_, rfl, _, _, rfl, rfl, _, rfl, _, rfl, _, rfl, _, _, _, t, rfl, ⟨by omega, by omega, by omega⟩, ⟨by omega, by omega⟩, g4, g3, ?_⟩
        refine ⟨_, eG, by rw [sizeLine_eq]; omega, Same.at hG Sd, _, upd_same, by rw [List.length_append]; show _ + 1 ≤ _; omega⟩
      · rintro Hd ⟨Sd, zs, eG, lz⟩
        have eFd := Sd _ _ eFb
        have lM : i < 8 := by rw [kvs_len, H8T.len] at hi; have := gS.l8; omega
        refine ⟨kvs, Sum.inr n, rfl, eFd, by rw [sizeLine_eq]; omega, ?_, _, upd_same, by have := length_putK kvs (Sum.inr n : Key) (V.ref G); omega⟩
        exact Same.at hF (Same.trans Sb Sd)
    rintro Ha ⟨Sa, kvs, eF, lF⟩
    refine ⟨Sa _ _ lk9, ?_⟩
    have SH9 := same_lock H8D Sa
    generalize upd Ha D (.dK (Kvs M)) = H9' at SH9 ⊢
    have H9'p := SH9 _ _ H8p
    refine ⟨_, rfl, p, U.C, dx, _, rfl, H9'p, U.cl, U.n5, (by show 4 < 1000; decide), ?_⟩
    have H9p : (upd H9' p (.ins U.C dx (putF "_crossing" (.ref F9) (putF "_living" (.ref F8) (putF "_names" (.ref nm) (putF "_rows" (.ref D) (putF "_interval" (.int t) []))))))) p = some (.ins U.C dx (putF "_crossing" (.ref F9) (putF "_living" (.ref F8) (putF "_names" (.ref nm) (putF "_rows" (.ref D) (putF "_interval" (.int t) [])))))) := upd_same
    have BH9 : But p H (upd H9' p (.ins U.C dx (putF "_crossing" (.ref F9) (putF "_living" (.ref F8) (putF "_names" (.ref nm) (putF "_rows" (.ref D) (putF "_interval" (.int t) []))))))) := But.trans BH8 (But.trans (But.same SH9) But.upd)
    have KH9 : KT H8 (upd H9' p (.ins U.C dx (putF "_crossing" (.ref F9) (putF "_living" (.ref F8) (putF "_names" (.ref nm) (putF "_rows" (.ref D) (putF "_interval" (.int t) []))))))) := KT.trans (KT.same SH9) (KT.put H9'p (fun _ z => by cases z))
    have H9D : (upd H9' p (.ins U.C dx (putF "_crossing" (.ref F9) (putF "_living" (.ref F8) (putF "_names" (.ref nm) (putF "_rows" (.ref D) (putF "_interval" (.int t) []))))))) D = some (.dK (Kvs M)) := by rw [upd_ne nDp]; exact SH9 _ _ H8D
    have H9N : (upd H9' p (.ins U.C dx (putF "_crossing" (.ref F9) (putF "_living" (.ref F8) (putF "_names" (.ref nm) (putF "_rows" (.ref D) (putF "_interval" (.int t) []))))))) nm = some (.tup ((M.map (·.1)).map V.str)) := KH9 _ _ H8N
    have H9T := H8T.keep KH9
    generalize upd H9' p (.ins U.C dx (putF "_crossing" (.ref F9) (putF "_living" (.ref F8) (putF "_names" (.ref nm) (putF "_rows" (.ref D) (putF "_interval" (.int t) [])))))) = H9 at H9p BH9 H9D H9N H9T ⊢
    clear SH9 H9'p KH9 Sa eF lF hF hF0 nFD
    have n10 : H9 nm = some (.tup (((pickR R ys).map (·.1)).map V.str)) := by rw [← H9T.names]; exact H9N
    have so' : sortedS ((pickR R ys).map (·.1)) = true := by rw [pickR_names]; exact so
    exact k (pickR R ys) _ BH9 ⟨gS, so', dx, D, nm, .ref F8, .ref F9, M, H9p, H9D, H9T, n10⟩ ⟨pickR_perm gd.nd pm, so'⟩ fun H'' kp kt => ⟨gS, so', dx, D, nm, .ref F8, .ref F9, M, kp _ _ (.inr rfl) H9p, kp _ _ (.inl hDn) H9D, H9T.keep kt, kt _ _ n10⟩
end
end K44
namespace K44
open PySem L2
open PyProof.Rows PySem.Spec
/-- how often a value is alive in a tick -/
def alv (t b e s : Int) : Int := (s - b) / t - (s - e) / t
def cntL (t b e : Int) : List V := (List.range t.toNat).map fun (s : Nat) => V.int (alv t b e (s : Int))
/-- the counts that are kept: k is 0, or 1 for those across the moments -/
inductive Cts (H : Hp) (t k : Int) : List (Str × Addr) → Rws → Prop
  | nil : Cts H t k [] []
  | cons {n : Str} {a : Addr} {b e : Int} {L : List (Str × Addr)} {R : Rws} : H a = some (.lst (cntL t (b + k) e)) → Cts H t k L R → Cts H t k ((n, a) :: L) ((n, b, e) :: R)
theorem Cts.keep {H H' : Hp} {t k : Int} : ∀ {L : List (Str × Addr)} {R : Rws}, (∀ x ∈ L, ∀ xs, H x.2 = some (.lst xs) → H' x.2 = some (.lst xs)) → Cts H t k L R → Cts H' t k L R
  | _, _, _, .nil => .nil
  | _, _, kp, .cons h c => .cons (kp _ List.mem_cons_self _ h) (Cts.keep (fun x hx => kp x (List.mem_cons_of_mem _ hx)) c)
theorem Cts.same {H H' : Hp} {t k : Int} {L : List (Str × Addr)} {R : Rws} (s : Same H H') (h : Cts H t k L R) : Cts H' t k L R := h.keep fun _ _ _ e => s _ _ e
theorem Cts.names {H : Hp} {t k : Int} : ∀ {L : List (Str × Addr)} {R : Rws}, Cts H t k L R → L.map (·.1) = R.map (·.1)
  | _, _, .nil => rfl
  | _, _, .cons _ c => by rw [List.map_cons, List.map_cons, Cts.names c]
theorem Cts.snoc {H : Hp} {t k : Int} {n : Str} {a : Addr} {b e : Int} (q : H a = some (.lst (cntL t (b + k) e))) : ∀ {L : List (Str × Addr)} {R : Rws}, Cts H t k L R → Cts H t k (L ++ [(n, a)]) (R ++ [(n, b, e)])
  | _, _, .nil => .cons q .nil
  | _, _, .cons h c => .cons h (Cts.snoc q c)
theorem Cts.lst {H : Hp} {t k : Int} : ∀ {L : List (Str × Addr)} {R : Rws}, Cts H t k L R → ∀ x ∈ L, ∃ xs, H x.2 = some (.lst xs)
  | _, _, .nil, x, hx => by cases hx
  | _, _, .cons h c, x, hx => by
    rcases List.mem_cons.mp hx with rfl | hx
    · exact ⟨_, h⟩
    · exact Cts.lst c x hx
theorem Cts.put {H : Hp} {t k : Int} {d : Addr} {o u : HO} (hd : H d = some u) (n : ∀ xs, u ≠ .lst xs) {L : List (Str × Addr)} {R : Rws} (h : Cts H t k L R) : Cts (upd H d o) t k L R := h.keep fun x _ xs e => by
  rw [upd_ne (fun z => n xs (by rw [z, hd] at e; exact Option.some.inj e))]
  exact e
/-- spans stand at p: S is their rows in the order of names; nothing of them is at r -/
def SpS (H : Hp) (C p : Addr) (t : Int) (S : Rws) (r : Addr) : Prop := Good t S ∧ sortedS (S.map (·.1)) = true ∧ ∃ dx rd nm lv cr L LL LC, H p = some (.ins C dx (spF t rd nm (.ref lv) (.ref cr))) ∧ H rd = some (.dK (Kvs L)) ∧ Tups H L S ∧ H nm = some (.tup ((S.map (·.1)).map V.str)) ∧
  H lv = some (.dK (Kvs LL)) ∧ Cts H t 0 LL S ∧ H cr = some (.dK (Kvs LC)) ∧ Cts H t 1 LC S ∧ (∀ x ∈ LL, x.2 ≠ r) ∧ ∀ x ∈ LC, x.2 ≠ r
theorem SpS.same {H H' : Hp} {C p : Addr} {t : Int} {S : Rws} {r : Addr} (s : Same H H') (h : SpS H C p t S r) : SpS H' C p t S r := by
  obtain ⟨g, so, dx, rd, nm, lv, cr, L, LL, LC, h1, h2, h3, h4, h5, h6, h7, h8, h9⟩ := h
  exact ⟨g, so, dx, rd, nm, lv, cr, L, LL, LC, s _ _ h1, s _ _ h2, h3.keep (KT.same s), s _ _ h4, s _ _ h5, h6.same s, s _ _ h7, h8.same s, h9⟩
theorem SpS.only {H H' : Hp} {C p r : Addr} {t : Int} {S : Rws} (o : Only r H H') (hr : Rl H r) (h : SpS H C p t S r) : SpS H' C p t S r := by
  obtain ⟨g, so, dx, rd, nm, lv, cr, L, LL, LC, h1, h2, h3, h4, h5, h6, h7, h8, h9, h10⟩ := h
  have ne : ∀ {a : Addr} {u : HO}, H a = some u → (∀ xs, u ≠ .lst xs) → a ≠ r := fun e n w => by
    obtain ⟨x, y, z, q⟩ := hr
    rw [w, q] at e
    exact n _ (Option.some.inj e).symm
  exact ⟨g, so, dx, rd, nm, lv, cr, L, LL, LC, o _ _ (ne h1 (fun _ z => by cases z)) h1, o _ _ (ne h2 (fun _ z => by cases z)) h2, h3.keep (KT.only o hr), o _ _ (ne h4 (fun _ z => by cases z)) h4,
    o _ _ (ne h5 (fun _ z => by cases z)) h5, h6.keep (fun x hx _ e => o _ _ (h9 x hx) e), o _ _ (ne h7 (fun _ z => by cases z)) h7, h8.keep (fun x hx _ e => o _ _ (h10 x hx) e), h9, h10⟩
theorem tups_at {H : Hp} : ∀ {L : List (Str × Addr)} {S : Rws}, Tups H L S → ∀ (i : Nat) (a : V), ((Kvs L)[i]?.map Prod.snd) = some a → ∃ n t b e, a = .ref t ∧ S[i]? = some (n, b, e) ∧ TupAt H t b e ∧ L[i]? = some (n, t)
  | _, _, .nil, i, a, h => by simp [Kvs] at h
  | _, _, .cons (n := n) (t := t) (b := b) (e := e) q ts, 0, a, h => ⟨n, t, b, e, (Option.some.inj h).symm, rfl, q, rfl⟩
  | _, _, .cons q ts, i + 1, a, h => by
    obtain ⟨n, t, b, e, h1, h2, h3, h4⟩ := tups_at ts i a (by simpa [Kvs] using h)
    exact ⟨n, t, b, e, h1, by simpa using h2, h3, by simpa using h4⟩
section
variable {P : Program} {w : World} {K : PySem.W.Frag}
                                                      {mg : Str → Option Value} {base : Heap}
def sp_initS (K : PySem.W.Frag) (C : Addr) : Sp := fun vs H Q _ => ∃ (p d dx : Addr) (t : Int) (L : List (Str × Addr)) (R : Rws), vs = [.ref p, .int t, .ref d] ∧ H p = some (.ins C dx []) ∧ H d = some (.dK (Kvs L)) ∧ Tups H L R ∧ Good t R ∧
  ∀ S H', But p H H' → (∀ r, H r ≠ none → SpS H' C p t S r) → Srd R S → Q .non H'
theorem ok_initS (T : T K mg) (U : UX K mg) : FnOk P w K mg base CX0 6 U.fI U.dI ["self", "interval", "rows"] (sp_initS K U.C) := by
  have G_are_rows : FnOk P w K mg base CX0 3 T.f_are_rows T.d_are_rows ["interval", "value"] (sp_are_rows K) := ok_are_rows T
  have G_check_interval : FnOk P w K mg base CX0 4 T.f_check_interval T.d_check_interval ["value"] (sp_check_interval K) := ok_check_interval T
  have G_times_alive : FnOk P w K mg base CX0 5 T.f_times_alive T.d_times_alive ["begin", "end", "tick", "interval"] (sp_times_alive K) := ok_times_alive T
  refine U.FI.ok sc_Spans_init (fun vs H Q E h => ?_) (fun cdv A outer s H vs Q E hr h => ?_)
  · obtain ⟨p, d, dx, t, L, R, rfl, _⟩ := h
    rfl
  · obtain ⟨p, d, dx, t, L, R, rfl, hp, hd, ts, gd, k⟩ := h
    have hu := hu_of hr
    have hr_are_rows : Room 3 _ := hr.mono (by decide)
    have hr_check_interval : Room 4 _ := hr.mono (by decide)
    have hr_times_alive : Room 5 _ := hr.mono (by decide)
    refine ⟨_, (pss_cons (ps_expr (pe_call G_check_interval hr_check_interval rfl T.m_check_interval T.F_check_interval.kp T.b_check_interval .nil pass0 (pa_cons (pv 1) pa_nil)))
      (pss_cons (ps_if (pt_not (pt_val (pe_call G_are_rows hr_are_rows rfl T.m_are_rows T.F_are_rows.kp T.b_are_rows .nil pass0 (pa_cons (pv 1) (pa_cons (pv 2) pa_nil)))))
      (pss_one ps_never)
      pss_nil)
      (pss_cons (ps_fld (pv 0) (pv 1) rfl)
      (pss_cons (ps_fld (pv 0) (pe_dc (own := [("name", 3)]) (g := gName 3) rfl sc_Spans_init.nd (pi_list (pe_callB (call_sortedD rfl) (by rfl) T.z_sorted (by decide +kernel) (pa_cons (pv 2) pa_nil))) (blkOk_by (N := ["self", "interval", "rows", "name", "begin", "end", "slot"]) (sc := defScope s_Spans_init) (by decide +kernel)) (fun _ _ _ _ _ => (pg_name (i := 3) sc_Spans_init.nd rfl (Or.inl rfl))) (fun _ _ _ _ _ => pts_nil) (fun _ _ _ _ _ => (pv 3)) (fun _ _ _ _ _ => (pe_dget (by exact hu) (pv 2) (pv 3) (fun _ _ => rfl)))) rfl)
      (pss_cons (ps_fld (pv 0) (pe_callTy (RL.cr_tupD rfl) (by rfl) T.z_tuple (by decide +kernel) (pa_cons (pe_fld (pv 0) rfl) pa_nil)) rfl)
      (pss_cons (ps_fld (pv 0) (pe_lock (pe_dc (own := [("name", 3), ("begin", 4), ("end", 5)]) (g := gTup K 2 (gCons (gName 3) (gCons (gTup K 2 (gCons (gName 4) (gCons (gName 5) gNil))) gNil))) rfl sc_Spans_init.nd (pi_items (pe_fld (pv 0) rfl)) (blkOk_by (N := ["self", "interval", "rows", "name", "begin", "end", "slot"]) (sc := defScope s_Spans_init) (by decide +kernel)) (fun _ _ _ _ _ => (pg_tup rfl (pgs_cons (pg_name (i := 3) sc_Spans_init.nd rfl (Or.inl rfl)) (pgs_cons (pg_tup rfl (pgs_cons (pg_name (i := 4) sc_Spans_init.nd rfl (Or.inr rfl)) (pgs_cons (pg_name (i := 5) sc_Spans_init.nd rfl (Or.inr rfl)) pgs_nil))) pgs_nil)))) (fun _ _ _ _ _ => pts_nil) (fun _ _ _ _ _ => (pv 3)) (fun _ _ _ _ _ => (pe_lc (own := [("slot", 6)]) (g := gName 6) rfl sc_Spans_init.nd (pi_range1 (by rfl) T.z_range (pa_cons (pv 1) pa_nil)) (blkOk_by (N := ["self", "interval", "rows", "name", "begin", "end", "slot"]) (sc := _) (by rfl)) (fun _ _ _ _ _ => (pg_name (i := 6) sc_Spans_init.nd rfl (Or.inl rfl))) (fun _ _ _ _ _ => pts_nil) (fun _ _ _ _ _ => (pe_call G_times_alive hr_times_alive rfl T.m_times_alive T.F_times_alive.kp T.b_times_alive .nil pass0 (pa_cons (pv 4) (pa_cons (pv 5) (pa_cons (pv 6) (pa_cons (pv 1) pa_nil)))))))))) rfl)
      (pss_one (ps_fld (pv 0) (pe_lock (pe_dc (own := [("name", 3), ("begin", 4), ("end", 5)]) (g := gTup K 2 (gCons (gName 3) (gCons (gTup K 2 (gCons (gName 4) (gCons (gName 5) gNil))) gNil))) rfl sc_Spans_init.nd (pi_items (pe_fld (pv 0) rfl)) (blkOk_by (N := ["self", "interval", "rows", "name", "begin", "end", "slot"]) (sc := defScope s_Spans_init) (by decide +kernel)) (fun _ _ _ _ _ => (pg_tup rfl (pgs_cons (pg_name (i := 3) sc_Spans_init.nd rfl (Or.inl rfl)) (pgs_cons (pg_tup rfl (pgs_cons (pg_name (i := 4) sc_Spans_init.nd rfl (Or.inr rfl)) (pgs_cons (pg_name (i := 5) sc_Spans_init.nd rfl (Or.inr rfl)) pgs_nil))) pgs_nil)))) (fun _ _ _ _ _ => pts_nil) (fun _ _ _ _ _ => (pv 3)) (fun _ _ _ _ _ => (pe_lc (own := [("slot", 6)]) (g := gName 6) rfl sc_Spans_init.nd (pi_range1 (by rfl) T.z_range (pa_cons (pv 1) pa_nil)) (blkOk_by (N := ["self", "interval", "rows", "name", "begin", "end", "slot"]) (sc := _) (by rfl)) (fun _ _ _ _ _ => (pg_name (i := 6) sc_Spans_init.nd rfl (Or.inl rfl))) (fun _ _ _ _ _ => pts_nil) (fun _ _ _ _ _ => (pe_call G_times_alive hr_times_alive rfl T.m_times_alive T.F_times_alive.kp T.b_times_alive .nil pass0 (pa_cons (pe_op op_add (pv 4) pe_int) (pa_cons (pv 5) (pa_cons (pv 6) (pa_cons (pv 1) pa_nil)))))))))) rfl)))))))), ?_⟩
    refine ⟨_, rfl, t, rfl, gd.t1, gd.t2, ?_⟩
    refine ⟨_, rfl, _, rfl, t, d, L, R, rfl, hd, ts, gd, fun H1 S1 => ⟨_, rfl, iteF ?_⟩⟩
    have h1p := S1 _ _ hp
    have h1d := S1 _ _ hd
    have h1T := ts.keep (KT.same S1)
    have ndp : d ≠ p := fun z => by rw [z, hp] at hd; cases hd
    refine ⟨_, rfl, _, rfl, p, U.C, dx, _, rfl, h1p, U.cl, U.n1, (by show 0 < 1000; decide), ?_⟩
    have h2p : (upd H1 p (.ins U.C dx (putF "_interval" (.int t) []))) p = some (.ins U.C dx (putF "_interval" (.int t) [])) := upd_same
    have B2 : But p H (upd H1 p (.ins U.C dx (putF "_interval" (.int t) []))) := But.trans (But.same S1) But.upd
    have h2d : (upd H1 p (.ins U.C dx (putF "_interval" (.int t) []))) d = some (.dK (Kvs L)) := by rw [upd_ne ndp]; exact h1d
    have h2T := h1T.keep (KT.put (o := .ins U.C dx (putF "_interval" (.int t) [])) h1p (fun _ z => by cases z))
    generalize upd H1 p (.ins U.C dx (putF "_interval" (.int t) [])) = H2 at h2p B2 h2d h2T ⊢
    clear h1p h1d h1T S1
    -- _rows
    refine ⟨_, rfl, d, _, L.map (·.1), rfl, .inl h2d, kvs_keys L, by rw [List.length_map, ts.len]; have := gd.l8; omega, fun ys q pm so hq => ?_⟩
    have S3 := Same.new (o := .lst (ys.map V.str)) hq
    have eq3 : (upd H2 q (.lst (ys.map V.str))) q = some (.lst (ys.map V.str)) := upd_same
    generalize upd H2 q (.lst (ys.map V.str)) = H3 at S3 eq3 ⊢
    rw [ts.names] at pm
    refine ⟨q, rfl, ⟨_, SqL.of eq3⟩, fun D hD => ?_⟩
    have nDp : D ≠ p := fun z => by rw [z, S3 _ _ h2p] at hD; cases hD
    refine dc_it walk_list (fun i H' => Same H3 H' ∧ ∃ M, H' D = some (.dK (Kvs M)) ∧ Tups H' M (pickR R (ys.take i))) ⟨Same.new hD, [], upd_same, .nil⟩ (fun i H' _ h => SqL.of (h.1 _ _ eq3)) ?_ ?_
    · rintro i x Ha Hb hi ⟨Sa, M, eD, tm⟩ ⟨rfl, hx⟩
      refine ⟨rfl, ?_⟩
      unfold tYes
      dsimp only
      rw [if_pos rfl]
      rw [List.getElem?_map] at hx
      cases e2 : ys[i]? with
      | none => rw [e2] at hx; cases hx
      | some n =>
        rw [e2] at hx
        cases hx
        have hn : n ∈ R.map (·.1) := pm.mem_iff.mp (List.mem_of_getElem? e2)
        have Sc := Same.trans S3 Sa
        have ts2 := h2T.keep (KT.same Sc)
        obtain ⟨t', b, e, hv, ht, hm⟩ := ts2.get hn
        refine ⟨_, rfl, _, rfl, _, rfl, d, V.ref t', rfl, ?_, ?_⟩
        · have := DGet.k (k := Sum.inr n) (Sc _ _ h2d)
          rw [hv] at this
          exact this
        have nyd : ys.Nodup := pm.nodup_iff.mpr gd.nd
        have hnM : n ∉ M.map (·.1) := by
          rw [tm.names, pickR_names]
          intro hm2
          have nd2 := nyd
          rw [← List.take_append_drop i ys] at nd2
          have hd2 : n ∈ ys.drop i := by
            rw [List.mem_iff_getElem?]
            exact ⟨0, by rw [List.getElem?_drop]; exact e2⟩
          exact (List.nodup_append.mp nd2).2.2 n hm2 n hd2 rfl
        have li : i < ys.length := (List.getElem?_eq_some_iff.mp e2).1
        have l8' : ys.length ≤ 8 := by rw [pm.length_eq, List.length_map]; exact gd.l8
        have lM : M.length ≤ 8 := by
          rw [tm.len, ← List.length_map (f := (·.1)) (as := pickR R (ys.take i)), pickR_names, List.length_take]
          omega
        refine ⟨Kvs M, Sum.inr n, rfl, eD, by rw [kvs_len, sizeLine_eq]; omega, Same.at hD Sa, M ++ [(n, t')], by rw [upd_same, putK_kvs hnM], ?_⟩
        have kt : KT Hb (upd Hb D (.dK (putK (Kvs M) (.inr n) (.ref t')))) := KT.put eD (fun _ z => by cases z)
        rw [List.take_add_one, e2]
        show Tups _ _ (pickR R (ys.take i ++ [n]))
        rw [pickR_snoc R _ n (lookup_mem gd.nd hm)]
        exact (tm.keep kt).snoc (kt _ _ ht)
    rintro H4 ⟨S4, M, h4D, h4T⟩
    have hDn : H D = none := by
      cases z : H D with
      | none => rfl
      | some o =>
        have := S3 _ _ (B2 _ _ nDp z)
        rw [hD] at this
        cases this
    rw [List.length_map, List.take_length] at h4T
    have gS : Good t (pickR R ys) := gd.perm (pickR_perm gd.nd pm)
    have B4 : But p H H4 := But.trans B2 (But.same (Same.trans S3 S4))
    have h4p := S4 _ _ (S3 _ _ h2p)
    clear h2p B2 h2d h2T S3 eq3 hD hq S4
    refine ⟨_, rfl, p, U.C, dx, _, rfl, h4p, U.cl, U.n2, (by show 1 < 1000; decide), ?_⟩
    have h5p : (upd H4 p (.ins U.C dx (putF "_rows" (.ref D) (putF "_interval" (.int t) [])))) p = some (.ins U.C dx (putF "_rows" (.ref D) (putF "_interval" (.int t) []))) := upd_same
    have B5 : But p H (upd H4 p (.ins U.C dx (putF "_rows" (.ref D) (putF "_interval" (.int t) [])))) := But.trans B4 But.upd
    have h5D : (upd H4 p (.ins U.C dx (putF "_rows" (.ref D) (putF "_interval" (.int t) [])))) D = some (.dK (Kvs M)) := by rw [upd_ne nDp]; exact h4D
    have h5T := h4T.keep (KT.put (o := .ins U.C dx (putF "_rows" (.ref D) (putF "_interval" (.int t) []))) h4p (fun _ z => by cases z))
    generalize upd H4 p (.ins U.C dx (putF "_rows" (.ref D) (putF "_interval" (.int t) []))) = H5 at h5p B5 h5D h5T ⊢
    clear h4p B4 h4D h4T
    -- _names
    refine ⟨_, rfl, p, U.C, dx, _, .ref D, rfl, h5p, U.cl, U.n2, rfl, D, Kvs M, rfl, h5D, fun nm hnm => ?_⟩
    rw [kvs_kv]
    have S6 := Same.new (o := .tup ((M.map (·.1)).map V.str)) hnm
    have e6N : (upd H5 nm (.tup ((M.map (·.1)).map V.str))) nm = some (.tup ((M.map (·.1)).map V.str)) := upd_same
    generalize upd H5 nm (.tup ((M.map (·.1)).map V.str)) = H6 at S6 e6N ⊢
    have e6p := S6 _ _ h5p
    refine ⟨_, rfl, p, U.C, dx, _, rfl, e6p, U.cl, U.n3, (by show 2 < 1000; decide), ?_⟩
    have H7p : (upd H6 p (.ins U.C dx (putF "_names" (.ref nm) (putF "_rows" (.ref D) (putF "_interval" (.int t) []))))) p = some (.ins U.C dx (putF "_names" (.ref nm) (putF "_rows" (.ref D) (putF "_interval" (.int t) [])))) := upd_same
    have BH7 : But p H (upd H6 p (.ins U.C dx (putF "_names" (.ref nm) (putF "_rows" (.ref D) (putF "_interval" (.int t) []))))) := But.trans B5 (But.trans (But.same S6) But.upd)
    have H7D : (upd H6 p (.ins U.C dx (putF "_names" (.ref nm) (putF "_rows" (.ref D) (putF "_interval" (.int t) []))))) D = some (.dK (Kvs M)) := by rw [upd_ne nDp]; exact S6 _ _ h5D
    have kt7 : KT H6 (upd H6 p (.ins U.C dx (putF "_names" (.ref nm) (putF "_rows" (.ref D) (putF "_interval" (.int t) []))))) := KT.put e6p (fun _ z => by cases z)
    have H7T := (h5T.keep (KT.same S6)).keep kt7
    have H7N := kt7 _ _ e6N
    generalize upd H6 p (.ins U.C dx (putF "_names" (.ref nm) (putF "_rows" (.ref D) (putF "_interval" (.int t) [])))) = H7 at H7p BH7 H7D H7T H7N ⊢
    clear h5p B5 h5D h5T S6 e6p e6N kt7 hnm

    have H7p' := H7p
    have BH7' := BH7
    -- _living
    refine ⟨D, _, H7D, True.intro, fun od => ?_⟩
    have lk : (upd H7 D (.frz od (.dK (Kvs M)))) D = some (.frz od (.dK (Kvs M))) := upd_same
    have ktl : KT H7 (upd H7 D (.frz od (.dK (Kvs M)))) := KT.put H7D (fun _ z => by cases z)
    refine ⟨_, rfl, p, U.C, dx, _, .ref D, rfl, (by rw [upd_ne nDp.symm]; exact H7p), U.cl, U.n2, rfl, D, od, Kvs M, rfl, lk, fun F8 hF => ?_⟩
    have nFD : F8 ≠ D := fun z => by rw [z, upd_same] at hF; cases hF
    have hF0 : H7 F8 = none := by rw [upd_ne nFD] at hF; exact hF
    have nFp : F8 ≠ p := fun z => by rw [z, H7p] at hF0; cases hF0
    refine dc_it walk_items (fun i H' => Same (upd H7 D (.frz od (.dK (Kvs M)))) H' ∧ ∃ LL, H' F8 = some (.dK (Kvs LL)) ∧ Cts H' t 0 LL ((pickR R ys).take i) ∧ ∀ x ∈ LL, H7 x.2 = none) ⟨Same.new hF, [], upd_same, .nil, fun _ h => by cases h⟩ (fun i H' _ h => h.1 _ _ lk) ?_ ?_
    · rintro i x Ha Hb hi ⟨Sa, LL, eF, cL, fL⟩ ⟨TT, x1, y1, rfl, hTT, rfl, ex1, ey1⟩
      have Sn : Same Ha (upd Ha TT (.tup [x1, y1])) := Same.new hTT
      obtain ⟨n, a, b, e, rfl, e2, hab, e4⟩ := tups_at (H7T.keep (KT.trans ktl (KT.same (Same.trans Sa Sn)))) i y1 ey1
      obtain rfl : V.str n = x1 := by
        unfold Kvs at ex1
        dsimp only at ex1
        rw [List.getElem?_map, e4] at ex1
        exact Option.some.inj ex1
      have Sb : Same (upd H7 D (.frz od (.dK (Kvs M)))) (upd Ha TT (.tup [V.str n, V.ref a])) := Same.trans Sa Sn
      have eTT : (upd Ha TT (.tup [V.str n, V.ref a])) TT = some (.tup [V.str n, V.ref a]) := upd_same
      have eFb := Sn _ _ eF
      have cLb := cL.same Sn
      generalize upd Ha TT (.tup [V.str n, V.ref a]) = Hc at Sb eTT eFb cLb hab ⊢
      have hS : (n, b, e) ∈ pickR R ys := List.mem_of_getElem? e2
      have g1 := gS.nr _ hS
      have g2 := gS.sp _ hS
      have g3 := gS.t2
      have g4 := gS.t1
      unfold Near at g1
      unfold SpOk at g2
      simp only at g1 g2
      refine ⟨TT, _, rfl, SqT.of eTT, rfl, _, _, rfl, _, _, rfl, a, _, rfl, SqT.of hab, rfl, _, _, rfl, _, _, rfl, rfl, rfl, ?_⟩
      refine ⟨rfl, ?_⟩
      unfold tYes
      dsimp only
      rw [if_pos rfl]
      refine ⟨_, rfl, _, rfl, _, rfl, by omega, by omega, fun G hG => ?_⟩
      dsimp only
      refine lc_range (tt := fun _ H Q => Q true H) (g := gName 6) (lo := 0) (vs := [6]) (n := t.toNat) (fun j H' => Same Hc H' ∧ H' G = some (.lst ((List.range j).map fun (s : Nat) => V.int (alv t (b + 0) e (s : Int))))) ⟨Same.new hG, upd_same⟩ ?_ ?_
      · rintro j Hd hj ⟨Sd, eG⟩
        refine ⟨rfl, ?_⟩
        dsimp only
        rw [if_pos rfl]
        refine ⟨_, rfl, _, rfl, _, rfl, _, rfl, _, _, _, t, rfl, ⟨by omega, by omega, by omega⟩, ⟨by omega, by omega⟩, g4, g3, ?_⟩
        refine ⟨_, eG, by rw [List.length_map, List.length_range, sizeLine_eq]; omega, Same.at hG Sd, ?_⟩
        rw [upd_same, List.range_succ, List.map_append]
        simp [alv]
      · rintro Hd ⟨Sd, eG⟩
        have eFd := Sd _ _ eFb
        have cLd := cLb.same Sd
        have li : i < (pickR R ys).length := (List.getElem?_eq_some_iff.mp e2).1
        have lL : LL.length ≤ i := by
          have := congrArg List.length cL.names
          rw [List.length_map, List.length_map, List.length_take] at this
          omega
        have g8 := gS.l8
        have nn : n ∉ LL.map (·.1) := by
          rw [cL.names]
          intro hm2
          have nd := gS.nd
          rw [← List.take_append_drop i (pickR R ys), List.map_append, List.nodup_append] at nd
          refine nd.2.2 n hm2 n (List.mem_map.mpr ⟨(n, b, e), ?_, rfl⟩) rfl
          rw [List.mem_iff_getElem?]
          exact ⟨0, by rw [List.getElem?_drop]; exact e2⟩
        have hGs : H7 G = none := by
          cases z : H7 G with
          | none => rfl
          | some o =>
            by_cases c : G = D
            · rw [c, Sb _ _ lk] at hG
              cases hG
            · have := Sb _ _ ((upd_ne c).trans z)
              rw [hG] at this
              cases this
        refine ⟨Kvs LL, Sum.inr n, rfl, eFd, by rw [kvs_len, sizeLine_eq]; omega, Same.at hF (Same.trans Sb Sd), LL ++ [(n, G)], by rw [upd_same, putK_kvs nn], ?_, ?_⟩
        · have e9 : (pickR R ys).take (i + 1) = (pickR R ys).take i ++ [(n, b, e)] := by rw [List.take_add_one, e2]; rfl
          rw [e9]
          exact Cts.snoc (by rw [upd_ne (fun z => by rw [z, eFd] at eG; cases eG)]; exact eG) (cLd.put eFd (fun _ z => by cases z))
        · intro x hx
          rcases List.mem_append.mp hx with hx | hx
          · exact fL x hx
          · rw [List.mem_singleton.mp hx]
            exact hGs
    rintro Ha ⟨Sa, LL8, eF, cL, fL8⟩
    refine ⟨Sa _ _ lk, ?_⟩
    rw [kvs_len, H7T.len, List.take_length] at cL
    have SH := same_lock H7D Sa
    have eF' : (upd Ha D (.dK (Kvs M))) F8 = some (.dK (Kvs LL8)) := (upd_ne nFD).trans eF
    have cL' := cL.put (o := .dK (Kvs M)) (Sa _ _ lk) (fun _ z => by cases z)
    generalize upd Ha D (.dK (Kvs M)) = Hx at SH eF' cL' ⊢
    have Hxp := SH _ _ H7p
    refine ⟨_, rfl, p, U.C, dx, _, rfl, Hxp, U.cl, U.n4, (by show 3 < 1000; decide), ?_⟩
    have H8p : (upd Hx p (.ins U.C dx (putF "_living" (.ref F8) (putF "_names" (.ref nm) (putF "_rows" (.ref D) (putF "_interval" (.int t) [])))))) p = some (.ins U.C dx (putF "_living" (.ref F8) (putF "_names" (.ref nm) (putF "_rows" (.ref D) (putF "_interval" (.int t) []))))) := upd_same
    have BH8 : But p H (upd Hx p (.ins U.C dx (putF "_living" (.ref F8) (putF "_names" (.ref nm) (putF "_rows" (.ref D) (putF "_interval" (.int t) [])))))) := But.trans BH7 (But.trans (But.same SH) But.upd)
    have KH8 : KT H7 (upd Hx p (.ins U.C dx (putF "_living" (.ref F8) (putF "_names" (.ref nm) (putF "_rows" (.ref D) (putF "_interval" (.int t) [])))))) := KT.trans (KT.same SH) (KT.put Hxp (fun _ z => by cases z))
    have H8D : (upd Hx p (.ins U.C dx (putF "_living" (.ref F8) (putF "_names" (.ref nm) (putF "_rows" (.ref D) (putF "_interval" (.int t) [])))))) D = some (.dK (Kvs M)) := by rw [upd_ne nDp]; exact SH _ _ H7D
    have H8N := KH8 _ _ H7N
    have H8T := H7T.keep KH8
    have H8F8 : (upd Hx p (.ins U.C dx (putF "_living" (.ref F8) (putF "_names" (.ref nm) (putF "_rows" (.ref D) (putF "_interval" (.int t) [])))))) F8 = some (.dK (Kvs LL8)) := (upd_ne nFp).trans eF'
    have H8C8 := cL'.put (o := .ins U.C dx (putF "_living" (.ref F8) (putF "_names" (.ref nm) (putF "_rows" (.ref D) (putF "_interval" (.int t) []))))) Hxp (fun _ z => by cases z)
    generalize upd Hx p (.ins U.C dx (putF "_living" (.ref F8) (putF "_names" (.ref nm) (putF "_rows" (.ref D) (putF "_interval" (.int t) []))))) = H8 at H8p BH8 H8D H8N H8T H8F8 H8C8 ⊢
    have nFp8 := nFp
    clear SH Hxp KH8 Sa eF cL eF' cL' hF lk ktl

    have H8p' := H8p
    have BH8' := BH8
    -- _crossing
    refine ⟨D, _, H8D, True.intro, fun od => ?_⟩
    have lk : (upd H8 D (.frz od (.dK (Kvs M)))) D = some (.frz od (.dK (Kvs M))) := upd_same
    have ktl : KT H8 (upd H8 D (.frz od (.dK (Kvs M)))) := KT.put H8D (fun _ z => by cases z)
    refine ⟨_, rfl, p, U.C, dx, _, .ref D, rfl, (by rw [upd_ne nDp.symm]; exact H8p), U.cl, U.n2, rfl, D, od, Kvs M, rfl, lk, fun F9 hF => ?_⟩
    have nFD : F9 ≠ D := fun z => by rw [z, upd_same] at hF; cases hF
    have hF0 : H8 F9 = none := by rw [upd_ne nFD] at hF; exact hF
    have nFp : F9 ≠ p := fun z => by rw [z, H8p] at hF0; cases hF0
    refine dc_it walk_items (fun i H' => Same (upd H8 D (.frz od (.dK (Kvs M)))) H' ∧ ∃ LL, H' F9 = some (.dK (Kvs LL)) ∧ Cts H' t 1 LL ((pickR R ys).take i) ∧ ∀ x ∈ LL, H8 x.2 = none) ⟨Same.new hF, [], upd_same, .nil, fun _ h => by cases h⟩ (fun i H' _ h => h.1 _ _ lk) ?_ ?_
    · rintro i x Ha Hb hi ⟨Sa, LL, eF, cL, fL⟩ ⟨TT, x1, y1, rfl, hTT, rfl, ex1, ey1⟩
      have Sn : Same Ha (upd Ha TT (.tup [x1, y1])) := Same.new hTT
      obtain ⟨n, a, b, e, rfl, e2, hab, e4⟩ := tups_at (H8T.keep (KT.trans ktl (KT.same (Same.trans Sa Sn)))) i y1 ey1
      obtain rfl : V.str n = x1 := by
        unfold Kvs at ex1
        dsimp only at ex1
        rw [List.getElem?_map, e4] at ex1
        exact Option.some.inj ex1
      have Sb : Same (upd H8 D (.frz od (.dK (Kvs M)))) (upd Ha TT (.tup [V.str n, V.ref a])) := Same.trans Sa Sn
      have eTT : (upd Ha TT (.tup [V.str n, V.ref a])) TT = some (.tup [V.str n, V.ref a]) := upd_same
      have eFb := Sn _ _ eF
      have cLb := cL.same Sn
      generalize upd Ha TT (.tup [V.str n, V.ref a]) = Hc at Sb eTT eFb cLb hab ⊢
      have hS : (n, b, e) ∈ pickR R ys := List.mem_of_getElem? e2
      have g1 := gS.nr _ hS
      have g2 := gS.sp _ hS
      have g3 := gS.t2
      have g4 := gS.t1
      unfold Near at g1
      unfold SpOk at g2
      simp only at g1 g2
      refine ⟨TT, _, rfl, SqT.of eTT, rfl, _, _, rfl, _, _, rfl, a, _, rfl, SqT.of hab, rfl, _, _, rfl, _, _, rfl, rfl, rfl, ?_⟩
      refine ⟨rfl, ?_⟩
      unfold tYes
      dsimp only
      rw [if_pos rfl]
      refine ⟨_, rfl, _, rfl, _, rfl, by omega, by omega, fun G hG => ?_⟩
      dsimp only
      refine lc_range (tt := fun _ H Q => Q true H) (g := gName 6) (lo := 0) (vs := [6]) (n := t.toNat) (fun j H' => Same Hc H' ∧ H' G = some (.lst ((List.range j).map fun (s : Nat) => V.int (alv t (b + 1) e (s : Int))))) ⟨Same.new hG, upd_same⟩ ?_ ?_
      · rintro j Hd hj ⟨Sd, eG⟩
        refine ⟨rfl, ?_⟩
        dsimp only
        rw [if_pos rfl]
        refine ⟨_, rfl, _, _, rfl, rfl, _, rfl, _, rfl, _, rfl, _, _, _, t, rfl, ⟨by omega, by omega, by omega⟩, ⟨by omega, by omega⟩, g4, g3, ?_⟩
        refine ⟨_, eG, by rw [List.length_map, List.length_range, sizeLine_eq]; omega, Same.at hG Sd, ?_⟩
        rw [upd_same, List.range_succ, List.map_append]
        simp [alv]
      · rintro Hd ⟨Sd, eG⟩
        have eFd := Sd _ _ eFb
        have cLd := cLb.same Sd
        have li : i < (pickR R ys).length := (List.getElem?_eq_some_iff.mp e2).1
        have lL : LL.length ≤ i := by
          have := congrArg List.length cL.names
          rw [List.length_map, List.length_map, List.length_take] at this
          omega
        have g8 := gS.l8
        have nn : n ∉ LL.map (·.1) := by
          rw [cL.names]
          intro hm2
          have nd := gS.nd
          rw [← List.take_append_drop i (pickR R ys), List.map_append, List.nodup_append] at nd
          refine nd.2.2 n hm2 n (List.mem_map.mpr ⟨(n, b, e), ?_, rfl⟩) rfl
          rw [List.mem_iff_getElem?]
          exact ⟨0, by rw [List.getElem?_drop]; exact e2⟩
        have hGs : H8 G = none := by
          cases z : H8 G with
          | none => rfl
          | some o =>
            by_cases c : G = D
            · rw [c, Sb _ _ lk] at hG
              cases hG
            · have := Sb _ _ ((upd_ne c).trans z)
              rw [hG] at this
              cases this
        refine ⟨Kvs LL, Sum.inr n, rfl, eFd, by rw [kvs_len, sizeLine_eq]; omega, Same.at hF (Same.trans Sb Sd), LL ++ [(n, G)], by rw [upd_same, putK_kvs nn], ?_, ?_⟩
        · have e9 : (pickR R ys).take (i + 1) = (pickR R ys).take i ++ [(n, b, e)] := by rw [List.take_add_one, e2]; rfl
          rw [e9]
          exact Cts.snoc (by rw [upd_ne (fun z => by rw [z, eFd] at eG; cases eG)]; exact eG) (cLd.put eFd (fun _ z => by cases z))
        · intro x hx
          rcases List.mem_append.mp hx with hx | hx
          · exact fL x hx
          · rw [List.mem_singleton.mp hx]
            exact hGs
    rintro Ha ⟨Sa, LL9, eF, cL, fL9⟩
    refine ⟨Sa _ _ lk, ?_⟩
    rw [kvs_len, H8T.len, List.take_length] at cL
    have SH := same_lock H8D Sa
    have eF' : (upd Ha D (.dK (Kvs M))) F9 = some (.dK (Kvs LL9)) := (upd_ne nFD).trans eF
    have cL' := cL.put (o := .dK (Kvs M)) (Sa _ _ lk) (fun _ z => by cases z)
    generalize upd Ha D (.dK (Kvs M)) = Hx at SH eF' cL' ⊢
    have Hxp := SH _ _ H8p
    refine ⟨_, rfl, p, U.C, dx, _, rfl, Hxp, U.cl, U.n5, (by show 4 < 1000; decide), ?_⟩
    have H9p : (upd Hx p (.ins U.C dx (putF "_crossing" (.ref F9) (putF "_living" (.ref F8) (putF "_names" (.ref nm) (putF "_rows" (.ref D) (putF "_interval" (.int t) []))))))) p = some (.ins U.C dx (putF "_crossing" (.ref F9) (putF "_living" (.ref F8) (putF "_names" (.ref nm) (putF "_rows" (.ref D) (putF "_interval" (.int t) [])))))) := upd_same
    have BH9 : But p H (upd Hx p (.ins U.C dx (putF "_crossing" (.ref F9) (putF "_living" (.ref F8) (putF "_names" (.ref nm) (putF "_rows" (.ref D) (putF "_interval" (.int t) []))))))) := But.trans BH8 (But.trans (But.same SH) But.upd)
    have KH9 : KT H8 (upd Hx p (.ins U.C dx (putF "_crossing" (.ref F9) (putF "_living" (.ref F8) (putF "_names" (.ref nm) (putF "_rows" (.ref D) (putF "_interval" (.int t) []))))))) := KT.trans (KT.same SH) (KT.put Hxp (fun _ z => by cases z))
    have H9D : (upd Hx p (.ins U.C dx (putF "_crossing" (.ref F9) (putF "_living" (.ref F8) (putF "_names" (.ref nm) (putF "_rows" (.ref D) (putF "_interval" (.int t) []))))))) D = some (.dK (Kvs M)) := by rw [upd_ne nDp]; exact SH _ _ H8D
    have H9N := KH9 _ _ H8N
    have H9T := H8T.keep KH9
    have H9F9 : (upd Hx p (.ins U.C dx (putF "_crossing" (.ref F9) (putF "_living" (.ref F8) (putF "_names" (.ref nm) (putF "_rows" (.ref D) (putF "_interval" (.int t) []))))))) F9 = some (.dK (Kvs LL9)) := (upd_ne nFp).trans eF'
    have H9C9 := cL'.put (o := .ins U.C dx (putF "_crossing" (.ref F9) (putF "_living" (.ref F8) (putF "_names" (.ref nm) (putF "_rows" (.ref D) (putF "_interval" (.int t) [])))))) Hxp (fun _ z => by cases z)
    have H9F8 : (upd Hx p (.ins U.C dx (putF "_crossing" (.ref F9) (putF "_living" (.ref F8) (putF "_names" (.ref nm) (putF "_rows" (.ref D) (putF "_interval" (.int t) []))))))) F8 = some (.dK (Kvs LL8)) := (upd_ne nFp8).trans (SH _ _ H8F8)
    have H9C8 := (H8C8.same SH).put (o := .ins U.C dx (putF "_crossing" (.ref F9) (putF "_living" (.ref F8) (putF "_names" (.ref nm) (putF "_rows" (.ref D) (putF "_interval" (.int t) [])))))) Hxp (fun _ z => by cases z)
    generalize upd Hx p (.ins U.C dx (putF "_crossing" (.ref F9) (putF "_living" (.ref F8) (putF "_names" (.ref nm) (putF "_rows" (.ref D) (putF "_interval" (.int t) [])))))) = H9 at H9p BH9 H9D H9N H9T H9F9 H9C9 H9F8 H9C8 ⊢
    clear SH Hxp KH9 Sa eF cL eF' cL' hF lk ktl
    have so' : sortedS ((pickR R ys).map (·.1)) = true := by rw [pickR_names]; exact so
    refine k (pickR R ys) _ BH9 (fun r hr0 => ⟨gS, so', dx, D, nm, F8, F9, M, LL8, LL9, H9p, H9D, H9T, by rw [← H9T.names]; exact H9N, H9F8, H9C8, H9F9, H9C9, ?_, ?_⟩) ⟨pickR_perm gd.nd pm, so'⟩
    · intro x hx z
      have h7 := fL8 x hx
      cases w : H r with
      | none => exact hr0 w
      | some o =>
        by_cases c : r = p
        · rw [z, c, H7p'] at h7
          cases h7
        · rw [z, BH7' _ _ c w] at h7
          cases h7
    · intro x hx z
      have h8 := fL9 x hx
      cases w : H r with
      | none => exact hr0 w
      | some o =>
        by_cases c : r = p
        · rw [z, c, H8p'] at h8
          cases h8
        · rw [z, BH8' _ _ c w] at h8
          cases h8
end

theorem SpS.weak {H : Hp} {C p : Addr} {t : Int} {S : Rws} {r : Addr} (h : SpS H C p t S r) : SpAt H C p t S := by
  obtain ⟨g, so, dx, rd, nm, lv, cr, L, LL, LC, h1, h2, h3, h4, _⟩ := h
  exact ⟨g, so, dx, rd, nm, _, _, L, h1, h2, h3, h4⟩
end K44
namespace RL
open PySem PySem.Spec PyProof PyProof.Rows L2
section
variable {X : Cx}
theorem sw_trueD {kx vx : Expr} {gs : List Comprehension} {scope : Scope} {pos py : Pos} {y : Str} {l : Nat} {env : Env} (hk : env.scope.kind = .function) (hy : env.scope.names.lookup y = some .local) (hl : (py.line == pos.line) = true)
    (ha : (scope.names.any fun (n, k) => n == y && (k == .local || k == .cell)) = false) : swapsWith (.DictComp kx vx gs scope pos) (some (.Name y py)) l env = pure true := by
  have ky : env.kindOf y = some .local := hy
  have hb : env.blockKind = .function := by unfold Env.blockKind; rw [hk]; rfl
  unfold swapsWith
  simp only [hb, ky, ha, Expr.pos, hl]
  rfl
/-- y = {k: v for ..} -/
theorem ps_setDc {i : Nat} {y : Str} {py : Pos} {kx vx tg iter : Expr} {ifs : List Expr} {scope : Scope} {own : List (Str × Nat)} {pos spos : Pos} {wi : TI} {g : TG} {tt : TT} {tk tv : TE} (hc : X.calm = true) (hN : X.N.Nodup) (hy : X.N[i]? = some y) (hyl : X.env.scope.names.lookup y = some .local)
    (hsw : swapsWith (.DictComp kx vx [⟨tg, iter, ifs, 0⟩] scope pos) (some (.Name y py)) spos.line X.env = pure true) (hi : PI X tg iter wi) (ok : BlkOk X.N X.env.scope scope own)
    (hg : ∀ (s : Shared) (H : Hp) (C : Addr) (cl : List (Str × Addr)) (fp : List Addr), PG (X.blk s H scope (compEnvC scope cl C X.env) fp) tg g)
                                                                                                                                                  (ht : ∀ (s : Shared) (H : Hp) (C : Addr) (cl : List (Str × Addr)) (fp : List Addr), PTs (X.blk s H scope (compEnvC scope cl C X.env) fp) ifs tt)
    (hk : ∀ (s : Shared) (H : Hp) (C : Addr) (cl : List (Str × Addr))
                                                                      (fp : List Addr), PE (X.blk s H scope (compEnvC scope cl C X.env) fp) kx tk)
    (he : ∀ (s : Shared) (H : Hp) (C : Addr) (cl : List (Str × Addr)) (fp : List Addr), PE (X.blk s H scope
                                                                                                            (compEnvC scope cl C X.env) fp) vx tv) (hs : ∀ x, foldedSetIterable iter X.env x = pure x := by intro _; rfl) :
    PS X (.Assign [.Name y py] (.DictComp kx vx [⟨tg, iter, ifs, 0⟩] scope pos) spos) (tAsg (tDc wi g tt tk tv (own.map (·.2))) (gName i)) := by
  refine ⟨fun pins s σ H D I h => ?_⟩
  rw [exec_Assign_Name_used _ _ _ _ hsw]
  refine wpAny_bind (wpAny_standAt (wpAny_bind ?_))
  show wpAny _ X.A (do let _ ← comprehension (.DictComp kx vx [⟨tg, iter, ifs, 0⟩] scope pos) scope X.env (firstIterPos [⟨tg, iter, ifs, 0⟩] pos) newDict false (eval iter X.env) (some (assign (.Name y py) X.env))) _ _ s
  have h : tDc wi g tt tk tv (own.map (·.2)) σ H (fun x H1 => gName i x σ H1 D.nx) := h
  refine wpAny_bind (thn (dc_core (Qf := fun _ s' => SP X pins D .next s') hc hN I hi ok hg ht hk he hs h fun L C s' m H' I' q hn f => ?_) fun _ s' hq => wpAny_pure (wpAny_pure hq))
  show wpAny _ _ (assign (.Name y py) X.env (.ref L)) _ _ _
  refine wpAny_assign_Name (store_ok2 (v := V.ref L) I' hN hy
                                                              (.inl hyl) rfl (fun s2 I2 ⟨a, sb, ha⟩ => ?_) (.inr hyl))
  obtain ⟨f0, f1, f2, f3, f4, f5⟩ := f
  have haC : C ≠ a := by
    rcases ha with z | z
    · rw [z]; exact f1
    · exact fun e => f4 y a z e.symm
  refine ⟨m, hn.sameBut sb haC, fun h3 sb3 => ?_⟩
  exact ⟨_, H', I2.turned (t' := s2.toks)
                                          (fun b o hb e => (sb3.2 b hb).trans e) f0 f1 f3 f4 f5, q⟩
end
end RL
namespace K44
open PySem L2
open PyProof.Rows PySem.Spec
theorem SpAt.t1 {H : Hp} {C p : Addr} {t : Int} {S : Rws} (h : SpAt H C p t S) : 1 ≤ t ∧ t ≤ 32 := ⟨h.1.t1, h.1.t2⟩
theorem SpAt.off {H H' : Hp} {C p q : Addr} {t : Int} {S : Rws} (o : But q H H') (hq : H q = none) (h : SpAt H C p t S) : SpAt H' C p t S := by
  obtain ⟨g, so, dx, rd, nm, lv, cr, L, h1, h2, h3, h4⟩ := h
  have ne : ∀ {a : Addr} {u : HO}, H a = some u → a ≠ q := fun e w => by rw [w, hq] at e; cases e
  have kt : KT H H' := fun a xs e => o _ _ (ne e) e
  exact ⟨g, so, dx, rd, nm, lv, cr, L, o _ _ (ne h1) h1, o _ _ (ne h2) h2, h3.keep kt, o _ _ (ne h4) h4⟩
theorem pe_fldK {X : Cx} {K : PySem.W.Frag} {e : Expr} {f : Str} {ta : TE} {pos : Pos} (hK : X.K = K) (he : PE X e ta) (hb : attributeBase e f X.env (eval e X.env) = eval e X.env) : PE X (.Attribute e f pos) (tFld K ta f) := by
  subst hK
  exact pe_fld he hb
theorem opr_or {X : Cx} {f : Value → Value → Sem Value} {r1 r2 : R2} (h1 : OpR X f r1) (h2 : OpR X f r2) : OpR X f (fun x y H Q => r1 x y H Q ∨ r2 x y H Q) := fun pins s σ H x y v u Q I rx ry h => by
  rcases h with h | h
  · exact h1 pins s σ H x y v u Q I rx ry h
  · exact h2 pins s σ H x y v u Q I rx ry h
def tJ (ts : List TE) : TE := fun σ H Q => tJs ts Str.empty σ H fun out H1 => Q (.str out) H1
theorem pe_J {X : Cx} {v1 v2 : Expr} {rest : List Expr} {ts : List TE} {pos : Pos} (h : PJ X (v1 :: v2 :: rest) ts) : PE X (.JoinedStr (v1 :: v2 :: rest) pos) (tJ ts) := pe_joined h
theorem int_len {i : Int} (h0 : 0 ≤ i) (h1 : i ≤ 40) : (toString i : Str).length ≤ 3 ∧ i.natAbs.log2 < 1920 := by
  have key : ∀ k : Fin 41, (toString (k.1 : Int) : Str).length ≤ 3 ∧ (k.1 : Int).natAbs.log2 < 1920 := by decide +kernel
  have := key ⟨i.toNat, by omega⟩
  rwa [show ((i.toNat : Nat) : Int) = i from by omega] at this
theorem len_app (a b : Str) : (a ++ b).length = a.length + b.length := by
  show (a.cps ++ b.cps).size = a.cps.size + b.cps.size
  exact Array.size_append
theorem emp_app (x : Str) : Str.empty ++ x = x := by
  refine str_ext ?_
  show (Str.empty.cps ++ x.cps).toList = x.cps.toList
  rw [Array.toList_append]
  rfl
theorem eqv_row (p q : Int × Int) : PyData.eqv (.tuple [.int p.1, .int p.2]) (.tuple [.int q.1, .int q.2]) = decide (p = q) := by
  obtain ⟨a, b⟩ := p
  obtain ⟨c, d⟩ := q
  simp [PyData.eqv, PyData.eqvAll]
  rw [Bool.eq_iff_iff]
  simp
theorem allE_rows : ∀ {S S2 : Rws}, S.map (·.1) = S2.map (·.1) → RL.allE (S.map rowD) (S2.map rowD) = decide (S = S2)
  | [], [], _ => by simp [RL.allE]
  | [], _ :: _, h => by cases h
  | _ :: _, [], h => by cases h
  | (n, p) :: S, (m, q) :: S2, h => by
    obtain ⟨h1, h2⟩ := List.cons.inj h
    obtain rfl : n = m := h1
    show (PyData.eqv (.tuple [.int p.1, .int p.2]) (.tuple [.int q.1, .int q.2]) && RL.allE (S.map rowD) (S2.map rowD)) = _
    rw [eqv_row, allE_rows h2, Bool.eq_iff_iff]
    simp
theorem plain_rows (S : Rws) : PyData.plainAll ((S.map rowD).map (·.2)) = true := by
  induction S with
  | nil => simp [PyData.plainAll]
  | cons r S ih => simpa [PyData.plainAll, PyData.plain, rowD] using ih
theorem depth_rows (S : Rws) : PyData.depthAll ((S.map rowD).map (·.2)) ≤ 1 := by
  induction S with
  | nil => simp [PyData.depthAll]
  | cons r S ih =>
    simp [PyData.depthAll, PyData.depth, rowD] at ih ⊢
    exact Nat.max_le.mpr ⟨Nat.le_refl _, ih⟩
theorem valV_self : ∀ {L : List (Str × Addr)}, (L.map (·.1)).Nodup → ∀ p ∈ Kvs L, valV (Kvs L) p.1 = some p.2
  | [], _, p, hp => by cases hp
  | (n, a) :: L, nd, p, hp => by
    rw [List.map_cons, List.nodup_cons] at nd
    rcases List.mem_cons.mp hp with rfl | hp
    · exact valV_pos (p := ((Sum.inr n : Key), V.ref a)) rfl
    · obtain ⟨⟨m, b⟩, hm, rfl⟩ := List.mem_map.mp hp
      refine (valV_neg (p := ((Sum.inr n : Key), V.ref a)) (fun z => nd.1 ?_)).trans (valV_self nd.2 _ hp)
      rw [Sum.inr.inj z]
      exact List.mem_map.mpr ⟨_, hm, rfl⟩
theorem self_nf {K : PySem.W.Frag} {C : Addr} : PySem.W.notFirst K C (.ref C) = true := by
  unfold PySem.W.notFirst
  simp
theorem SpAt.ins {H : Hp} {C p : Addr} {t : Int} {S : Rws} (h : SpAt H C p t S) : ∃ dx fs, H p = some (.ins C dx fs) := by
  obtain ⟨g, so, dx, rd, nm, lv, cr, L, h1, _⟩ := h
  exact ⟨dx, _, h1⟩
theorem SpAt.tyd {K : PySem.W.Frag} {H : Hp} {C p : Addr} {t : Int} {S : Rws} (h : SpAt H C p t S) : OW.Tyd K H (.ref p) (.ref C) := by
  obtain ⟨dx, fs, e⟩ := h.ins
  exact .inr (.inr ⟨C, dx, fs, e, rfl⟩)
/-- rows moved by so much -/
def farR (f : Int) (R : Rws) : Rws := R.map fun r => (r.1, r.2.1 + f, r.2.2 + f)
theorem farR_names (f : Int) (R : Rws) : (farR f R).map (·.1) = R.map (·.1) := by
  unfold farR
  rw [List.map_map]
  rfl
section
variable {P : Program} {w : World} {K : PySem.W.Frag}
                                                      {mg : Str → Option Value} {base : Heap}
theorem ok_get {x qual f : Str} {st : Stmt} {C : Addr} (c : Cls K C) (p : Pp K C x qual st) (S : FnScope ["self"] ["self"] (defScope st)) (n : NoAttr K C f)
    (hb : ∃ p1 p2 p3, defBody st = [.Return (some (.Attribute (.Name "self" p1) f p2)) p3]) : FnOk P w K mg base CX0 1 p.g p.d ["self"] (getSp C f) := by
  obtain ⟨oc, od, dV, kV, doc, pm, an, cdv, ct, osl, e, lk, hcd, _, _⟩ := p.F.ex
  obtain ⟨p1, p2, p3, hb⟩ := hb
  rw [e] at lk ⊢
  exact fn_getter lk hcd S rfl hb c n
def sp_item (K : PySem.W.Frag) (C : Addr) : Sp := fun vs H Q _ => ∃ (p : Addr) (t : Int) (S : Rws) (n : Str) (b e : Int), vs = [.ref p, .str n] ∧ SpAt H C p t S ∧ (n, b, e) ∈ S ∧ ∀ a, TupAt H a b e → Q (.ref a) H
theorem ok_item (T : T K mg) (U : UX K mg) : FnOk P w K mg base CX0 1 U.mi.f U.mi.d ["self", "name"] (sp_item K U.C) := by
  refine U.mi.F.ok sc_Spans_getitem (fun vs H Q E h => ?_) (fun cdv A outer s H vs Q E hr h => ?_)
  · obtain ⟨p, t, S, n, b, e, rfl, _⟩ := h
    rfl
  · obtain ⟨p, t, S, n, b, e, rfl, ⟨g, so, dx, rd, nm, lv, cr, L, h1, h2, h3, h4⟩, hm, k⟩ := h
    have hu := hu_of hr
    refine ⟨_, (pss_cons (ps_if (pt_cmpR op_notIn_seq (pv 1) (pe_fld (pv 0) rfl) rfl)
      (pss_one ps_never)
      pss_nil)
      (pss_one (ps_ret (pe_dget (by exact hu) (pe_fld (pv 0) rfl) (pv 1) (fun _ _ => rfl))))), ?_⟩
    have hn : n ∈ S.map (·.1) := List.mem_map.mpr ⟨_, hm, rfl⟩
    refine ⟨_, rfl, _, rfl, p, U.C, dx, _, .ref nm, rfl, h1, U.cl, U.n3, rfl, nm, _, rfl, .inr (SqT.of h4), rfl, flat_strs _, _, rfl, ?_⟩
    rw [inV_strs, decide_eq_true hn]
    refine iteF ?_
    obtain ⟨a, ha, hb⟩ := h3.at g.nd hm
    refine ⟨_, rfl, p, U.C, dx, _, .ref rd, rfl, h1, U.cl, U.n2, rfl, _, rfl, rd, V.ref a, rfl, ?_, ?_⟩
    · have := DGet.k (k := Sum.inr n) h2
      rw [ha] at this
      exact this
    · exact k a hb
end
end K44
namespace K44
open PySem L2
open PyProof.Rows PySem.Spec
/-- names, the one that follows each, and how long its register waits -/
abbrev Flw := List (Str × Str × Int)
def FAt (H : Hp) (a : Addr) (m : Str) (w : Int) : Prop := H a = some (.tup [.str m, .int w])
inductive FTs (H : Hp) : List (Str × Addr) → Flw → Prop
  | nil : FTs H [] []
  | cons {n : Str} {a : Addr} {m : Str} {w : Int} {L : List (Str × Addr)} {F : Flw} : FAt H a m w → FTs H L F → FTs H ((n, a) :: L) ((n, m, w) :: F)
theorem FTs.keep {H H' : Hp} (k : KT H H') : ∀ {L : List (Str × Addr)} {F : Flw}, FTs H L F → FTs H' L F
  | _, _, .nil => .nil
  | _, _, .cons h t => .cons (k _ _ h) (FTs.keep k t)
theorem FTs.names {H : Hp} : ∀ {L : List (Str × Addr)} {F : Flw}, FTs H L F → L.map (·.1) = F.map (·.1)
  | _, _, .nil => rfl
  | _, _, .cons _ t => by rw [List.map_cons, List.map_cons, FTs.names t]
theorem FTs.len {H : Hp} {L : List (Str × Addr)} {F : Flw} (h : FTs H L F) : L.length = F.length := by
  rw [← List.length_map (f := (·.1)) (as := L), h.names, List.length_map]
theorem FTs.snoc {H : Hp} {n : Str} {a : Addr} {m : Str} {w : Int} : ∀ {L : List (Str × Addr)} {F : Flw}, FTs H L F → FAt H a m w → FTs H (L ++ [(n, a)]) (F ++ [(n, m, w)])
  | _, _, .nil, q => .cons q .nil
  | _, _, .cons h t, q => .cons h (FTs.snoc t q)
/-- what is told of a name -/
def fol (F : Flw) (n : Str) : Str × Int := (F.lookup n).getD (n, 0)
theorem FTs.get {H : Hp} {n : Str} : ∀ {L : List (Str × Addr)} {F : Flw}, FTs H L F → n ∈ F.map (·.1) → ∃ a, valV (Kvs L) (.inr n) = some (.ref a) ∧ FAt H a (fol F n).1 (fol F n).2 ∧ (n, fol F n) ∈ F
  | _, _, .nil, h => by cases h
  | _, _, .cons (n := k) (a := a) (m := m) (w := w) (L := L) (F := F) h ts, hn => by
    by_cases c : n = k
    · subst c
      have e : fol ((n, m, w) :: F) n = (m, w) := by unfold fol; simp
      rw [e]
      exact ⟨a, valV_pos (p := ((Sum.inr n : Key), V.ref a)) rfl, h, List.mem_cons_self⟩
    · have e : fol ((k, m, w) :: F) n = fol F n := by
        unfold fol
        rw [List.lookup_cons, show (n == k) = false from by simpa using c]
      rw [e]
      rcases List.mem_cons.mp hn with q | q
      · exact absurd q c
      · obtain ⟨a', h1, h2, h3⟩ := FTs.get ts q
        exact ⟨a', (valV_neg (p := ((Sum.inr k : Key), V.ref a)) (fun z => c (Sum.inr.inj z).symm)).trans h1, h2, List.mem_cons_of_mem _ h3⟩
theorem fol_at {F : Flw} (nd : (F.map (·.1)).Nodup) {n : Str} {q : Str × Int} (h : (n, q) ∈ F) : fol F n = q := by
  induction F with
  | nil => cases h
  | cons x F ih =>
    obtain ⟨k, p⟩ := x
    rw [List.map_cons, List.nodup_cons] at nd
    by_cases c : n = k
    · subst c
      rcases List.mem_cons.mp h with e | e
      · cases e
        unfold fol
        simp
      · exact absurd (List.mem_map.mpr ⟨_, e, rfl⟩) nd.1
    · have e : fol ((k, p) :: F) n = fol F n := by
        unfold fol
        rw [List.lookup_cons, show (n == k) = false from by simpa using c]
      rw [e]
      rcases List.mem_cons.mp h with e | e
      · cases e
        exact absurd rfl c
      · exact ih nd.2 e
/-- the span of a name -/
def spn (S : Rws) (n : Str) : Int × Int := (S.lookup n).getD (0, 0)
theorem spn_at {n : Str} {p : Int × Int} : ∀ {S : Rws}, (S.map (·.1)).Nodup → (n, p) ∈ S → spn S n = p
  | (m, q) :: S, nd, h => by
    rw [List.map_cons, List.nodup_cons] at nd
    cases h with
    | head => unfold spn; simp
    | tail _ h =>
      have ne : ¬n = m := fun z => nd.1 (List.mem_map.mpr ⟨_, h, z⟩)
      rw [← spn_at nd.2 h]
      unfold spn
      rw [List.lookup_cons, show (n == m) = false from by rw [beq_eq_false_iff_ne]; exact ne]
theorem spn_in {S : Rws} (nd : (S.map (·.1)).Nodup) {n : Str} (h : n ∈ S.map (·.1)) : (n, (spn S n).1, (spn S n).2) ∈ S := by
  obtain ⟨x, hx, rfl⟩ := List.mem_map.mp h
  rw [spn_at (p := x.2) nd hx]
  exact hx
/-- follows that make a wiring -/
structure FOk (t : Int) (S : Rws) (F : Flw) : Prop where
  nm : (F.map (·.1)).Perm (S.map (·.1))
  tg : (F.map (·.2.1)).Perm (S.map (·.1))
  wt : ∀ x ∈ F, 0 ≤ x.2.2 ∧ x.2.2 ≤ 4 * t
  dv : ∀ x ∈ F, ((spn S x.1).2 + x.2.2 - (spn S x.2.1).1) % t = 0
  l6 : F.length ≤ 6
theorem FOk.nd {t : Int} {S : Rws} {F : Flw} (g : Good t S) (h : FOk t S F) : (F.map (·.1)).Nodup := h.nm.nodup_iff.mpr g.nd
theorem FOk.perm {t : Int} {S : Rws} {F G : Flw} (p : G.Perm F) (h : FOk t S F) : FOk t S G := ⟨(p.map (·.1)).trans h.nm, (p.map (·.2.1)).trans h.tg, fun x hx => h.wt x (p.mem_iff.mp hx), fun x hx => h.dv x (p.mem_iff.mp hx), by rw [p.length_eq]; exact h.l6⟩
theorem FOk.at {t : Int} {S : Rws} {F : Flw} (h : FOk t S F) {n : Str} (hn : n ∈ S.map (·.1)) : n ∈ F.map (·.1) := h.nm.mem_iff.mpr hn
theorem FOk.to {t : Int} {S : Rws} {F : Flw} (h : FOk t S F) {n : Str} {q : Str × Int} (hn : (n, q) ∈ F) : q.1 ∈ S.map (·.1) := h.tg.mem_iff.mp (List.mem_map.mpr ⟨_, hn, rfl⟩)
/-- the length of a value and the wait behind it -/
def lw (S : Rws) (F : Flw) (n : Str) : Int := (spn S n).2 - (spn S n).1 + (fol F n).2
def sizeV (S : Rws) (t : Int) (F : Flw) (ns : List Str) : Int := (ns.map (lw S F)).sum / t
theorem lw_bd {t : Int} {S : Rws} {F : Flw} (g : Good t S) (h : FOk t S F) {n : Str} (hn : n ∈ S.map (·.1)) : 1 ≤ lw S F n ∧ lw S F n ≤ 12 * t := by
  have h1 := g.sp _ (spn_in g.nd hn)
  obtain ⟨x, hx, e⟩ := List.mem_map.mp (h.at hn)
  have e2 : fol F n = x.2 := fol_at (h.nd g) (by rw [← e]; exact hx)
  have h2 := h.wt x hx
  unfold SpOk at h1
  unfold lw
  rw [e2]
  simp only at h1
  omega
theorem sum_bd {f : Str → Int} {c : Int} : ∀ {ns : List Str}, (∀ n ∈ ns, 0 ≤ f n ∧ f n ≤ c) → 0 ≤ (ns.map f).sum ∧ (ns.map f).sum ≤ c * ns.length
  | [], _ => by simp
  | n :: ns, h => by
    obtain ⟨i1, i2⟩ := sum_bd (ns := ns) fun m hm => h m (List.mem_cons_of_mem _ hm)
    have h1 := h n List.mem_cons_self
    rw [List.map_cons, List.sum_cons, List.length_cons, Int.natCast_succ, Int.mul_add, Int.mul_one]
    omega
theorem size_bd {t : Int} {S : Rws} {F : Flw} (g : Good t S) (h : FOk t S F) {ns : List Str} (hn : ∀ n ∈ ns, n ∈ S.map (·.1)) (l6 : ns.length ≤ 6) : 0 ≤ (ns.map (lw S F)).sum ∧ (ns.map (lw S F)).sum ≤ 72 * t ∧ sizeV S t F ns ≤ 72 ∧ 0 ≤ sizeV S t F ns := by
  have t1 := g.t1
  obtain ⟨b1, b2⟩ := sum_bd (f := lw S F) (c := 12 * t) (ns := ns) fun n q => ⟨by have := (lw_bd g h (hn n q)).1; omega, (lw_bd g h (hn n q)).2⟩
  have b3 : 12 * t * (ns.length : Int) ≤ 12 * t * 6 := Int.mul_le_mul_of_nonneg_left (by omega) (by omega)
  refine ⟨b1, by omega, Int.ediv_le_of_le_mul (by omega) (by omega), Int.ediv_nonneg b1 (by omega)⟩
end K44
namespace K44
open PySem L2
open PyProof.Rows PySem.Spec
/-- names that follow one another, each once -/
structure Chn (nx : Str → Str) (N : List Str) (n : Str) (c : List Str) : Prop where
  hd : c[0]? = some n
  st : ∀ i x y, c[i]? = some x → c[i + 1]? = some y → y = nx x
  nd : c.Nodup
  sb : ∀ x ∈ c, x ∈ N
/-- the first name follows the last one -/
structure Cyc (nx : Str → Str) (N : List Str) (n : Str) (c : List Str) : Prop where
  ch : Chn nx N n c
  la : ∀ l, c.getLast? = some l → nx l = n
/-- each name has one name that follows it -/
structure Pmt (nx : Str → Str) (N : List Str) : Prop where
  cl : ∀ x ∈ N, nx x ∈ N
  inj : ∀ x ∈ N, ∀ y ∈ N, nx x = nx y → x = y
section
variable {nx : Str → Str} {N : List Str} {n : Str} {c : List Str}
theorem nd_ix (nd : c.Nodup) {i j : Nat} {x : Str} (h1 : c[i]? = some x) (h2 : c[j]? = some x) : i = j := by
  obtain ⟨a, e1⟩ := List.getElem?_eq_some_iff.mp h1
  obtain ⟨b, e2⟩ := List.getElem?_eq_some_iff.mp h2
  exact (List.getElem_inj nd).mp (e1.trans e2.symm)
theorem Chn.one (h : n ∈ N) : Chn nx N n [n] := ⟨rfl, fun i x y _ h2 => by simp at h2, by simp, fun x hx => by rw [List.mem_singleton.mp hx]; exact h⟩
theorem Chn.ext (p : Pmt nx N) (h : Chn nx N n c) {l : Str} (hl : c.getLast? = some l) (ne : nx l ≠ n) : Chn nx N n (c ++ [nx l]) := by
  rw [List.getLast?_eq_getElem?] at hl
  have hpos : 0 < c.length := (List.getElem?_eq_some_iff.mp h.hd).1
  have lN := h.sb l (List.mem_of_getElem? hl)
  refine ⟨by rw [List.getElem?_append_left hpos]; exact h.hd, fun i x y h1 h2 => ?_, ?_, fun x hx => ?_⟩
  · by_cases hi : i + 1 < c.length
    · rw [List.getElem?_append_left (by omega)] at h1
      rw [List.getElem?_append_left hi] at h2
      exact h.st i x y h1 h2
    · have hlen := (List.getElem?_eq_some_iff.mp h2).1
      rw [List.length_append, List.length_singleton] at hlen
      have e : i = c.length - 1 := by omega
      rw [List.getElem?_append_left (by omega), e, hl] at h1
      rw [List.getElem?_append_right (by omega), show i + 1 - c.length = 0 by omega] at h2
      cases h1
      cases h2
      rfl
  · rw [List.nodup_append]
    refine ⟨h.nd, by simp, fun a ha b hb => ?_⟩
    rw [List.mem_singleton.mp hb]
    intro e
    obtain ⟨i, hi⟩ := List.mem_iff_getElem?.mp ha
    cases i with
    | zero =>
      rw [h.hd] at hi
      cases hi
      exact ne e.symm
    | succ k =>
      obtain ⟨x, hx⟩ : ∃ x, c[k]? = some x := ⟨_, List.getElem?_eq_getElem (by have := (List.getElem?_eq_some_iff.mp hi).1; omega)⟩
      have e2 := h.st k x a hx hi
      have e3 := p.inj x (h.sb x (List.mem_of_getElem? hx)) l lN (e2.symm.trans e)
      subst e3
      have e4 := nd_ix h.nd hx hl
      have := (List.getElem?_eq_some_iff.mp hi).1
      omega
  · rcases List.mem_append.mp hx with hx | hx
    · exact h.sb x hx
    · rw [List.mem_singleton.mp hx]
      exact p.cl l lN
theorem chn_len (h : Chn nx N n c) : c.length ≤ N.length := h.nd.length_le_of_subset h.sb
theorem cyc_ex (p : Pmt nx N) (hn : n ∈ N) : ∃ c, Cyc nx N n c := by
  have key : ∀ (k : Nat) (c : List Str), Chn nx N n c → N.length - c.length = k → ∃ c, Cyc nx N n c := by
    intro k
    induction k using Nat.strongRecOn with
    | ind k ih =>
      intro c h e
      have hpos : 0 < c.length := (List.getElem?_eq_some_iff.mp h.hd).1
      obtain ⟨l, hl⟩ : ∃ l, c.getLast? = some l := by
        rw [List.getLast?_eq_getElem?]
        exact ⟨_, List.getElem?_eq_getElem (by omega)⟩
      by_cases q : nx l = n
      · exact ⟨c, h, fun l' hl' => by rw [hl] at hl'; cases hl'; exact q⟩
      · have h2 := h.ext p hl q
        have := chn_len h2
        rw [List.length_append, List.length_singleton] at this
        exact ih (N.length - (c ++ [nx l]).length) (by rw [List.length_append, List.length_singleton]; omega) _ h2 rfl
  exact key _ [n] (Chn.one hn) rfl
theorem Cyc.last (h : Cyc nx N n c) : ∃ l, c.getLast? = some l ∧ nx l = n := by
  have hpos : 0 < c.length := (List.getElem?_eq_some_iff.mp h.ch.hd).1
  obtain ⟨l, hl⟩ : ∃ l, c.getLast? = some l := by
    rw [List.getLast?_eq_getElem?]
    exact ⟨_, List.getElem?_eq_getElem (by omega)⟩
  exact ⟨l, hl, h.la l hl⟩
theorem Cyc.self (h : Cyc nx N n c) : n ∈ c := List.mem_of_getElem? h.ch.hd
/-- what is closed and has the first one has all -/
theorem Cyc.all {A : List Str} (h : Cyc nx N n c) (cl : ∀ x ∈ A, nx x ∈ A) {i0 : Nat} {x0 : Str} (h0 : c[i0]? = some x0) (hA : x0 ∈ A) : ∀ x ∈ c, x ∈ A := by
  have up : ∀ (k : Nat) (j : Nat) (z : Str), c[j]? = some z → z ∈ A → ∀ y, c[j + k]? = some y → y ∈ A := by
    intro k
    induction k with
    | zero => intro j z hz zA y hy; rw [Nat.add_zero, hz] at hy; cases hy; exact zA
    | succ k ih =>
      intro j z hz zA y hy
      obtain ⟨u, hu⟩ : ∃ u, c[j + k]? = some u := ⟨_, List.getElem?_eq_getElem (by have := (List.getElem?_eq_some_iff.mp hy).1; omega)⟩
      have := h.ch.st (j + k) u y hu hy
      rw [this]
      exact cl u (ih j z hz zA u hu)
  obtain ⟨l, hl, e⟩ := h.last
  rw [List.getLast?_eq_getElem?] at hl
  have li := (List.getElem?_eq_some_iff.mp h0).1
  have lA : l ∈ A := up (c.length - 1 - i0) i0 x0 h0 hA l (by rw [show i0 + (c.length - 1 - i0) = c.length - 1 by omega]; exact hl)
  have nA : n ∈ A := by rw [← e]; exact cl l lA
  intro x hx
  obtain ⟨i, hi⟩ := List.mem_iff_getElem?.mp hx
  exact up i 0 n h.ch.hd nA x (by rw [Nat.zero_add]; exact hi)
theorem Cyc.cl (h : Cyc nx N n c) : ∀ x ∈ c, nx x ∈ c := fun x hx => by
  obtain ⟨i, hi⟩ := List.mem_iff_getElem?.mp hx
  by_cases q : i + 1 < c.length
  · obtain ⟨y, hy⟩ : ∃ y, c[i + 1]? = some y := ⟨_, List.getElem?_eq_getElem q⟩
    rw [← h.ch.st i x y hi hy]
    exact List.mem_of_getElem? hy
  · have := (List.getElem?_eq_some_iff.mp hi).1
    have e : c.getLast? = some x := by
      rw [List.getLast?_eq_getElem?, show c.length - 1 = i by omega]
      exact hi
    rw [h.la x e]
    exact h.self
/-- a name of a cycle has the same cycle -/
theorem Cyc.same {m : Str} {c' : List Str} (h : Cyc nx N n c) (hm : m ∈ c) (h' : Cyc nx N m c') : ∀ x, x ∈ c' ↔ x ∈ c := fun x => by
  obtain ⟨i, hi⟩ := List.mem_iff_getElem?.mp hm
  exact ⟨h'.all h.cl h'.ch.hd hm x, h.all h'.cl hi h'.self x⟩
theorem Cyc.eq {c' : List Str} (h : Cyc nx N n c) (h' : Cyc nx N n c') : c = c' := by
  have pre : ∀ {c1 c2 : List Str}, Cyc nx N n c1 → Cyc nx N n c2 → ∀ (i : Nat) (x : Str), c1[i]? = some x → c2[i]? = some x := by
    intro c1 c2 a b i
    induction i with
    | zero => intro x hx; rw [a.ch.hd] at hx; rw [b.ch.hd]; exact hx
    | succ i ih =>
      intro x hx
      obtain ⟨u, hu⟩ : ∃ u, c1[i]? = some u := ⟨_, List.getElem?_eq_getElem (by have := (List.getElem?_eq_some_iff.mp hx).1; omega)⟩
      have hu2 := ih u hu
      have ex := a.ch.st i u x hu hx
      cases q : c2[i + 1]? with
      | some y => rw [b.ch.st i u y hu2 q, ex]
      | none =>
        have l2 := List.getElem?_eq_none_iff.mp q
        have l3 := (List.getElem?_eq_some_iff.mp hu2).1
        have e : c2.getLast? = some u := by
          rw [List.getLast?_eq_getElem?, show c2.length - 1 = i by omega]
          exact hu2
        have e5 := b.la u e
        rw [← ex] at e5
        have := nd_ix a.ch.nd hx (by rw [e5]; exact a.ch.hd)
        omega
  refine List.ext_getElem? fun i => ?_
  cases q : c[i]? with
  | some x => exact (pre h h' i x q).symm
  | none =>
    cases q2 : c'[i]? with
    | none => rfl
    | some y => rw [pre h' h i y q2] at q; cases q
end
open Classical in
/-- the cycle of a name -/
noncomputable def cy (nx : Str → Str) (N : List Str) (n : Str) : List Str := if h : ∃ c, Cyc nx N n c then h.choose else []
theorem cy_of {nx : Str → Str} {N : List Str} {n : Str} {c : List Str} (h : Cyc nx N n c) : cy nx N n = c := by
  have ex : ∃ c, Cyc nx N n c := ⟨c, h⟩
  unfold cy
  rw [dif_pos ex]
  exact ex.choose_spec.eq h
theorem cy_is {nx : Str → Str} {N : List Str} {n : Str} (p : Pmt nx N) (hn : n ∈ N) : Cyc nx N n (cy nx N n) := by
  obtain ⟨c, h⟩ := cyc_ex p hn
  rw [cy_of h]
  exact h
/-- no name of its cycle is less -/
def isMin (nx : Str → Str) (N : List Str) (n : Str) : Prop := ∀ m ∈ cy nx N n, ¬ m.cps.toList < n.cps.toList
open Classical in
noncomputable def cycs (nx : Str → Str) (N : List Str) (M : List Str) : List (List Str) := (M.filter fun n => decide (isMin nx N n)).map (cy nx N)
/-- how the program finds them: what is left behind some names -/
structure Found (nx : Str → Str) (N left : List Str) (found : List (List Str)) : Prop where
  ex : ∃ pre post, N = pre ++ post ∧ found = cycs nx N pre ∧ (∀ n ∈ pre, ∃ m ∈ pre, isMin nx N m ∧ n ∈ cy nx N m) ∧ (∃ q : Str → Bool, left = post.filter q ∧ ∀ n ∈ post, q n = true ↔ ∀ m ∈ pre, isMin nx N m → n ∉ cy nx N m)
section
variable {nx : Str → Str} {N : List Str}
theorem cycs_app (A B : List Str) : cycs nx N (A ++ B) = cycs nx N A ++ cycs nx N B := by
  unfold cycs
  rw [List.filter_append, List.map_append]
theorem cycs_nil {A : List Str} (h : ∀ n ∈ A, ¬ isMin nx N n) : cycs nx N A = [] := by
  unfold cycs
  rw [List.filter_eq_nil_iff.mpr fun n hn => by simp [h n hn]]
  rfl
theorem Found.start : Found nx N N [] := ⟨[], N, rfl, rfl, (fun n h => by cases h), fun _ => true, (List.filter_eq_self.mpr fun _ _ => rfl).symm, fun n _ => ⟨fun _ m hm => (by cases hm), fun _ => rfl⟩⟩
/-- a name that an earlier least one has in its cycle is not the least of its own -/
theorem not_min (p : Pmt nx N) (so : N.Pairwise fun a b => a.cps.toList < b.cps.toList) {pre post : List Str} (e : N = pre ++ post) {m s : Str} (hm : m ∈ pre) (hs : s ∈ post) (h : s ∈ cy nx N m) : ¬ isMin nx N s := fun im => by
  have mN : m ∈ N := by rw [e]; exact List.mem_append_left _ hm
  have sN : s ∈ N := by rw [e]; exact List.mem_append_right _ hs
  refine im m (((cy_is p mN).same h (cy_is p sN) m).mpr (cy_is p mN).self) ?_
  rw [e, List.pairwise_append] at so
  exact so.2.2 m hm s hs
theorem Found.step (p : Pmt nx N) (so : N.Pairwise fun a b => a.cps.toList < b.cps.toList) {l0 : Str} {rest : List Str} {found : List (List Str)} (h : Found nx N (l0 :: rest) found) :
    l0 ∈ N ∧ Found nx N ((l0 :: rest).filter fun n => decide (n ∉ cy nx N l0)) (found ++ [cy nx N l0]) := by
  obtain ⟨pre, post, e, ef, cov, q, el, hq⟩ := h
  obtain ⟨sk, post', e2, hsk, hl0, er⟩ := List.filter_eq_cons_iff.mp el.symm
  have inP : ∀ {x}, x ∈ sk ∨ x = l0 ∨ x ∈ post' → x ∈ post := fun h => by
    rw [e2]
    rcases h with h | h | h
    · exact List.mem_append_left _ h
    · rw [h]; exact List.mem_append_right _ List.mem_cons_self
    · exact List.mem_append_right _ (List.mem_cons_of_mem _ h)
  have l0N : l0 ∈ N := by rw [e]; exact List.mem_append_right _ (inP (.inr (.inl rfl)))
  have skc : ∀ s ∈ sk, ∃ m ∈ pre, isMin nx N m ∧ s ∈ cy nx N m := fun s hs => by
    have h1 := hsk s hs
    have h2 : ¬ ∀ m ∈ pre, isMin nx N m → s ∉ cy nx N m := fun w => h1 ((hq s (inP (.inl hs))).mpr w)
    obtain ⟨m, h3⟩ := Classical.not_forall.mp h2
    obtain ⟨hm, h4⟩ := Classical.not_imp.mp h3
    obtain ⟨im, h5⟩ := Classical.not_imp.mp h4
    exact ⟨m, hm, im, Classical.not_not.mp h5⟩
  have free := (hq l0 (inP (.inr (.inl rfl)))).mp hl0
  have cN := cy_is p l0N
  have min0 : isMin nx N l0 := fun y hy lt => by
    have yN : y ∈ N := cN.ch.sb y hy
    have ey : N = (pre ++ sk) ++ l0 :: post' := by rw [e, e2, List.append_assoc]
    have yp : y ∈ pre ++ sk := by
      rw [ey] at yN
      rcases List.mem_append.mp yN with z | z
      · exact z
      · rw [ey, List.pairwise_append] at so
        rcases List.mem_cons.mp z with z | z
        · rw [z] at lt
          exact absurd lt (List.lt_irrefl _)
        · exact absurd (List.lt_trans lt ((List.pairwise_cons.mp so.2.1).1 y z)) (List.lt_irrefl _)
    obtain ⟨m, hm, im, hc⟩ : ∃ m ∈ pre, isMin nx N m ∧ y ∈ cy nx N m := by
      rcases List.mem_append.mp yp with z | z
      · exact cov y z
      · exact skc y z
    have mN : m ∈ N := by rw [e]; exact List.mem_append_left _ hm
    have yN : y ∈ N := cN.ch.sb y hy
    have h1 := (cy_is p mN).same hc (cy_is p yN)
    have h2 := cN.same hy (cy_is p yN)
    exact free m hm im ((h1 l0).mp ((h2 l0).mpr cN.self))
  refine ⟨l0N, ⟨pre ++ sk ++ [l0], post', by rw [e, e2]; simp, ?_, fun n hn => ?_, (fun n => q n && decide (n ∉ cy nx N l0)), ?_, fun n hn => ?_⟩⟩
  · rw [cycs_app, cycs_app, ← ef, cycs_nil (A := sk) fun s hs => by
      obtain ⟨m, hm, _, hc⟩ := skc s hs
      exact not_min p so e hm (inP (.inl hs)) hc, List.append_nil]
    congr 1
    unfold cycs
    rw [List.filter_cons_of_pos (by simp [min0])]
    rfl
  · rcases List.mem_append.mp hn with hn | hn
    · obtain ⟨m, hm, im, hc⟩ : ∃ m ∈ pre, isMin nx N m ∧ n ∈ cy nx N m := by
        rcases List.mem_append.mp hn with z | z
        · exact cov n z
        · exact skc n z
      exact ⟨m, List.mem_append_left _ (List.mem_append_left _ hm), im, hc⟩
    · rw [List.mem_singleton.mp hn]
      exact ⟨l0, List.mem_append_right _ (List.mem_singleton.mpr rfl), min0, cN.self⟩
  · rw [List.filter_cons_of_neg (by simp [cN.self]), ← er, List.filter_filter]
    refine List.filter_congr fun x _ => ?_
    rw [Bool.and_comm]
  · rw [Bool.and_eq_true, decide_eq_true_eq, hq n (inP (.inr (.inr hn)))]
    constructor
    · rintro ⟨h1, h2⟩ m hm im
      rcases List.mem_append.mp hm with hm | hm
      · rcases List.mem_append.mp hm with hm | hm
        · exact h1 m hm im
        · obtain ⟨m', hm', _, hc⟩ := skc m hm
          exact absurd im (not_min p so e hm' (inP (.inl hm)) hc)
      · rw [List.mem_singleton.mp hm]
        exact h2
    · intro h1
      exact ⟨fun m hm im => h1 m (List.mem_append_left _ (List.mem_append_left _ hm)) im, h1 l0 (List.mem_append_right _ (List.mem_singleton.mpr rfl)) min0⟩
theorem Found.done (p : Pmt nx N) (so : N.Pairwise fun a b => a.cps.toList < b.cps.toList) {found : List (List Str)} (h : Found nx N [] found) : found = cycs nx N N := by
  obtain ⟨pre, post, e, ef, cov, q, el, hq⟩ := h
  have hn : ∀ n ∈ post, ¬ isMin nx N n := fun n hn => by
    have h1 : ¬ q n = true := List.filter_eq_nil_iff.mp el.symm n hn
    have h2 : ¬ ∀ m ∈ pre, isMin nx N m → n ∉ cy nx N m := fun w => h1 ((hq n hn).mpr w)
    obtain ⟨m, h3⟩ := Classical.not_forall.mp h2
    obtain ⟨hm, h4⟩ := Classical.not_imp.mp h3
    obtain ⟨im, h5⟩ := Classical.not_imp.mp h4
    exact not_min p so e hm hn (Classical.not_not.mp h5)
  rw [ef]
  conv => rhs; arg 3; rw [e]
  rw [cycs_app, cycs_nil hn, List.append_nil]
theorem Found.len {left : List Str} {found : List (List Str)} (h : Found nx N left found) : left.length ≤ N.length ∧ ∀ x ∈ left, x ∈ N := by
  obtain ⟨pre, post, e, ef, cov, q, el, hq⟩ := h
  rw [el]
  constructor
  · refine Nat.le_trans (List.length_filter_le _ _) ?_
    rw [e, List.length_append]
    omega
  · intro x hx
    rw [e]
    exact List.mem_append_right _ (List.mem_filter.mp hx).1
end
end K44
namespace K44
open PySem L2
open PyProof.Rows PySem.Spec
theorem dp_allS {K : PySem.W.Frag} {H : Hp} : ∀ ns : List Str, DpAll K H (ns.map V.str) (ns.map PyData.str)
  | [] => .nil
  | n :: r => .cons (.str n) (dp_allS r)
theorem dp_names {K : PySem.W.Frag} {H : Hp} {a : Addr} {ns : List Str} (h : SqL K H a (ns.map V.str)) : Dp K H (.ref a) (.list (ns.map PyData.str)) := .lst h (dp_allS ns)
/-- a comprehension that makes one value of each item and keeps all -/
theorem lc_map {J : It} {G : Hp → Prop} {xs : List V} (w : Walk J xs.length G (YAt xs)) {g : TG} {tt : TT} {te : TE} {vs : List Nat} {σ : L2.St} {H1 : Hp} {D : Addr} {Qd : Hp → Prop} (f : V → V) (hG : ∀ H', Same H1 H' → G H') (h63 : xs.length ≤ 63) (hD : H1 D = none)
    (hs : ∀ x H', x ∈ xs → Same H1 H' → ∀ (C : VK) (N : Hp → Prop), (∀ H'', Same H' H'' → C (f x) H'') → g x (wipe σ vs) H' fun σ2 H2 => wipe σ2 vs = wipe σ vs ∧ tt σ2 H2 fun b H3 => if b = true then te σ2 H3 C else N H3)
    (hd : ∀ H', Same H1 H' → H' D = some (.lst (xs.map f)) → Qd H') :
    ∃ W : Nat → Nat → Hp → Prop, (∃ m, W 0 m
                                             (upd H1 D (.lst []))) ∧ ∀ i m H, W i m H →
      (J.stop i H ∧ Qd H) ∨ (J.go i H ∧ ∃ Nx : Hp → Prop, (∀ H', Nx H' → ∃ m', m' < m ∧ W
                                                                                          (i + 1) m' H') ∧ ∀ x H', J.yld i H x H' → g x (wipe σ vs) H' fun σ2 H2 => wipe σ2 vs = wipe σ vs ∧ tt σ2 H2 fun b H3 =>
        if b = true then te σ2 H3 fun y H4 => ∃ acc, H4 D = some
                                                                 (.lst acc) ∧ acc.length < sizeLine ∧ Nx (upd H4 D (.lst (acc ++ [y]))) else Nx H3) := by
  refine lc_it w (fun i H' => Same H1 H' ∧ H' D = some (.lst ((xs.take i).map f))) ⟨Same.new hD, upd_same⟩ (fun i H' _ h => hG H' h.1) ?_ (fun H' h => hd H' h.1 (by rw [h.2, List.take_length]))
  rintro i x Ha Hb hi ⟨Sa, eD⟩ ⟨rfl, hx⟩
  refine hs x _ (List.mem_of_getElem? hx) Sa _ _ fun Hc Sc => ?_
  refine ⟨_, Sc _ _ eD, by rw [List.length_map, List.length_take, sizeLine_eq]; omega, Same.at hD (Same.trans Sa Sc), ?_⟩
  rw [upd_same, List.take_add_one, hx]
  simp
section
variable {P : Program} {w : World} {K : PySem.W.Frag}
                                                      {mg : Str → Option Value} {base : Heap}
def sp_check_spans (K : PySem.W.Frag) (C : Addr) : Sp := fun vs H Q _ => ∃ (p : Addr) (t : Int) (S : Rws), vs = [.ref p] ∧ SpAt H C p t S ∧ Q .non H
theorem ok_check_spans (T : T K mg) (U : UX K mg) : FnOk P w K mg base CX0 1 T.f_check_spans T.d_check_spans ["value"] (sp_check_spans K U.C) := by
  refine T.F_check_spans.ok sc_check_spans (fun vs H Q E h => ?_) (fun cdv A outer s H vs Q E hr h => ?_)
  · obtain ⟨p, t, S, rfl, _⟩ := h
    rfl
  · obtain ⟨p, t, S, rfl, sp, k⟩ := h
    have hu := hu_of hr
    obtain ⟨dx, fs, h1⟩ := sp.ins
    refine ⟨_, (pss_one (ps_if (pt_not (pt_val (pe_callB call_isi (by rfl) T.z_isinstance (by decide +kernel) (pa_cons (pv 0) (pa_cons (pe_glob (v := V.ref U.C) rfl U.mC rfl) pa_nil)))))
      (pss_one ps_never)
      pss_nil)), ?_⟩
    refine ⟨_, rfl, _, _, _, _, true, rfl, .own _, .base (.ins h1 U.cl U.ca U.cg U.ct U.mo), by unfold PySem.W.kitOne; rw [if_pos (beq_self_eq_true _)], ?_⟩
    refine ⟨_, rfl, ?_⟩
    exact iteF k
theorem spn_bd {t : Int} {S : Rws} (g : Good t S) {n : Str} (hn : n ∈ S.map (·.1)) : (n, (spn S n).1, (spn S n).2) ∈ S := spn_in g.nd hn
def sp_is_follow (K : PySem.W.Frag) (C : Addr) : Sp := fun vs H Q _ => ∃ (p a : Addr) (t : Int) (S : Rws) (n m : Str) (w : Int), vs = [.ref p, .str n, .ref a] ∧ SpAt H C p t S ∧ n ∈ S.map (·.1) ∧ FAt H a m w ∧ m ∈ S.map (·.1) ∧ 0 ≤ w ∧ w ≤ 1000 ∧ ((spn S n).2 + w - (spn S m).1) % t = 0 ∧ Q (.bl true) H
theorem ok_is_follow (T : T K mg) (U : UX K mg) : FnOk P w K mg base CX0 3 T.f_is_follow T.d_is_follow ["spans", "name", "value"] (sp_is_follow K U.C) := by
  have G_is_integer : FnOk P w K mg base CX0 1 T.f_is_integer T.d_is_integer ["value"] (sp_is_integer K) := ok_is_integer T
  have Gi : FnOk P w K mg base CX0 1 U.pi.g U.pi.d ["self"] (getSp U.C "_interval") := ok_get U.cl U.pi sc_Spans_interval U.n1 ⟨_, _, _, rfl⟩
  have Gn : FnOk P w K mg base CX0 1 U.pn.g U.pn.d ["self"] (getSp U.C "_names") := ok_get U.cl U.pn sc_Spans_names U.n3 ⟨_, _, _, rfl⟩
  have Gg : FnOk P w K mg base CX0 1 U.mi.f U.mi.d ["self", "name"] (sp_item K U.C) := ok_item T U
  refine T.F_is_follow.ok sc_is_follow (fun vs H Q E h => ?_) (fun cdv A outer s H vs Q E hr h => ?_)
  · obtain ⟨p, a, t, S, n, m, w, rfl, _⟩ := h
    rfl
  · obtain ⟨p, a, t, S, n, m, w, rfl, sp, hn, ha, hm, w0, w1, hd, k⟩ := h
    have hu := hu_of hr
    have hr_is_integer : Room 1 _ := hr.mono (by decide)
    obtain ⟨g, so, dx, rd, nm, lv, cr, L, h1, h2, h3, h4⟩ := id sp
    refine ⟨_, (pss_cons (ps_if (PW.pt (pw_or (pt_not (pt_val (pe_callB call_isi (by rfl) T.z_isinstance (by decide +kernel) (pa_cons (pv 2) (pa_cons (pe_bltn (v := V.ty "tuple") (u := Value.type "tuple") (by rfl) T.z_tuple (by decide +kernel) rfl) pa_nil))))) (pw_or1 (pt_cmpR op_ne (pe_callB call_len (by rfl) T.z_len (by decide +kernel) (pa_cons (pv 2) pa_nil)) pe_int (nomark _)))))
      (pss_one (ps_ret pe_bl))
      pss_nil)
      (pss_cons (ps_if (PW.pt (pw_or (pt_cmpR op_notIn_seq (pe_ix ix_seq (pv 2) pe_int (fun _ _ => rfl)) (pe_prop (pv 0) U.cl U.pn.pr Gn (hr.mono (by decide)) U.pn.b .nil pass0 rfl) (by with_unfolding_all rfl)) (pw_or (pt_not (pt_val (pe_call G_is_integer hr_is_integer rfl T.m_is_integer T.F_is_integer.kp T.b_is_integer .nil pass0 (pa_cons (pe_ix ix_seq (pv 2) pe_int (fun _ _ => rfl)) pa_nil)))) (pw_or1 (pt_cmpR op_lt (pe_ix ix_seq (pv 2) pe_int (fun _ _ => rfl)) pe_int (nomark _))))))
      (pss_one (ps_ret pe_bl))
      pss_nil)
      (pss_one (ps_ret (pe_cmpR op_eq (pe_op op_mod (pe_op op_sub (pe_op op_add (pe_ix ix_seq (OW.pe_ownItem (pv 0) (pv 1) Gg ⟨U.mi.m.at_, U.mi.m.fn⟩ U.fn (hr.mono (by decide)) U.mi.b pass0 (fun _ _ => rfl)) pe_int (fun _ _ => rfl)) (pe_ix ix_seq (pv 2) pe_int (fun _ _ => rfl))) (pe_ix ix_seq (OW.pe_ownItem (pv 0) (pe_ix ix_seq (pv 2) pe_int (fun _ _ => rfl)) Gg ⟨U.mi.m.at_, U.mi.m.fn⟩ U.fn (hr.mono (by decide)) U.mi.b pass0 (fun _ _ => rfl)) pe_int (fun _ _ => rfl))) (pe_prop (pv 0) U.cl U.pi.pr Gi (hr.mono (by decide)) U.pi.b .nil pass0 rfl)) pe_int (nomark _)))))), ?_⟩
    have sq : SqT K H a [V.str m, V.int w] := SqT.of ha
    refine ⟨_, rfl, _, _, _, _, true, rfl, .ty _, .base (.tup ha), kit_ty (by decide +kernel), _, rfl, iteF ?_⟩
    refine ⟨_, rfl, _, _, rfl, .inr ⟨_, sq, rfl⟩, rfl, _, rfl, ?_⟩
    rw [show (!decide (V.int ((([V.str m, V.int w] : List V).length : Nat) : Int) = V.int 2)) = false from rfl]
    refine iteF ?_
    have sqn : SqT K H nm ((S.map (·.1)).map V.str) := SqT.of h4
    refine ⟨_, rfl, .inr (.inl ⟨_, _, _, _, rfl, rfl, sq, rfl, ?_⟩)⟩
    refine ⟨_, rfl, p, dx, _, rfl, h1, p, dx, _, .ref nm, rfl, h1, rfl, nm, _, rfl, .inr sqn, rfl, flat_strs _, _, rfl, ?_⟩
    rw [inV_strs, decide_eq_true hm]
    refine iteF ?_
    refine ⟨_, rfl, .inr (.inl ⟨_, _, _, _, rfl, rfl, sq, rfl, ?_⟩)⟩
    refine ⟨_, .int w, rfl, .inl (.int _), _, rfl, ?_⟩
    rw [isInD_int (by omega)]
    refine iteF ?_
    refine ⟨_, rfl, .inr (.inl ⟨_, _, _, _, rfl, rfl, sq, rfl, ?_⟩)⟩
    refine ⟨_, _, rfl, rfl, _, rfl, ?_⟩
    rw [decide_eq_false (by omega : ¬ w < 0)]
    refine iteF ?_
    refine ⟨_, rfl, _, rfl, p, dx, _, rfl, h1, p, t, S, n, _, _, rfl, sp, spn_in g.nd hn, fun a1 e1 => ?_⟩
    refine .inr (.inl ⟨_, _, _, _, rfl, rfl, SqT.of e1, rfl, ?_⟩)
    refine ⟨_, rfl, .inr (.inl ⟨_, _, _, _, rfl, rfl, sq, rfl, ?_⟩)⟩
    refine ⟨_, _, rfl, rfl, ?_⟩
    refine ⟨_, rfl, _, rfl, .inr (.inl ⟨_, _, _, _, rfl, rfl, sq, rfl, ?_⟩)⟩
    refine ⟨p, dx, _, rfl, h1, p, t, S, m, _, _, rfl, sp, spn_in g.nd hm, fun a2 e2 => ?_⟩
    refine .inr (.inl ⟨_, _, _, _, rfl, rfl, SqT.of e2, rfl, ?_⟩)
    refine ⟨_, _, rfl, rfl, ?_⟩
    refine ⟨_, rfl, p, dx, _, rfl, h1, p, dx, _, .int t, rfl, h1, rfl, _, _, rfl, rfl, by have := g.t1; omega, ?_⟩
    refine ⟨rfl, ?_⟩
    exact bl_to (decide_eq_true (congrArg V.int hd)) k
theorem FOk.tgs {t : Int} {S : Rws} {F : Flw} (g : Good t S) (h : FOk t S F) : ((S.map (·.1)).map fun n => (fol F n).1).Perm (S.map (·.1)) := by
  have nd := h.nd g
  refine ((h.nm.symm.map fun n => (fol F n).1).trans ?_).trans h.tg
  rw [List.map_map]
  refine List.Perm.of_eq (List.map_congr_left fun x hx => ?_)
  show (fol F x.1).1 = x.2.1
  rw [fol_at nd (q := x.2) hx]
def sp_are_follows (K : PySem.W.Frag) (C : Addr) : Sp := fun vs H Q _ => ∃ (p d : Addr) (t : Int) (S : Rws) (L : List (Str × Addr)) (F : Flw), vs = [.ref p, .ref d] ∧ SpAt H C p t S ∧ H d = some (.dK (Kvs L)) ∧ FTs H L F ∧ FOk t S F ∧ ∀ H', Same H H' → Q (.bl true) H'
theorem FOk.len {t : Int} {S : Rws} {F : Flw} (h : FOk t S F) : S.length ≤ 6 ∧ F.length = S.length := by
  have := h.nm.length_eq
  rw [List.length_map, List.length_map] at this
  have := h.l6
  omega
theorem sort_to {xs ys zs : List Str} (p : ys.Perm xs) (s : sortedS ys = true) (q : xs.Perm zs) (t : sortedS zs = true) : ys = zs := sorted_eq p q.symm s t
theorem ok_are_follows (T : T K mg) (U : UX K mg) : FnOk P w K mg base CX0 4 T.f_are_follows T.d_are_follows ["spans", "value"] (sp_are_follows K U.C) := by
  have G_is_follow : FnOk P w K mg base CX0 3 T.f_is_follow T.d_is_follow ["spans", "name", "value"] (sp_is_follow K U.C) := ok_is_follow T U
  have Gn : FnOk P w K mg base CX0 1 U.pn.g U.pn.d ["self"] (getSp U.C "_names") := ok_get U.cl U.pn sc_Spans_names U.n3 ⟨_, _, _, rfl⟩
  refine T.F_are_follows.ok sc_are_follows (fun vs H Q E h => ?_) (fun cdv A outer s H vs Q E hr h => ?_)
  · obtain ⟨p, d, t, S, L, F, rfl, _⟩ := h
    rfl
  · obtain ⟨p, d, t, S, L, F, rfl, sp, hd, fts, fok, k⟩ := h
    have hu := hu_of hr
    have hr_is_follow : Room 3 _ := hr.mono (by decide)
    obtain ⟨g, so, dx, rd, nm, lv, cr, L0, h1, h2, h3, h4⟩ := id sp
    refine ⟨_, (pss_cons (ps_if (PW.pt (pw_or (pt_not (pt_val (pe_callB call_isi (by rfl) T.z_isinstance (by decide +kernel) (pa_cons (pv 1) (pa_cons (pe_bltn (v := V.ty "dict") (u := Value.type "dict") (by rfl) T.z_dict (by decide +kernel) rfl) pa_nil))))) (pw_or1 (pt_cmpR op_ne (pe_callB call_lenD (by rfl) T.z_len (by decide +kernel) (pa_cons (pv 1) pa_nil)) (pe_callB call_len (by rfl) T.z_len (by decide +kernel) (pa_cons (pe_prop (pv 0) U.cl U.pn.pr Gn (hr.mono (by decide)) U.pn.b .nil pass0 rfl) pa_nil)) (nomark _)))))
      (pss_one (ps_ret pe_bl))
      pss_nil)
      (pss_cons (ps_if (pt_not (pt_val (pe_callB (cr_all rfl) (by rfl) T.z_all (by decide +kernel) (pa_cons (pe_lc (own := [("name", 2)]) (g := gName 2) rfl sc_are_follows.nd (pi_tup (pe_prop (pv 0) U.cl U.pn.pr Gn (hr.mono (by decide)) U.pn.b .nil pass0 rfl)) (blkOk_by (N := ["spans", "value", "name"]) (sc := defScope s_are_follows) (by decide +kernel)) (fun _ _ _ _ _ => (pg_name (i := 2) sc_are_follows.nd rfl (Or.inl rfl))) (fun _ _ _ _ _ => pts_nil) (fun _ _ _ _ _ => (pe_and (pe_cmp (pc_din (by exact hu) (pv 2) (pv 1)) (by rfl)) (pe_one (pe_call G_is_follow hr_is_follow rfl T.m_is_follow T.F_is_follow.kp T.b_is_follow .nil pass0 (pa_cons (pv 0) (pa_cons (pv 2) (pa_cons (pe_dget (by exact hu) (pv 1) (pv 2) (fun _ _ => rfl)) pa_nil)))))))) pa_nil))))
      (pss_one (ps_ret pe_bl))
      pss_nil)
      (pss_one (ps_ret (pe_cmpR (op_eqD (un64 hr)) (pe_callB cr_sortedS (by rfl) T.z_sorted (by decide +kernel) (pa_cons (pe_lc (own := [("name", 2)]) (g := gName 2) rfl sc_are_follows.nd (pi_tup (pe_prop (pv 0) U.cl U.pn.pr Gn (hr.mono (by decide)) U.pn.b .nil pass0 rfl)) (blkOk_by (N := ["spans", "value", "name"]) (sc := defScope s_are_follows) (by decide +kernel)) (fun _ _ _ _ _ => (pg_name (i := 2) sc_are_follows.nd rfl (Or.inl rfl))) (fun _ _ _ _ _ => pts_nil) (fun _ _ _ _ _ => (pe_ix (r := rIx K) ix_seq (pe_dget (by exact hu) (pv 1) (pv 2) (fun _ _ => rfl)) pe_int (fun _ _ => rfl)))) pa_nil)) (pe_callTy call_list_of (by rfl) T.z_list (by decide +kernel) (pa_cons (pe_prop (pv 0) U.cl U.pn.pr Gn (hr.mono (by decide)) U.pn.b .nil pass0 rfl) pa_nil)) (nomark _)))))), ?_⟩
    have sqn : SqT K H nm ((S.map (·.1)).map V.str) := SqT.of h4
    have l6 := fok.len
    have ll : L.length = S.length := by rw [fts.len, l6.2]
    refine ⟨_, rfl, _, _, _, _, true, rfl, .ty _, .base (.dK hd), kit_ty (by decide +kernel), _, rfl, iteF ?_⟩
    refine ⟨_, rfl, d, Kvs L, rfl, hd, _, rfl, p, dx, _, rfl, h1, p, dx, _, .ref nm, rfl, h1, rfl, _, _, rfl, .inr ⟨_, sqn, rfl⟩, rfl, _, rfl, ?_⟩
    rw [decide_eq_true (show V.int (((Kvs L).length : Nat) : Int) = V.int ((((S.map (·.1)).map V.str).length : Nat) : Int) by rw [kvs_len, ll, List.length_map, List.length_map])]
    refine iteF ?_
    refine ⟨_, rfl, p, dx, _, rfl, h1, p, dx, _, .ref nm, rfl, h1, rfl, nm, rfl, ⟨_, sqn⟩, fun D hD => ?_⟩
    refine lc_map (walk_tup (K := K) (a := nm) (xs := (S.map (·.1)).map V.str)) (fun _ => .bl true) (fun H' s => Same.seqT s sqn) (by rw [List.length_map, List.length_map]; omega) hD ?_ ?_
    · intro x Ha hx Sa C N kC
      obtain ⟨n, hn, rfl⟩ := List.mem_map.mp hx
      refine ⟨rfl, ?_⟩
      unfold tYes
      dsimp only
      rw [if_pos rfl]
      obtain ⟨a, va, ha, hm⟩ := (fts.keep (KT.same Sa)).get (fok.at hn)
      have dg : DGet Ha d (.str n) (some (.ref a)) := by
        have := DGet.k (k := Sum.inr n) (Sa _ _ hd)
        rw [va] at this
        exact this
      refine ⟨_, rfl, _, rfl, d, _, rfl, dg, true, rfl, iteT ?_⟩
      have hw : 0 ≤ (fol F n).2 ∧ (fol F n).2 ≤ 4 * t := fok.wt _ hm
      have := g.t2
      exact ⟨_, rfl, _, rfl, _, rfl, _, rfl, d, _, rfl, dg, p, a, t, S, n, _, _, rfl, sp.same Sa, hn, ha, fok.to hm, hw.1, by omega, fok.dv _ hm, kC _ fun _ _ e => e⟩
    · intro H1 S1 e1
      refine ⟨D, (S.map (·.1)).map fun _ => true, rfl, SqL.of (by rw [e1]; simp [List.map_map, Function.comp_def]), ?_⟩
      rw [show ((S.map (·.1)).map fun _ => true).all id = true by rw [List.all_map]; simp]
      refine ⟨_, rfl, iteF ?_⟩
      have h1' := S1 _ _ h1
      have sqn' := Same.seqT S1 sqn
      refine ⟨_, rfl, p, dx, _, rfl, h1', p, dx, _, .ref nm, rfl, h1', rfl, nm, rfl, ⟨_, sqn'⟩, fun D2 hD2 => ?_⟩
      refine lc_map (walk_tup (K := K) (a := nm) (xs := (S.map (·.1)).map V.str)) (fun v => match v with | .str n => .str (fol F n).1 | _ => .non) (fun H' s => Same.seqT s sqn') (by rw [List.length_map, List.length_map]; omega) hD2 ?_ ?_
      · intro x Ha hx Sa C N kC
        obtain ⟨n, hn, rfl⟩ := List.mem_map.mp hx
        refine ⟨rfl, ?_⟩
        unfold tYes
        dsimp only
        rw [if_pos rfl]
        have Sb := Same.trans S1 Sa
        obtain ⟨a, va, ha, hm⟩ := (fts.keep (KT.same Sb)).get (fok.at hn)
        have dg : DGet Ha d (.str n) (some (.ref a)) := by
          have := DGet.k (k := Sum.inr n) (Sb _ _ hd)
          rw [va] at this
          exact this
        exact ⟨_, rfl, _, rfl, d, _, rfl, dg, .inr (.inl ⟨_, _, _, _, rfl, rfl, SqT.of ha, rfl, kC _ fun _ _ e => e⟩)⟩
      · intro H2 S2 e2
        have S12 := Same.trans S1 S2
        have h1'' := S12 _ _ h1
        have tg : ((S.map (·.1)).map fun n => (fol F n).1).Perm (S.map (·.1)) := fok.tgs g
        refine ⟨D2, (S.map (·.1)).map fun n => (fol F n).1, rfl, SqL.of (by rw [e2]; simp [List.map_map, Function.comp_def]), by rw [List.length_map, List.length_map]; omega, fun ys q pm so2 hq => ?_⟩
        have S3 := Same.new (o := .lst (ys.map V.str)) hq
        have eq3 : (upd H2 q (.lst (ys.map V.str))) q = some (.lst (ys.map V.str)) := upd_same
        generalize upd H2 q (.lst (ys.map V.str)) = H3 at S3 eq3 ⊢
        obtain rfl : ys = S.map (·.1) := sort_to pm so2 tg so
        have S13 := Same.trans S12 S3
        have h13 := S13 _ _ h1
        refine ⟨_, rfl, p, dx, _, rfl, h13, p, dx, _, .ref nm, rfl, h13, rfl, nm, _, rfl, .inr (Same.seqT S13 sqn), fun l hl => ?_⟩
        have S4 := Same.new (o := .lst ((S.map (·.1)).map V.str)) hl
        have gnm : ∀ n ∈ S.map (·.1), nmC n = true := fun n hn => by obtain ⟨y, hy, rfl⟩ := List.mem_map.mp hn; exact g.nm y hy
        refine ⟨_, _, dp_names (SqL.of (S4 _ _ eq3)), dp_names (SqL.of upd_same), shaped_names gnm, shaped_names gnm, ?_⟩
        rw [PySem.SeqAt.eqv_refl _ (by have := shaped_names gnm; unfold SeqAt.shaped at this; exact (Bool.and_eq_true_iff.mp this).1)]
        exact k _ (Same.trans S13 S4)
def sp_size_of (K : PySem.W.Frag) (C : Addr) : Sp := fun vs H Q _ => ∃ (p d a : Addr) (t : Int) (S : Rws) (L : List (Str × Addr)) (F : Flw) (ns : List Str), vs = [.ref p, .ref d, .ref a] ∧ SpAt H C p t S ∧ H d = some (.dK (Kvs L)) ∧ FTs H L F ∧ FOk t S F ∧ SqT K H a (ns.map V.str) ∧ ns.length ≤ 6 ∧ (∀ n ∈ ns, n ∈ S.map (·.1)) ∧ ∀ H', Same H H' → Q (.int (sizeV S t F ns)) H'
theorem ok_size_of (T : T K mg) (U : UX K mg) : FnOk P w K mg base CX0 3 T.f_size_of T.d_size_of ["spans", "follows", "names"] (sp_size_of K U.C) := by
  have Gi : FnOk P w K mg base CX0 1 U.pi.g U.pi.d ["self"] (getSp U.C "_interval") := ok_get U.cl U.pi sc_Spans_interval U.n1 ⟨_, _, _, rfl⟩
  have Gg : FnOk P w K mg base CX0 1 U.mi.f U.mi.d ["self", "name"] (sp_item K U.C) := ok_item T U
  refine T.F_size_of.ok sc_size_of (fun vs H Q E h => ?_) (fun cdv A outer s H vs Q E hr h => ?_)
  · obtain ⟨p, d, a, t, S, L, F, ns, rfl, _⟩ := h
    rfl
  · obtain ⟨p, d, a, t, S, L, F, ns, rfl, sp, hd, fts, fok, hs, l6, hn, k⟩ := h
    have hu := hu_of hr
    obtain ⟨g, so, dx, rd, nm, lv, cr, L0, h1, h2, h3, h4⟩ := id sp
    refine ⟨_, (pss_one (ps_ret (pe_op op_fdivW (pe_callB (cr_sum rfl) (by rfl) T.z_sum (by decide +kernel) (pa_cons (pe_lc (own := [("name", 3)]) (g := gName 3) rfl sc_size_of.nd (pi_tup (pv 2)) (blkOk_by (N := ["spans", "follows", "names", "name"]) (sc := defScope s_size_of) (by decide +kernel)) (fun _ _ _ _ _ => (pg_name (i := 3) sc_size_of.nd rfl (Or.inl rfl))) (fun _ _ _ _ _ => pts_nil) (fun _ _ _ _ _ => (pe_op op_add (pe_op op_sub (pe_ix (r := rIx K) ix_seq (OW.pe_ownItem (pv 0) (pv 3) Gg ⟨U.mi.m.at_, U.mi.m.fn⟩ U.fn (hr.mono (by decide)) U.mi.b pass0 (fun _ _ => rfl)) pe_int (fun _ _ => rfl)) (pe_ix (r := rIx K) ix_seq (OW.pe_ownItem (pv 0) (pv 3) Gg ⟨U.mi.m.at_, U.mi.m.fn⟩ U.fn (hr.mono (by decide)) U.mi.b pass0 (fun _ _ => rfl)) pe_int (fun _ _ => rfl))) (pe_ix (r := rIx K) ix_seq (pe_dget (by exact hu) (pv 1) (pv 3) (fun _ _ => rfl)) pe_int (fun _ _ => rfl))))) pa_nil)) (pe_prop (pv 0) U.cl U.pi.pr Gi (hr.mono (by decide)) U.pi.b .nil pass0 rfl)))), ?_⟩
    refine ⟨_, rfl, a, rfl, ⟨_, hs⟩, fun D hD => ?_⟩
    refine lc_map (walk_tup (K := K) (a := a) (xs := ns.map V.str)) (fun v => match v with | .str n => .int (lw S F n) | _ => .non) (fun H' s => Same.seqT s hs) (by rw [List.length_map]; omega) hD ?_ ?_
    · intro x Ha hx Sa C N kC
      obtain ⟨n, hn2, rfl⟩ := List.mem_map.mp hx
      have hnS := hn n hn2
      refine ⟨rfl, ?_⟩
      unfold tYes
      dsimp only
      rw [if_pos rfl]
      obtain ⟨a, va, ha, hm⟩ := (fts.keep (KT.same Sa)).get (fok.at hnS)
      have dg : DGet Ha d (.str n) (some (.ref a)) := by
        have := DGet.k (k := Sum.inr n) (Sa _ _ hd)
        rw [va] at this
        exact this
      have h1a := Sa _ _ h1
      have spa := sp.same Sa
      refine ⟨_, rfl, _, rfl, p, dx, _, rfl, h1a, p, t, S, n, _, _, rfl, spa, spn_in g.nd hnS, fun a1 e1 => ?_⟩
      refine .inr (.inl ⟨_, _, _, _, rfl, rfl, SqT.of e1, rfl, ?_⟩)
      refine ⟨_, rfl, _, rfl, p, dx, _, rfl, h1a, p, t, S, n, _, _, rfl, spa, spn_in g.nd hnS, fun a2 e2 => ?_⟩
      refine .inr (.inl ⟨_, _, _, _, rfl, rfl, SqT.of e2, rfl, ?_⟩)
      exact ⟨_, _, rfl, rfl, _, rfl, _, rfl, d, _, rfl, dg, .inr (.inl ⟨_, _, _, _, rfl, rfl, SqT.of ha, rfl, _, _, rfl, rfl, kC _ fun _ _ e => e⟩)⟩
    · intro H1 S1 e1
      have h1' := S1 _ _ h1
      have t1 := g.t1
      have t2 := g.t2
      exact ⟨D, ns.map (lw S F), rfl, SqL.of (by rw [e1]; simp [List.map_map, Function.comp_def]), _, rfl, p, dx, _, rfl, h1', p, dx, _, .int t, rfl, h1', rfl, _, _, rfl, rfl, ⟨by omega, Nat.lt_of_le_of_lt (Nat.log2_le_self _) (by omega)⟩, k _ S1⟩
def sp_is_wiring (K : PySem.W.Frag) (C : Addr) : Sp := fun vs H Q _ => ∃ (p d : Addr) (t : Int) (S : Rws) (L : List (Str × Addr)) (F : Flw), vs = [.ref p, .ref d] ∧ SpAt H C p t S ∧ H d = some (.dK (Kvs L)) ∧ FTs H L F ∧ FOk t S F ∧ ∀ H', Same H H' → Q (.bl true) H'
theorem ok_is_wiring (T : T K mg) (U : UX K mg) : FnOk P w K mg base CX0 5 T.f_is_wiring T.d_is_wiring ["spans", "value"] (sp_is_wiring K U.C) := by
  have G_are_follows : FnOk P w K mg base CX0 4 T.f_are_follows T.d_are_follows ["spans", "value"] (sp_are_follows K U.C) := ok_are_follows T U
  have G_size_of : FnOk P w K mg base CX0 3 T.f_size_of T.d_size_of ["spans", "follows", "names"] (sp_size_of K U.C) := ok_size_of T U
  have Gn : FnOk P w K mg base CX0 1 U.pn.g U.pn.d ["self"] (getSp U.C "_names") := ok_get U.cl U.pn sc_Spans_names U.n3 ⟨_, _, _, rfl⟩
  refine T.F_is_wiring.ok sc_is_wiring (fun vs H Q E h => ?_) (fun cdv A outer s H vs Q E hr h => ?_)
  · obtain ⟨p, d, t, S, L, F, rfl, _⟩ := h
    rfl
  · obtain ⟨p, d, t, S, L, F, rfl, sp, hd, fts, fok, k⟩ := h
    have hu := hu_of hr
    have hr_are_follows : Room 4 _ := hr.mono (by decide)
    have hr_size_of : Room 3 _ := hr.mono (by decide)
    obtain ⟨_, c_MAX_WIRED⟩ := T.c_MAX_WIRED
    obtain ⟨g, so, dx, rd, nm, lv, cr, L0, h1, h2, h3, h4⟩ := id sp
    refine ⟨_, (pss_one (ps_ret (pe_and (pe_call G_are_follows hr_are_follows rfl T.m_are_follows T.F_are_follows.kp T.b_are_follows .nil pass0 (pa_cons (pv 0) (pa_cons (pv 1) pa_nil))) (pe_one (pe_cmpR op_le (pe_call G_size_of hr_size_of rfl T.m_size_of T.F_size_of.kp T.b_size_of .nil pass0 (pa_cons (pv 0) (pa_cons (pv 1) (pa_cons (pe_prop (pv 0) U.cl U.pn.pr Gn (hr.mono (by decide)) U.pn.b .nil pass0 rfl) pa_nil)))) (pe_glob (v := V.int 72) rfl c_MAX_WIRED ⟨_, rfl⟩) (nomark _)))))), ?_⟩
    refine ⟨_, rfl, _, rfl, p, d, t, S, L, F, rfl, sp, hd, fts, fok, fun H1 S1 => ⟨true, rfl, iteT ?_⟩⟩
    have h1' := S1 _ _ h1
    have l6 := fok.len
    refine ⟨_, rfl, _, rfl, _, rfl, p, dx, _, rfl, h1', p, dx, _, .ref nm, rfl, h1', rfl, p, d, nm, t, S, L, F, S.map (·.1), rfl, sp.same S1, S1 _ _ hd, fts.keep (KT.same S1), fok, SqT.of (S1 _ _ h4), by rw [List.length_map]; omega, fun n hn => hn, fun H2 S2 => ?_⟩
    refine ⟨_, _, rfl, rfl, ?_⟩
    exact bl_to (decide_eq_true (size_bd g fok (fun n hn => hn) (by rw [List.length_map]; omega)).2.2.1) (k _ (Same.trans S1 S2))
end
end K44
namespace K44
open PySem L2
open PyProof.Rows PySem.Spec
def nxt (F : Flw) (n : Str) : Str := (fol F n).1
theorem FOk.in {t : Int} {S : Rws} {F : Flw} (g : Good t S) (h : FOk t S F) {n : Str} (hn : n ∈ S.map (·.1)) : (n, fol F n) ∈ F := by
  obtain ⟨x, hx, rfl⟩ := List.mem_map.mp (h.at hn)
  rw [fol_at (q := x.2) (h.nd g) hx]
  exact hx
theorem nd_inj {l : List Str} {f : Str → Str} (nd : (l.map f).Nodup) {x y : Str} (hx : x ∈ l) (hy : y ∈ l) (e : f x = f y) : x = y := by
  obtain ⟨i, hi⟩ := List.mem_iff_getElem?.mp hx
  obtain ⟨j, hj⟩ := List.mem_iff_getElem?.mp hy
  have h1 : (l.map f)[i]? = some (f x) := by rw [List.getElem?_map, hi]; rfl
  have h2 : (l.map f)[j]? = some (f x) := by rw [List.getElem?_map, hj, e]; rfl
  have := nd_ix nd h1 h2
  rw [this, hj] at hi
  exact (Option.some.inj hi).symm
theorem FOk.pmt {t : Int} {S : Rws} {F : Flw} (g : Good t S) (h : FOk t S F) : Pmt (nxt F) (S.map (·.1)) :=
  ⟨fun _ hx => h.to (h.in g hx), fun _ hx _ hy e => nd_inj (f := nxt F) ((h.tgs g).nodup_iff.mpr g.nd) hx hy e⟩
theorem pw_lt {l : List Str} (nd : l.Nodup) (s : sortedS l = true) : l.Pairwise fun a b => a.cps.toList < b.cps.toList := by
  refine List.Pairwise.imp₂ (fun a b h1 h2 => ?_) (sortedS_pw s) nd
  have h3 : ¬ b.cps.toList < a.cps.toList := fun w => by
    rw [ltCps_eq, decide_eq_false_iff_not] at h1
    exact h1 w
  rcases List.le_iff_lt_or_eq.mp (List.not_lt.mp h3) with w | w
  · exact w
  · exact absurd (str_ext w) h2
/-- tuples of names -/
inductive CTs (H : Hp) : List Addr → List (List Str) → Prop
  | nil : CTs H [] []
  | cons {a : Addr} {c : List Str} {as : List Addr} {cs : List (List Str)} (h : H a = some (.tup (c.map V.str))) (t : CTs H as cs) : CTs H (a :: as) (c :: cs)
theorem CTs.keep {H H' : Hp} (k : KT H H') {as : List Addr} {cs : List (List Str)} (h : CTs H as cs) : CTs H' as cs := by
  induction h with
  | nil => exact .nil
  | cons h _ ih => exact .cons (k _ _ h) ih
theorem CTs.len {H : Hp} {as : List Addr} {cs : List (List Str)} (h : CTs H as cs) : as.length = cs.length := by
  induction h with
  | nil => rfl
  | cons h _ ih => rw [List.length_cons, List.length_cons, ih]
theorem CTs.snoc {H : Hp} {a : Addr} {c : List Str} {as : List Addr} {cs : List (List Str)} (h : CTs H as cs) (ha : H a = some (.tup (c.map V.str))) : CTs H (as ++ [a]) (cs ++ [c]) := by
  induction h with
  | nil => exact .cons ha .nil
  | cons h _ ih => exact .cons h ih
theorem CTs.at {H : Hp} {as : List Addr} {cs : List (List Str)} (h : CTs H as cs) : ∀ a ∈ as, ∃ c ∈ cs, H a = some (.tup (c.map V.str)) := by
  induction h with
  | nil => intro a ha; cases ha
  | cons h _ ih =>
    intro a ha
    rcases List.mem_cons.mp ha with rfl | ha
    · exact ⟨_, List.mem_cons_self, h⟩
    · obtain ⟨c, hc, e⟩ := ih a ha
      exact ⟨c, List.mem_cons_of_mem _ hc, e⟩
theorem last_atI {α : Type} {l : List α} {x : α} (h : l.getLast? = some x) : atI l (-1) = some x := by
  have h0 : l ≠ [] := fun z => by rw [z] at h; cases h
  have h1 : 1 ≤ l.length := by
    cases l with
    | nil => exact absurd rfl h0
    | cons => simp
  unfold atI
  rw [List.getLast?_eq_getElem?] at h
  unfold ixN
  rw [if_neg (by omega), if_pos (by omega)]
  have : (-1 + (l.length : Int)).toNat = l.length - 1 := by omega
  simpa [this] using h
theorem head_atI {α : Type} (x : α) (l : List α) : atI (x :: l) 0 = some x := by
  unfold atI ixN
  rw [if_pos (by omega), if_pos (by rw [List.length_cons]; omega)]
  rfl
section
variable {P : Program} {w : World} {K : PySem.W.Frag}
                                                      {mg : Str → Option Value} {base : Heap}
def sp_cycles_of (K : PySem.W.Frag) : Sp := fun vs H Q _ => ∃ (d : Addr) (t : Int) (S : Rws) (L : List (Str × Addr)) (F : Flw), vs = [.ref d] ∧ Good t S ∧ sortedS (S.map (·.1)) = true ∧ H d = some (.dK (Kvs L)) ∧ FTs H L F ∧ FOk t S F ∧
  ∀ a as H', Same H H' → H' a = some (.tup (as.map V.ref)) → CTs H' as (cycs (nxt F) (S.map (·.1)) (S.map (·.1))) → Q (.ref a) H'
theorem ok_cycles_of (T : T K mg) : FnOk P w K mg base CX0 2 T.f_cycles_of T.d_cycles_of ["follows"] (sp_cycles_of K) := by
  refine T.F_cycles_of.ok sc_cycles_of (fun vs H Q E h => ?_) (fun cdv A outer s H vs Q E hr h => ?_)
  · obtain ⟨d, t, S, L, F, rfl, _⟩ := h
    rfl
  · obtain ⟨d, t, S, L, F, rfl, g, so, hd, fts, fok, k⟩ := h
    have hu := hu_of hr
    refine ⟨_, (pss_cons (ps_set (i := 1) sc_cycles_of.nd rfl (Or.inl rfl) (pe_lst pa_nil))
      (pss_cons (ps_set (i := 2) sc_cycles_of.nd rfl (Or.inl rfl) (pe_callB (call_sortedD rfl) (by rfl) T.z_sorted (by decide +kernel) (pa_cons (pv 0) pa_nil)))
      (pss_cons (ps_while PassesOwn.never (pt_truth (pv 2) (fun _ => rfl))
      (pss_cons (ps_set (i := 3) sc_cycles_of.nd rfl (Or.inr rfl) (pe_lst (pa_cons (pe_ix ix_seq (pv 2) pe_int (fun _ _ => rfl)) pa_nil)))
      (pss_cons (ps_while PassesOwn.never (pt_cmpR op_ne (pe_ix ix_seq (pe_dget (by exact hu) (pv 0) (pe_ix ix_seq (pv 3) (pe_un un_neg pe_int) (fun _ _ => rfl)) (fun _ _ => rfl)) pe_int (fun _ _ => rfl)) (pe_ix ix_seq (pv 2) pe_int (fun _ _ => rfl)) (nomark _))
      (pss_one (ps_expr (pe_bm PySem.F.plainAttrs_list PySem.F.slot_list_append PySem.F.type_list_append mt_append (pv 3) (pa_cons (pe_ix ix_seq (pe_dget (by exact hu) (pv 0) (pe_ix ix_seq (pv 3) (pe_un un_neg pe_int) (fun _ _ => rfl)) (fun _ _ => rfl)) pe_int (fun _ _ => rfl)) pa_nil)))))
      (pss_cons (ps_expr (pe_bm PySem.F.plainAttrs_list PySem.F.slot_list_append PySem.F.type_list_append mt_append (pv 1) (pa_cons (pe_callTy call_tuple_of (by rfl) T.z_tuple (by decide +kernel) (pa_cons (pv 3) pa_nil)) pa_nil)))
      (pss_one (ps_setLc (i := 2) (own := [("name", 4)]) (g := gName 4) rfl sc_cycles_of.nd rfl rfl (sw_true rfl rfl rfl (by decide +kernel)) (pi_list (pv 2)) (blkOk_by (N := ["follows", "cycles", "left", "cycle", "name"]) (sc := defScope s_cycles_of) (by decide +kernel)) (fun _ _ _ _ _ => (pg_name (i := 4) sc_cycles_of.nd rfl (Or.inl rfl))) (fun _ _ _ _ _ => pts_one (pt_cmpR (r := rIn K true) op_notIn_seq (pv 4) (pv 3) rfl)) (fun _ _ _ _ _ => (pv 4))))))))
      (pss_one (ps_ret (pe_callTy call_tuple_of (by rfl) T.z_tuple (by decide +kernel) (pa_cons (pv 1) pa_nil))))))), ?_⟩
    have pmt := fok.pmt g
    have swl := pw_lt g.nd so
    have l6 := fok.len
    generalize hN : S.map (·.1) = N at k pmt swl
    have lN : N.length ≤ 6 := by rw [← hN, List.length_map]; omega
    refine ⟨by show 0 ≤ sizeLine; decide, fun cl hcl => ?_⟩
    have S1 := Same.new (o := .lst []) hcl
    have ec1 : (upd H cl (.lst [])) cl = some (.lst []) := upd_same
    have hd1 := S1 _ _ hd
    generalize upd H cl (.lst []) = H1 at S1 ec1 hd1 ⊢
    refine ⟨_, rfl, d, _, L.map (·.1), rfl, .inl hd1, kvs_keys L, by rw [List.length_map, fts.len]; omega, fun ys ll pm so2 hll => ?_⟩
    obtain rfl : ys = N := by
      rw [← hN]
      exact sort_to pm so2 (by rw [fts.names]; exact fok.nm) so
    have ncl : ll ≠ cl := fun z => by rw [z, ec1] at hll; cases hll
    have S2 := Same.new (o := .lst (ys.map V.str)) hll
    have el2 : (upd H1 ll (.lst (ys.map V.str))) ll = some (.lst (ys.map V.str)) := upd_same
    have ec2 := S2 _ _ ec1
    generalize upd H1 ll (.lst (ys.map V.str)) = H2 at S2 el2 ec2 ⊢
    have S02 := Same.trans S1 S2
    clear hd1 S1 S2 ec1 hll
    refine ⟨fun m σ G => ∃ (ll : Addr) (as : List Addr) (left : List Str) (v3 v4 : Option V) (found : List (List Str)), m = left.length ∧ σ = [some (.ref d), some (.ref cl), some (.ref ll), v3, v4] ∧ Same H G ∧ G cl = some (.lst (as.map V.ref)) ∧ G ll = some (.lst (left.map V.str)) ∧ ll ≠ cl ∧ CTs G as found ∧ Found (nxt F) ys left found ∧ as.length + left.length ≤ 6, ⟨_, ll, [], ys, none, none, [], rfl, rfl, S02, ec2, el2, ncl, .nil, Found.start, by simpa using lN⟩, ?_⟩
    clear S02 ec2 el2 ncl
    rintro m σ G ⟨ll, as, left, v3, v4, found, rfl, rfl, SG, ec, el, ncl, cts, fnd, la⟩
    refine ⟨_, rfl, _, .inl ⟨_, SqL.of el, rfl⟩, ?_⟩
    cases left with
    | nil =>
      refine iteF ?_
      refine ⟨_, rfl, cl, _, rfl, .inl ⟨SqL.of ec, fun q hq => ?_⟩⟩
      have e := Found.done pmt swl fnd
      exact k q as _ (Same.trans SG (Same.new hq)) upd_same (by rw [← e]; exact cts.keep (KT.same (Same.new hq)))
    | cons l0 rest =>
      refine iteT ⟨_, fun σ' H' h => h, ?_⟩
      obtain ⟨l0N, fnd'⟩ := Found.step pmt swl fnd
      refine ⟨_, rfl, .inl ⟨_, _, _, _, rfl, rfl, SqL.of el, head_atI _ _, by show 1 ≤ sizeLine; decide, fun cy hcy => ?_⟩⟩
      have S3 := Same.new (o := .lst [V.str l0]) hcy
      have ecy : (upd G cy (.lst [V.str l0])) cy = some (.lst [V.str l0]) := upd_same
      have el3 := S3 _ _ el
      have ec3 := S3 _ _ ec
      have SG3 := Same.trans SG S3
      have cts3 := cts.keep (KT.same S3)
      have nyl : cy ≠ ll := fun z => by rw [z, el] at hcy; cases hcy
      have nyc : cy ≠ cl := fun z => by rw [z, ec] at hcy; cases hcy
      have hyH : H cy = none := by
        cases z : H cy with
        | none => rfl
        | some o => rw [SG _ _ z] at hcy; cases hcy
      generalize upd G cy (.lst [V.str l0]) = G3 at S3 ecy el3 ec3 SG3 cts3 ⊢
      refine ⟨fun m σ' G' => ∃ ch : List Str, m = ys.length - ch.length ∧ σ' = [some (.ref d), some (.ref cl), some (.ref ll), some (.ref cy), v4] ∧ But cy G3 G' ∧ G' cy = some (.lst (ch.map V.str)) ∧ Chn (nxt F) ys l0 ch, ⟨_, [l0], rfl, rfl, fun _ _ _ e => e, ecy, Chn.one l0N⟩, ?_⟩
      rintro m σ' G' ⟨ch, rfl, rfl, B, ey, chn⟩
      obtain ⟨l, hl⟩ : ∃ l, ch.getLast? = some l := by
        cases ch with
        | nil => cases chn.hd
        | cons a r => exact ⟨_, List.getLast?_eq_some_getLast (by simp)⟩
      have lys : l ∈ ys := chn.sb l (List.mem_of_getLast? hl)
      have hlS : l ∈ S.map (·.1) := by rw [hN]; exact lys
      have SG' : Same H G' := fun b o e => B b o (fun z => by rw [z, hyH] at e; cases e) (SG3 _ _ e)
      obtain ⟨fa, va, ha, hm⟩ := (fts.keep (KT.same SG')).get (fok.at hlS)
      have dg : DGet G' d (.str l) (some (.ref fa)) := by
        have := DGet.k (k := Sum.inr l) (SG' _ _ hd)
        rw [va] at this
        exact this
      have hat : atI (ch.map V.str) (-1) = some (.str l) := last_atI (by rw [List.getLast?_map, hl]; rfl)
      have el' := B _ _ nyl.symm el3
      have ec' := B _ _ nyc.symm ec3
      refine ⟨_, rfl, _, rfl, _, rfl, .inl ⟨_, _, _, _, rfl, rfl, SqL.of ey, hat, d, _, rfl, dg, .inr (.inl ⟨_, _, _, _, rfl, rfl, SqT.of ha, rfl, _, rfl, .inl ⟨_, _, _, _, rfl, rfl, SqL.of el', head_atI _ _, rfl, _, rfl, ?_⟩⟩)⟩⟩
      by_cases c : nxt F l = l0
      · rw [decide_eq_true (show V.str (fol F l).1 = V.str l0 from congrArg V.str c)]
        refine iteF ?_
        have hcyc : Cyc (nxt F) ys l0 ch := ⟨chn, fun l' h' => by rw [hl] at h'; rw [← Option.some.inj h']; exact c⟩
        have ech := cy_of hcyc
        rw [ech] at fnd'
        have fl := fnd'.len
        have kt3 : KT G3 G' := But.kt B (fun xs z => by rw [ecy] at z; cases z)
        have cts' := cts3.keep kt3
        have lch := chn_len chn
        refine ⟨_, rfl, .inl ⟨rfl, _, SqL.of ec'⟩, _, rfl, cy, _, rfl, .inl ⟨SqL.of ey, fun tp htp => ?_⟩⟩
        have S4 := Same.new (o := .tup (ch.map V.str)) htp
        have etp : (upd G' tp (.tup (ch.map V.str))) tp = some (.tup (ch.map V.str)) := upd_same
        have ec4 := S4 _ _ ec'
        have el4 := S4 _ _ el'
        have ey4 := S4 _ _ ey
        have cts4 := cts'.keep (KT.same S4)
        have SG4 := Same.trans SG' S4
        generalize upd G' tp (.tup (ch.map V.str)) = G4 at S4 etp ec4 el4 ey4 cts4 SG4 ⊢
        refine ⟨cl, _, _, rfl, rfl, ec4, by rw [List.length_map, sizeLine_eq]; omega, ?_⟩
        have SG5 : Same H (upd G4 cl (.lst (as.map V.ref ++ [.ref tp]))) := Same.at hcl SG4
        have ec5 : (upd G4 cl (.lst (as.map V.ref ++ [.ref tp]))) cl = some (.lst ((as ++ [tp]).map V.ref)) := by rw [upd_same, List.map_append]; rfl
        have kt5 : KT G4 (upd G4 cl (.lst (as.map V.ref ++ [.ref tp]))) := KT.put ec4 (fun _ z => by cases z)
        have el5 := (upd_ne (H := G4) (o := .lst (as.map V.ref ++ [.ref tp])) ncl).trans el4
        have ey5 := (upd_ne (H := G4) (o := .lst (as.map V.ref ++ [.ref tp])) nyc).trans ey4
        have cts5 := (cts4.snoc etp).keep kt5
        generalize upd G4 cl (.lst (as.map V.ref ++ [.ref tp])) = G5 at SG5 ec5 el5 ey5 cts5 ⊢
        refine ⟨_, rfl, ll, rfl, ⟨_, SqL.of el5⟩, fun D hD => ?_⟩
        have nDy : cy ≠ D := ne_of_none ey5 hD
        have nDc : D ≠ cl := fun z => by rw [z, ec5] at hD; cases hD
        refine lc_list (xs := (l0 :: rest).map V.str) (fun i H' => H' D = some (.lst ((((l0 :: rest).take i).filter fun n => !decide (n ∈ ch)).map V.str)) ∧ Same G5 H') ⟨upd_same, Same.new hD⟩ (fun i H' _ h => SqL.of (h.2 _ _ el5)) ?_ ?_
        · rintro i x H6 hx6 ⟨eD, S6⟩
          rw [List.getElem?_map] at hx6
          cases en2 : (l0 :: rest)[i]? with
          | none => rw [en2] at hx6; cases hx6
          | some n =>
            rw [en2] at hx6
            cases hx6
            refine ⟨rfl, ?_⟩
            refine ⟨_, rfl, _, rfl, cy, _, rfl, .inl (SqL.of (S6 _ _ ey5)), rfl, flat_strs _, _, rfl, ?_⟩
            rw [inV_strs]
            have tk : ((l0 :: rest).take (i + 1)).filter (fun n => !decide (n ∈ ch)) = ((l0 :: rest).take i).filter (fun n => !decide (n ∈ ch)) ++ (if n ∈ ch then [] else [n]) := by
              rw [List.take_add_one, en2, List.filter_append]
              congr 1
              by_cases c : n ∈ ch
              · simp [c]
              · simp [c]
            have li : i < (l0 :: rest).length := (List.getElem?_eq_some_iff.mp en2).1
            by_cases c : n ∈ ch
            · simp only [if_true, c, decide_true, Bool.not_true, Bool.false_eq_true, if_false]
              refine ⟨?_, S6⟩
              rw [tk, if_pos c, List.append_nil]
              exact eD
            · simp only [if_true, c, decide_false, Bool.not_false]
              refine ⟨_, rfl, _, eD, ?_, ?_, Same.at hD S6⟩
              · rw [List.length_map, sizeLine_eq]
                have := List.length_filter_le (fun n => !decide (n ∈ ch)) ((l0 :: rest).take i)
                rw [List.length_take] at this
                omega
              · rw [upd_same, tk, if_neg c, List.map_append]
                rfl
        rintro H6 ⟨eD, S6⟩
        rw [List.length_map, List.take_length] at eD
        have lt : ((l0 :: rest).filter fun n => !decide (n ∈ ch)).length < (l0 :: rest).length := by
          refine List.length_filter_lt_length_iff_exists.mpr ⟨l0, List.mem_cons_self, ?_⟩
          rw [decide_eq_true (List.mem_of_getElem? chn.hd)]
          decide
        simp only [decide_not] at fnd'
        exact ⟨_, lt, D, as ++ [tp], _, _, _, _, rfl, rfl, Same.trans SG5 S6, S6 _ _ ec5, eD, nDc, cts5.keep (KT.same S6), fnd', by rw [List.length_append, List.length_singleton]; omega⟩
      · rw [decide_eq_false (show ¬ V.str (fol F l).1 = V.str l0 from fun z => c (V.str.inj z))]
        refine iteT ⟨_, fun σ' H' h => h, ?_⟩
        have chn' := chn.ext pmt hl c
        have cl' := chn_len chn'
        rw [List.length_append, List.length_singleton] at cl'
        refine ⟨_, rfl, .inl ⟨rfl, _, SqL.of ey⟩, _, rfl, _, rfl, _, rfl, .inl ⟨_, _, _, _, rfl, rfl, SqL.of ey, hat, d, _, rfl, dg, .inr (.inl ⟨_, _, _, _, rfl, rfl, SqT.of ha, rfl, cy, _, _, rfl, rfl, ey, by rw [List.length_map, sizeLine_eq]; omega, ?_⟩)⟩⟩
        exact ⟨ys.length - (ch.length + 1), by omega, ch ++ [nxt F l], by rw [List.length_append, List.length_singleton], rfl, But.trans B But.upd, by rw [upd_same, List.map_append]; rfl, chn'⟩
end
end K44
namespace K44
open PySem L2
open PyProof.Rows PySem.Spec
/-- the follows in the order of the names -/
def ordF (S : Rws) (F : Flw) : Flw := (S.map (·.1)).map fun n => (n, fol F n)
theorem ordF_names (S : Rws) (F : Flw) : (ordF S F).map (·.1) = S.map (·.1) := by
  unfold ordF
  rw [List.map_map]
  exact List.map_id' _
theorem ordF_perm {t : Int} {S : Rws} {F : Flw} (g : Good t S) (h : FOk t S F) : (ordF S F).Perm F := by
  have nd := h.nd g
  have e : F = (F.map (·.1)).map fun n => (n, fol F n) := by
    rw [List.map_map]
    conv => lhs; rw [← List.map_id F]
    refine List.map_congr_left fun x hx => ?_
    show x = (x.1, fol F x.1)
    rw [fol_at (q := x.2) nd hx]
  refine (h.nm.symm.map fun n => (n, fol F n)).trans ?_
  rw [← e]
theorem ord_fol {t : Int} {S : Rws} {F : Flw} (g : Good t S) {n : Str} (hn : n ∈ S.map (·.1)) : fol (ordF S F) n = fol F n :=
  fol_at (by rw [ordF_names]; exact g.nd) (List.mem_map.mpr ⟨n, hn, rfl⟩)
theorem ord_size {t : Int} {S : Rws} {F : Flw} (g : Good t S) {ns : List Str} (hn : ∀ n ∈ ns, n ∈ S.map (·.1)) : sizeV S t (ordF S F) ns = sizeV S t F ns := by
  unfold sizeV
  congr 2
  refine List.map_congr_left fun n h => ?_
  unfold lw
  rw [ord_fol g (hn n h)]
/-- what a wiring keeps -/
def wgF (p fd ca : Addr) : List (Str × V) := putF "_cycles" (.ref ca) (putF "_follows" (.ref fd) (putF "_spans" (.ref p) []))
/-- all cycles -/
noncomputable def cyA (S : Rws) (F : Flw) : List (List Str) := cycs (nxt F) (S.map (·.1)) (S.map (·.1))
/-- a wiring stands at q: F is what follows -/
def WgAt (H : Hp) (C D q p : Addr) (t : Int) (S : Rws) (F : Flw) : Prop := SpAt H C p t S ∧ FOk t S F ∧ ∃ dx fd ca L as, H q = some (.ins D dx (wgF p fd ca)) ∧ H fd = some (.dK (Kvs L)) ∧ FTs H L (ordF S F) ∧ H ca = some (.tup (as.map V.ref)) ∧ CTs H as (cyA S F)
theorem WgAt.same {H H' : Hp} {C D q p : Addr} {t : Int} {S : Rws} {F : Flw} (s : Same H H') (h : WgAt H C D q p t S F) : WgAt H' C D q p t S F := by
  obtain ⟨sp, fok, dx, fd, ca, L, as, h1, h2, h3, h4, h5⟩ := h
  exact ⟨sp.same s, fok, dx, fd, ca, L, as, s _ _ h1, s _ _ h2, h3.keep (KT.same s), s _ _ h4, h5.keep (KT.same s)⟩
theorem WgAt.only {H H' : Hp} {C D q p r : Addr} {t : Int} {S : Rws} {F : Flw} (o : Only r H H') (hr : Rl H r) (h : WgAt H C D q p t S F) : WgAt H' C D q p t S F := by
  obtain ⟨sp, fok, dx, fd, ca, L, as, h1, h2, h3, h4, h5⟩ := h
  have ne : ∀ {a : Addr} {u : HO}, H a = some u → (∀ xs, u ≠ .lst xs) → a ≠ r := fun e n w => by
    obtain ⟨x, y, z, q⟩ := hr
    rw [w, q] at e
    exact n _ (Option.some.inj e).symm
  exact ⟨sp.only o hr, fok, dx, fd, ca, L, as, o _ _ (ne h1 (fun _ z => by cases z)) h1, o _ _ (ne h2 (fun _ z => by cases z)) h2, h3.keep (KT.only o hr), o _ _ (ne h4 (fun _ z => by cases z)) h4, h5.keep (KT.only o hr)⟩
theorem SpAt.but {H H' : Hp} {C p q D dx : Addr} {fs : List (Str × V)} {t : Int} {S : Rws} (o : But q H H') (hq : H q = some (.ins D dx fs)) (n : p ≠ q) (h : SpAt H C p t S) : SpAt H' C p t S := by
  obtain ⟨g, so, dx, rd, nm, lv, cr, L, h1, h2, h3, h4⟩ := h
  exact ⟨g, so, dx, rd, nm, lv, cr, L, o _ _ n h1, o _ _ (fun z => by rw [z, hq] at h2; cases h2) h2, h3.keep (But.kt o fun xs z => by rw [hq] at z; cases z), o _ _ (fun z => by rw [z, hq] at h4; cases h4) h4⟩
section
variable {P : Program} {w : World} {K : PySem.W.Frag}
                                                      {mg : Str → Option Value} {base : Heap}
def sp_winit (C D : Addr) : Sp := fun vs H Q _ => ∃ (q p d dx : Addr) (t : Int) (S : Rws) (L : List (Str × Addr)) (F : Flw), vs = [.ref q, .ref p, .ref d] ∧ H q = some (.ins D dx []) ∧ SpAt H C p t S ∧ H d = some (.dK (Kvs L)) ∧ FTs H L F ∧ FOk t S F ∧
  ∀ H', But q H H' → WgAt H' C D q p t S F → (∀ H'', (∀ b o, (H b = none ∨ b = q) → H' b = some o → H'' b = some o) → KT H' H'' → SpAt H'' C p t S → WgAt H'' C D q p t S F) → Q .non H'
theorem ok_winit (T : T K mg) (U : UX K mg) : FnOk P w K mg base CX0 6 U.fJ U.dJ ["self", "spans", "follows"] (sp_winit U.C U.D) := by
  have G_cycles_of : FnOk P w K mg base CX0 2 T.f_cycles_of T.d_cycles_of ["follows"] (sp_cycles_of K) := ok_cycles_of T
  have G_check_spans : FnOk P w K mg base CX0 1 T.f_check_spans T.d_check_spans ["value"] (sp_check_spans K U.C) := ok_check_spans T U
  have G_is_wiring : FnOk P w K mg base CX0 5 T.f_is_wiring T.d_is_wiring ["spans", "value"] (sp_is_wiring K U.C) := ok_is_wiring T U
  have Gn : FnOk P w K mg base CX0 1 U.pn.g U.pn.d ["self"] (getSp U.C "_names") := ok_get U.cl U.pn sc_Spans_names U.n3 ⟨_, _, _, rfl⟩
  refine U.FJ.ok sc_Wiring_init (fun vs H Q E h => ?_) (fun cdv A outer s H vs Q E hr h => ?_)
  · obtain ⟨q, p, d, dx, t, S, L, F, rfl, _⟩ := h
    rfl
  · obtain ⟨q, p, d, dx, t, S, L, F, rfl, hq, sp, hd, fts, fok, k⟩ := h
    have hu := hu_of hr
    have hr_cycles_of : Room 2 _ := hr.mono (by decide)
    have hr_check_spans : Room 1 _ := hr.mono (by decide)
    have hr_is_wiring : Room 5 _ := hr.mono (by decide)
    refine ⟨_, (pss_cons (ps_expr (pe_call G_check_spans hr_check_spans rfl T.m_check_spans T.F_check_spans.kp T.b_check_spans .nil pass0 (pa_cons (pv 1) pa_nil)))
      (pss_cons (ps_if (pt_not (pt_val (pe_call G_is_wiring hr_is_wiring rfl T.m_is_wiring T.F_is_wiring.kp T.b_is_wiring .nil pass0 (pa_cons (pv 1) (pa_cons (pv 2) pa_nil)))))
      (pss_one ps_never)
      pss_nil)
      (pss_cons (ps_fld (pv 0) (pv 1) rfl)
      (pss_cons (ps_fld (pv 0) (pe_dc (own := [("name", 3)]) (g := gName 3) rfl sc_Wiring_init.nd (pi_tup (pe_prop (pv 1) U.cl U.pn.pr Gn (hr.mono (by decide)) U.pn.b .nil pass0 rfl)) (blkOk_by (N := ["self", "spans", "follows", "name"]) (sc := defScope s_Wiring_init) (by decide +kernel)) (fun _ _ _ _ _ => (pg_name (i := 3) sc_Wiring_init.nd rfl (Or.inl rfl))) (fun _ _ _ _ _ => pts_nil) (fun _ _ _ _ _ => (pv 3)) (fun _ _ _ _ _ => (pe_dget (by exact hu) (pv 2) (pv 3) (fun _ _ => rfl)))) rfl)
      (pss_one (ps_fld (pv 0) (pe_call G_cycles_of hr_cycles_of rfl T.m_cycles_of T.F_cycles_of.kp T.b_cycles_of .nil pass0 (pa_cons (pv 2) pa_nil)) rfl)))))), ?_⟩
    obtain ⟨g, so, _⟩ := id sp
    have l6 := fok.len
    have npq : p ≠ q := fun z => by
      obtain ⟨_, _, _, _, _, _, _, _, h1, _⟩ := id sp
      rw [z, hq] at h1
      have := (HO.ins.inj (Option.some.inj h1)).2.2
      cases this
    have ndq : d ≠ q := fun z => by rw [z, hq] at hd; cases hd
    refine ⟨_, rfl, p, t, S, rfl, sp, ?_⟩
    refine ⟨_, rfl, _, rfl, p, d, t, S, L, F, rfl, sp, hd, fts, fok, fun H1 S1 => ⟨_, rfl, iteF ?_⟩⟩
    have h1q := S1 _ _ hq
    have sp1 := sp.same S1
    have hd1 := S1 _ _ hd
    have fts1 := fts.keep (KT.same S1)
    refine ⟨_, rfl, _, rfl, q, U.D, dx, _, rfl, h1q, U.clD, U.k1, (by show 0 < 1000; decide), ?_⟩
    have B2 : But q H1 (upd H1 q (.ins U.D dx (putF "_spans" (.ref p) []))) := But.upd
    have h2q : (upd H1 q (.ins U.D dx (putF "_spans" (.ref p) []))) q = some (.ins U.D dx (putF "_spans" (.ref p) [])) := upd_same
    have sp2 := sp1.but B2 h1q npq
    have hd2 := B2 _ _ ndq hd1
    have fts2 := fts1.keep (But.kt B2 fun xs z => by rw [h1q] at z; cases z)
    have BB : But q H (upd H1 q (.ins U.D dx (putF "_spans" (.ref p) []))) := But.trans (But.same S1) B2
    generalize upd H1 q (.ins U.D dx (putF "_spans" (.ref p) [])) = H2 at B2 h2q sp2 hd2 fts2 BB ⊢
    clear B2 h1q sp1 hd1 fts1 S1
    obtain ⟨_, _, dx2, rd, nm, lv, cr, L0, h1, h2, h3, h4⟩ := id sp2
    have sqn : SqT K H2 nm ((S.map (·.1)).map V.str) := SqT.of h4
    refine ⟨_, rfl, p, dx2, _, rfl, h1, p, dx2, _, .ref nm, rfl, h1, rfl, nm, rfl, ⟨_, sqn⟩, fun D hD => ?_⟩
    have nDq : D ≠ q := fun z => by rw [z, h2q] at hD; cases hD
    have hDn : H D = none := by
      cases z : H D with
      | none => rfl
      | some o =>
        have := BB _ _ nDq z
        rw [hD] at this
        cases this
    refine dc_it (walk_tup (K := K) (a := nm) (xs := (S.map (·.1)).map V.str)) (fun i H' => Same H2 H' ∧ ∃ M, H' D = some (.dK (Kvs M)) ∧ FTs H' M ((ordF S F).take i)) ⟨Same.new hD, [], upd_same, .nil⟩ (fun i H' _ h => Same.seqT h.1 sqn) ?_ ?_
    · rintro i x Ha Hb hi ⟨Sa, M, eD, tm⟩ ⟨rfl, hx⟩
      refine ⟨rfl, ?_⟩
      unfold tYes
      dsimp only
      rw [if_pos rfl]
      rw [List.getElem?_map] at hx
      cases e2 : (S.map (·.1))[i]? with
      | none => rw [e2] at hx; cases hx
      | some n =>
        rw [e2] at hx
        cases hx
        have hn := List.mem_of_getElem? e2
        obtain ⟨a, va, ha, hm⟩ := (fts2.keep (KT.same Sa)).get (fok.at hn)
        have dg : DGet Hb d (.str n) (some (.ref a)) := by
          have := DGet.k (k := Sum.inr n) (Sa _ _ hd2)
          rw [va] at this
          exact this
        have hnM : n ∉ M.map (·.1) := by
          rw [tm.names, List.map_take, ordF_names]
          intro hm2
          have nd2 := g.nd
          rw [← List.take_append_drop i (S.map (·.1))] at nd2
          have hd2 : n ∈ (S.map (·.1)).drop i := by
            rw [List.mem_iff_getElem?]
            exact ⟨0, by rw [List.getElem?_drop]; exact e2⟩
          exact (List.nodup_append.mp nd2).2.2 n hm2 n hd2 rfl
        have lM : M.length ≤ 6 := by
          rw [tm.len, List.length_take, ← List.length_map (f := (·.1)) (as := ordF S F), ordF_names, List.length_map]
          omega
        refine ⟨_, rfl, _, rfl, _, rfl, d, V.ref a, rfl, dg, ?_⟩
        refine ⟨Kvs M, Sum.inr n, rfl, eD, by rw [kvs_len, sizeLine_eq]; omega, Same.at hD Sa, M ++ [(n, a)], by rw [upd_same, putK_kvs hnM], ?_⟩
        have kt : KT Hb (upd Hb D (.dK (putK (Kvs M) (.inr n) (.ref a)))) := KT.put eD (fun _ z => by cases z)
        have e3 : (ordF S F)[i]? = some (n, fol F n) := by
          unfold ordF
          rw [List.getElem?_map, e2]
          rfl
        rw [List.take_add_one, e3]
        exact (tm.keep kt).snoc (kt _ _ ha)
    rintro H4 ⟨S4, M, h4D, h4T⟩
    have lo : ((S.map (·.1)).map V.str).length = (ordF S F).length := by unfold ordF; simp
    rw [lo, List.take_length] at h4T
    have h4q := S4 _ _ h2q
    have sp4 := sp2.same S4
    have hd4 := S4 _ _ hd2
    have fts4 := fts2.keep (KT.same S4)
    have BB4 := But.trans BB (But.same S4)
    clear S4 h2q sp2 hd2 fts2 BB hD h1 h2 h3 h4 sqn
    refine ⟨_, rfl, q, U.D, dx, _, rfl, h4q, U.clD, U.k2, (by show 1 < 1000; decide), ?_⟩
    have B5 : But q H4 (upd H4 q (.ins U.D dx (putF "_follows" (.ref D) (putF "_spans" (.ref p) [])))) := But.upd
    have h5q : (upd H4 q (.ins U.D dx (putF "_follows" (.ref D) (putF "_spans" (.ref p) [])))) q = some (.ins U.D dx (putF "_follows" (.ref D) (putF "_spans" (.ref p) []))) := upd_same
    generalize upd H4 q (.ins U.D dx (putF "_follows" (.ref D) (putF "_spans" (.ref p) []))) = H5 at B5 h5q ⊢
    have kt5 : KT H4 H5 := But.kt B5 fun xs z => by rw [h4q] at z; cases z
    have sp5 := sp4.but B5 h4q npq
    have hd5 := B5 _ _ ndq hd4
    have fts5 := fts4.keep kt5
    have h5D := B5 _ _ nDq h4D
    have h5T := h4T.keep kt5
    have BB5 := But.trans BB4 B5
    refine ⟨_, rfl, d, t, S, L, F, rfl, g, so, hd5, fts5, fok, fun ca as H6 S6 e6 c6 => ?_⟩
    have h6q := S6 _ _ h5q
    refine ⟨_, rfl, q, U.D, dx, _, rfl, h6q, U.clD, U.k3, (by show 2 < 1000; decide), ?_⟩
    have B7 : But q H6 (upd H6 q (.ins U.D dx (wgF p D ca))) := But.upd
    have kt7 : KT H6 (upd H6 q (.ins U.D dx (wgF p D ca))) := But.kt B7 fun xs z => by rw [h6q] at z; cases z
    have h7q : (upd H6 q (.ins U.D dx (wgF p D ca))) q = some (.ins U.D dx (wgF p D ca)) := upd_same
    have sp7 := (sp5.same S6).but B7 h6q npq
    have h7D := B7 _ _ nDq (S6 _ _ h5D)
    have h7T := (h5T.keep (KT.same S6)).keep kt7
    have h7c := kt7 _ _ e6
    have c7 := c6.keep kt7
    have BB7 := But.trans BB5 (But.trans (But.same S6) B7)
    refine k _ BB7 ⟨sp7, fok, dx, D, ca, M, as, h7q, h7D, h7T, h7c, c7⟩ fun H'' kp kt sp'' => ?_
    exact ⟨sp'', fok, dx, D, ca, M, as, kp _ _ (.inr rfl) h7q, kp _ _ (.inl hDn) h7D, h7T.keep kt, kt _ _ h7c, c7.keep kt⟩
end
end K44
namespace K44
open PySem L2
open PyProof.Rows PySem.Spec
section
variable {X : Cx}
/-- sum(xs) of a tuple of ints -/
def rSumT (K : PySem.W.Frag) : List V → Hp → VK → Prop := fun vs H Q => ∃ (a : Addr) (ns : List Int), vs = [V.ref a] ∧ SqT K H a (ns.map V.int) ∧ Q (.int ns.sum) H
theorem cr_sumT (hc : X.calm = true) : CallR X (.builtin "sum") (rSumT X.K) := by
  intro pins s σ H vs us Q I r h
  obtain ⟨a, ns, rfl, hs, q⟩ := h
  obtain ⟨its, rv, hl, _⟩ := I.tuple hs
  rw [Vals.ref1 r]
  have hi := rv.ints
  obtain ⟨xs, e⟩ := hi.allInts.items
  have hn : numsOf
                   (intItems xs).toList = ns := by rw [← e]; exact hi.numsOf
  rw [nums_intItems] at hn
  rw [e] at hl
  refine PySem.W.ktm_sumG (I.ok.hd hc) hl fun h' tk t' hk => ?_
  rw [preSum_eq, List.take_of_length_le (by simp), hn]
  exact ⟨.int _, H, I.kept hk, ⟨_, rfl⟩, q⟩
end
/-- the least common multiple -/
def LC (ms : List Nat) : Nat := ms.foldl Nat.lcm 1
theorem fold_dvd : ∀ (ms : List Nat) (a m : Nat), ms.foldl Nat.lcm a ∣ m ↔ a ∣ m ∧ ∀ n ∈ ms, n ∣ m
  | [], a, m => by simp
  | x :: r, a, m => by
    rw [List.foldl_cons, fold_dvd r, Nat.lcm_dvd_iff]
    constructor
    · rintro ⟨⟨h1, h2⟩, h3⟩
      refine ⟨h1, fun n hn => ?_⟩
      rcases List.mem_cons.mp hn with rfl | h
      · exact h2
      · exact h3 n h
    · rintro ⟨h1, h2⟩
      exact ⟨⟨h1, h2 x List.mem_cons_self⟩, fun n hn => h2 n (List.mem_cons_of_mem _ hn)⟩
theorem LC_dvd (ms : List Nat) (m : Nat) : LC ms ∣ m ↔ ∀ n ∈ ms, n ∣ m := by
  unfold LC
  rw [fold_dvd]
  exact ⟨fun h => h.2, fun h => ⟨Nat.one_dvd _, h⟩⟩
theorem dvd_LC {ms : List Nat} {n : Nat} (h : n ∈ ms) : n ∣ LC ms := (LC_dvd ms (LC ms)).mp (Nat.dvd_refl _) n h
theorem LC_ext {a b : List Nat} (h : ∀ n, n ∈ a ↔ n ∈ b) : LC a = LC b :=
  Nat.dvd_antisymm ((LC_dvd _ _).mpr fun n hn => dvd_LC ((h n).mp hn)) ((LC_dvd _ _).mpr fun n hn => dvd_LC ((h n).mpr hn))
theorem LC_snoc (ms : List Nat) (n : Nat) : LC (ms ++ [n]) = (LC ms).lcm n := by
  unfold LC
  rw [List.foldl_append]
  rfl
theorem LC_pos {b : Nat} (hb : 1 ≤ b) {ms : List Nat} (h : ∀ n ∈ ms, 1 ≤ n ∧ n ≤ b) : 0 < LC ms ∧ LC ms ≤ b ^ ms.length := by
  have : ∀ (ms : List Nat) (a : Nat) (k : Nat), 0 < a → a ≤ b ^ k → (∀ n ∈ ms, 1 ≤ n ∧ n ≤ b) → 0 < ms.foldl Nat.lcm a ∧ ms.foldl Nat.lcm a ≤ b ^ (k + ms.length) := by
    intro ms
    induction ms with
    | nil => exact fun a k h1 h2 _ => ⟨h1, h2⟩
    | cons x r ih =>
      intro a k h1 h2 h
      have hx := h x List.mem_cons_self
      have e1 : a.lcm x ≤ b ^ (k + 1) := by
        refine Nat.le_trans (Nat.le_of_dvd (Nat.mul_pos h1 (by omega)) (Nat.lcm_dvd_mul a x)) ?_
        rw [Nat.pow_succ]
        exact Nat.mul_le_mul h2 hx.2
      have := ih (a.lcm x) (k + 1) (Nat.lcm_pos h1 (by omega)) e1 fun n hn => h n (List.mem_cons_of_mem _ hn)
      rw [List.foldl_cons, List.length_cons, show k + (r.length + 1) = k + 1 + r.length by omega]
      exact this
  have := this ms 1 0 (by decide) (by simp) h
  rw [Nat.zero_add] at this
  exact this
end K44
namespace K44
open PySem L2
open PyProof.Rows PySem.Spec
section
variable {t : Int} {S : Rws} {F : Flw}
theorem cyA_in (g : Good t S) (h : FOk t S F) {c : List Str} (hc : c ∈ cyA S F) : (∃ n ∈ S.map (·.1), Cyc (nxt F) (S.map (·.1)) n c) ∧ (∀ n ∈ c, n ∈ S.map (·.1)) ∧ c.length ≤ 6 ∧ 1 ≤ c.length := by
  unfold cyA cycs at hc
  obtain ⟨n, hn, rfl⟩ := List.mem_map.mp hc
  have hn := (List.mem_filter.mp hn).1
  have cy := cy_is (h.pmt g) hn
  have l1 := chn_len cy.ch
  rw [List.length_map] at l1
  have l6 := h.len
  refine ⟨⟨n, hn, cy⟩, cy.ch.sb, by omega, ?_⟩
  exact List.length_pos_of_mem (List.mem_of_getElem? cy.ch.hd)
theorem cyA_len (h : FOk t S F) : (cyA S F).length ≤ 6 := by
  unfold cyA cycs
  rw [List.length_map]
  refine Nat.le_trans (List.length_filter_le _ _) ?_
  rw [List.length_map]
  exact h.len.1
/-- the numbers of registers -/
noncomputable def szs (S : Rws) (t : Int) (F : Flw) : List Int := (cyA S F).map (sizeV S t F)
theorem dvd_sum {f : Str → Int} {t : Int} : ∀ {l : List Str}, (∀ n ∈ l, f n % t = 0) → (l.map f).sum % t = 0
  | [], _ => by simp
  | n :: l, h => by
    rw [List.map_cons, List.sum_cons, Int.add_emod, h n List.mem_cons_self, dvd_sum fun m hm => h m (List.mem_cons_of_mem _ hm)]
    simp
theorem sum_add {f g : Str → Int} : ∀ {l : List Str}, (l.map fun n => f n + g n).sum = (l.map f).sum + (l.map g).sum
  | [] => rfl
  | n :: l => by
    rw [List.map_cons, List.map_cons, List.map_cons, List.sum_cons, List.sum_cons, List.sum_cons, sum_add (l := l)]
    omega
theorem perm_sum {l m : List Int} (p : l.Perm m) : l.sum = m.sum := by
  induction p with
  | nil => rfl
  | cons x _ ih => rw [List.sum_cons, List.sum_cons, ih]
  | swap x y l => rw [List.sum_cons, List.sum_cons, List.sum_cons, List.sum_cons]; omega
  | trans _ _ a b => rw [a, b]
theorem rot_map {nx : Str → Str} {n : Str} : ∀ (r : List Str) (a : Str), (∀ i x y, (a :: r)[i]? = some x → (a :: r)[i + 1]? = some y → y = nx x) → (∀ l, (a :: r).getLast? = some l → nx l = n) → (a :: r).map nx = r ++ [n]
  | [], a, _, h => by
    rw [List.map_cons, h a rfl]
    rfl
  | b :: r, a, st, h => by
    have e := st 0 a b rfl rfl
    rw [List.map_cons, rot_map r b (fun i x y h1 h2 => st (i + 1) x y (by simpa using h1) (by simpa using h2)) (fun l hl => h l (by rw [List.getLast?_cons_cons]; exact hl)), ← e]
    rfl
theorem cyc_perm {nx : Str → Str} {N : List Str} {n : Str} {c : List Str} (h : Cyc nx N n c) : (c.map nx).Perm c := by
  obtain ⟨ch, la⟩ := h
  cases c with
  | nil => exact .nil
  | cons a r =>
    have : a = n := Option.some.inj ch.hd
    subst this
    rw [rot_map r a ch.st la]
    exact List.perm_append_singleton _ _
theorem sz_bd (g : Good t S) (h : FOk t S F) {c : List Str} (hc : c ∈ cyA S F) : 1 ≤ sizeV S t F c ∧ sizeV S t F c ≤ 72 := by
  obtain ⟨⟨n, hn, cy⟩, sb, l6, l1⟩ := cyA_in g h hc
  have b := size_bd g h sb l6
  refine ⟨?_, b.2.2.1⟩
  have t1 := g.t1
  have e : (c.map (lw S F)).sum = (c.map fun n => (spn S n).2 + (fol F n).2 - (spn S (nxt F n)).1).sum := by
    have e1 : (c.map (lw S F)).sum = (c.map fun n => (spn S n).2 + (fol F n).2).sum + (c.map fun n => - (spn S n).1).sum := by
      rw [← sum_add]
      refine congrArg List.sum (List.map_congr_left fun n _ => ?_)
      unfold lw
      omega
    have e2 : (c.map fun n => (spn S n).2 + (fol F n).2 - (spn S (nxt F n)).1).sum = (c.map fun n => (spn S n).2 + (fol F n).2).sum + (c.map fun n => - (spn S (nxt F n)).1).sum := by
      rw [← sum_add]
      refine congrArg List.sum (List.map_congr_left fun n _ => ?_)
      omega
    have e3 : (c.map fun n => - (spn S (nxt F n)).1).sum = (c.map fun n => - (spn S n).1).sum := by
      refine perm_sum ?_
      have := (cyc_perm cy).map fun n => - (spn S n).1
      rw [List.map_map] at this
      exact this
    rw [e1, e2, e3]
  have d : (c.map (lw S F)).sum % t = 0 := by
    rw [e]
    exact dvd_sum fun n hn => h.dv _ (h.in g (sb n hn))
  have p : 1 ≤ (c.map (lw S F)).sum := by
    cases c with
    | nil => simp at l1
    | cons a r =>
      rw [List.map_cons, List.sum_cons]
      have h1 := (lw_bd g h (sb a List.mem_cons_self)).1
      have h2 := (sum_bd (f := lw S F) (c := 12 * t) (ns := r) fun m hm => by have := lw_bd g h (sb m (List.mem_cons_of_mem _ hm)); omega).1
      omega
  unfold sizeV
  have := Int.mul_ediv_add_emod (c.map (lw S F)).sum t
  rw [d] at this
  rcases Int.lt_or_le ((c.map (lw S F)).sum / t) 1 with q | q
  · have : t * ((c.map (lw S F)).sum / t) ≤ t * 0 := Int.mul_le_mul_of_nonneg_left (by omega) (by omega)
    omega
  · exact q
theorem szs_bd (g : Good t S) (h : FOk t S F) : ∀ z ∈ szs S t F, 1 ≤ z ∧ z ≤ 72 := fun z hz => by
  obtain ⟨c, hc, rfl⟩ := List.mem_map.mp hz
  exact sz_bd g h hc
theorem szs_len (h : FOk t S F) : (szs S t F).length ≤ 6 := by
  unfold szs
  rw [List.length_map]
  exact cyA_len h
/-- their least common multiple -/
noncomputable def cpy (S : Rws) (t : Int) (F : Flw) (i : Nat) : Nat := LC (((szs S t F).take i).map Int.toNat)
theorem cpy_bd (g : Good t S) (h : FOk t S F) (i : Nat) : cpy S t F i < 2 ^ 120 := by
  have l := szs_len h
  have b := LC_pos (b := 72) (by decide) (ms := ((szs S t F).take i).map Int.toNat) fun n hn => by
    obtain ⟨z, hz, rfl⟩ := List.mem_map.mp hn
    have := szs_bd g h z (List.mem_of_mem_take hz)
    omega
  refine Nat.lt_of_le_of_lt b.2 (Nat.lt_of_le_of_lt (show _ ≤ 72 ^ 6 from Nat.pow_le_pow_right (by decide) ?_) (by decide))
  rw [List.length_map, List.length_take]
  omega
end
end K44
namespace K44
open PySem L2
open PyProof.Rows PySem.Spec
section
variable {P : Program} {w : World} {K : PySem.W.Frag}
                                                      {mg : Str → Option Value} {base : Heap}
def strOf : V → Str
  | .str n => n
  | _ => Str.empty
theorem strOf_map (c : List Str) : (c.map V.str).map strOf = c := by
  rw [List.map_map]
  exact List.map_id' _
noncomputable def szAt (H : Hp) (S : Rws) (t : Int) (F : Flw) (v : V) : V :=
  match v with
  | .ref a => match H a with
    | some (.tup xs) => .int (sizeV S t F (xs.map strOf))
    | _ => .non
  | _ => .non
theorem szAt_of {H : Hp} {S : Rws} {t : Int} {F : Flw} {a : Addr} {c : List Str} (h : H a = some (.tup (c.map V.str))) : szAt H S t F (.ref a) = .int (sizeV S t F c) := by
  unfold szAt
  simp only [h]
  rw [strOf_map]
theorem szAt_all {H : Hp} {S : Rws} {t : Int} {F : Flw} {as : List Addr} {cs : List (List Str)} (h : CTs H as cs) : (as.map V.ref).map (szAt H S t F) = (cs.map (sizeV S t F)).map V.int := by
  induction h with
  | nil => rfl
  | cons h _ ih => rw [List.map_cons, List.map_cons, List.map_cons, List.map_cons, ih, szAt_of h]
def sp_sizes (K : PySem.W.Frag) (C D : Addr) : Sp := fun vs H Q _ => ∃ (q p : Addr) (t : Int) (S : Rws) (F : Flw), vs = [.ref q] ∧ WgAt H C D q p t S F ∧ ∀ a H', Same H H' → H' a = some (.tup ((szs S t F).map V.int)) → Q (.ref a) H'
theorem ok_sizes (T : T K mg) (U : UX K mg) : FnOk P w K mg base CX0 4 U.pz.g U.pz.d ["self"] (sp_sizes K U.C U.D) := by
  have G_size_of : FnOk P w K mg base CX0 3 T.f_size_of T.d_size_of ["spans", "follows", "names"] (sp_size_of K U.C) := ok_size_of T U
  refine U.pz.F.ok sc_Wiring_sizes (fun vs H Q E h => ?_) (fun cdv A outer s H vs Q E hr h => ?_)
  · obtain ⟨q, p, t, S, F, rfl, _⟩ := h
    rfl
  · obtain ⟨q, p, t, S, F, rfl, wg, k⟩ := h
    have hu := hu_of hr
    have hr_size_of : Room 3 _ := hr.mono (by decide)
    obtain ⟨sp, fok, dx, fd, ca, L, as, h1, h2, h3, h4, h5⟩ := id wg
    obtain ⟨g, so, _⟩ := id sp
    refine ⟨_, (pss_one (ps_ret (pe_callTy call_tuple_of (by rfl) T.z_tuple (by decide +kernel) (pa_cons (pe_lc (own := [("cycle", 1)]) (g := gName 1) rfl sc_Wiring_sizes.nd (pi_tup (pe_fld (pv 0) rfl)) (blkOk_by (N := ["self", "cycle"]) (sc := defScope s_Wiring_sizes) (by decide +kernel)) (fun _ _ _ _ _ => (pg_name (i := 1) sc_Wiring_sizes.nd rfl (Or.inl rfl))) (fun _ _ _ _ _ => pts_nil) (fun _ _ _ _ _ => (pe_call G_size_of hr_size_of rfl T.m_size_of T.F_size_of.kp T.b_size_of .nil pass0 (pa_cons (pe_fldK (K := K) rfl (pv 0) rfl) (pa_cons (pe_fldK (K := K) rfl (pv 0) rfl) (pa_cons (pv 1) pa_nil)))))) pa_nil)))), ?_⟩
    have sqc : SqT K H ca (as.map V.ref) := SqT.of h4
    have la : as.length ≤ 6 := by rw [h5.len]; exact cyA_len fok
    refine ⟨_, rfl, q, U.D, dx, _, .ref ca, rfl, h1, U.clD, U.k3, rfl, ca, rfl, ⟨_, sqc⟩, fun D hD => ?_⟩
    refine lc_map (walk_tup (K := K) (a := ca) (xs := as.map V.ref)) (szAt H S t F) (fun H' s => Same.seqT s sqc) (by rw [List.length_map]; omega) hD ?_ ?_
    · intro x Ha hx Sa C N kC
      obtain ⟨a, ha, rfl⟩ := List.mem_map.mp hx
      obtain ⟨c, hc, ec⟩ := h5.at a ha
      obtain ⟨_, sb, l6, _⟩ := cyA_in g fok hc
      refine ⟨rfl, ?_⟩
      unfold tYes
      dsimp only
      rw [if_pos rfl]
      rw [szAt_of ec, ← ord_size g sb] at kC
      have h1a := Sa _ _ h1
      exact ⟨_, rfl, q, U.D, dx, _, .ref p, rfl, h1a, U.clD, U.k1, rfl, _, rfl, q, U.D, dx, _, .ref fd, rfl, h1a, U.clD, U.k2, rfl, _, rfl, p, fd, a, t, S, L, ordF S F, c, rfl, sp.same Sa, Sa _ _ h2, h3.keep (KT.same Sa), fok.perm (ordF_perm g fok), SqT.of (Sa _ _ ec), l6, sb, kC⟩
    · intro H1 S1 e1
      rw [szAt_all h5] at e1
      refine ⟨D, _, rfl, .inl ⟨SqL.of e1, fun l hl => ?_⟩⟩
      exact k l _ (Same.trans S1 (Same.new hl)) upd_same
def sp_regs (K : PySem.W.Frag) (C D : Addr) : Sp := fun vs H Q _ => ∃ (q p : Addr) (t : Int) (S : Rws) (F : Flw), vs = [.ref q] ∧ WgAt H C D q p t S F ∧ ∀ H', Same H H' → Q (.int (szs S t F).sum) H'
theorem ok_regs (T : T K mg) (U : UX K mg) : FnOk P w K mg base CX0 6 U.pr.g U.pr.d ["self"] (sp_regs K U.C U.D) := by
  have Gz : FnOk P w K mg base CX0 4 U.pz.g U.pz.d ["self"] (sp_sizes K U.C U.D) := ok_sizes T U
  refine U.pr.F.ok sc_Wiring_registers (fun vs H Q E h => ?_) (fun cdv A outer s H vs Q E hr h => ?_)
  · obtain ⟨q, p, t, S, F, rfl, _⟩ := h
    rfl
  · obtain ⟨q, p, t, S, F, rfl, wg, k⟩ := h
    have hu := hu_of hr
    obtain ⟨sp, fok, dx, fd, ca, L, as, h1, h2, h3, h4, h5⟩ := id wg
    refine ⟨_, (pss_one (ps_ret (pe_callB (cr_sumT rfl) (by rfl) T.z_sum (by decide +kernel) (pa_cons (pe_prop (pv 0) U.clD U.pz.pr Gz (hr.mono (by decide)) U.pz.b .nil pass0 rfl) pa_nil)))), ?_⟩
    exact ⟨_, rfl, q, dx, _, rfl, h1, q, p, t, S, F, rfl, wg, fun a H' s e => ⟨a, _, rfl, SqT.of e, k _ s⟩⟩
def sp_wget (C D : Addr) : Sp := fun vs H Q _ => ∃ (q p : Addr) (t : Int) (S : Rws) (F : Flw) (n : Str), vs = [.ref q, .str n] ∧ WgAt H C D q p t S F ∧ n ∈ S.map (·.1) ∧ ∀ a, FAt H a (fol F n).1 (fol F n).2 → Q (.ref a) H
theorem ok_wget (T : T K mg) (U : UX K mg) : FnOk P w K mg base CX0 3 U.wg.f U.wg.d ["self", "name"] (sp_wget U.C U.D) := by
  have Gn : FnOk P w K mg base CX0 1 U.pn.g U.pn.d ["self"] (getSp U.C "_names") := ok_get U.cl U.pn sc_Spans_names U.n3 ⟨_, _, _, rfl⟩
  refine U.wg.F.ok sc_Wiring_getitem (fun vs H Q E h => ?_) (fun cdv A outer s H vs Q E hr h => ?_)
  · obtain ⟨q, p, t, S, F, n, rfl, _⟩ := h
    rfl
  · obtain ⟨q, p, t, S, F, n, rfl, wg, hn, k⟩ := h
    have hu := hu_of hr
    obtain ⟨sp, fok, dx, fd, ca, L, as, h1, h2, h3, h4, h5⟩ := id wg
    obtain ⟨g, so, dx2, rd, nm, lv, cr, L0, p1, p2, p3, p4⟩ := id sp
    refine ⟨_, (pss_cons (ps_if (pt_cmpR op_notIn_seq (pv 1) (pe_prop (pe_fld (pv 0) rfl) U.cl U.pn.pr Gn (hr.mono (by decide)) U.pn.b .nil pass0 rfl) rfl)
      (pss_one ps_never)
      pss_nil)
      (pss_one (ps_ret (pe_dget (by exact hu) (pe_fld (pv 0) rfl) (pv 1) (fun _ _ => rfl))))), ?_⟩
    refine ⟨_, rfl, _, rfl, q, U.D, dx, _, .ref p, rfl, h1, U.clD, U.k1, rfl, p, dx2, _, rfl, p1, p, dx2, _, .ref nm, rfl, p1, rfl, nm, _, rfl, .inr (SqT.of p4), rfl, flat_strs _, _, rfl, ?_⟩
    rw [inV_strs, decide_eq_true hn]
    refine iteF ?_
    obtain ⟨a, va, ha, _⟩ := h3.get (n := n) (by rw [ordF_names]; exact hn)
    rw [ord_fol g hn] at ha
    have dg : DGet H fd (.str n) (some (.ref a)) := by
      have := DGet.k (k := Sum.inr n) h2
      rw [va] at this
      exact this
    exact ⟨_, rfl, q, U.D, dx, _, .ref fd, rfl, h1, U.clD, U.k2, rfl, _, rfl, fd, _, rfl, dg, k a ha⟩
/-- the rounds from a value to the one that follows -/
def rnd (S : Rws) (t : Int) (F : Flw) (n : Str) : Int := ((spn S n).2 + (fol F n).2 - (spn S (nxt F n)).1) / t
def sp_after (C D : Addr) : Sp := fun vs H Q _ => ∃ (q p : Addr) (t : Int) (S : Rws) (F : Flw) (n : Str) (i : Int), vs = [.ref q, .str n, .int i] ∧ WgAt H C D q p t S F ∧ n ∈ S.map (·.1) ∧ (-1000000000000 < i ∧ i < 1000000000000) ∧ ∀ a H', Same H H' → H' a = some (.tup [.str (nxt F n), .int (i + rnd S t F n)]) → Q (.ref a) H'
theorem ok_after (T : T K mg) (U : UX K mg) : FnOk P w K mg base CX0 5 U.wa.f U.wa.d ["self", "name", "turn"] (sp_after U.C U.D) := by
  have G_check_integer : FnOk P w K mg base CX0 2 T.f_check_integer T.d_check_integer ["value"] (sp_check_integer K) := ok_check_integer T
  have Gg : FnOk P w K mg base CX0 1 U.mi.f U.mi.d ["self", "name"] (sp_item K U.C) := ok_item T U
  have Gi : FnOk P w K mg base CX0 1 U.pi.g U.pi.d ["self"] (getSp U.C "_interval") := ok_get U.cl U.pi sc_Spans_interval U.n1 ⟨_, _, _, rfl⟩
  have Gw : FnOk P w K mg base CX0 3 U.wg.f U.wg.d ["self", "name"] (sp_wget U.C U.D) := ok_wget T U
  refine U.wa.F.ok sc_Wiring_after (fun vs H Q E h => ?_) (fun cdv A outer s H vs Q E hr h => ?_)
  · obtain ⟨q, p, t, S, F, n, i, rfl, _⟩ := h
    rfl
  · obtain ⟨q, p, t, S, F, n, i, rfl, wg, hn, hi, k⟩ := h
    have hu := hu_of hr
    have hr_check_integer : Room 2 _ := hr.mono (by decide)
    obtain ⟨sp, fok, dx, fd, ca, L, as, h1, h2, h3, h4, h5⟩ := id wg
    obtain ⟨g, so, dx2, rd, nm, lv, cr, L0, p1, p2, p3, p4⟩ := id sp
    refine ⟨_, (pss_cons (ps_asg (OW.pe_ownItem (pv 0) (pv 1) Gw ⟨U.wg.m.at_, U.wg.m.fn⟩ U.fnW (hr.mono (by decide)) U.wg.b pass0 (fun _ _ => rfl)) (pg_tup rfl (pgs_cons (pg_name (i := 3) sc_Wiring_after.nd rfl (Or.inl rfl)) (pgs_cons (pg_name (i := 4) sc_Wiring_after.nd rfl (Or.inl rfl)) pgs_nil))))
      (pss_cons (ps_expr (pe_call G_check_integer hr_check_integer rfl T.m_check_integer T.F_check_integer.kp T.b_check_integer .nil pass0 (pa_cons (pv 2) pa_nil)))
      (pss_cons (ps_set (i := 5) sc_Wiring_after.nd rfl (Or.inl rfl) (pe_op op_sub (pe_op op_add (pe_ix ix_seq (OW.pe_ownItem (pe_fld (pv 0) rfl) (pv 1) Gg ⟨U.mi.m.at_, U.mi.m.fn⟩ U.fn (hr.mono (by decide)) U.mi.b pass0 (fun _ _ => rfl)) pe_int (fun _ _ => rfl)) (pv 4)) (pe_ix ix_seq (OW.pe_ownItem (pe_fld (pv 0) rfl) (pv 3) Gg ⟨U.mi.m.at_, U.mi.m.fn⟩ U.fn (hr.mono (by decide)) U.mi.b pass0 (fun _ _ => rfl)) pe_int (fun _ _ => rfl))))
      (pss_one (ps_ret (pe_tup (pa_cons (pv 3) (pa_cons (pe_op op_add (pv 2) (pe_op op_fdivW (pv 5) (pe_prop (pe_fld (pv 0) rfl) U.cl U.pi.pr Gi (hr.mono (by decide)) U.pi.b .nil pass0 rfl))) pa_nil)))))))), ?_⟩
    refine ⟨_, rfl, _, rfl, q, dx, _, rfl, h1, q, p, t, S, F, n, rfl, wg, hn, fun a ha => ?_⟩
    refine ⟨a, _, rfl, SqT.of ha, rfl, _, _, rfl, _, _, rfl, rfl, ?_⟩
    refine ⟨_, rfl, i, rfl, hi, ?_⟩
    have hm : nxt F n ∈ S.map (·.1) := fok.to (fok.in g hn)
    refine ⟨_, rfl, q, U.D, dx, _, .ref p, rfl, h1, U.clD, U.k1, rfl, _, rfl, p, dx2, _, rfl, p1, p, t, S, n, _, _, rfl, sp, spn_in g.nd hn, fun a1 e1 => ?_⟩
    refine .inr (.inl ⟨_, _, _, _, rfl, rfl, SqT.of e1, rfl, _, rfl, _, _, rfl, rfl, ?_⟩)
    refine ⟨_, rfl, q, U.D, dx, _, .ref p, rfl, h1, U.clD, U.k1, rfl, _, rfl, p, dx2, _, rfl, p1, p, t, S, nxt F n, _, _, rfl, sp, spn_in g.nd hm, fun a2 e2 => ?_⟩
    refine .inr (.inl ⟨_, _, _, _, rfl, rfl, SqT.of e2, rfl, _, _, rfl, rfl, ?_⟩)
    have t1 := g.t1
    have t2 := g.t2
    refine ⟨_, rfl, _, rfl, _, rfl, _, rfl, q, U.D, dx, _, .ref p, rfl, h1, U.clD, U.k1, rfl, p, dx2, _, rfl, p1, p, dx2, _, .int t, rfl, p1, rfl, _, _, rfl, rfl, ⟨by omega, Nat.lt_of_le_of_lt (Nat.log2_le_self _) (by omega)⟩, _, _, rfl, rfl, by show 2 ≤ sizeLine; decide, fun r hr => ?_⟩
    exact k r _ (Same.new hr) upd_same
def sp_wfol (C D : Addr) : Sp := fun vs H Q _ => ∃ (q p : Addr) (t : Int) (S : Rws) (F : Flw), vs = [.ref q] ∧ WgAt H C D q p t S F ∧ ∀ a L, H a = none → FTs H L (ordF S F) → Q (.ref a) (upd H a (.dK (Kvs L)))
theorem ok_wfol (T : T K mg) (U : UX K mg) : FnOk P w K mg base CX0 1 U.pf.g U.pf.d ["self"] (sp_wfol U.C U.D) := by
  refine U.pf.F.ok sc_Wiring_follows (fun vs H Q E h => ?_) (fun cdv A outer s H vs Q E hr h => ?_)
  · obtain ⟨q, p, t, S, F, rfl, _⟩ := h
    rfl
  · obtain ⟨q, p, t, S, F, rfl, wg, k⟩ := h
    have hu := hu_of hr
    obtain ⟨sp, fok, dx, fd, ca, L, as, h1, h2, h3, h4, h5⟩ := id wg
    refine ⟨_, (pss_one (ps_ret (pe_callTy call_dictD (by rfl) T.z_dict (by decide +kernel) (pa_cons (pe_fld (pv 0) rfl) pa_nil)))), ?_⟩
    exact ⟨_, rfl, q, U.D, dx, _, .ref fd, rfl, h1, U.clD, U.k2, rfl, fd, Kvs L, rfl, .inl h2, fun a ha => k a L ha h3⟩
end
end K44
namespace K44
open PySem L2
open PyProof.Rows PySem.Spec
theorem spn_srd {t : Int} {R S : Rws} (g : Good t S) (srd : Srd R S) {n : Str} {b e : Int} (h : (n, b, e) ∈ R) : spn S n = (b, e) := spn_at g.nd (srd.pm.mem_iff.mpr h)
theorem tups_fts {H : Hp} {L0 L : List (Str × Addr)} {R : Rws} {F : Flw} (a : Tups H L0 R) (b : FTs H L F) (h : 1 ≤ R.length) : Kvs L0 ≠ Kvs L := fun e => by
  have e2 : L0 = L := by
    unfold Kvs at e
    have : ∀ {A B : List (Str × Addr)}, (A.map fun p => ((Sum.inr p.1 : Key), V.ref p.2)) = (B.map fun p => ((Sum.inr p.1 : Key), V.ref p.2)) → A = B := by
      intro A
      induction A with
      | nil => intro B z; cases B with
        | nil => rfl
        | cons _ _ => cases z
      | cons x A ih => intro B z; cases B with
        | nil => cases z
        | cons y B =>
          rw [List.map_cons, List.map_cons] at z
          injection z with z1 z2
          injection z1 with z3 z4
          injection z3 with z3
          injection z4 with z4
          rw [ih z2, show x = y from Prod.ext z3 z4]
    exact this e
  subst e2
  cases a with
  | nil => exact absurd h (by decide)
  | cons h1 _ => cases b with
    | cons h2 _ => 
      unfold FAt at h2
      rw [show _ = _ from h1] at h2
      cases h2
section
variable {P : Program} {w : World} {K : PySem.W.Frag}
                                                      {mg : Str → Option Value} {base : Heap}
def sp_w_size (K : PySem.W.Frag) : Sp := fun vs H Q _ => ∃ (r d : Addr) (t : Int) (R S : Rws) (L0 L : List (Str × Addr)) (F : Flw), vs = [.ref r, .int t, .ref d, .ref r] ∧ H r = some (.dK (Kvs L0)) ∧ Tups H L0 R ∧ Srd R S ∧ Good t S ∧ H d = some (.dK (Kvs L)) ∧ FTs H L F ∧ FOk t S F ∧ ∀ H', Same H H' → Q (.int (sizeV S t F (R.map (·.1)))) H'
theorem ok_w_size (T : T K mg) : FnOk P w K mg base CX0 2 T.f_w_size T.d_w_size ["rows", "interval", "follows", "names"] (sp_w_size K) := by
  refine T.F_w_size.ok sc_w_size (fun vs H Q E h => ?_) (fun cdv A outer s H vs Q E hr h => ?_)
  · obtain ⟨r, d, t, R, S, L0, L, F, rfl, _⟩ := h
    rfl
  · obtain ⟨r, d, t, R, S, L0, L, F, rfl, hr0, ts, srd, g, hd, fts, fok, k⟩ := h
    have hu := hu_of hr
    refine ⟨_, (pss_one (ps_ret (pe_op op_fdivW (pe_callB (cr_sum rfl) (by rfl) T.z_sum (by decide +kernel) (pa_cons (pe_lock (pe_lc (own := [("name", 4)]) (g := gName 4) rfl sc_w_size.nd (pi_keys (pv 3)) (blkOk_by (N := ["rows", "interval", "follows", "names", "name"]) (sc := defScope s_w_size) (by decide +kernel)) (fun _ _ _ _ _ => (pg_name (i := 4) sc_w_size.nd rfl (Or.inl rfl))) (fun _ _ _ _ _ => pts_nil) (fun _ _ _ _ _ => (pe_op op_add (pe_op op_sub (pe_ix (r := rIx K) ix_seq (pe_dget (by exact hu) (pv 0) (pv 4) (fun _ _ => rfl)) pe_int (fun _ _ => rfl)) (pe_ix (r := rIx K) ix_seq (pe_dget (by exact hu) (pv 0) (pv 4) (fun _ _ => rfl)) pe_int (fun _ _ => rfl))) (pe_ix (r := rIx K) ix_seq (pe_dget (by exact hu) (pv 2) (pv 4) (fun _ _ => rfl)) pe_int (fun _ _ => rfl)))))) pa_nil)) (pv 1)))), ?_⟩
    have lR := srd.pm.length_eq
    have g1 := g.l1
    have g8 := g.l8
    have ndr : d ≠ r := fun z => by
      rw [z, hr0] at hd
      injection hd with hd
      injection hd with hd
      exact tups_fts ts fts (by omega) hd
    refine ⟨r, _, hr0, True.intro, fun od => ?_⟩
    have lk : (upd H r (.frz od (.dK (Kvs L0)))) r = some (.frz od (.dK (Kvs L0))) := upd_same
    have ktl : KT H (upd H r (.frz od (.dK (Kvs L0)))) := KT.put hr0 (fun _ z => by cases z)
    have hdl : (upd H r (.frz od (.dK (Kvs L0)))) d = some (.dK (Kvs L)) := (upd_ne ndr).trans hd
    refine ⟨_, rfl, r, od, rfl, .inl ⟨Kvs L0, lk, fun G hG => ?_⟩⟩
    have nG : G ≠ r := fun z => by rw [z, upd_same] at hG; cases hG
    refine lc_it walk_keys (fun i H' => Same (upd H r (.frz od (.dK (Kvs L0)))) H' ∧ H' G = some (.lst ((((R.map (·.1)).take i).map fun n => lw S F n).map V.int))) ⟨Same.new hG, upd_same⟩ (fun i H' _ h => h.1 _ _ lk) ?_ ?_
    · rintro i x Ha Hb hi ⟨Sa, eG⟩ ⟨rfl, kk, vv, ek, rfl⟩
      obtain ⟨n, u, b, e, hvv, er, htu, el⟩ := tups_at (ts.keep (KT.trans ktl (KT.same Sa))) i vv (by rw [ek]; rfl)
      subst hvv
      have ekk : kk = Sum.inr n := by
        unfold Kvs at ek
        rw [List.getElem?_map, el] at ek
        exact (Prod.mk.inj (Option.some.inj ek)).1.symm
      subst ekk
      have hm := List.mem_of_getElem? er
      have hnS : n ∈ S.map (·.1) := (srd.pm.map (·.1)).mem_iff.mpr (List.mem_map.mpr ⟨_, hm, rfl⟩)
      have ndR : (R.map (·.1)).Nodup := (srd.pm.map (·.1)).nodup_iff.mp g.nd
      have hv : valV (Kvs L0) (.inr n) = some (.ref u) := valV_self (by rw [ts.names]; exact ndR) (.inr n, .ref u) (List.mem_of_getElem? ek)
      have dr : DGet Hb r (.str n) (some (.ref u)) := .inl ⟨Kvs L0, .inr n, .inr ⟨od, Sa _ _ lk⟩, rfl, hv.symm⟩
      obtain ⟨a, va, ha, hm2⟩ := (fts.keep (KT.trans ktl (KT.same Sa))).get (fok.at hnS)
      have dg : DGet Hb d (.str n) (some (.ref a)) := by
        have := DGet.k (k := Sum.inr n) (Sa _ _ hdl)
        rw [va] at this
        exact this
      have es := spn_srd g srd hm
      refine ⟨rfl, ?_⟩
      unfold tYes
      dsimp only
      rw [if_pos rfl]
      refine ⟨_, rfl, _, rfl, r, _, rfl, dr, .inr (.inl ⟨_, _, _, _, rfl, rfl, SqT.of htu, rfl, ?_⟩)⟩
      refine ⟨_, rfl, _, rfl, r, _, rfl, dr, .inr (.inl ⟨_, _, _, _, rfl, rfl, SqT.of htu, rfl, _, _, rfl, rfl, ?_⟩)⟩
      refine ⟨_, rfl, _, rfl, d, _, rfl, dg, .inr (.inl ⟨_, _, _, _, rfl, rfl, SqT.of ha, rfl, _, _, rfl, rfl, ?_⟩)⟩
      have jl : i < R.length := (List.getElem?_eq_some_iff.mp er).1
      refine ⟨_, eG, by rw [List.length_map, List.length_map, List.length_take, List.length_map, sizeLine_eq]; omega, Same.at hG Sa, ?_⟩
      rw [upd_same, List.take_add_one, List.getElem?_map, er]
      have el2 : lw S F n = e - b + (fol F n).2 := by unfold lw; rw [es]
      simp [el2]
    · rintro Ha ⟨Sa, eG⟩
      refine ⟨Sa _ _ lk, ?_⟩
      have SH := same_lock hr0 Sa
      rw [kvs_len, ts.len, List.take_of_length_le (by rw [List.length_map]; exact Nat.le_refl _)] at eG
      have t1 := g.t1
      have t2 := g.t2
      exact ⟨G, _, rfl, SqL.of ((upd_ne nG).trans eG), _, rfl, _, _, rfl, rfl, ⟨by omega, Nat.lt_of_le_of_lt (Nat.log2_le_self _) (by omega)⟩, k _ SH⟩
end
end K44
namespace K44
open PySem L2
open PyProof.Rows PySem.Spec
theorem in_turns {t b e i v : Int} (h : 0 < t) : (b ≤ i - t * v ∧ i - t * v < e) ↔ ((i - e) / t < v ∧ v ≤ (i - b) / t) := by
  rw [Int.le_ediv_iff_mul_le h, Int.ediv_lt_iff_lt_mul h, Int.mul_comm v t]
  omega
/-- the turns up to some place of a range -/
def kT (lo q2 q1 : Int) (j : Nat) : Nat := (min (lo + (j : Int) - 1 - q2) (q1 - q2)).toNat
theorem kT_in {lo q2 q1 : Int} {j : Nat} (h1 : q2 < lo + j) (h2 : lo + j ≤ q1) : kT lo q2 q1 (j + 1) = kT lo q2 q1 j + 1 := by
  unfold kT
  omega
theorem kT_out {lo q2 q1 : Int} {j : Nat} (h : ¬(q2 < lo + j ∧ lo + j ≤ q1)) (h0 : q2 ≤ q1) : kT lo q2 q1 (j + 1) = kT lo q2 q1 j := by
  unfold kT
  omega
/-- how often a value is alive in a tick -/
def alR (t τ : Int) (r : Str × Int × Int) : Int := (τ - r.2.1) / t - (τ - r.2.2) / t
def aSum (t τ : Int) (R : Rws) : Int := (R.map (alR t τ)).sum
section
variable {P : Program} {w : World} {K : PySem.W.Frag}
                                                      {mg : Str → Option Value} {base : Heap}
def sp_w_alive (K : PySem.W.Frag) : Sp := fun vs H Q _ => ∃ (d : Addr) (L : List (Str × Addr)) (R : Rws) (t i : Int), vs = [.ref d, .int t, .int i] ∧ H d = some (.dK (Kvs L)) ∧ Tups H L R ∧ Good t R ∧ (∀ x ∈ R, Fin1 t x) ∧ (0 ≤ i ∧ i < t) ∧
  ∀ H', Same H H' → Q (.int (aSum t i R)) H'
theorem ok_w_alive (T : T K mg) : FnOk P w K mg base CX0 1 T.f_w_alive T.d_w_alive ["rows", "interval", "tick"] (sp_w_alive K) := by
  refine T.F_w_alive.ok sc_w_alive (fun vs H Q E h => ?_) (fun cdv A outer s H vs Q E hr h => ?_)
  · obtain ⟨d, L, R, t, i, rfl, _⟩ := h
    rfl
  · obtain ⟨d, L, R, t, i, rfl, hd, ts, g, fin, hi, k⟩ := h
    have hu := hu_of hr
    refine ⟨_, PSs.nox (pss_cons (ps_set (i := 3) sc_w_alive.nd rfl (Or.inl rfl) pe_int)
      (pss_cons (ps_lock (ps_for PassesOwn.never rfl (pi_keys (pv 0)) (pg_name (i := 4) sc_w_alive.nd rfl (Or.inl rfl))
      (pss_cons (ps_asg (pe_dget (by exact hu) (pv 0) (pv 4) (fun _ _ => rfl)) (pg_tup rfl (pgs_cons (pg_name (i := 5) sc_w_alive.nd rfl (Or.inr rfl)) (pgs_cons (pg_name (i := 6) sc_w_alive.nd rfl (Or.inr rfl)) pgs_nil))))
      (pss_one (ps_set (i := 3) sc_w_alive.nd rfl (Or.inl rfl) (pe_op op_add (pv 3) (pe_callB call_len_seq (by rfl) T.z_len (by decide +kernel) (pa_cons (pe_lc (own := [("turn", 7)]) (g := gName 7) rfl sc_w_alive.nd (pi_range2 (by rfl) T.z_range (pa_cons (pe_un un_neg pe_int) (pa_cons pe_int pa_nil))) (blkOk_by (N := ["rows", "interval", "tick", "found", "name", "begin", "end", "turn"]) (sc := defScope s_w_alive) (by decide +kernel)) (fun _ _ _ _ _ => (pg_name (i := 7) sc_w_alive.nd rfl (Or.inl rfl))) (fun _ _ _ _ _ => pts_one (pt_chain op_le op_lt (pv 5) (pe_op op_sub (pv 2) (pe_op op_mul (pv 1) (pv 7))) (pv 6))) (fun _ _ _ _ _ => (pv 7))) pa_nil))))))))
      (pss_one (ps_ret (pv 3))))), ?_⟩
    have t1 := g.t1
    have t2 := g.t2
    refine ⟨d, _, hd, True.intro, fun od => ?_⟩
    have lk : (upd H d (.frz od (.dK (Kvs L)))) d = some (.frz od (.dK (Kvs L))) := upd_same
    have ktl : KT H (upd H d (.frz od (.dK (Kvs L)))) := KT.put hd (fun _ z => by cases z)
    refine ⟨_, rfl, d, od, rfl, .inl ⟨Kvs L, lk, ?_⟩⟩
    refine for_it walk_keys (fun j σ H' => Same (upd H d (.frz od (.dK (Kvs L)))) H' ∧ ∃ v4 v5 v6 v7, σ = [some (.ref d), some (.int t), some (.int i), some (.int (aSum t i (R.take j))), v4, v5, v6, v7]) ⟨fun _ _ e => e, none, none, none, none, rfl⟩ (fun j σ H' _ h => h.1 _ _ lk) ?_ ?_
    · rintro j x σ Ha Hb hj ⟨Sa, v4, v5, v6, v7, rfl⟩ ⟨rfl, kk, vv, ek, rfl⟩
      obtain ⟨n, u, b, e, hvv, er, htu, el⟩ := tups_at (ts.keep (KT.trans ktl (KT.same Sa))) j vv (by rw [ek]; rfl)
      subst hvv
      have ekk : kk = Sum.inr n := by
        unfold Kvs at ek
        rw [List.getElem?_map, el] at ek
        exact (Prod.mk.inj (Option.some.inj ek)).1.symm
      subst ekk
      have hm := List.mem_of_getElem? er
      have g1 := fin _ hm
      have g2 := g.sp _ hm
      unfold Fin1 Near at g1
      unfold SpOk at g2
      simp only at g1 g2
      have q1 : (i - b) / t ≤ 8 := Int.ediv_le_of_le_mul (by omega) (by omega)
      have q2 : -15 ≤ (i - e) / t := Int.le_ediv_of_mul_le (by omega) (by omega)
      have qq : (i - e) / t ≤ (i - b) / t := Int.ediv_le_ediv (by omega) (by omega)
      have hv : valV (Kvs L) (.inr n) = some (.ref u) := valV_self (by rw [ts.names]; exact g.nd) (.inr n, .ref u) (List.mem_of_getElem? ek)
      refine ⟨_, rfl, _, rfl, d, V.ref u, rfl, ?_, u, _, rfl, SqT.of htu, rfl, _, _, rfl, _, _, rfl, rfl, ?_⟩
      · exact .inl ⟨Kvs L, .inr n, .inr ⟨od, Sa _ _ lk⟩, rfl, hv.symm⟩
      refine ⟨_, rfl, _, rfl, _, _, rfl, ⟨by omega, by omega, by omega, by omega⟩, fun G hG => ?_⟩
      refine lc_range (lo := -16) (vs := [7]) (n := 28) (fun j2 H' => Same Hb H' ∧ ∃ xs, H' G = some (.lst xs) ∧ xs.length = kT (-16) ((i - e) / t) ((i - b) / t) j2) ⟨Same.new hG, [], upd_same, by unfold kT; simp; omega⟩ ?_ ?_
      · rintro j2 Hd hj2 ⟨Sd, xs, eG, lx⟩
        refine ⟨rfl, ?_⟩
        have iff := in_turns (t := t) (b := b) (e := e) (i := i) (v := -16 + (j2 : Int)) (by omega)
        have fin2 : ∀ {c : Bool}, (c = true ↔ ((i - e) / t < -16 + (j2 : Int) ∧ -16 + (j2 : Int) ≤ (i - b) / t)) → if c = true then (∃ v, (some (some (V.int (-16 + (j2 : Int)))) : Option (Option V)) = some (some v) ∧ ∃ acc, Hd G = some (.lst acc) ∧ acc.length < sizeLine ∧ (Same Hb (upd Hd G (.lst (acc ++ [v]))) ∧ ∃ xs, (upd Hd G (.lst (acc ++ [v]))) G = some (.lst xs) ∧ xs.length = kT (-16) ((i - e) / t) ((i - b) / t) (j2 + 1))) else (Same Hb Hd ∧ ∃ xs, Hd G = some (.lst xs) ∧ xs.length = kT (-16) ((i - e) / t) ((i - b) / t) (j2 + 1)) := by
          intro c hc
          by_cases h : (i - e) / t < -16 + (j2 : Int) ∧ -16 + (j2 : Int) ≤ (i - b) / t
          · have z1 := kT_in h.1 h.2
            rw [if_pos (hc.mpr h)]
            refine ⟨_, rfl, _, eG, ?_, Same.at hG Sd, _, upd_same, by rw [List.length_append, List.length_singleton, lx, z1]⟩
            rw [lx, sizeLine_eq]
            unfold kT
            omega
          · rw [if_neg (fun z => h (hc.mp z)), kT_out h qq]
            exact ⟨Sd, xs, eG, lx⟩
        refine ⟨_, rfl, _, rfl, _, rfl, _, rfl, _, _, rfl, rfl, ?_, _, _, rfl, rfl, _, _, rfl, rfl, _, rfl, ?_⟩
        · exact .inl ⟨by omega, by omega⟩
        by_cases hb : b ≤ i - t * (-16 + (j2 : Int))
        · rw [if_pos (decide_eq_true hb)]
          refine ⟨_, rfl, _, _, rfl, rfl, _, rfl, ?_⟩
          exact fin2 ⟨fun z => iff.mp ⟨hb, of_decide_eq_true z⟩, fun z => decide_eq_true (iff.mpr z).2⟩
        · rw [if_neg (by rw [decide_eq_false hb]; exact Bool.false_ne_true)]
          refine ⟨_, rfl, ?_⟩
          exact fin2 ⟨fun z => (by cases z), fun z => absurd (iff.mpr z).1 hb⟩
      · rintro Hd ⟨Sd, xs, eG, lx⟩
        have ek2 : ((kT (-16) ((i - e) / t) ((i - b) / t) 28 : Nat) : Int) = (i - b) / t - (i - e) / t := by unfold kT; omega
        refine ⟨G, xs, rfl, .inl (SqL.of eG), _, _, rfl, rfl, ?_⟩
        have es : aSum t i (R.take (j + 1)) = aSum t i (R.take j) + (xs.length : Nat) := by
          unfold aSum
          rw [List.take_add_one, er, List.map_append, List.sum_append, lx, ek2]
          show _ + List.sum [alR t i (n, b, e)] = _
          rw [List.sum_cons, List.sum_nil, Int.add_zero]
          rfl
        refine ⟨Same.trans Sa Sd, some (.str n), some (.int b), some (.int e), v7, ?_⟩
        rw [es]
        rfl
    · rintro σ H' ⟨Sa, v4, v5, v6, v7, rfl⟩
      rw [kvs_len, ts.len, List.take_length]
      exact ⟨Sa _ _ lk, _, rfl, k _ (same_lock hd Sa)⟩
end
end K44
namespace K44
open PySem L2
open PyProof.Rows PySem.Spec
/-- a dict of names by its values -/
def Gvs (M : List (Str × V)) : List (Key × V) := M.map fun q => (Sum.inr q.1, q.2)
theorem kvs_gvs (L : List (Str × Addr)) : Kvs L = Gvs (L.map fun p => (p.1, V.ref p.2)) := by
  unfold Kvs Gvs
  rw [List.map_map]
  rfl
theorem gvs_keys (M : List (Str × V)) : (Gvs M).map (·.1) = (M.map (·.1)).map Sum.inr := by
  unfold Gvs
  rw [List.map_map, List.map_map]
  rfl
theorem gvs_len (M : List (Str × V)) : (Gvs M).length = M.length := List.length_map ..
theorem valV_gvs_none {M : List (Str × V)} {n : Str} (h : n ∉ M.map (·.1)) : valV (Gvs M) (.inr n) = none := by
  cases e : valV (Gvs M) (.inr n) with
  | none => rfl
  | some v =>
    refine absurd ?_ h
    have := valV_in e
    unfold Gvs at this
    rw [List.map_map] at this
    obtain ⟨p, hp, q⟩ := List.mem_map.mp this
    exact List.mem_map.mpr ⟨p, hp, Sum.inr.inj q⟩
theorem putK_gvs {M : List (Str × V)} {n : Str} {v : V} (h : n ∉ M.map (·.1)) : putK (Gvs M) (.inr n) v = Gvs (M ++ [(n, v)]) := by
  rw [putK_new _ (valV_gvs_none h)]
  unfold Gvs
  rw [List.map_append]
  rfl
theorem mergeK_gvs : ∀ (M L : List (Str × V)), ((L ++ M).map (·.1)).Nodup → mergeK (Gvs L) (Gvs M) = Gvs (L ++ M)
  | [], L, _ => by rw [List.append_nil]; rfl
  | (n, t) :: M, L, nd => by
    have hn : n ∉ L.map (·.1) := fun h => by
      rw [List.map_append, List.map_cons] at nd
      have := (List.nodup_append.mp nd).2.2 n h n List.mem_cons_self
      exact this rfl
    have e : mergeK (Gvs L) (Gvs ((n, t) :: M)) = mergeK (putK (Gvs L) (.inr n) t) (Gvs M) := rfl
    rw [e, putK_gvs hn, mergeK_gvs M (L ++ [(n, t)]) (by rw [List.append_assoc]; exact nd), List.append_assoc]
    rfl
theorem valV_gvs : ∀ {M : List (Str × V)} {n : Str} {v : V}, (M.map (·.1)).Nodup → (n, v) ∈ M → valV (Gvs M) (.inr n) = some v
  | [], _, _, _, h => by cases h
  | (m, u) :: M, n, v, nd, h => by
    rw [List.map_cons, List.nodup_cons] at nd
    rcases List.mem_cons.mp h with h | h
    · cases h
      exact valV_pos (p := ((Sum.inr m : Key), u)) rfl
    · refine (valV_neg (p := ((Sum.inr m : Key), u)) (fun z => nd.1 ?_)).trans (valV_gvs nd.2 h)
      rw [Sum.inr.inj z]
      exact List.mem_map.mpr ⟨_, h, rfl⟩
/-- pairs (name, value) -/
def PairsG (H : Hp) (ps : List Addr) (M : List (Str × V)) : Prop := Paired (fun p q => H p = some (.tup [.str q.1, q.2])) ps M
theorem PairsG.keep {H H' : Hp} (k : KT H H') {ps : List Addr} {M : List (Str × V)} (h : PairsG H ps M) : PairsG H' ps M := by
  unfold PairsG at h ⊢
  induction h with
  | nil => exact .nil
  | cons a b ih => exact .cons (k _ _ a) ih
theorem PairsG.snoc {H : Hp} {ps : List Addr} {M : List (Str × V)} (h : PairsG H ps M) {p : Addr} {n : Str} {v : V} (q : H p = some (.tup [.str n, v])) : PairsG H (ps ++ [p]) (M ++ [(n, v)]) := by
  unfold PairsG at h ⊢
  induction h with
  | nil => exact .cons q .nil
  | cons a b ih => exact .cons a ih
theorem PairsG.len {H : Hp} {ps : List Addr} {M : List (Str × V)} (h : PairsG H ps M) : ps.length = M.length := by
  unfold PairsG at h
  induction h with
  | nil => rfl
  | cons a b ih => rw [List.length_cons, List.length_cons, ih]
theorem PairsG.pd {K : PySem.W.Frag} {H : Hp} {ps : List Addr} {M : List (Str × V)} (h : PairsG H ps M) : Paired (fun p kv => SqT K H p [kV kv.1, kv.2]) ps (Gvs M) := by
  unfold PairsG at h
  induction h with
  | nil => exact .nil
  | cons a b ih => exact .cons (SqT.of a) ih
/-- a comprehension of pairs (name, value) -/
theorem lc_pairs {J : It} {G : Hp → Prop} {Y : Nat → Hp → V → Hp → Prop} {ns : List Str} (w : Walk J ns.length G Y) {g : TG} {tt : TT} {te : TE} {vs : List Nat} {σ : L2.St} {H1 : Hp} {D : Addr} {Qd : Hp → Prop} (gv : Str → V)
    (hY : ∀ i H x H', Y i H x H' → H' = H ∧ ∃ n, ns[i]? = some n ∧ x = .str n) (hG : ∀ H', Same H1 H' → G H') (h63 : ns.length ≤ 63) (hD : H1 D = none)
    (hs : ∀ n H', n ∈ ns → Same H1 H' → ∀ (C : VK) (N : Hp → Prop), (∀ q, H' q = none → C (.ref q) (upd H' q (.tup [.str n, gv n]))) → g (.str n) (wipe σ vs) H' fun σ2 H2 => wipe σ2 vs = wipe σ vs ∧ tt σ2 H2 fun b H3 => if b = true then te σ2 H3 C else N H3)
    (hd : ∀ H' ps, Same H1 H' → H' D = some (.lst (ps.map V.ref)) → PairsG H' ps (ns.map fun n => (n, gv n)) → Qd H') :
    ∃ W : Nat → Nat → Hp → Prop, (∃ m, W 0 m
                                             (upd H1 D (.lst []))) ∧ ∀ i m H, W i m H →
      (J.stop i H ∧ Qd H) ∨ (J.go i H ∧ ∃ Nx : Hp → Prop, (∀ H', Nx H' → ∃ m', m' < m ∧ W
                                                                                          (i + 1) m' H') ∧ ∀ x H', J.yld i H x H' → g x (wipe σ vs) H' fun σ2 H2 => wipe σ2 vs = wipe σ vs ∧ tt σ2 H2 fun b H3 =>
        if b = true then te σ2 H3 fun y H4 => ∃ acc, H4 D = some
                                                                 (.lst acc) ∧ acc.length < sizeLine ∧ Nx (upd H4 D (.lst (acc ++ [y]))) else Nx H3) := by
  refine lc_it w (fun i H' => Same H1 H' ∧ ∃ ps : List Addr, H' D = some (.lst (ps.map V.ref)) ∧ PairsG H' ps ((ns.take i).map fun n => (n, gv n))) ⟨Same.new hD, [], upd_same, .nil⟩ (fun i H' _ h => hG H' h.1) ?_ (fun H' h => by
    obtain ⟨S, ps, e, pg⟩ := h
    rw [List.take_length] at pg
    exact hd H' ps S e pg)
  rintro i x Ha Hb hi ⟨Sa, ps, eD, pg⟩ hy
  obtain ⟨rfl, n, hn, rfl⟩ := hY _ _ _ _ hy
  refine hs n _ (List.mem_of_getElem? hn) Sa _ _ fun q hq => ?_
  have nDq : D ≠ q := ne_of_none eD hq
  have lp := pg.len
  rw [List.length_map, List.length_take] at lp
  refine ⟨ps.map V.ref, by rw [upd_ne nDq]; exact eD, by rw [List.length_map, sizeLine_eq]; omega, Same.at hD (Same.trans Sa (Same.new hq)), ps ++ [q], by rw [upd_same, List.map_append]; rfl, ?_⟩
  rw [List.take_add_one, hn, Option.toList_some, List.map_append]
  have kt : KT Hb (upd (upd Hb q (.tup [.str n, gv n])) D (.lst (ps.map V.ref ++ [.ref q]))) := KT.trans (KT.new hq) (KT.put (u := .lst (ps.map V.ref)) (by rw [upd_ne nDq]; exact eD) (fun _ z => by cases z))
  exact (pg.keep kt).snoc (by rw [upd_ne nDq.symm, upd_same])
theorem yat_str {ns : List Str} : ∀ i H x H', YAt (ns.map V.str) i H x H' → H' = H ∧ ∃ n, ns[i]? = some n ∧ x = .str n := by
  rintro i H x H' ⟨rfl, hx⟩
  rw [List.getElem?_map] at hx
  cases e : ns[i]? with
  | none => rw [e] at hx; cases hx
  | some n =>
    rw [e] at hx
    exact ⟨rfl, n, rfl, (Option.some.inj hx).symm⟩
end K44
namespace K44
open PySem L2
open PyProof.Rows PySem.Spec
/-- a tuple (int, text) by its place -/
abbrev IS := Addr × Int × Str
def encIS (b : IS) : PyData := .tuple [.int b.2.1, .str b.2.2]
theorem each_refs : ∀ {bs : List IS} {us : List Value}, Vals (bs.map fun b => V.ref b.1) us → PySem.W.EachIs (fun v (b : IS) => v = Value.ref b.1) us bs
  | [], _, r => by cases r; exact .nil
  | b :: bs, _, r => by
    cases r with
    | cons r t => exact .cons r (each_refs t)
theorem refs_each : ∀ {bs : List IS} {us : List Value}, PySem.W.EachIs (fun v (b : IS) => v = Value.ref b.1) us bs → Vals (bs.map fun b => V.ref b.1) us
  | _, _, .nil => .nil
  | _, _, .cons r t => .cons r (refs_each t)
theorem each_with {R R' : Value → IS → Prop} : ∀ {us : List Value} {bs : List IS}, PySem.W.EachIs R us bs → (∀ v, ∀ b ∈ bs, R v b → R' v b) → PySem.W.EachIs R' us bs
  | _, _, .nil, _ => .nil
  | _, _, .cons r t, h => .cons (h _ _ List.mem_cons_self r) (each_with t fun v b hb => h v b (List.mem_cons_of_mem _ hb))
section
variable {X : Cx}
/-- sorted(xs), xs a list of tuples (int, text) -/
def rSortIS (K : PySem.W.Frag) : List V → Hp → VK → Prop := fun vs H Q => ∃ (a : Addr) (bs : List IS), vs = [V.ref a] ∧ SqL K H a (bs.map fun b => V.ref b.1) ∧ (∀ b ∈ bs, H b.1 = some (.tup [.int b.2.1, .str b.2.2])) ∧ bs.length < 64 ∧
  ∀ p, H p = none → Q (.ref p) (upd H p (.lst ((bs.mergeSort (PySem.W.dataLe false encIS)).map fun b => V.ref b.1)))
theorem cr_sortIS (hu : X.A.units + 64 < cLine) : CallR X (.builtin "sorted") (rSortIS X.K) := by
  intro pins s σ H vs us Q I r h
  obtain ⟨a, bs, rfl, hs, ht, h64, q⟩ := h
  obtain ⟨its, rv, hl, _⟩ := I.list hs
  rw [Vals.ref1 r]
  have e := each_refs rv
  refine PySem.W.sorted_data (R := fun v (b : IS) => v = Value.ref b.1) (enc := encIS) hl.isList e (each_with e fun v b hb ev => ?_) (PySem.W.AllAlike.of fun b b' => ?_) (PySem.W.Sortable.tuples fun b => ⟨_, _, rfl⟩) (small64 h64) (fun b _ => ?_) fun out ho eo => ?_
  · exact Dp.reads I (encIS b) (.ref b.1) v (.tup (SqT.of (ht b hb)) (.cons (.int _) (.cons (.str _) .nil))) ev
  · simp [PySem.W.alike, PySem.W.alikeAll, encIS]
  · have : (encIS b).depth ≤ 2 := by simp [encIS, PyData.depth, PyData.depthAll]
    omega
  · obtain ⟨ep, he'⟩ := PyProof.Rows.sortedAll_at s.heap its out.toArray
    have hlen : ((bs.mergeSort (PySem.W.dataLe false encIS)).map fun b => V.ref b.1).length ≤ sizeLine := by rw [List.length_map, List.length_mergeSort]; exact small64 h64
    exact ⟨.ref _, upd H (s.heap.objs.size + 1) (.lst ((bs.mergeSort (PySem.W.dataLe false encIS)).map fun b => V.ref b.1)), I.laid (t' := s.toks) (fun _ _ => PyProof.Rows.sortedAll_old) (Nat.le_succ _) ⟨hlen, out, ep, refs_each eo, he'⟩, rfl, q _ (I.hok.fresh (Nat.le_succ _))⟩
end
theorem dataLe_is (b c : IS) (h : PySem.W.dataLe false encIS b c = true) : b.2.1 ≤ c.2.1 := by
  rw [PySem.W.dataLe_eq] at h
  have h' : (!PySem.W.dataLt (.tuple [.int c.2.1, .str c.2.2]) (.tuple [.int b.2.1, .str b.2.2])) = true := h
  rw [PySem.W.dataLt_pair (by simp [PySem.W.alike]) (by simp [PySem.W.alike]), PySem.W.dataLt_int] at h'
  rcases Int.lt_or_le c.2.1 b.2.1 with w | w
  · rw [show PyData.eqv (.int c.2.1) (.int b.2.1) = false by simp [PyData.eqv]; omega] at h'
    simp [w] at h'
  · exact w
end K44
namespace K44
open PySem L2
open PyProof.Rows PySem.Spec
/-- the moment behind the first peak -/
def Cut (t : Int) (R : Rws) (c : Int) : Prop := ∃ m : Nat, (m : Int) < t ∧ c = (m : Int) + 1 ∧ (∀ τ : Nat, (τ : Int) < t → aSum t τ R ≤ aSum t m R) ∧ ∀ τ : Nat, τ < m → aSum t τ R ≠ aSum t m R
theorem Cut.eq {t : Int} {R : Rws} {c c' : Int} (h : Cut t R c) (h' : Cut t R c') : c = c' := by
  obtain ⟨m, m1, rfl, m2, m3⟩ := h
  obtain ⟨n, n1, rfl, n2, n3⟩ := h'
  have e : aSum t m R = aSum t n R := by have := m2 n n1; have := n2 m m1; omega
  rcases Nat.lt_trichotomy m n with q | q | q
  · exact absurd e (n3 m q)
  · rw [q]
  · exact absurd e.symm (m3 n q)
theorem first_at {m : Int} : ∀ {l : List Int}, m ∈ l → ∃ j : Nat, l[j]? = some m ∧ ∀ (i : Nat) (z : Int), i < j → l[i]? = some z → z ≠ m
  | a :: l, h => by
    by_cases c : a = m
    · exact ⟨0, by rw [← c]; rfl, fun i z hi _ => absurd hi (Nat.not_lt_zero _)⟩
    · have h2 : m ∈ l := by
        rcases List.mem_cons.mp h with h | h
        · exact absurd h.symm c
        · exact h
      obtain ⟨j, h3, h4⟩ := first_at h2
      refine ⟨j + 1, h3, fun i z hi hz => ?_⟩
      cases i with
      | zero => rw [← Option.some.inj (show some a = some z from hz)]; exact c
      | succ i => exact h4 i z (by omega) hz
def sel (ix : Int) (r : Str × Int × Int) : Int := if ix = 0 then r.2.1 else r.2.2
/-- the places of the beginnings or the ends -/
def plM (t c ix : Int) (R : Rws) : List (Str × V) := R.map fun r => (r.1, V.int ((sel ix r - c) % t))
section
variable {P : Program} {w : World} {K : PySem.W.Frag}
                                                      {mg : Str → Option Value} {base : Heap}
def sp_w_places (K : PySem.W.Frag) : Sp := fun vs H Q _ => ∃ (d : Addr) (L : List (Str × Addr)) (R : Rws) (t ix : Int), vs = [.ref d, .int t, .int ix] ∧ H d = some (.dK (Kvs L)) ∧ Tups H L R ∧ Good t R ∧ (∀ x ∈ R, Fin1 t x) ∧ (ix = 0 ∨ ix = 1) ∧
  ∀ c p H', Cut t R c → Same H H' → H p = none → H' p = some (.dK (Gvs (plM t c ix R))) → Q (.ref p) H'
theorem ok_w_places (T : T K mg) : FnOk P w K mg base CX0 2 T.f_w_places T.d_w_places ["rows", "interval", "index"] (sp_w_places K) := by
  have G_w_alive : FnOk P w K mg base CX0 1 T.f_w_alive T.d_w_alive ["rows", "interval", "tick"] (sp_w_alive K) := ok_w_alive T
  refine T.F_w_places.ok sc_w_places (fun vs H Q E h => ?_) (fun cdv A outer s H vs Q E hr h => ?_)
  · obtain ⟨d, L, R, t, ix, rfl, _⟩ := h
    rfl
  · obtain ⟨d, L, R, t, ix, rfl, hd, ts, g, fin, hix, k⟩ := h
    have hu := hu_of hr
    have hr_w_alive : Room 1 _ := hr.mono (by decide)
    refine ⟨_, (pss_cons (ps_setLc (i := 3) (own := [("tick", 5)]) (g := gName 5) rfl sc_w_places.nd rfl rfl (sw_true rfl rfl rfl (by decide +kernel)) (pi_range1 (by rfl) T.z_range (pa_cons (pv 1) pa_nil)) (blkOk_by (N := ["rows", "interval", "index", "sizes", "cut", "tick", "name"]) (sc := defScope s_w_places) (by decide +kernel)) (fun _ _ _ _ _ => (pg_name (i := 5) sc_w_places.nd rfl (Or.inl rfl))) (fun _ _ _ _ _ => pts_nil) (fun _ _ _ _ _ => (pe_call G_w_alive hr_w_alive rfl T.m_w_alive T.F_w_alive.kp T.b_w_alive .nil pass0 (pa_cons (pv 0) (pa_cons (pv 1) (pa_cons (pv 5) pa_nil))))))
      (pss_cons (ps_set (i := 4) sc_w_places.nd rfl (Or.inr rfl) (pe_op op_add (pe_bm PySem.F.plainAttrs_list PySem.F.slot_list_index PySem.F.type_list_index mt_index (pv 3) (pa_cons (pe_callB (cr_max rfl) (by rfl) T.z_max (by decide +kernel) (pa_cons (pv 3) pa_nil)) pa_nil)) pe_int))
      (pss_one (ps_ret (pe_callTy (call_dictP rfl) (by rfl) T.z_dict (by decide +kernel) (pa_cons (pe_lock (pe_lc (own := [("name", 6)]) (g := gName 6) rfl sc_w_places.nd (pi_keys (pv 0)) (blkOk_by (N := ["rows", "interval", "index", "sizes", "cut", "tick", "name"]) (sc := defScope s_w_places) (by decide +kernel)) (fun _ _ _ _ _ => (pg_name (i := 6) sc_w_places.nd rfl (Or.inl rfl))) (fun _ _ _ _ _ => pts_nil) (fun _ _ _ _ _ => (pe_tup (pa_cons (pv 6) (pa_cons (pe_op op_mod (pe_callTy call_int1 (by rfl) T.z_int (by decide +kernel) (pa_cons (pe_op op_sub (pe_ix (r := rIx K) ix_seq (pe_dget (by exact hu) (pv 0) (pv 6) (fun _ _ => rfl)) (pv 2) (fun _ _ => rfl)) (pv 4)) pa_nil)) (pv 1)) pa_nil)))))) pa_nil)))))), ?_⟩
    have t1 := g.t1
    have t2 := g.t2
    have l8 := g.l8
    refine ⟨_, rfl, t, rfl, by omega, by omega, fun D hD => ?_⟩
    refine lc_range (n := t.toNat) (fun j H' => Same H H' ∧ H' D = some (.lst ((List.range j).map fun (s : Nat) => V.int (aSum t s R)))) ⟨Same.new hD, upd_same⟩ ?_ ?_
    · rintro j Ha hj ⟨Sa, eD⟩
      refine ⟨rfl, ?_⟩
      unfold tYes
      dsimp only
      rw [if_pos rfl]
      refine ⟨_, rfl, _, rfl, _, rfl, d, L, R, t, 0 + (j : Int), rfl, Sa _ _ hd, ts.keep (KT.same Sa), g, fin, ⟨by omega, by omega⟩, fun H2 S2 => ?_⟩
      have e0 : (0 : Int) + (j : Int) = j := Int.zero_add _
      refine ⟨_, S2 _ _ eD, by rw [List.length_map, List.length_range, sizeLine_eq]; omega, Same.at hD (Same.trans Sa S2), ?_⟩
      rw [upd_same, List.range_succ, List.map_append, e0]
      rfl
    rintro H1 ⟨S1, eD⟩
    have sqD : SqL K H1 D (((List.range t.toNat).map fun (s : Nat) => aSum t s R).map V.int) := SqL.of (by rw [eD, List.map_map]; rfl)
    have at_ : ∀ (i : Nat) (z : Int), ((List.range t.toNat).map fun (s : Nat) => aSum t s R)[i]? = some z ↔ i < t.toNat ∧ z = aSum t i R := by
      intro i z
      rw [List.getElem?_map]
      by_cases c : i < t.toNat
      · rw [List.getElem?_range c]
        simp [c, eq_comm]
      · rw [List.getElem?_eq_none (by rw [List.length_range]; omega)]
        simp [c]
    refine ⟨_, rfl, .inl ⟨rfl, _, sqD⟩, _, rfl, D, _, rfl, sqD, by rw [List.length_map, List.length_range]; omega, fun mx hmx hle => ?_⟩
    obtain ⟨j, hj, hfirst⟩ := first_at hmx
    obtain ⟨jt, ej⟩ := (at_ j mx).mp hj
    refine ⟨D, _, .int mx, j, .int mx, rfl, rfl, sqD, rfl, List.all_eq_true.mpr fun x hx => (by obtain ⟨_, _, rfl⟩ := List.mem_map.mp hx; rfl), by rw [List.getElem?_map, hj]; rfl, by show (mx == mx) = true; simp, fun i z' hi hz => ?_, ?_⟩
    · rw [List.getElem?_map] at hz
      cases e : ((List.range t.toNat).map fun (s : Nat) => aSum t s R)[i]? with
      | none => rw [e] at hz; cases hz
      | some z =>
        rw [e] at hz
        cases hz
        show (z == mx) = false
        simpa using hfirst i z hi e
    have cut : Cut t R ((j : Int) + 1) := by
      refine ⟨j, by omega, rfl, fun τ hτ => ?_, fun τ hτ => ?_⟩
      · rw [← ej]
        exact hle _ (List.mem_iff_getElem?.mpr ⟨τ, (at_ τ _).mpr ⟨by omega, rfl⟩⟩)
      · rw [← ej]
        exact hfirst τ _ hτ ((at_ τ _).mpr ⟨by omega, rfl⟩)
    refine ⟨_, _, rfl, rfl, ?_⟩
    have hd1 := S1 _ _ hd
    have ts1 := ts.keep (KT.same S1)
    refine ⟨d, _, hd1, True.intro, fun od => ?_⟩
    have lk : (upd H1 d (.frz od (.dK (Kvs L)))) d = some (.frz od (.dK (Kvs L))) := upd_same
    have ktl : KT H1 (upd H1 d (.frz od (.dK (Kvs L)))) := KT.put hd1 (fun _ z => by cases z)
    refine ⟨_, rfl, d, od, rfl, .inl ⟨Kvs L, lk, fun G hG => ?_⟩⟩
    have nGd : G ≠ d := fun z => by rw [z, upd_same] at hG; cases hG
    have lw : (Kvs L).length = (L.map (·.1)).length := by rw [kvs_len, List.length_map]
    have W := walk_keys (d := d) (o := od) (kvs := Kvs L)
    rw [lw] at W
    refine lc_pairs (ns := L.map (·.1)) W (fun n => V.int ((sel ix (n, spn R n) - ((j : Int) + 1)) % t)) ?_ (fun H' s => s _ _ lk) (by rw [List.length_map, ts.len]; omega) hG ?_ ?_
    · rintro i Ha x Hb ⟨rfl, kk, vv, ek, rfl⟩
      refine ⟨rfl, ?_⟩
      unfold Kvs at ek
      rw [List.getElem?_map] at ek
      rw [List.getElem?_map]
      cases e : L[i]? with
      | none => rw [e] at ek; cases ek
      | some p =>
        rw [e] at ek
        obtain ⟨e1, e2⟩ := Prod.mk.inj (Option.some.inj ek)
        exact ⟨p.1, rfl, by rw [← e1]; rfl⟩
    · intro n Ha hn Sa C N kC
      refine ⟨rfl, ?_⟩
      unfold tYes
      dsimp only
      rw [if_pos rfl]
      rw [ts.names] at hn
      obtain ⟨u, b, e, hv, ht, hm⟩ := (ts1.keep (KT.trans ktl (KT.same Sa))).get hn
      have es : spn R n = (b, e) := spn_at g.nd hm
      rw [es] at kC
      refine ⟨_, rfl, _, rfl, _, rfl, d, V.ref u, rfl, .inl ⟨Kvs L, .inr n, .inr ⟨od, Sa _ _ lk⟩, rfl, hv.symm⟩, _, rfl, ?_⟩
      have fin : ∀ z, sel ix (n, b, e) = z → atI [V.int b, V.int e] ix = some (.int z) := by
        rintro z rfl
        rcases hix with rfl | rfl <;> rfl
      refine .inr (.inl ⟨_, _, _, _, rfl, rfl, SqT.of ht, fin _ rfl, _, rfl, _, _, rfl, rfl, .inl ⟨_, rfl, _, rfl, _, _, rfl, rfl, by omega, by show 2 ≤ sizeLine; decide, fun q hq => kC q hq⟩⟩)
    · intro H2 ps S2 e2 pg
      refine ⟨S2 _ _ lk, G, ps, Gvs ((L.map (·.1)).map fun n => (n, V.int ((sel ix (n, spn R n) - ((j : Int) + 1)) % t))), rfl, SqL.of ((upd_ne nGd).trans e2), ?_, fun q hq => ?_⟩
      · have ktu : KT H2 (upd H2 d (.dK (Kvs L))) := KT.put (S2 _ _ lk) (fun _ z => by cases z)
        exact (pg.keep ktu).pd
      have eM : (L.map (·.1)).map (fun n => (n, V.int ((sel ix (n, spn R n) - ((j : Int) + 1)) % t))) = plM t ((j : Int) + 1) ix R := by
        rw [ts.names]
        unfold plM
        rw [List.map_map]
        refine List.map_congr_left fun r hr => ?_
        show (r.1, V.int ((sel ix (r.1, spn R r.1) - ((j : Int) + 1)) % t)) = _
        rw [spn_at (p := r.2) g.nd hr]
      have e0 : mergeK [] (Gvs (plM t ((j : Int) + 1) ix R)) = Gvs (plM t ((j : Int) + 1) ix R) := mergeK_gvs (plM t ((j : Int) + 1) ix R) [] (by rw [List.nil_append]; unfold plM; rw [List.map_map]; exact g.nd)
      rw [eM, e0]
      refine k ((j : Int) + 1) q _ cut (Same.trans S1 (Same.trans (same_lock hd1 S2) (Same.new hq))) ?_ upd_same
      cases z : H q with
      | none => rfl
      | some o =>
        have := same_lock hd1 S2 _ _ (S1 _ _ z)
        rw [hq] at this
        cases this
end
end K44
namespace K44
open PySem L2
open PyProof.Rows PySem.Spec
/-- 1 if a moment has come -/
def came (t c p x : Int) : Int := if (x - c) % t ≤ p then 1 else 0
theorem came_of {t c p x : Int} (ht : 1 ≤ t) (h0 : 0 ≤ p) (h1 : p < t) : (c + p - x) / t - (c - 1 - x) / t = came t c p x := by
  have e := Int.mul_ediv_add_emod (x - c) t
  have r0 := Int.emod_nonneg (x - c) (show t ≠ 0 by omega)
  have r1 := Int.emod_lt_of_pos (x - c) (show 0 < t by omega)
  unfold came
  generalize (x - c) % t = ρ at e r0 r1 ⊢
  generalize (x - c) / t = k at e
  have e1 : c + p - x = (p - ρ) + t * (-k) := by rw [Int.mul_neg]; omega
  have e2 : c - 1 - x = (-1 - ρ) + t * (-k) := by rw [Int.mul_neg]; omega
  have d2 : (-1 - ρ) / t = -1 := by
    rw [show -1 - ρ = (t - 1 - ρ) + t * (-1) by omega, Int.add_mul_ediv_left _ _ (by omega), Int.ediv_eq_zero_of_lt (by omega) (by omega)]
    omega
  rw [e1, e2, Int.add_mul_ediv_left _ _ (by omega), Int.add_mul_ediv_left _ _ (by omega), d2]
  split
  · rename_i h
    rw [Int.ediv_eq_zero_of_lt (by omega) (by omega)]
    omega
  · rename_i h
    rw [show p - ρ = (t + p - ρ) + t * (-1) by omega, Int.add_mul_ediv_left _ _ (by omega), Int.ediv_eq_zero_of_lt (by omega) (by omega)]
    omega
theorem aSum_per {t τ : Int} (ht : 1 ≤ t) (R : Rws) : aSum t (τ + t) R = aSum t τ R := by
  unfold aSum
  refine congrArg List.sum (List.map_congr_left fun r _ => ?_)
  unfold alR
  rw [show τ + t - r.2.1 = (τ - r.2.1) + t * 1 by omega, show τ + t - r.2.2 = (τ - r.2.2) + t * 1 by omega, Int.add_mul_ediv_left _ _ (by omega), Int.add_mul_ediv_left _ _ (by omega)]
  omega
theorem peak {t c p : Int} {R : Rws} (ht : 1 ≤ t) (h : Cut t R c) (h0 : 0 ≤ p) (h1 : p < t) : aSum t (c + p) R ≤ aSum t (c - 1) R := by
  obtain ⟨m, m1, rfl, m2, _⟩ := h
  rw [show (m : Int) + 1 - 1 = m by omega]
  by_cases q : (m : Int) + 1 + p < t
  · have := m2 (m + 1 + p.toNat) (by omega)
    rw [show ((m + 1 + p.toNat : Nat) : Int) = (m : Int) + 1 + p by omega] at this
    exact this
  · have := m2 (m + 1 + p.toNat - t.toNat) (by omega)
    rw [show ((m + 1 + p.toNat - t.toNat : Nat) : Int) = (m : Int) + 1 + p - t by omega] at this
    rw [← aSum_per ht] at this
    rw [show (m : Int) + 1 + p - t + t = (m : Int) + 1 + p by omega] at this
    exact this
theorem came_sum {t c p : Int} (ht : 1 ≤ t) (h0 : 0 ≤ p) (h1 : p < t) : ∀ R : Rws, aSum t (c + p) R - aSum t (c - 1) R = (R.map fun r => came t c p r.2.1).sum - (R.map fun r => came t c p r.2.2).sum
  | [] => rfl
  | r :: R => by
    have ih := came_sum (c := c) ht h0 h1 R
    have e1 := came_of (t := t) (c := c) (p := p) (x := r.2.1) ht h0 h1
    have e2 := came_of (t := t) (c := c) (p := p) (x := r.2.2) ht h0 h1
    unfold aSum at ih ⊢
    rw [List.map_cons, List.map_cons, List.map_cons, List.map_cons, List.sum_cons, List.sum_cons, List.sum_cons, List.sum_cons]
    unfold alR at ih ⊢
    omega
theorem came_count {t c p : Int} (ix : Int) (f : Str × Int × Int → Int) (hf : ∀ r, f r = sel ix r) : ∀ R : Rws, (R.map fun r => came t c p (f r)).sum = ((R.countP fun r => decide ((sel ix r - c) % t ≤ p) : Nat) : Int)
  | [] => rfl
  | r :: R => by
    rw [List.map_cons, List.sum_cons, came_count ix f hf R, List.countP_cons, hf]
    unfold came
    by_cases q : (sel ix r - c) % t ≤ p
    · rw [if_pos q, if_pos (decide_eq_true q)]
      omega
    · rw [if_neg q, if_neg (by rw [decide_eq_false q]; decide)]
      omega
theorem peak_count {t c p : Int} {R : Rws} (ht : 1 ≤ t) (h : Cut t R c) (h0 : 0 ≤ p) (h1 : p < t) : (R.countP fun r => decide ((sel 0 r - c) % t ≤ p)) ≤ R.countP fun r => decide ((sel 1 r - c) % t ≤ p) := by
  have a := peak ht h h0 h1
  have b := came_sum (c := c) ht h0 h1 R
  have c0 := came_count (t := t) (c := c) (p := p) 0 (fun r => r.2.1) (fun _ => rfl) R
  have c1 := came_count (t := t) (c := c) (p := p) 1 (fun r => r.2.2) (fun _ => rfl) R
  omega
/-- where a value ends -/
def endP (S : Rws) (t c : Int) (n : Str) : Int := ((spn S n).2 - c) % t
def begP (S : Rws) (t c : Int) (n : Str) : Int := ((spn S n).1 - c) % t
theorem free_ex {t c : Int} {R S : Rws} (g : Good t S) (srd : Srd R S) (cut : Cut t R c) {bs : List IS} (pm : (bs.map (·.2)).Perm (S.map fun r => ((sel 0 r - c) % t, r.1))) (so : bs.Pairwise fun a b => a.2.1 ≤ b.2.1) {i : Nat} {b : IS} (hb : bs[i]? = some b) {ns : List Str} (ln : ns.length = i) :
    0 ≤ b.2.1 ∧ b.2.1 < t ∧ ∃ n ∈ S.map (·.1), n ∉ ns ∧ endP S t c n ≤ b.2.1 := by
  have t1 := g.t1
  have bm : b.2 ∈ S.map fun r => ((sel 0 r - c) % t, r.1) := pm.mem_iff.mp (List.mem_map.mpr ⟨b, List.mem_of_getElem? hb, rfl⟩)
  obtain ⟨r, _, er⟩ := List.mem_map.mp bm
  have e0 : b.2.1 = (sel 0 r - c) % t := by rw [← er]
  have p0 : 0 ≤ b.2.1 := by rw [e0]; exact Int.emod_nonneg _ (by omega)
  have p1 : b.2.1 < t := by rw [e0]; exact Int.emod_lt_of_pos _ (by omega)
  refine ⟨p0, p1, ?_⟩
  have il : i < bs.length := (List.getElem?_eq_some_iff.mp hb).1
  have k1 : i + 1 ≤ bs.countP fun a => decide (a.2.1 ≤ b.2.1) := by
    have all : ∀ a ∈ bs.take (i + 1), decide (a.2.1 ≤ b.2.1) = true := by
      intro a ha
      rw [List.take_add_one, hb] at ha
      have so2 := so
      rw [← List.take_append_drop (i + 1) bs, List.take_add_one, hb] at so2
      have so3 := (List.pairwise_append.mp so2).1
      rcases List.mem_append.mp ha with ha | ha
      · exact decide_eq_true ((List.pairwise_append.mp so3).2.2 a ha b (by simp))
      · have : a = b := by simpa using ha
        rw [this]
        exact decide_eq_true (Int.le_refl _)
    have c1 := List.countP_eq_length.mpr all
    have c2 := (List.take_sublist (i + 1) bs).countP_le (p := fun a => decide (a.2.1 ≤ b.2.1))
    rw [List.length_take] at c1
    omega
  have k2 : (bs.countP fun a => decide (a.2.1 ≤ b.2.1)) = S.countP fun r => decide ((sel 0 r - c) % t ≤ b.2.1) := by
    have := pm.countP_eq (fun q : Int × Str => decide (q.1 ≤ b.2.1))
    rw [List.countP_map, List.countP_map] at this
    exact this
  have k3 := peak_count t1 cut p0 p1
  rw [← srd.pm.countP_eq, ← srd.pm.countP_eq] at k3
  rcases Classical.em (∃ n ∈ S.map (·.1), n ∉ ns ∧ endP S t c n ≤ b.2.1) with h | h
  · exact h
  · exfalso
    have sub : ∀ n ∈ (S.filter fun r => decide ((sel 1 r - c) % t ≤ b.2.1)).map (·.1), n ∈ ns := by
      intro n hn
      obtain ⟨r, hr, rfl⟩ := List.mem_map.mp hn
      obtain ⟨h1, h2⟩ := List.mem_filter.mp hr
      rcases Classical.em (r.1 ∈ ns) with q | q
      · exact q
      · refine absurd ⟨r.1, List.mem_map.mpr ⟨r, h1, rfl⟩, q, ?_⟩ h
        unfold endP
        rw [spn_at (p := r.2) g.nd h1]
        exact of_decide_eq_true h2
    have nd : ((S.filter fun r => decide ((sel 1 r - c) % t ≤ b.2.1)).map (·.1)).Nodup := (List.filter_sublist.map _).nodup g.nd
    have := nd.length_le_of_subset sub
    rw [List.length_map, ← List.countP_eq_length_filter] at this
    omega
end K44
namespace K44
open PySem L2
open PyProof.Rows PySem.Spec
theorem perm_of_sub : ∀ {a b : List Str}, a.Nodup → (∀ x ∈ a, x ∈ b) → b.length = a.length → a.Perm b
  | [], b, _, _, h => by rw [List.length_eq_zero_iff.mp h]
  | x :: a, b, nd, sb, h => by
    rw [List.nodup_cons] at nd
    have hx := sb x List.mem_cons_self
    have p := List.perm_cons_erase hx
    have l := p.length_eq
    rw [List.length_cons] at l h
    refine (List.Perm.cons x (perm_of_sub (b := b.erase x) nd.2 (fun y hy => ?_) (by omega))).trans p.symm
    exact (List.mem_erase_of_ne (show y ≠ x from fun z => nd.1 (by rw [← z]; exact hy))).mpr (sb y (List.mem_cons_of_mem _ hy))
theorem swept_dv {t c b e : Int} : (e + ((b - c) % t - (e - c) % t) - b) % t = 0 := by
  have h1 := Int.mul_ediv_add_emod (b - c) t
  have h2 := Int.mul_ediv_add_emod (e - c) t
  have : e + ((b - c) % t - (e - c) % t) - b = t * ((e - c) / t - (b - c) / t) := by
    rw [Int.mul_sub]
    omega
  rw [this]
  exact Int.mul_emod_right _ _
theorem plM_at {t c ix : Int} {R S : Rws} (gR : (R.map (·.1)).Nodup) (g : Good t S) (srd : Srd R S) {n : Str} (hn : n ∈ S.map (·.1)) : valV (Gvs (plM t c ix R)) (.inr n) = some (.int ((sel ix (n, spn S n) - c) % t)) := by
  refine valV_gvs (by unfold plM; rw [List.map_map]; exact gR) ?_
  have h := srd.pm.mem_iff.mp (spn_in g.nd hn)
  exact List.mem_map.mpr ⟨_, h, rfl⟩
/-- what the sweep has found -/
structure Swp (t c : Int) (S : Rws) (bs : List IS) (F : Flw) : Prop where
  tg : F.map (·.2.1) = (bs.take F.length).map (·.2.2)
  nd : (F.map (·.1)).Nodup
  sb : ∀ n ∈ F.map (·.1), n ∈ S.map (·.1)
  wt : ∀ x ∈ F, x.2.2 = begP S t c x.2.1 - endP S t c x.1 ∧ 0 ≤ x.2.2
theorem Swp.ok {t c : Int} {R S : Rws} (g : Good t S) (srd : Srd R S) {bs : List IS} (pm : (bs.map (·.2)).Perm (S.map fun r => ((sel 0 r - c) % t, r.1))) (l6 : S.length ≤ 6) {F : Flw} (h : Swp t c S bs F) (lf : F.length = bs.length) : FOk t S F := by
  have lb : bs.length = S.length := by have := pm.length_eq; rw [List.length_map, List.length_map] at this; exact this
  have t1 := g.t1
  refine ⟨?_, ?_, fun x hx => ?_, fun x hx => ?_, by omega⟩
  · exact perm_of_sub h.nd h.sb (by rw [List.length_map, List.length_map]; omega)
  · rw [h.tg, lf, List.take_length]
    have := pm.map (·.2)
    rw [List.map_map, List.map_map] at this
    exact this
  · obtain ⟨h1, h2⟩ := h.wt x hx
    have b1 := Int.emod_lt_of_pos ((spn S x.2.1).1 - c) (show 0 < t by omega)
    have e1 := Int.emod_nonneg ((spn S x.1).2 - c) (show t ≠ 0 by omega)
    unfold begP endP at h1
    omega
  · obtain ⟨h1, _⟩ := h.wt x hx
    rw [h1]
    exact swept_dv
section
variable {P : Program} {w : World} {K : PySem.W.Frag}
                                                      {mg : Str → Option Value} {base : Heap}
def sp_w_follows (K : PySem.W.Frag) : Sp := fun vs H Q _ => ∃ (r d : Addr) (t : Int) (L : List (Str × Addr)) (R S : Rws), vs = [.ref r, .ref d, .int t] ∧ Rl H r ∧ H d = some (.dK (Kvs L)) ∧ Tups H L R ∧ Good t R ∧ (∀ x ∈ R, Fin1 t x) ∧ R.length ≤ 6 ∧ Srd R S ∧
  ∀ fd L' F H', Rl H' r → Only r H H' → H fd = none → H' fd = some (.dK (Kvs L')) → FTs H' L' F → FOk t S F → (∀ x ∈ F, x.2.2 ≤ 3 * t) → Q (.ref fd) H'
theorem ok_w_swept (T : T K mg) : FnOk P w K mg base CX0 3 T.f_w_swept T.d_w_swept ["tray", "rows", "interval"] (sp_w_follows K) := by
  have G_w_pick : FnOk P w K mg base CX0 2 T.f_w_pick T.d_w_pick ["tray", "items"] (sp_w_pick K) := ok_w_pick T
  have G_w_places : FnOk P w K mg base CX0 2 T.f_w_places T.d_w_places ["rows", "interval", "index"] (sp_w_places K) := ok_w_places T
  refine T.F_w_swept.ok sc_w_swept (fun vs H Q E h => ?_) (fun cdv A outer s H vs Q E hr h => ?_)
  · obtain ⟨r, d, t, L, R, S, rfl, _⟩ := h
    rfl
  · obtain ⟨r, d, t, L, R, S, rfl, hR, hd, ts, gR, fin, l6, srd, k⟩ := h
    have hu := hu_of hr
    have hr_w_pick : Room 2 _ := hr.mono (by decide)
    have hr_w_places : Room 2 _ := hr.mono (by decide)
    refine ⟨_, PSs.nox (pss_cons (ps_asg (pe_tup (pa_cons (pe_call G_w_places hr_w_places rfl T.m_w_places T.F_w_places.kp T.b_w_places .nil pass0 (pa_cons (pv 1) (pa_cons (pv 2) (pa_cons pe_int pa_nil)))) (pa_cons (pe_call G_w_places hr_w_places rfl T.m_w_places T.F_w_places.kp T.b_w_places .nil pass0 (pa_cons (pv 1) (pa_cons (pv 2) (pa_cons pe_int pa_nil)))) (pa_cons pe_dnewK pa_nil)))) (pg_tup rfl (pgs_cons (pg_name (i := 3) sc_w_swept.nd rfl (Or.inr rfl)) (pgs_cons (pg_name (i := 4) sc_w_swept.nd rfl (Or.inr rfl)) (pgs_cons (pg_name (i := 5) sc_w_swept.nd rfl (Or.inr rfl)) pgs_nil)))))
      (pss_cons (ps_for PassesOwn.never rfl (pi_list (pe_callB (cr_sortIS (un64 hr)) (by rfl) T.z_sorted (by decide +kernel) (pa_cons (pe_lc (own := [("name", 7)]) (g := gName 7) rfl sc_w_swept.nd (pi_list (pe_callB (call_sortedD rfl) (by rfl) T.z_sorted (by decide +kernel) (pa_cons (pv 1) pa_nil))) (blkOk_by (N := ["tray", "rows", "interval", "begins", "ends", "found", "place", "name", "free", "one", "other"]) (sc := defScope s_w_swept) (by decide +kernel)) (fun _ _ _ _ _ => (pg_name (i := 7) sc_w_swept.nd rfl (Or.inl rfl))) (fun _ _ _ _ _ => pts_nil) (fun _ _ _ _ _ => (pe_tup (pa_cons (pe_dget (by exact hu) (pv 3) (pv 7) (fun _ _ => rfl)) (pa_cons (pv 7) pa_nil))))) pa_nil))) (pg_tup rfl (pgs_cons (pg_name (i := 6) sc_w_swept.nd rfl (Or.inr rfl)) (pgs_cons (pg_name (i := 7) sc_w_swept.nd rfl (Or.inl rfl)) pgs_nil)))
      (pss_cons (ps_setLc (i := 8) (own := [("other", 10)]) (g := gName 10) rfl sc_w_swept.nd rfl rfl (sw_true rfl rfl rfl (by decide +kernel)) (pi_list (pe_callB (call_sortedD rfl) (by rfl) T.z_sorted (by decide +kernel) (pa_cons (pv 1) pa_nil))) (blkOk_by (N := ["tray", "rows", "interval", "begins", "ends", "found", "place", "name", "free", "one", "other"]) (sc := defScope s_w_swept) (by decide +kernel)) (fun _ _ _ _ _ => (pg_name (i := 10) sc_w_swept.nd rfl (Or.inl rfl))) (fun _ _ _ _ _ => pts_one (PW.pt (pw_and (pt_cmp (pc_dnotin (by exact hu) (pv 10) (pv 5)) (by rfl)) (pw_and1 (pt_cmpR op_le (pe_dget (by exact hu) (pv 4) (pv 10) (fun _ _ => rfl)) (pv 6) (nomark _)))))) (fun _ _ _ _ _ => (pv 10)))
      (pss_cons (ps_set (i := 9) sc_w_swept.nd rfl (Or.inl rfl) (pe_call G_w_pick hr_w_pick rfl T.m_w_pick T.F_w_pick.kp T.b_w_pick .nil pass0 (pa_cons (pv 0) (pa_cons (pv 8) pa_nil))))
      (pss_one (ps_dput (by exact hu) (pv 5) (pv 9) (pe_tup (pa_cons (pv 7) (pa_cons (pe_op op_sub (pv 6) (pe_dget (by exact hu) (pv 4) (pv 9) (fun _ _ => rfl))) pa_nil))) rfl)))))
      (pss_one (ps_ret (pv 5))))), ?_⟩
    have t1 := gR.t1
    have t2 := gR.t2
    have gS : Good t S := gR.perm srd.pm
    have lS : S.length ≤ 6 := by rw [srd.pm.length_eq]; exact l6
    refine ⟨_, rfl, _, rfl, d, L, R, t, 0, rfl, hd, ts, gR, fin, .inl rfl, fun c bd H1 cut S1 hbd eb1 => ?_⟩
    refine ⟨_, rfl, _, rfl, d, L, R, t, 1, rfl, S1 _ _ hd, ts.keep (KT.same S1), gR, fin, .inr rfl, fun c' ed H2 cut' S2 hed ee2 => ?_⟩
    obtain rfl := Cut.eq cut cut'
    intro fd hfd
    refine ⟨by show 3 ≤ sizeLine; decide, fun tq htq => ?_⟩
    have S3 : Same H2 (upd (upd H2 fd (.dK [])) tq (.tup [.ref bd, .ref ed, .ref fd])) := Same.trans (Same.new hfd) (Same.new htq)
    have etq : (upd (upd H2 fd (.dK [])) tq (.tup [.ref bd, .ref ed, .ref fd])) tq = some (.tup [.ref bd, .ref ed, .ref fd]) := upd_same
    have nft : fd ≠ tq := fun z => by rw [← z, upd_same] at htq; cases htq
    have efd : (upd (upd H2 fd (.dK [])) tq (.tup [.ref bd, .ref ed, .ref fd])) fd = some (.dK (Kvs [])) := (upd_ne nft).trans upd_same
    have hfH : H fd = none := by
      cases z : H fd with
      | none => rfl
      | some o => rw [S2 _ _ (S1 _ _ z)] at hfd; cases hfd
    generalize upd (upd H2 fd (.dK [])) tq (.tup [.ref bd, .ref ed, .ref fd]) = H3 at S3 etq efd ⊢
    have S03 := Same.trans (Same.trans S1 S2) S3
    have eb3 := S3 _ _ (S2 _ _ eb1)
    have ee3 := S3 _ _ ee2
    refine ⟨tq, _, rfl, SqT.of etq, rfl, _, _, rfl, _, _, rfl, _, _, rfl, rfl, ?_⟩
    have nef : ed ≠ fd := ne_of_none ee2 hfd
    clear S1 S2 S3 eb1 ee2 htq nft etq
    have hd3 := S03 _ _ hd
    refine ⟨_, rfl, d, _, L.map (·.1), rfl, .inl hd3, kvs_keys L, by rw [List.length_map, ts.len]; omega, fun ys pl pm so2 hpl => ?_⟩
    have enm : (L.map (·.1)).Perm (S.map (·.1)) := by rw [ts.names]; exact (srd.pm.map (·.1)).symm
    obtain rfl : ys = S.map (·.1) := sort_to pm so2 enm srd.so
    have S4 := Same.new (o := .lst ((S.map (·.1)).map V.str)) hpl
    have epl : (upd H3 pl (.lst ((S.map (·.1)).map V.str))) pl = some (.lst ((S.map (·.1)).map V.str)) := upd_same
    generalize upd H3 pl (.lst ((S.map (·.1)).map V.str)) = H4 at S4 epl ⊢
    have lN : (S.map (·.1)).length ≤ 6 := by rw [List.length_map]; exact lS
    refine ⟨pl, rfl, ⟨_, SqL.of epl⟩, fun D hD => ?_⟩
    refine lc_it (walk_list (K := K) (a := pl) (xs := (S.map (·.1)).map V.str)) (fun i H' => Same H4 H' ∧ ∃ bs : List IS, H' D = some (.lst (bs.map fun b => V.ref b.1)) ∧ (∀ b ∈ bs, H' b.1 = some (.tup [.int b.2.1, .str b.2.2])) ∧ bs.map (·.2) = ((S.map (·.1)).take i).map fun n => (begP S t c n, n)) ⟨Same.new hD, [], upd_same, (fun b hb => by cases hb), rfl⟩ (fun i H' _ h => SqL.of (h.1 _ _ epl)) ?_ ?_
    · rintro i x Ha Hb hi ⟨Sa, bs, eD, tb, eb⟩ ⟨rfl, hx⟩
      rw [List.getElem?_map] at hx
      cases e2 : (S.map (·.1))[i]? with
      | none => rw [e2] at hx; cases hx
      | some n =>
      rw [e2] at hx
      cases hx
      have hn := List.mem_of_getElem? e2
      refine ⟨rfl, ?_⟩
      unfold tYes
      dsimp only
      rw [if_pos rfl]
      have dg : DGet Hb bd (.str n) (some (.int (begP S t c n))) := by
        have := DGet.k (k := Sum.inr n) (Sa _ _ (S4 _ _ eb3))
        rw [plM_at gR.nd gS srd hn] at this
        exact this
      refine ⟨_, rfl, _, rfl, bd, _, rfl, dg, _, rfl, by show 2 ≤ sizeLine; decide, fun q hq => ?_⟩
      have nDq : D ≠ q := ne_of_none eD hq
      have lb : bs.length = i := by
        have := congrArg List.length eb
        rw [List.length_map, List.length_map, List.length_take] at this
        have := (List.getElem?_eq_some_iff.mp e2).1
        omega
      have i6 := (List.getElem?_eq_some_iff.mp e2).1
      refine ⟨_, (upd_ne nDq).trans eD, by rw [List.length_map, sizeLine_eq]; omega, Same.at hD (Same.trans Sa (Same.new hq)), bs ++ [(q, begP S t c n, n)], by rw [upd_same, List.map_append]; rfl, fun b hb => ?_, ?_⟩
      · have kt : KT Hb (upd (upd Hb q (.tup [.int (begP S t c n), .str n])) D (.lst ((bs.map fun b => V.ref b.1) ++ [.ref q]))) := KT.trans (KT.new hq) (KT.put (u := .lst (bs.map fun b => V.ref b.1)) ((upd_ne nDq).trans eD) (fun _ z => by cases z))
        rcases List.mem_append.mp hb with hb | hb
        · exact kt _ _ (tb b hb)
        · rw [List.mem_singleton.mp hb]
          exact (upd_ne nDq.symm).trans upd_same
      · rw [List.map_append, eb, List.take_add_one, e2, List.map_append]
        rfl
    rintro H5 ⟨S5, bs, eD, tb, eb⟩
    rw [List.length_map, List.take_length] at eb
    have lbs : bs.length = S.length := by
      have := congrArg List.length eb
      rw [List.length_map, List.length_map, List.length_map] at this
      exact this
    refine ⟨D, bs, rfl, SqL.of eD, tb, by omega, fun sl hsl => ?_⟩
    have S6 := Same.new (o := .lst ((bs.mergeSort (PySem.W.dataLe false encIS)).map fun b => V.ref b.1)) hsl
    have esl : (upd H5 sl (.lst ((bs.mergeSort (PySem.W.dataLe false encIS)).map fun b => V.ref b.1))) sl = some (.lst ((bs.mergeSort (PySem.W.dataLe false encIS)).map fun b => V.ref b.1)) := upd_same
    have pmb := List.mergeSort_perm bs (PySem.W.dataLe false encIS)
    have sob : (bs.mergeSort (PySem.W.dataLe false encIS)).Pairwise fun a b => a.2.1 ≤ b.2.1 := (PySem.W.sort_pairwise (PySem.W.sortLe_total _ _ _) bs).imp fun {a b} h => dataLe_is a b h
    have tb6 : ∀ b ∈ bs.mergeSort (PySem.W.dataLe false encIS), (upd H5 sl (.lst ((bs.mergeSort (PySem.W.dataLe false encIS)).map fun b => V.ref b.1))) b.1 = some (.tup [.int b.2.1, .str b.2.2]) := fun b hb => S6 _ _ (tb b (pmb.mem_iff.mp hb))
    generalize upd H5 sl (.lst ((bs.mergeSort (PySem.W.dataLe false encIS)).map fun b => V.ref b.1)) = H6 at S6 esl tb6 ⊢
    have pb : ((bs.mergeSort (PySem.W.dataLe false encIS)).map (·.2)).Perm (S.map fun r => ((sel 0 r - c) % t, r.1)) := by
      refine (pmb.map (·.2)).trans ?_
      rw [eb, List.map_map]
      refine List.Perm.of_eq (List.map_congr_left fun r hr => ?_)
      show (begP S t c r.1, r.1) = _
      unfold begP
      rw [spn_at (p := r.2) gS.nd hr]
      rfl
    generalize bs.mergeSort (PySem.W.dataLe false encIS) = bo at esl pmb sob tb6 pb ⊢
    have lbo : bo.length = S.length := by rw [pmb.length_eq]; exact lbs
    have S06 : Same H H6 := Same.trans S03 (Same.trans S4 (Same.trans S5 S6))
    have S36 : Same H3 H6 := Same.trans S4 (Same.trans S5 S6)
    have efd6 := S36 _ _ efd
    have ee6 := S36 _ _ ee3
    have nsr : sl ≠ r := (Same.rl (Same.trans S03 (Same.trans S4 S5)) hR).ne hsl
    clear S03 S4 S5 S6 S36 efd ee3 eb3 hd3 epl hpl hD eD tb eb lbs pmb bs hsl D pl
    refine ⟨sl, rfl, ⟨_, SqL.of esl⟩, ?_⟩
    have nfr : fd ≠ r := fun z => by obtain ⟨_, _, _, q⟩ := Same.rl S06 hR; rw [← z, efd6] at q; cases q
    have ner : ed ≠ r := fun z => by obtain ⟨_, _, _, q⟩ := Same.rl S06 hR; rw [← z, ee6] at q; cases q
    refine for_it (walk_list (K := K) (a := sl) (xs := bo.map fun b => V.ref b.1)) (fun i σ G => ∃ (v6 v7 v8 v9 v10 : Option V) (L' : List (Str × Addr)) (F : Flw), σ = [some (.ref r), some (.ref d), some (.int t), some (.ref bd), some (.ref ed), some (.ref fd), v6, v7, v8, v9, v10] ∧ Rl G r ∧ Only r H G ∧ G ed = some (.dK (Gvs (plM t c 1 R))) ∧ G sl = some (.lst (bo.map fun b => V.ref b.1)) ∧ (∀ b ∈ bo, G b.1 = some (.tup [.int b.2.1, .str b.2.2])) ∧ G fd = some (.dK (Kvs L')) ∧ FTs G L' F ∧ Swp t c S bo F ∧ F.length = i) ⟨none, none, none, none, none, [], [], rfl, Same.rl S06 hR, fun b o _ e => S06 b o e, ee6, esl, tb6, efd6, .nil, ⟨rfl, List.nodup_nil, (fun n h => by cases h), (fun x h => by cases h)⟩, rfl⟩ (fun i σ G _ h => by obtain ⟨_, _, _, _, _, _, _, _, _, _, _, e, _⟩ := h; exact SqL.of e) ?_ ?_
    · rintro i x σ Ga G hi ⟨v6, v7, v8, v9, v10, L', F, rfl, RG, OG, ee, esl', tbG, eF, fts, sw, lF⟩ ⟨rfl, hx⟩
      rw [List.getElem?_map] at hx
      cases e2 : bo[i]? with
      | none => rw [e2] at hx; cases hx
      | some b =>
      rw [e2] at hx
      cases hx
      obtain ⟨p0, p1, n0, hn0, nn0, ne0⟩ := free_ex gS srd cut pb sob e2 (ns := F.map (·.1)) (by rw [List.length_map]; exact lF)
      have bm := List.mem_of_getElem? e2
      have tG := tbG b bm
      have bS : b.2 ∈ S.map fun r => ((sel 0 r - c) % t, r.1) := pb.mem_iff.mp (List.mem_map.mpr ⟨b, bm, rfl⟩)
      obtain ⟨rw0, hrw, erw⟩ := List.mem_map.mp bS
      have hbp : b.2.1 = begP S t c b.2.2 := by
        rw [← erw]
        unfold begP
        rw [spn_at (p := rw0.2) gS.nd hrw]
        rfl
      have ndr : d ≠ r := fun z => by obtain ⟨_, _, _, q⟩ := hR; rw [← z, hd] at q; cases q
      have hdG := OG _ _ ndr hd
      have il := (List.getElem?_eq_some_iff.mp e2).1
      refine ⟨b.1, _, rfl, SqT.of tG, rfl, _, _, rfl, _, _, rfl, rfl, ?_⟩
      refine ⟨_, rfl, d, _, L.map (·.1), rfl, .inl hdG, kvs_keys L, by rw [List.length_map, ts.len]; omega, fun ys2 pl pm so2 hpl => ?_⟩
      obtain rfl : ys2 = S.map (·.1) := sort_to pm so2 enm srd.so
      have S1 := Same.new (o := .lst ((S.map (·.1)).map V.str)) hpl
      have epl : (upd G pl (.lst ((S.map (·.1)).map V.str))) pl = some (.lst ((S.map (·.1)).map V.str)) := upd_same
      generalize upd G pl (.lst ((S.map (·.1)).map V.str)) = G1 at S1 epl ⊢
      refine ⟨pl, rfl, ⟨_, SqL.of epl⟩, fun D hD => ?_⟩
      refine lc_it (walk_list (K := K) (a := pl) (xs := (S.map (·.1)).map V.str)) (fun j H' => Same G1 H' ∧ H' D = some (.lst ((((S.map (·.1)).take j).filter fun n => !decide (n ∈ F.map (·.1)) && decide (endP S t c n ≤ b.2.1)).map V.str))) ⟨Same.new hD, upd_same⟩ (fun j H' _ h => SqL.of (h.1 _ _ epl)) ?_ ?_
      · rintro j x Ha Hb hj ⟨Sa, eD⟩ ⟨rfl, hx⟩
        rw [List.getElem?_map] at hx
        cases e3 : (S.map (·.1))[j]? with
        | none => rw [e3] at hx; cases hx
        | some n =>
        rw [e3] at hx
        cases hx
        have hn := List.mem_of_getElem? e3
        have Sab := Same.trans S1 Sa
        refine ⟨rfl, ?_⟩
        have tk : ∀ cb : Bool, cb = (!decide (n ∈ F.map (·.1)) && decide (endP S t c n ≤ b.2.1)) → ((S.map (·.1)).take (j + 1)).filter (fun n => !decide (n ∈ F.map (·.1)) && decide (endP S t c n ≤ b.2.1)) = ((S.map (·.1)).take j).filter (fun n => !decide (n ∈ F.map (·.1)) && decide (endP S t c n ≤ b.2.1)) ++ (if cb = true then [n] else []) := by
          intro cb h
          rw [List.take_add_one, e3, List.filter_append, h]
          congr 1
          show List.filter _ [n] = _
          rw [List.filter_cons]
          rfl
        have fin : ∀ cb : Bool, cb = (!decide (n ∈ F.map (·.1)) && decide (endP S t c n ≤ b.2.1)) → if cb = true then (∃ v, (some (some (V.str n)) : Option (Option V)) = some (some v) ∧ ∃ acc, Hb D = some (.lst acc) ∧ acc.length < sizeLine ∧ Same G1 (upd Hb D (.lst (acc ++ [v]))) ∧ (upd Hb D (.lst (acc ++ [v]))) D = some (.lst ((((S.map (·.1)).take (j + 1)).filter fun n => !decide (n ∈ F.map (·.1)) && decide (endP S t c n ≤ b.2.1)).map V.str))) else (Same G1 Hb ∧ Hb D = some (.lst ((((S.map (·.1)).take (j + 1)).filter fun n => !decide (n ∈ F.map (·.1)) && decide (endP S t c n ≤ b.2.1)).map V.str))) := by
          intro cb h
          rw [tk cb h]
          cases cb with
          | true =>
            rw [if_pos rfl, if_pos rfl]
            refine ⟨_, rfl, _, eD, ?_, Same.at hD Sa, by rw [upd_same, List.map_append]; rfl⟩
            rw [List.length_map, sizeLine_eq]
            have := List.length_filter_le (fun n => !decide (n ∈ F.map (·.1)) && decide (endP S t c n ≤ b.2.1)) ((S.map (·.1)).take j)
            rw [List.length_take] at this
            omega
          | false =>
            rw [if_neg (by decide), if_neg (by decide), List.append_nil]
            exact ⟨Sa, eD⟩
        have ftb := fts.keep (KT.same Sab)
        by_cases q : n ∈ F.map (·.1)
        · obtain ⟨a, va, _⟩ := ftb.get q
          have dg : DGet Hb fd (.str n) (some (.ref a)) := by
            have := DGet.k (k := Sum.inr n) (Sab _ _ eF)
            rw [va] at this
            exact this
          refine ⟨_, rfl, _, rfl, fd, _, rfl, dg, _, rfl, ?_⟩
          exact fin false (by rw [decide_eq_true q]; rfl)
        · have dg : DGet Hb fd (.str n) none := by
            have := DGet.k (k := Sum.inr n) (Sab _ _ eF)
            rw [valV_none (by rw [fts.names]; exact q)] at this
            exact this
          have dge : DGet Hb ed (.str n) (some (.int (endP S t c n))) := by
            have := DGet.k (k := Sum.inr n) (Sab _ _ ee)
            rw [plM_at gR.nd gS srd hn] at this
            exact this
          refine ⟨_, rfl, _, rfl, fd, _, rfl, dg, _, rfl, ?_⟩
          refine ⟨_, rfl, _, rfl, ed, _, rfl, dge, _, rfl, _, _, rfl, rfl, _, rfl, ?_⟩
          exact fin _ (by rw [decide_eq_false q]; rfl)
      · rintro G2 ⟨S2, eD⟩
        rw [List.length_map, List.take_length] at eD
        have S12 := Same.trans S1 S2
        have RG2 := Same.rl S12 RG
        have nDr : D ≠ r := (Same.rl S1 RG).ne hD
        generalize hfr : (S.map (·.1)).filter (fun n => !decide (n ∈ F.map (·.1)) && decide (endP S t c n ≤ b.2.1)) = fr at eD
        have memfr : ∀ n, n ∈ fr ↔ n ∈ S.map (·.1) ∧ n ∉ F.map (·.1) ∧ endP S t c n ≤ b.2.1 := by
          intro n
          rw [← hfr, List.mem_filter, Bool.and_eq_true, decide_eq_true_eq]
          simp
        have lfr : fr.length ≤ 6 := by
          rw [← hfr]
          exact Nat.le_trans (List.length_filter_le _ _) lN
        have lfr0 : 0 < fr.length := List.length_pos_of_mem ((memfr n0).mpr ⟨hn0, nn0, ne0⟩)
        refine ⟨_, rfl, _, rfl, r, .ref D, fr.map V.str, rfl, RG2, .inl ⟨D, rfl, nDr, .inl (SqL.of eD)⟩, by rw [List.length_map]; exact lfr0, by rw [List.length_map, sizeLine_eq]; omega, fun v G3 hv RG3 O3 => ?_⟩
        obtain ⟨one, ho, rfl⟩ := List.mem_map.mp hv
        obtain ⟨ho1, ho2, ho3⟩ := (memfr one).mp ho
        have ee3 := O3 _ _ ner (S12 _ _ ee)
        have eF3 := O3 _ _ nfr (S12 _ _ eF)
        have k3 : KT G G3 := KT.trans (KT.same S12) (KT.only O3 RG2)
        have fts3 := fts.keep k3
        have dge : DGet G3 ed (.str one) (some (.int (endP S t c one))) := by
          have := DGet.k (k := Sum.inr one) ee3
          rw [plM_at gR.nd gS srd ho1] at this
          exact this
        refine ⟨_, rfl, _, rfl, _, rfl, _, rfl, ed, _, rfl, dge, _, _, rfl, rfl, by show 2 ≤ sizeLine; decide, fun q hq => ?_⟩
        have hoL : one ∉ L'.map (·.1) := by rw [fts.names]; exact ho2
        have nfq : fd ≠ q := ne_of_none eF3 hq
        have eF4 : (upd G3 q (.tup [.str b.2.2, .int (b.2.1 - endP S t c one)])) fd = some (.dK (Kvs L')) := (upd_ne nfq).trans eF3
        have k5 : KT G3 (upd (upd G3 q (.tup [.str b.2.2, .int (b.2.1 - endP S t c one)])) fd (.dK (putK (Kvs L') (.inr one) (.ref q)))) := KT.trans (KT.new hq) (KT.put eF4 (fun _ z => by cases z))
        have lL : L'.length ≤ 6 := by rw [fts.len, lF]; omega
        refine ⟨_, rfl, _, rfl, fd, _, rfl, .inl ⟨Kvs L', .inr one, eF4, rfl, by rw [kvs_len, sizeLine_eq]; omega, rfl⟩, ?_⟩
        have old : ∀ a o, a ≠ r → a ≠ fd → G a = some o → (upd (upd G3 q (.tup [.str b.2.2, .int (b.2.1 - endP S t c one)])) fd (.dK (putK (Kvs L') (.inr one) (.ref q)))) a = some o := fun a o n1 n2 e => by
          have e3 := O3 _ _ n1 (S12 _ _ e)
          rw [upd_ne n2, upd_ne (ne_of_none e3 hq)]
          exact e3
        have R5 : Rl (upd (upd G3 q (.tup [.str b.2.2, .int (b.2.1 - endP S t c one)])) fd (.dK (putK (Kvs L') (.inr one) (.ref q)))) r := by
          obtain ⟨x, y, z, e⟩ := RG3
          exact ⟨x, y, z, by rw [upd_ne nfr.symm, upd_ne (ne_of_none e hq)]; exact e⟩
        refine ⟨some (.int b.2.1), some (.str b.2.2), some (.ref D), some (.str one), v10, L' ++ [(one, q)], F ++ [(one, b.2.2, b.2.1 - endP S t c one)], rfl, R5, ?_, old _ _ ner nef ee, old _ _ nsr (fun z => by rw [z, eF] at esl'; cases esl') esl', fun b' hb' => k5 _ _ (k3 _ _ (tbG b' hb')), ?_, ?_, ?_, by rw [List.length_append, lF]; rfl⟩
        · intro a o n1 e
          exact old a o n1 (fun z => by rw [z, hfH] at e; cases e) (OG a o n1 e)
        · rw [upd_same, putK_kvs hoL]
        · exact (fts3.keep k5).snoc ((upd_ne nfq.symm).trans upd_same)
        · refine ⟨?_, ?_, fun n hn => ?_, fun x hx => ?_⟩
          · rw [List.map_append, List.length_append, List.length_singleton, lF, List.take_add_one, e2, List.map_append, sw.tg, lF]
            rfl
          · rw [List.map_append]
            refine List.nodup_append.mpr ⟨sw.nd, by simp, fun x hx y hy => ?_⟩
            rw [show y = one by simpa using hy]
            exact fun z => ho2 (z ▸ hx)
          · rw [List.map_append] at hn
            rcases List.mem_append.mp hn with hn | hn
            · exact sw.sb n hn
            · rw [show n = one by simpa using hn]
              exact ho1
          · rcases List.mem_append.mp hx with hx | hx
            · exact sw.wt x hx
            · rw [List.mem_singleton.mp hx]
              dsimp only
              rw [← hbp]
              exact ⟨rfl, by omega⟩
    · rintro σ G ⟨v6, v7, v8, v9, v10, L', F, rfl, RG, OG, ee, esl', tbG, eF, fts, sw, lF⟩
      rw [List.length_map] at lF
      refine ⟨_, rfl, k fd L' F G RG OG hfH eF fts (sw.ok gS srd pb lS lF) fun x hx => ?_⟩
      obtain ⟨h1, h2⟩ := sw.wt x hx
      have b1 := Int.emod_lt_of_pos ((spn S x.2.1).1 - c) (show 0 < t by omega)
      have e1 := Int.emod_nonneg ((spn S x.1).2 - c) (show t ≠ 0 by omega)
      unfold begP endP at h1
      omega
end
end K44
namespace K44
open PySem L2
open PyProof.Rows PySem.Spec
theorem drawn_dv {t b e k : Int} : (e + ((b - e) % t + t * k) - b) % t = 0 := by
  have h1 := Int.mul_ediv_add_emod (b - e) t
  have : e + ((b - e) % t + t * k) - b = t * (k - (b - e) / t) := by
    rw [Int.mul_sub]
    omega
  rw [this]
  exact Int.mul_emod_right _ _
section
variable {P : Program} {w : World} {K : PySem.W.Frag}
                                                      {mg : Str → Option Value} {base : Heap}
theorem ok_w_drawn (T : T K mg) : FnOk P w K mg base CX0 3 T.f_w_drawn T.d_w_drawn ["tray", "rows", "interval"] (sp_w_follows K) := by
  have G_w_few : FnOk P w K mg base CX0 2 T.f_w_few T.d_w_few ["tray", "items", "many"] (sp_w_few K) := ok_w_few T
  have G_w_pick : FnOk P w K mg base CX0 2 T.f_w_pick T.d_w_pick ["tray", "items"] (sp_w_pick K) := ok_w_pick T
  refine T.F_w_drawn.ok sc_w_drawn (fun vs H Q E h => ?_) (fun cdv A outer s H vs Q E hr h => ?_)
  · obtain ⟨r, d, t, L, R, S, rfl, _⟩ := h
    rfl
  · obtain ⟨r, d, t, L, R, S, rfl, hR, hd, ts, gR, fin, l6, srd, k⟩ := h
    have hu := hu_of hr
    have hr_w_few : Room 2 _ := hr.mono (by decide)
    have hr_w_pick : Room 2 _ := hr.mono (by decide)
    refine ⟨_, PSs.nox (pss_cons (ps_par (i := 3) (j := 4) (by rfl) sc_w_drawn.nd rfl rfl (by decide) rfl rfl (pa_cons pe_dnewK (pa_cons (pe_callB (call_sortedD rfl) (by rfl) T.z_sorted (by decide +kernel) (pa_cons (pv 1) pa_nil)) pa_nil)) (by rfl))
      (pss_cons (ps_for PassesOwn.never rfl (pi_zip (by rfl) T.z_zip (pa_cons (pv 4) (pa_cons (pe_call G_w_few hr_w_few rfl T.m_w_few T.F_w_few.kp T.b_w_few .nil pass0 (pa_cons (pv 0) (pa_cons (pv 4) (pa_cons (pe_callB call_len_seq (by rfl) T.z_len (by decide +kernel) (pa_cons (pv 4) pa_nil)) pa_nil)))) pa_nil))) (pg_tup rfl (pgs_cons (pg_name (i := 5) sc_w_drawn.nd rfl (Or.inl rfl)) (pgs_cons (pg_name (i := 6) sc_w_drawn.nd rfl (Or.inl rfl)) pgs_nil)))
      (pss_cons (ps_set (i := 7) sc_w_drawn.nd rfl (Or.inl rfl) (pe_op op_mod (pe_callTy call_int1 (by rfl) T.z_int (by decide +kernel) (pa_cons (pe_op op_sub (pe_ix ix_seq (pe_dget (by exact hu) (pv 1) (pv 6) (fun _ _ => rfl)) pe_int (fun _ _ => rfl)) (pe_ix ix_seq (pe_dget (by exact hu) (pv 1) (pv 5) (fun _ _ => rfl)) pe_int (fun _ _ => rfl))) pa_nil)) (pv 2)))
      (pss_one (ps_dput (by exact hu) (pv 3) (pv 5) (pe_tup (pa_cons (pv 6) (pa_cons (pe_op op_add (pv 7) (pe_op op_mul (pv 2) (pe_call G_w_pick hr_w_pick rfl T.m_w_pick T.F_w_pick.kp T.b_w_pick .nil pass0 (pa_cons (pv 0) (pa_cons (pe_lst (pa_cons pe_int (pa_cons pe_int (pa_cons pe_int (pa_cons pe_int (pa_cons pe_int (pa_cons pe_int pa_nil))))))) pa_nil))))) pa_nil))) rfl))))
      (pss_one (ps_ret (pv 3))))), ?_⟩
    have t1 := gR.t1
    have t2 := gR.t2
    have gS : Good t S := gR.perm srd.pm
    have lS : S.length ≤ 6 := by rw [srd.pm.length_eq]; exact l6
    have lN : (S.map (·.1)).length ≤ 6 := by rw [List.length_map]; exact lS
    intro fd hfd
    have ndr : d ≠ r := fun z => by obtain ⟨_, _, _, q⟩ := hR; rw [← z, hd] at q; cases q
    have nfd : d ≠ fd := ne_of_none hd hfd
    refine ⟨_, rfl, d, _, L.map (·.1), rfl, .inl ((upd_ne nfd).trans hd), kvs_keys L, by rw [List.length_map, ts.len]; omega, fun ys pl pm so2 hpl => ?_⟩
    have enm : (L.map (·.1)).Perm (S.map (·.1)) := by rw [ts.names]; exact (srd.pm.map (·.1)).symm
    obtain rfl : ys = S.map (·.1) := sort_to pm so2 enm srd.so
    have S1 : Same H (upd (upd H fd (.dK [])) pl (.lst ((S.map (·.1)).map V.str))) := Same.trans (Same.new hfd) (Same.new hpl)
    have nfp : fd ≠ pl := fun z => by rw [← z, upd_same] at hpl; cases hpl
    have efd : (upd (upd H fd (.dK [])) pl (.lst ((S.map (·.1)).map V.str))) fd = some (.dK (Kvs [])) := (upd_ne nfp).trans upd_same
    have epl : (upd (upd H fd (.dK [])) pl (.lst ((S.map (·.1)).map V.str))) pl = some (.lst ((S.map (·.1)).map V.str)) := upd_same
    have nfr : fd ≠ r := hR.ne hfd
    have npr : pl ≠ r := fun z => by
      obtain ⟨x, y, w, q⟩ := hR
      rw [z, upd_ne nfr.symm, q] at hpl
      cases hpl
    generalize upd (upd H fd (.dK [])) pl (.lst ((S.map (·.1)).map V.str)) = H1 at S1 efd epl ⊢
    refine ⟨_, _, rfl, ?_⟩
    have R1 := Same.rl S1 hR
    refine ⟨_, rfl, _, rfl, _, rfl, _, rfl, pl, _, rfl, .inl (SqL.of epl), r, pl, (S.map (·.1)).map V.str, _, rfl, R1, .inl (SqL.of epl), by rw [List.length_map]; omega, by omega, by rw [List.length_map]; omega, fun ol ys rest H2 R2 O2 hol eol pf lys => ?_⟩
    obtain ⟨os, rfl, mos, ndos⟩ := few_of (f := V.str) (xs := S.map (·.1)) (fun a _ b _ h => V.str.inj h) gS.nd pf
    have los : os.length = (S.map (·.1)).length := by
      rw [List.length_map, List.length_map] at lys
      rw [if_neg (by omega)] at lys
      omega
    have pos : os.Perm (S.map (·.1)) := perm_of_sub ndos mos los.symm
    have nor : ol ≠ r := R1.ne hol
    have nfo : fd ≠ ol := ne_of_none efd hol
    have ep2 := O2 _ _ npr epl
    have ef2 := O2 _ _ nfr efd
    have OH2 : Only r H H2 := fun b o n e => O2 b o n (S1 b o e)
    refine ⟨pl, ol, _, _, rfl, SqL.of ep2, SqL.of eol, ?_⟩
    refine RZ.for_zipL (xs := (S.map (·.1)).map V.str) (ys := os.map V.str) (by simpa using los.symm) (fun i σ G => ∃ (v5 v6 v7 : Option V) (L' : List (Str × Addr)) (F : Flw), σ = [some (.ref r), some (.ref d), some (.int t), some (.ref fd), some (.ref pl), v5, v6, v7] ∧ Rl G r ∧ Only r H G ∧ G pl = some (.lst ((S.map (·.1)).map V.str)) ∧ G ol = some (.lst (os.map V.str)) ∧ G fd = some (.dK (Kvs L')) ∧ FTs G L' F ∧ F.map (·.1) = (S.map (·.1)).take i ∧ F.map (·.2.1) = os.take i ∧ ∀ x ∈ F, (0 ≤ x.2.2 ∧ x.2.2 ≤ 3 * t) ∧ ((spn S x.1).2 + x.2.2 - (spn S x.2.1).1) % t = 0) ⟨none, none, none, [], [], rfl, R2, OH2, ep2, eol, ef2, .nil, rfl, rfl, fun x hx => (by cases hx)⟩ (fun i σ G h => by obtain ⟨_, _, _, _, _, _, _, _, e1, e2, _⟩ := h; exact ⟨SqL.of e1, SqL.of e2⟩) ?_ ?_
    · rintro i x y TT σ G hx hy ⟨v5, v6, v7, L', F, rfl, RG, OG, ep, eo, eF, fts, f1, f2, wt⟩ hT
      rw [List.getElem?_map] at hx hy
      cases e1 : (S.map (·.1))[i]? with
      | none => rw [e1] at hx; cases hx
      | some n =>
      cases e2 : os[i]? with
      | none => rw [e2] at hy; cases hy
      | some m =>
      rw [e1] at hx
      rw [e2] at hy
      cases hx
      cases hy
      have hn := List.mem_of_getElem? e1
      have hm := mos m (List.mem_of_getElem? e2)
      have il := (List.getElem?_eq_some_iff.mp e1).1
      have S3 := Same.new (o := .tup [V.str n, V.str m]) hT
      have eT : (upd G TT (.tup [V.str n, V.str m])) TT = some (.tup [V.str n, V.str m]) := upd_same
      generalize upd G TT (.tup [V.str n, V.str m]) = G1 at S3 eT ⊢
      have OG1 : Only r H G1 := fun b o q e => S3 _ _ (OG b o q e)
      have R1' := Same.rl S3 RG
      have ep1 := S3 _ _ ep
      have eo1 := S3 _ _ eo
      have eF1 := S3 _ _ eF
      have fts1 := fts.keep (KT.same S3)
      refine ⟨TT, _, rfl, SqT.of eT, rfl, _, _, rfl, _, _, rfl, rfl, ?_⟩
      have hd1 := OG1 _ _ ndr hd
      have ts1 := ts.keep (KT.only OG1 hR)
      obtain ⟨u1, b1, en1, hv1, ht1, hm1⟩ := ts1.get ((srd.pm.map (·.1)).mem_iff.mp hn)
      obtain ⟨u2, b2, en2, hv2, ht2, hm2⟩ := ts1.get ((srd.pm.map (·.1)).mem_iff.mp hm)
      have es1 := spn_srd gS srd hm1
      have es2 := spn_srd gS srd hm2
      have dg1 : DGet G1 d (.str n) (some (.ref u1)) := by
        have := DGet.k (k := Sum.inr n) hd1
        rw [hv1] at this
        exact this
      have dg2 : DGet G1 d (.str m) (some (.ref u2)) := by
        have := DGet.k (k := Sum.inr m) hd1
        rw [hv2] at this
        exact this
      refine ⟨_, rfl, _, rfl, d, _, rfl, dg2, .inr (.inl ⟨_, _, _, _, rfl, rfl, SqT.of ht2, rfl, ?_⟩)⟩
      refine ⟨_, rfl, _, rfl, d, _, rfl, dg1, .inr (.inl ⟨_, _, _, _, rfl, rfl, SqT.of ht1, rfl, _, _, rfl, rfl, ?_⟩)⟩
      refine .inl ⟨_, rfl, _, rfl, _, _, rfl, rfl, by omega, ?_⟩
      refine ⟨_, rfl, _, rfl, _, rfl, _, rfl, by show 6 ≤ sizeLine; decide, fun q hq => ?_⟩
      have S4 := Same.new (o := .lst [V.int 0, .int 0, .int 0, .int 0, .int 1, .int 2]) hq
      have eq4 : (upd G1 q (.lst [V.int 0, .int 0, .int 0, .int 0, .int 1, .int 2])) q = some (.lst [V.int 0, .int 0, .int 0, .int 0, .int 1, .int 2]) := upd_same
      refine ⟨r, .ref q, _, rfl, Same.rl S4 R1', .inl ⟨q, rfl, R1'.ne hq, .inl (SqL.of eq4)⟩, by decide, by show 6 ≤ sizeLine; decide, fun v G2 hv RG2 O4 => ?_⟩
      obtain ⟨k0, rfl, k1, k2⟩ : ∃ k0 : Int, v = .int k0 ∧ 0 ≤ k0 ∧ k0 ≤ 2 := by
        simp only [List.mem_cons, List.not_mem_nil, or_false] at hv
        rcases hv with h | h | h | h | h | h
        all_goals subst h; exact ⟨_, rfl, by decide, by decide⟩
      have o12 : ∀ a o, a ≠ r → G1 a = some o → G2 a = some o := fun a o n e => O4 a o n (S4 _ _ e)
      have k12 : KT G1 G2 := KT.trans (KT.same S4) (KT.only O4 (Same.rl S4 R1'))
      have m0 := Int.emod_nonneg (b2 - en1) (show t ≠ 0 by omega)
      have m1 := Int.emod_lt_of_pos (b2 - en1) (show 0 < t by omega)
      have tk : 0 ≤ t * k0 ∧ t * k0 ≤ t * 2 := ⟨Int.mul_nonneg (by omega) k1, Int.mul_le_mul_of_nonneg_left k2 (by omega)⟩
      refine ⟨_, _, rfl, rfl, .inl ⟨by omega, by omega⟩, _, _, rfl, rfl, by show 2 ≤ sizeLine; decide, fun q2 hq2 => ?_⟩
      have eF2 := o12 _ _ nfr eF1
      have nfq : fd ≠ q2 := ne_of_none eF2 hq2
      have eF3 : (upd G2 q2 (.tup [.str m, .int ((b2 - en1) % t + t * k0)])) fd = some (.dK (Kvs L')) := (upd_ne nfq).trans eF2
      have k23 : KT G2 (upd (upd G2 q2 (.tup [.str m, .int ((b2 - en1) % t + t * k0)])) fd (.dK (putK (Kvs L') (.inr n) (.ref q2)))) := KT.trans (KT.new hq2) (KT.put eF3 (fun _ z => by cases z))
      have hnL : n ∉ L'.map (·.1) := by
        rw [fts.names, f1]
        intro hm2
        have nd2 := gS.nd
        rw [← List.take_append_drop i (S.map (·.1))] at nd2
        have hd2 : n ∈ (S.map (·.1)).drop i := by
          rw [List.mem_iff_getElem?]
          exact ⟨0, by rw [List.getElem?_drop]; exact e1⟩
        exact (List.nodup_append.mp nd2).2.2 n hm2 n hd2 rfl
      have lL : L'.length ≤ 6 := by
        have := congrArg List.length f1
        rw [List.length_map, List.length_take] at this
        rw [fts.len]
        omega
      refine ⟨_, rfl, _, rfl, fd, _, rfl, .inl ⟨Kvs L', .inr n, eF3, rfl, by rw [kvs_len, sizeLine_eq]; omega, rfl⟩, ?_⟩
      have old : ∀ a o, a ≠ r → a ≠ fd → G1 a = some o → (upd (upd G2 q2 (.tup [.str m, .int ((b2 - en1) % t + t * k0)])) fd (.dK (putK (Kvs L') (.inr n) (.ref q2)))) a = some o := fun a o n1 n2 e => by
        have e3 := o12 _ _ n1 e
        rw [upd_ne n2, upd_ne (ne_of_none e3 hq2)]
        exact e3
      have R5 : Rl (upd (upd G2 q2 (.tup [.str m, .int ((b2 - en1) % t + t * k0)])) fd (.dK (putK (Kvs L') (.inr n) (.ref q2)))) r := by
        obtain ⟨x, y, z, e⟩ := RG2
        exact ⟨x, y, z, by rw [upd_ne nfr.symm, upd_ne (ne_of_none e hq2)]; exact e⟩
      refine ⟨some (.str n), some (.str m), some (.int ((b2 - en1) % t)), L' ++ [(n, q2)], F ++ [(n, m, (b2 - en1) % t + t * k0)], rfl, R5, ?_, old _ _ npr (fun z => by rw [z, eF1] at ep1; cases ep1) ep1, old _ _ nor (fun z => by rw [z, eF1] at eo1; cases eo1) eo1, ?_, ?_, ?_, ?_, fun x hx => ?_⟩
      · intro a o n1 e
        exact old a o n1 (fun z => by rw [z, hfd] at e; cases e) (OG1 a o n1 e)
      · rw [upd_same, putK_kvs hnL]
      · exact (fts1.keep (KT.trans k12 k23)).snoc ((upd_ne nfq.symm).trans upd_same)
      · rw [List.map_append, f1, List.take_add_one, e1]
        rfl
      · rw [List.map_append, f2, List.take_add_one, e2]
        rfl
      · rcases List.mem_append.mp hx with hx | hx
        · exact wt x hx
        · rw [List.mem_singleton.mp hx]
          dsimp only
          rw [es1, es2]
          exact ⟨⟨by omega, by omega⟩, drawn_dv⟩
    · rintro σ G ⟨v5, v6, v7, L', F, rfl, RG, OG, ep, eo, eF, fts, f1, f2, wt⟩
      rw [List.length_map, List.take_length] at f1
      rw [List.length_map, ← los, List.take_length] at f2
      refine ⟨_, rfl, k fd L' F G RG OG hfd eF fts ⟨by rw [f1], by rw [f2]; exact pos, fun x hx => ⟨(wt x hx).1.1, by have := (wt x hx).1.2; omega⟩, fun x hx => (wt x hx).2, ?_⟩ fun x hx => (wt x hx).1.2⟩
      have := congrArg List.length f1
      rw [List.length_map, List.length_map] at this
      omega
theorem ok_w_follows (T : T K mg) : FnOk P w K mg base CX0 4 T.f_w_follows T.d_w_follows ["tray", "rows", "interval"] (sp_w_follows K) := by
  have G_w_drawn : FnOk P w K mg base CX0 3 T.f_w_drawn T.d_w_drawn ["tray", "rows", "interval"] (sp_w_follows K) := ok_w_drawn T
  have G_w_roll : FnOk P w K mg base CX0 1 T.f_w_roll T.d_w_roll ["tray", "total"] (sp_w_roll K) := ok_w_roll T
  have G_w_swept : FnOk P w K mg base CX0 3 T.f_w_swept T.d_w_swept ["tray", "rows", "interval"] (sp_w_follows K) := ok_w_swept T
  refine T.F_w_follows.ok sc_w_follows (fun vs H Q E h => ?_) (fun cdv A outer s H vs Q E hr h => ?_)
  · obtain ⟨r, d, t, L, R, S, rfl, _⟩ := h
    rfl
  · obtain ⟨r, d, t, L, R, S, rfl, hR, hd, ts, gR, fin, l6, srd, k⟩ := h
    have hu := hu_of hr
    have hr_w_drawn : Room 3 _ := hr.mono (by decide)
    have hr_w_roll : Room 1 _ := hr.mono (by decide)
    have hr_w_swept : Room 3 _ := hr.mono (by decide)
    refine ⟨_, (pss_cons (ps_if (pt_cmpR op_eq (pe_call G_w_roll hr_w_roll rfl T.m_w_roll T.F_w_roll.kp T.b_w_roll .nil pass0 (pa_cons (pv 0) (pa_cons pe_int pa_nil))) pe_int (nomark _))
      (pss_one (ps_ret (pe_call G_w_swept hr_w_swept rfl T.m_w_swept T.F_w_swept.kp T.b_w_swept .nil pass0 (pa_cons (pv 0) (pa_cons (pv 1) (pa_cons (pv 2) pa_nil))))))
      pss_nil)
      (pss_one (ps_ret (pe_call G_w_drawn hr_w_drawn rfl T.m_w_drawn T.F_w_drawn.kp T.b_w_drawn .nil pass0 (pa_cons (pv 0) (pa_cons (pv 1) (pa_cons (pv 2) pa_nil))))))), ?_⟩
    refine ⟨_, rfl, r, 2, rfl, hR, by decide, by decide +kernel, fun v H1 _ _ R1 O1 => ⟨rfl, _, rfl, ?_⟩⟩
    have ndr : d ≠ r := fun z => by obtain ⟨_, _, _, q⟩ := hR; rw [← z, hd] at q; cases q
    have hd1 := O1 _ _ ndr hd
    have ts1 := ts.keep (KT.only O1 hR)
    have k' : ∀ fd L' F H', Rl H' r → Only r H1 H' → H1 fd = none → H' fd = some (.dK (Kvs L')) → FTs H' L' F → FOk t S F → (∀ x ∈ F, x.2.2 ≤ 3 * t) → Q (.ref fd) H' := fun fd L' F H' RH OH hf eF fF ok w3 => by
      refine k fd L' F H' RH (fun b o n e => OH b o n (O1 b o n e)) ?_ eF fF ok w3
      cases z : H fd with
      | none => rfl
      | some o =>
        have nfr : fd ≠ r := R1.ne hf
        rw [O1 _ _ nfr z] at hf
        cases hf
    cases decide (V.int v = V.int 0) with
    | true => exact iteT ⟨_, rfl, _, rfl, _, rfl, r, d, t, L, R, S, rfl, R1, hd1, ts1, gR, fin, l6, srd, k'⟩
    | false => exact iteF ⟨_, rfl, _, rfl, _, rfl, r, d, t, L, R, S, rfl, R1, hd1, ts1, gR, fin, l6, srd, k'⟩
end
end K44
namespace K44
open PySem L2
open PyProof.Rows PySem.Spec
def adr (L : List (Str × Addr)) (n : Str) : Addr := match valV (Kvs L) (.inr n) with
  | some (.ref a) => a
  | _ => 0
/-- the follows of some names -/
def folN (F : Flw) (ns : List Str) : Flw := ns.map fun n => (n, fol F n)
def adrN (L : List (Str × Addr)) (ns : List Str) : List (Str × Addr) := ns.map fun n => (n, adr L n)
theorem FTs.adr {H : Hp} {L : List (Str × Addr)} {F : Flw} (h : FTs H L F) {n : Str} (hn : n ∈ F.map (·.1)) : valV (Kvs L) (.inr n) = some (.ref (adr L n)) ∧ FAt H (adr L n) (fol F n).1 (fol F n).2 := by
  obtain ⟨a, va, ha, _⟩ := h.get hn
  have : K44.adr L n = a := by unfold K44.adr; rw [va]
  rw [this]
  exact ⟨va, ha⟩
theorem fts_names {H : Hp} {L : List (Str × Addr)} {F : Flw} : ∀ {ns : List Str}, (∀ n ∈ ns, FAt H (adr L n) (fol F n).1 (fol F n).2) → FTs H (adrN L ns) (folN F ns)
  | [], _ => .nil
  | n :: ns, h => .cons (h n List.mem_cons_self) (fts_names fun m hm => h m (List.mem_cons_of_mem _ hm))
theorem gvs_adr (L : List (Str × Addr)) (ns : List Str) : Gvs (ns.map fun n => (n, V.ref (adr L n))) = Kvs (adrN L ns) := by
  unfold adrN
  rw [kvs_gvs, List.map_map]
  rfl
theorem adrN_names (L : List (Str × Addr)) (ns : List Str) : (adrN L ns).map (·.1) = ns := by
  unfold adrN
  rw [List.map_map]
  exact List.map_id' _
section
variable {P : Program} {w : World} {K : PySem.W.Frag}
                                                      {mg : Str → Option Value} {base : Heap}
def sp_w_sortedF (K : PySem.W.Frag) : Sp := fun vs H Q _ => ∃ (d : Addr) (t : Int) (S : Rws) (L : List (Str × Addr)) (F : Flw), vs = [.ref d] ∧ Good t S ∧ sortedS (S.map (·.1)) = true ∧ H d = some (.dK (Kvs L)) ∧ FTs H L F ∧ FOk t S F ∧
  ∀ d' L' H', Same H H' → H d' = none → H' d' = some (.dK (Kvs L')) → FTs H' L' (ordF S F) → Q (.ref d') H'
theorem ok_w_sortedF (T : T K mg) : FnOk P w K mg base CX0 1 T.f_w_sorted T.d_w_sorted ["rows"] (sp_w_sortedF K) := by
  refine T.F_w_sorted.ok sc_w_sorted (fun vs H Q E h => ?_) (fun cdv A outer s H vs Q E hr h => ?_)
  · obtain ⟨d, t, S, L, F, rfl, _⟩ := h
    rfl
  · obtain ⟨d, t, S, L, F, rfl, g, so, hd, fts, fok, k⟩ := h
    have hu := hu_of hr
    have l6 := fok.len
    refine ⟨_, (pss_one (ps_ret (pe_callTy (call_dictP rfl) (by rfl) T.z_dict (by decide +kernel) (pa_cons (pe_lc (own := [("name", 1)]) (g := gName 1) rfl sc_w_sorted.nd (pi_list (pe_callB (call_sortedD rfl) (by rfl) T.z_sorted (by decide +kernel) (pa_cons (pv 0) pa_nil))) (blkOk_by (N := ["rows", "name"]) (sc := defScope s_w_sorted) (by decide +kernel)) (fun _ _ _ _ _ => (pg_name (i := 1) sc_w_sorted.nd rfl (Or.inl rfl))) (fun _ _ _ _ _ => pts_nil) (fun _ _ _ _ _ => (pe_tup (pa_cons (pv 1) (pa_cons (pe_dget (by exact hu) (pv 0) (pv 1) (fun _ _ => rfl)) pa_nil))))) pa_nil)))), ?_⟩
    refine ⟨_, rfl, d, _, L.map (·.1), rfl, .inl hd, kvs_keys L, by rw [List.length_map, fts.len]; omega, fun ys pl pm so2 hpl => ?_⟩
    obtain rfl : ys = S.map (·.1) := sort_to pm so2 (by rw [fts.names]; exact fok.nm) so
    have S1 := Same.new (o := .lst ((S.map (·.1)).map V.str)) hpl
    have epl : (upd H pl (.lst ((S.map (·.1)).map V.str))) pl = some (.lst ((S.map (·.1)).map V.str)) := upd_same
    generalize upd H pl (.lst ((S.map (·.1)).map V.str)) = H1 at S1 epl ⊢
    refine ⟨pl, rfl, ⟨_, SqL.of epl⟩, fun D hD => ?_⟩
    have W := walk_list (K := K) (a := pl) (xs := (S.map (·.1)).map V.str)
    rw [List.length_map] at W
    refine lc_pairs W (fun n => V.ref (adr L n)) yat_str (fun H' s => SqL.of (s _ _ epl)) (by rw [List.length_map]; omega) hD ?_ ?_
    · intro n Ha hn Sa C N kC
      refine ⟨rfl, ?_⟩
      unfold tYes
      dsimp only
      rw [if_pos rfl]
      obtain ⟨va, _⟩ := fts.adr (fok.at hn)
      have dg : DGet Ha d (.str n) (some (.ref (adr L n))) := by
        have := DGet.k (k := Sum.inr n) (Sa _ _ (S1 _ _ hd))
        rw [va] at this
        exact this
      exact ⟨_, rfl, _, rfl, _, rfl, d, _, rfl, dg, by show 2 ≤ sizeLine; decide, fun q hq => kC q hq⟩
    · intro H2 ps S2 e2 pg
      refine ⟨D, ps, Gvs ((S.map (·.1)).map fun n => (n, V.ref (adr L n))), rfl, SqL.of e2, pg.pd, fun q hq => ?_⟩
      have e0 : mergeK [] (Gvs ((S.map (·.1)).map fun n => (n, V.ref (adr L n)))) = Gvs ((S.map (·.1)).map fun n => (n, V.ref (adr L n))) := mergeK_gvs _ [] (by rw [List.nil_append, List.map_map]; have e9 : ((S.map (·.1)).map ((fun x : Str × V => x.1) ∘ fun n => (n, V.ref (adr L n)))) = S.map (·.1) := List.map_id' _; rw [e9]; exact g.nd)
      rw [e0, gvs_adr]
      have S3 := Same.trans S1 (Same.trans S2 (Same.new (o := .dK (Kvs (adrN L (S.map (·.1))))) hq))
      refine k q _ _ S3 ?_ upd_same (fts_names fun n hn => ?_)
      · cases z : H q with
        | none => rfl
        | some o =>
          rw [S2 _ _ (S1 _ _ z)] at hq
          cases hq
      · exact KT.same S3 _ _ (fts.adr (fok.at hn)).2
end
end K44
namespace K44
open PySem L2
open PyProof.Rows PySem.Spec
def flowD (r : Str × Str × Int) : PyData × PyData := (.str r.1, .tuple [.str r.2.1, .int r.2.2])
def flowsD (F : Flw) : PyData := .dict (F.map flowD)
theorem fat_ds {K : PySem.W.Frag} {H : Hp} {a : Addr} {m : Str} {w : Int} (h : FAt H a m w) : RL.DS K H (.ref a) (.tuple [.str m, .int w]) := .tup (SqT.of h) (.cons (.str _) (.cons (.int _) .nil))
theorem FTs.dsk {K : PySem.W.Frag} {H : Hp} : ∀ {L : List (Str × Addr)} {F : Flw}, FTs H L F → RL.DSk K H (Kvs L) (F.map flowD)
  | _, _, .nil => .nil
  | _, _, .cons h t => .cons (k := Sum.inr _) (fat_ds h) (FTs.dsk t)
theorem eqv_flow (p q : Str × Int) : PyData.eqv (.tuple [.str p.1, .int p.2]) (.tuple [.str q.1, .int q.2]) = decide (p = q) := by
  obtain ⟨a, b⟩ := p
  obtain ⟨c, d⟩ := q
  simp [PyData.eqv, PyData.eqvAll]
  rw [Bool.eq_iff_iff]
  simp
theorem allE_flows : ∀ {S S2 : Flw}, S.map (·.1) = S2.map (·.1) → RL.allE (S.map flowD) (S2.map flowD) = decide (S = S2)
  | [], [], _ => by simp [RL.allE]
  | [], _ :: _, h => by cases h
  | _ :: _, [], h => by cases h
  | (n, p) :: S, (m, q) :: S2, h => by
    obtain ⟨h1, h2⟩ := List.cons.inj h
    obtain rfl : n = m := h1
    show (PyData.eqv (.tuple [.str p.1, .int p.2]) (.tuple [.str q.1, .int q.2]) && RL.allE (S.map flowD) (S2.map flowD)) = _
    rw [eqv_flow, allE_flows h2, Bool.eq_iff_iff]
    simp
theorem plain_flows (S : Flw) : PyData.plainAll ((S.map flowD).map (·.2)) = true := by
  induction S with
  | nil => simp [PyData.plainAll]
  | cons r S ih => simpa [PyData.plainAll, PyData.plain, flowD] using ih
theorem depth_flows (S : Flw) : PyData.depthAll ((S.map flowD).map (·.2)) ≤ 1 := by
  induction S with
  | nil => simp [PyData.depthAll]
  | cons r S ih =>
    simp [PyData.depthAll, PyData.depth, flowD] at ih ⊢
    exact Nat.max_le.mpr ⟨Nat.le_refl _, ih⟩
theorem szs_sum {t : Int} {S : Rws} {F : Flw} (g : Good t S) (h : FOk t S F) : 0 ≤ (szs S t F).sum ∧ (szs S t F).sum ≤ 432 := by
  have key : ∀ l : List Int, (∀ z ∈ l, 1 ≤ z ∧ z ≤ 72) → 0 ≤ l.sum ∧ l.sum ≤ 72 * l.length := by
    intro l
    induction l with
    | nil => intro _; exact ⟨Int.le_refl _, Int.le_refl _⟩
    | cons z l ih =>
      intro h
      have a := h z List.mem_cons_self
      have b := ih fun y hy => h y (List.mem_cons_of_mem _ hy)
      rw [List.sum_cons, List.length_cons]
      omega
  have := key _ (szs_bd g h)
  have := szs_len h (t := t)
  omega
end K44
namespace K44
open PySem L2
open PyProof.Rows PySem.Spec
/-- data whose text is short -/
structure TL (d : PyData) (n : Nat) : Prop where
  sh : d.showable = true
  ls : d.leavesShort 13 = true
  bk : d.bulk ≤ n
  dp : d.depth ≤ 10
structure TLs (k : Nat) (ds : List PyData) (n : Nat) : Prop where
  sh : PyData.showableAll ds = true
  ls : PyData.leavesShortAll 13 ds = true
  bk : PyData.bulkAll ds ≤ n
  dp : PyData.depthAll ds ≤ k
structure TD (k : Nat) (d : PyData) (n : Nat) : Prop where
  sh : d.showable = true
  ls : d.leavesShort 13 = true
  bk : d.bulk ≤ n
  dp : d.depth ≤ k
theorem TLs.nil {k : Nat} : TLs k [] 0 := ⟨by simp [PyData.showableAll], by simp [PyData.leavesShortAll], by simp [PyData.bulkAll], by simp [PyData.depthAll]⟩
theorem TLs.cons {k : Nat} {d : PyData} {ds : List PyData} {a b : Nat} (h : TD k d a) (t : TLs k ds b) : TLs k (d :: ds) (a + 1 + b) := by
  obtain ⟨h1, h2, h3, h4⟩ := h
  obtain ⟨t1, t2, t3, t4⟩ := t
  refine ⟨by simp [PyData.showableAll, h1, t1], by simp [PyData.leavesShortAll, h2, t2], ?_, ?_⟩
  · simp only [PyData.bulkAll]
    omega
  · simp only [PyData.depthAll]
    omega
theorem TD.list {k : Nat} {ds : List PyData} {a : Nat} (t : TLs k ds a) : TD (k + 1) (.list ds) a := by
  obtain ⟨t1, t2, t3, t4⟩ := t
  exact ⟨by simpa [PyData.showable] using t1, by simpa [PyData.leavesShort] using t2, by simpa [PyData.bulk] using t3, by simp only [PyData.depth]; omega⟩
theorem TD.tup {k : Nat} {ds : List PyData} {a : Nat} (t : TLs k ds a) : TD (k + 1) (.tuple ds) a := by
  obtain ⟨t1, t2, t3, t4⟩ := t
  exact ⟨by simpa [PyData.showable] using t1, by simpa [PyData.leavesShort] using t2, by simpa [PyData.bulk] using t3, by simp only [PyData.depth]; omega⟩
theorem TD.up {k : Nat} {d : PyData} {a : Nat} (t : TD k d a) : TD (k + 1) d a := ⟨t.sh, t.ls, t.bk, Nat.le_succ_of_le t.dp⟩
theorem TD.int {i : Int} (h1 : -999999999999 ≤ i) (h2 : i ≤ 999999999999) : TD 0 (.int i) 0 := by
  refine ⟨?_, ?_, by simp [PyData.bulk], by simp [PyData.depth]⟩
  · simp only [PyData.showable, decide_eq_true_eq]
    have : i.natAbs.log2 < 40 := by
      refine PySem.Flt.log2_lt_of (by decide) ?_
      omega
    omega
  · simp only [PyData.leavesShort, decide_eq_true_eq]
    exact PyData.shown_int_le2 h1 h2
theorem TD.name {z : Str} (h : nmC z = true) : TD 0 (.str z) 8 := by
  have nl := nmC_len h
  refine ⟨by simp [PyData.showable], ?_, ?_, by simp [PyData.depth]⟩
  · simp only [PyData.leavesShort, List.all_eq_true, decide_eq_true_eq]
    have ok := nm_ok h
    unfold PyData.strOk at ok
    rw [← Array.all_toList, List.all_eq_true] at ok
    intro c hc
    have := of_decide_eq_true (ok c hc)
    have e : (16 : Nat) ^ 8 = 4294967296 := by decide
    omega
  · simp only [PyData.bulk]
    exact nl.2
theorem TD.span {b e : Int} (h : Near 900000000000 (n, b, e)) (h2 : 1 ≤ e - b) : TD 1 (.tuple [.int b, .int e]) 2 := by
  unfold Near at h
  simp only at h
  exact TD.tup (TLs.cons (TD.int (by omega) (by omega)) (TLs.cons (TD.int (by omega) (by omega)) TLs.nil))
theorem TLs.mapd {α : Type} {k m : Nat} {f : α → PyData} : ∀ {xs : List α}, (∀ x ∈ xs, TD k (f x) m) → TLs k (xs.map f) ((m + 1) * xs.length)
  | [], _ => TLs.nil
  | x :: xs, h => by
    have t := TLs.cons (h x List.mem_cons_self) (TLs.mapd (f := f) (xs := xs) fun y hy => h y (List.mem_cons_of_mem _ hy))
    refine ⟨t.sh, t.ls, Nat.le_trans t.bk ?_, t.dp⟩
    rw [List.length_cons, Nat.mul_add]
    omega
theorem TD.names {ns : List Str} (h : ∀ n ∈ ns, nmC n = true) : TD 1 (.tuple (ns.map PyData.str)) (9 * ns.length) := TD.tup (TLs.mapd fun x hx => TD.name (h x hx))
theorem TD.tell {k n : Nat} {d : PyData} (t : TD k d n) (h1 : n ≤ 1000) (h2 : k ≤ 60) : d.showable = true ∧ d.shown.length ≤ sizeLine ∧ d.depth ≤ 60 :=
  ⟨t.sh, PyData.shown_fits_bulk (by decide) (by decide) t.ls (Nat.le_trans (Nat.le_trans t.bk h1) (by decide)), Nat.le_trans t.dp h2⟩
theorem dss_app1 {K : PySem.W.Frag} {H : Hp} {v : V} {d : PyData} (h : RL.DS K H v d) : ∀ {vs : List V} {ds : List PyData}, RL.DSs K H vs ds → RL.DSs K H (vs ++ [v]) (ds ++ [d])
  | _, _, .nil => .cons h .nil
  | _, _, .cons a t => .cons a (dss_app1 h t)

theorem TD.mono {k a b : Nat} {d : PyData} (t : TD k d a) (h : a ≤ b) : TD k d b := ⟨t.sh, t.ls, Nat.le_trans t.bk h, t.dp⟩
theorem TD.upk {k l a : Nat} {d : PyData} (t : TD k d a) (h : k ≤ l) : TD l d a := ⟨t.sh, t.ls, t.bk, Nat.le_trans t.dp h⟩
/-- what a wiring tells -/
def cycD (cs : List (List Str)) : PyData := .tuple (cs.map fun c => .tuple (c.map PyData.str))
noncomputable def toldD (S : Rws) (t : Int) (F : Flw) : PyData := .list [cycD (cyA S F), .tuple ((szs S t F).map PyData.int), .int (szs S t F).sum, .int (cpy S t F (szs S t F).length : Nat), .int (cyA S F).length]
theorem dss_ints {K : PySem.W.Frag} {H : Hp} : ∀ zs : List Int, RL.DSs K H (zs.map V.int) (zs.map PyData.int)
  | [] => .nil
  | z :: zs => .cons (.int z) (dss_ints zs)
theorem dss_strs {K : PySem.W.Frag} {H : Hp} : ∀ zs : List Str, RL.DSs K H (zs.map V.str) (zs.map PyData.str)
  | [] => .nil
  | z :: zs => .cons (.str z) (dss_strs zs)
theorem CTs.dss {K : PySem.W.Frag} {H : Hp} {as : List Addr} {cs : List (List Str)} (h : CTs H as cs) : RL.DSs K H (as.map V.ref) (cs.map fun c => .tuple (c.map PyData.str)) := by
  induction h with
  | nil => exact .nil
  | cons h _ ih => exact .cons (.tup (SqT.of h) (dss_strs _)) ih
theorem FTs.ds {K : PySem.W.Frag} {H : Hp} {a : Addr} {L : List (Str × Addr)} {F : Flw} (h : FTs H L F) (e : H a = some (.dK (Kvs L))) : RL.DS K H (.ref a) (flowsD F) := .dic e h.dsk
theorem FOk.nms {t : Int} {S : Rws} {F : Flw} (g : Good t S) (h : FOk t S F) : ∀ x ∈ F, nmC x.1 = true ∧ nmC x.2.1 = true := fun x hx => by
  have key : ∀ n ∈ S.map (·.1), nmC n = true := fun n hn => by
    obtain ⟨y, hy, rfl⟩ := List.mem_map.mp hn
    exact g.nm y hy
  exact ⟨key _ (h.nm.mem_iff.mp (List.mem_map.mpr ⟨x, hx, rfl⟩)), key _ (h.to hx)⟩
theorem TD.flow {m : Str} {w : Int} (h : nmC m = true) (h0 : 0 ≤ w) (h1 : w ≤ 1000) : TD 1 (.tuple [.str m, .int w]) 10 :=
  TD.tup (TLs.cons (TD.name h) (TLs.cons (TD.int (by omega) (by omega)) TLs.nil))
theorem TD.flows {F : Flw} (hn : ∀ x ∈ F, nmC x.1 = true ∧ nmC x.2.1 = true) (hw : ∀ x ∈ F, 0 ≤ x.2.2 ∧ x.2.2 ≤ 1000) (l6 : F.length ≤ 6) : TD 2 (flowsD F) 120 := by
  have key : ∀ F : Flw, (∀ x ∈ F, nmC x.1 = true ∧ nmC x.2.1 = true) → (∀ x ∈ F, 0 ≤ x.2.2 ∧ x.2.2 ≤ 1000) → PyData.showableKv (F.map flowD) = true ∧ PyData.leavesShortKv 13 (F.map flowD) = true ∧ PyData.bulkKv (F.map flowD) ≤ 20 * F.length ∧ PyData.depthKv (F.map flowD) ≤ 1 := by
    intro R
    induction R with
    | nil => intro _ _; exact ⟨by simp [PyData.showableKv], by simp [PyData.leavesShortKv], by simp [PyData.bulkKv], by simp [PyData.depthKv]⟩
    | cons x R ih =>
      intro h1 h2
      obtain ⟨i1, i2, i3, i4⟩ := ih (fun y hy => h1 y (List.mem_cons_of_mem _ hy)) (fun y hy => h2 y (List.mem_cons_of_mem _ hy))
      have a := TD.name (h1 x List.mem_cons_self).1
      have b := TD.flow (h1 x List.mem_cons_self).2 (h2 x List.mem_cons_self).1 (h2 x List.mem_cons_self).2
      refine ⟨?_, ?_, ?_, ?_⟩
      · simp only [List.map_cons, flowD, PyData.showableKv, a.sh, b.sh, Bool.true_and]
        exact i1
      · simp only [List.map_cons, flowD, PyData.leavesShortKv, a.ls, b.ls, Bool.true_and]
        exact i2
      · have := a.bk
        have := b.bk
        simp only [List.map_cons, flowD, PyData.bulkKv, List.length_cons]
        omega
      · have := a.dp
        have := b.dp
        simp only [List.map_cons, flowD, PyData.depthKv]
        omega
  obtain ⟨k1, k2, k3, k4⟩ := key F hn hw
  unfold flowsD
  exact ⟨by simpa [PyData.showable] using k1, by simpa [PyData.leavesShort] using k2, by simp only [PyData.bulk]; omega, by simp only [PyData.depth]; omega⟩
theorem td_flows {t : Int} {S : Rws} {F : Flw} (g : Good t S) (h : FOk t S F) : TD 2 (flowsD (ordF S F)) 120 := by
  have h2 := h.perm (ordF_perm g h)
  have t2 := g.t2
  exact TD.flows (h2.nms g) (fun x hx => by have := h2.wt x hx; omega) h2.l6
theorem td_told {t : Int} {S : Rws} {F : Flw} (g : Good t S) (h : FOk t S F) : TD 3 (toldD S t F) 600 := by
  have lc := cyA_len h
  have ls := szs_len h (t := t)
  have sb := szs_sum g h
  have zb := szs_bd g h
  have cb : cpy S t F (szs S t F).length ≤ 72 ^ 6 := by
    have b := LC_pos (b := 72) (by decide) (ms := ((szs S t F).take (szs S t F).length).map Int.toNat) fun n hn => by
      obtain ⟨z, hz, rfl⟩ := List.mem_map.mp hn
      have := zb z (List.mem_of_mem_take hz)
      omega
    refine Nat.le_trans b.2 (Nat.pow_le_pow_right (by decide) ?_)
    rw [List.length_map, List.length_take]
    omega
  have e6 : (72 : Nat) ^ 6 = 139314069504 := by decide
  have cyc : TD 2 (cycD (cyA S F)) 400 := by
    refine (TD.tup (TLs.mapd (k := 1) (m := 54) fun c hc => ?_)).mono (by omega)
    obtain ⟨_, sb, l6, _⟩ := cyA_in g h hc
    refine (TD.names fun n hn => ?_).mono (by omega)
    obtain ⟨y, hy, rfl⟩ := List.mem_map.mp (sb n hn)
    exact g.nm y hy
  have siz : TD 1 (.tuple ((szs S t F).map PyData.int)) 6 := (TD.tup (TLs.mapd (k := 0) (m := 0) fun z hz => by have := zb z hz; exact TD.int (by omega) (by omega))).mono (by omega)
  have i1 : TD 0 (.int (szs S t F).sum) 0 := TD.int (by omega) (by omega)
  have i2 : TD 0 (.int (cpy S t F (szs S t F).length : Nat)) 0 := TD.int (by omega) (by omega)
  have i3 : TD 0 (.int (cyA S F).length) 0 := TD.int (by omega) (by omega)
  exact (TD.list (TLs.cons cyc (TLs.cons (siz.upk (by decide)) (TLs.cons (i1.upk (by decide)) (TLs.cons (i2.upk (by decide)) (TLs.cons (i3.upk (by decide)) TLs.nil)))))).mono (by omega)
end K44
/-! sets of texts, of ints, of tuples of both: one frame (Kit) -/
namespace KS
open PySem PySem.Spec PyProof.Rows L2

/-- what a kind of set gives: a member, its value, the set itself, adding, gathering -/
structure Kit (P : Program) (w : World) (μ κ : Type) where
  key : μ → κ
  mv : Heap → μ → Value → Prop
  sp : Heap → Addr → List μ → Prop
  mvK : ∀ {h h' : Heap} {m : μ} {v : Value}, mv h m v → (∀ b o, h.get? b = some o → h'.get? b = some o) → mv h' m v
  spAt : ∀ {h h' : Heap} {a : Addr} {L : List μ}, sp h a L → (∀ o, h.get? a = some o → h'.get? a = some o) → sp h' a L
  spEx : ∀ {h : Heap} {a : Addr} {L : List μ}, sp h a L → ∃ o, h.get? a = some o ∧ o.cls = .type "set"
  spNd : ∀ {h : Heap} {a : Addr} {L : List μ}, sp h a L → (L.map key).Nodup
  spFew : ∀ {h : Heap} {a : Addr} {L : List μ}, sp h a L → L.length < 64
  fresh : ∀ {h : Heap} {a : Addr}, h.get? a = some { cls := .type "set", dict := none, data := .set #[] 0 (.fresh 0 0 (!w.params.followText "set-order")) } → sp h a []
  add : ∀ {A : Around} {E : Value → Shared → Prop} {s : Shared} {a : Addr} {L : List μ} {m : μ} {v : Value} {Q : Bool → Shared → Prop}, sp s.heap a L → (∀ m ∈ L, ∃ v, mv s.heap m v) → mv s.heap m v → L.length + 1 < 64 → A.units < cLine →
    (∀ b h' tk L', Heap.SameBut a s.heap h' → s.toks ≤ tk → sp h' a L' → (key m ∈ L.map key → L' = L) → (key m ∉ L.map key → L'.Perm (m :: L)) → Q b { s with heap := h', toks := tk }) →
    wpAny (model P w) A (setAdd a v) Q E s
  col : ∀ {A : Around} {E : Value → Shared → Prop} {s : Shared} {a : Addr} {L : List μ} {Q : List Value → Shared → Prop}, sp s.heap a L → (∀ m ∈ L, ∃ v, mv s.heap m v) → A.handled = none →
    (∀ s' out L', (∀ b o, s.heap.get? b = some o → s'.heap.get? b = some o) → s.heap.objs.size ≤ s'.heap.objs.size → s'.gens = s.gens → s'.os = s.os → List.Perm L' L → PySem.W.EachIs (fun v m => mv s.heap m v) out L' → Q out s') →
    wpAny (model P w) A (collect (.ref a)) Q E s

/-! ### ints and texts -/
def kOf : Value → Key
  | .int i _ => .inl i
  | .str x _ => .inr x
  | _ => .inl 0
theorem kOf_is {k : Key} {v : Value} (h : keyIs k v = true) : kOf v = k := by
  rcases keyIs_shape h with
                            ⟨i, t, rfl, rfl⟩ | ⟨x, t, rfl, rfl⟩ <;> rfl
theorem scan_is {k : Key} {v : Value} (h : keyIs k v = true) : v.scannable = true := by
  rcases keyIs_shape h with
                            ⟨i, t, rfl, rfl⟩ | ⟨x, t, rfl, rfl⟩ <;> rfl
/-- an entry -/
def Ent (w : World) (e : Int × Value) : Prop := keyIs (kOf e.2) e.2 = true ∧ e.1 = keyH w (kOf e.2)
def ks (es : List (Int × Value)) : List Key := es.map fun e => kOf e.2
structure SpA (w : World) (h : Heap) (a : Addr) (L : List Key) (es : Array (Int × Value)) (ep : Nat) (t : SetTable) (o : Obj) : Prop where
  ho : h.get? a = some o
  hex : o.ExactSet
  hd : o.data = .set es ep t
  ent : ∀ e ∈ es.toList, Ent w e
  pm : (ks es.toList).Perm L
  nd : L.Nodup
  few : L.length < 64
  fit : t.fits es.size = true
  ris : Ris t.place.toList
  led : w.params.followText "set-order" = true ∨ t.led = true
def Sp (w : World) (h : Heap) (a : Addr) (L : List Key) : Prop := ∃ es ep t o, SpA w h a L es ep t o

section
variable {P : Program} {w : World} {A : Around} {E : Value → Shared → Prop} {s : Shared} {a : Addr} {L : List Key} {es : Array (Int × Value)} {ep : Nat} {t : SetTable} {o : Obj}
theorem SpA.sz {h : Heap} (R : SpA w h a L es ep t o) : es.size = L.length := by
  have e := R.pm.length_eq
  unfold ks at e
  rw [List.length_map, Array.length_toList] at e
  exact e
theorem SpA.bd {h : Heap} (R : SpA w h a L es ep t o) : es.size < scanBound := by
  have e := R.sz
  have f := R.few
  unfold scanBound
  omega
theorem ent_elems {l : List (Int × Value)} (g : ∀ e ∈ l, Ent w e) : ElemsOf (mixKind P w) l := fun e he => ⟨⟨kOf e.2, (g e he).1, (g e he).2⟩, scan_is (g e he).1⟩
theorem mem_ks {l : List (Int × Value)} (g : ∀ e ∈ l, Ent w e) (k : Key) : k ∈ ks l ↔ ∃ e ∈ l, keyIs k e.2 = true := by
  unfold ks
  rw [List.mem_map]
  exact ⟨fun ⟨e, he, q⟩ => ⟨e, he, by rw [← q]; exact (g e he).1⟩, fun ⟨e, he, q⟩ => ⟨e, he, kOf_is q⟩⟩

/-- laid down, relaid if too full -/
theorem put_tail {g : Bool → Sem Unit} (hg : ∀ (b : Bool) (s₁ : Shared) (Q' : Unit → Shared → Prop), Q' () s₁ → wpAny (model P w) A (g b) Q' E s₁)
    {es1 : Array (Int × Value)} {t1 : SetTable} {L1 : List Key} (ho : s.heap.get? a = some o) (hex : o.ExactSet) (hd : o.data = .set es ep t)
    (g1 : ∀ e ∈ es1.toList, Ent w e) (pm1 : (ks es1.toList).Perm L1) (nd1 : L1.Nodup) (few1 : L1.length < 64) (hf : t1.fits es1.size = true) (hr : Ris t1.place.toList) (hl : w.params.followText "set-order" = true ∨ t1.led = true)
    {dummy : Bool} {R : Option Bool → Shared → Prop} (hR : ∀ h', Heap.SameBut a s.heap h' → Sp w h' a L1 → R (some true) { s with heap := h' }) :
    wpAny (model P w) A (do
        storeSet a es1 t1
        if (!dummy && t1.tooFull) = true then do
            g (relayAll t1 es1 (SetTable.grown es1.size)).2.2
            storeSet a (relayAll t1 es1 (SetTable.grown es1.size)).1 (relayAll t1 es1 (SetTable.grown es1.size)).2.1
            pure (some true)
          else pure (some true)) R E s := by
  have l1 : es1.size = L1.length := by
    have e := pm1.length_eq
    unfold ks at e
    rw [List.length_map, Array.length_toList] at e
    exact e
  have z1 : es1.size ≤ sizeLine := by rw [sizeLine_eq]; omega
  refine wpAny_bind (wpAny_storeSet_of ho hd ?_ z1)
  have o1 := store_at (es' := es1) (t' := t1) ho hd
  have b1 := Heap.SameBut.update s.heap a (Obj.putSet es1 t1)
  split
  · have q1 := relayAll_perm t1 es1 (SetTable.grown es1.size)
    have q2 := relayAll_fits t1 es1 (SetTable.grown es1.size)
    have q3 := relayAll_ris t1 es1 (SetTable.grown es1.size)
    have q4 := relayAll_led t1 es1 (SetTable.grown es1.size)
    generalize relayAll t1 es1 (SetTable.grown es1.size) = Z at q1 q2 q3 q4 ⊢
    obtain ⟨es2, t2, gone⟩ := Z
    dsimp only at q1 q2 q3 q4 ⊢
    have z2 : es2.size ≤ sizeLine := by
      rw [← Array.length_toList, q1.length_eq, Array.length_toList]
      exact z1
    refine wpAny_bind (hg _ _ _ ?_)
    refine wpAny_bind (wpAny_storeSet_of o1 rfl ?_ z2)
    have o2 := store_at (es' := es2) (t' := t2) o1 rfl
    exact wpAny_pure (hR _ (b1.trans (Heap.SameBut.update _ a _)) ⟨es2, _, t2, _, o2, hex, rfl, fun e he => g1 e (q1.mem_iff.mp he), (q1.map _).trans pm1, nd1, few1, q2, q3, hl.imp id fun z => by rw [q4]; exact z⟩)
  · exact wpAny_pure (hR _ b1 ⟨es1, _, t1, _, o1, hex, rfl, g1, pm1, nd1, few1, hf, hr, hl⟩)

theorem add_key {k : Key} {v : Value} {Q : Bool → Shared → Prop} (R : SpA w s.heap a L es ep t o) (hk : keyIs k v = true) (room : L.length + 1 < 64)
    (hQ : ∀ b h' L', Heap.SameBut a s.heap h' → Sp w h' a L' → (k ∈ L → L' = L) → (k ∉ L → L'.Perm (k :: L)) → Q b { s with heap := h' }) :
    wpAny (model P w) A (setAddHashed a v (keyH w k)) Q E s := by
  have hsc := scan_is hk
  have hel : ElemsOf (mixKind P w) es.toList := ent_elems R.ent
  unfold setAddHashed setAddHashedIn
  refine wpAny_holding (wpAny_bind (wpAny_setState_of R.ho R.hd R.fit ?_))
  dsimp only
  rw [byScan_of hsc R.bd hel]
  simp only [↓reduceIte]
  unfold setAddByScan
  refine wpAny_bind (wpAny_bind (wpAny_rule ?_))
  refine wpAny_bind (wpAny_setScan_of (knd := mixKind P w) (k := k) hk R.ho R.hd R.fit hel ?_)
  cases hfi : List.findIdx? (fun e => (mixKind P w).is k e.2) es.toList with
  | some j =>
    dsimp only
    obtain ⟨hj, pj, _⟩ := List.findIdx?_eq_some_iff_getElem.mp hfi
    have hin : k ∈ L := R.pm.mem_iff.mp ((mem_ks R.ent k).2 ⟨es.toList[j], List.getElem_mem hj, pj⟩)
    exact wpAny_pure (wpAny_pure (hQ false s.heap L (Heap.SameBut.refl a s.heap) ⟨es, ep, t, o, R⟩ (fun _ => rfl) fun z => absurd hin z))
  | none =>
    dsimp only
    have hno : k ∉ L := fun z => by
      obtain ⟨e, he, q⟩ := (mem_ks R.ent k).1 (R.pm.mem_iff.mpr z)
      have c := List.findIdx?_eq_none_iff.mp hfi e he
      rw [show (mixKind P w).is k e.2 = true from q] at c
      cases c
    have way : ∀ (b : Bool) {s₁ : Shared} {Q' : Unit → Shared → Prop}, Q' () s₁ → wpAny (model P w) A (match b with | true => rule "set.scan.the-table-gave-way" | false => pure ()) Q' E s₁ :=
      fun b s₁ Q' q => by cases b <;> first | exact wpAny_pure q | exact wpAny_rule q
    have q1 := layNew_perm t es (keyH w k) v
    have q2 := layNew_fits t es (keyH w k) v
    have q3 := layNew_ris t es (keyH w k) v R.ris
    have q4 := layNew_led t es (keyH w k) v
    generalize layNew t es (keyH w k) v = Z at q1 q2 q3 q4 ⊢
    obtain ⟨es1, t1, dummy, gone⟩ := Z
    dsimp only at q1 q2 q3 q4 ⊢
    rw [Array.toList_push] at q1
    have p1 : es1.toList.Perm ((keyH w k, v) :: es.toList) := q1.trans (List.perm_append_singleton _ _)
    have g1 : ∀ e ∈ es1.toList, Ent w e := fun e he => by
      rcases List.mem_cons.mp (p1.mem_iff.mp he) with z | z
      · subst z
        show keyIs (kOf v) v = true ∧ keyH w k = keyH w (kOf v)
        rw [kOf_is hk]
        exact ⟨hk, rfl⟩
      · exact R.ent e z
    have pk : (ks es1.toList).Perm (k :: L) := by
      refine (p1.map _).trans ?_
      rw [List.map_cons]
      show List.Perm (kOf v :: ks es.toList) (k :: L)
      rw [kOf_is hk]
      exact R.pm.cons k
    have nd1 : (k :: L).Nodup := List.nodup_cons.mpr ⟨hno, R.nd⟩
    have few1 : (k :: L).length < 64 := by rw [List.length_cons]; exact room
    have led1 : w.params.followText "set-order" = true ∨ t1.led = true := R.led.imp id fun z => by rw [q4]; exact z
    have fin : ∀ h', Heap.SameBut a s.heap h' → Sp w h' a (k :: L) → Q true { s with heap := h' } := fun h' sb r => hQ true h' _ sb r (fun z => absurd z hno) fun _ => List.Perm.refl _
    refine wpAny_bind (way _ ?_)
    split
    · refine wpAny_bind ?_
      rw [hashByValue_scannable 8 hsc]
      refine wpAny_pure ?_
      refine put_tail ?_ R.ho R.hex R.hd g1 pk nd1 few1 ?_ ?_ ?_ ?_
      · intro b s₁ Q' q; cases b <;> first | exact wpAny_pure q | exact wpAny_rule q
      · split <;> first | exact q2 | exact SetTable.fits_plain_off q2
      · split <;> exact q3
      · split <;> exact led1
      · intro h' sb r; dsimp only; exact wpAny_pure (fin h' sb r)
    · refine wpAny_bind (wpAny_pure ?_)
      simp only [↓reduceIte]
      refine put_tail ?_ R.ho R.hex R.hd g1 pk nd1 few1 q2 q3 led1 ?_
      · intro b s₁ Q' q; cases b <;> first | exact wpAny_pure q | exact wpAny_rule q
      · intro h' sb r; dsimp only; exact wpAny_pure (fin h' sb r)
end

theorem each_of {α : Type} {R : Value → α → Prop} {f : Value → α} : ∀ {vs : List Value}, (∀ v ∈ vs, R v (f v)) → PySem.W.EachIs R vs (vs.map f)
  | [], _ => .nil
  | v :: vs, h => .cons (h v List.mem_cons_self) (each_of fun u hu => h u (List.mem_cons_of_mem _ hu))
/-- ints and texts -/
def keyKit (P : Program) (w : World) : Kit P w Key Key where
  key := id
  mv := fun _ k v => keyIs k v = true
  sp := Sp w
  mvK := fun h _ => h
  spAt := fun R k => by
    obtain ⟨es, ep, t, o, R⟩ := R
    exact ⟨es, ep, t, o, { R with ho := k o R.ho }⟩
  spEx := fun R => by
    obtain ⟨es, ep, t, o, R⟩ := R
    exact ⟨o, R.ho, R.hex.1⟩
  spNd := fun R => by
    obtain ⟨es, ep, t, o, R⟩ := R
    rw [List.map_id]
    exact R.nd
  spFew := fun R => by
    obtain ⟨es, ep, t, o, R⟩ := R
    exact R.few
  fresh := fun ho => ⟨#[], 0, _, _, ho, ⟨rfl, rfl, rfl⟩, rfl, fun e he => by simp at he, List.Perm.refl _, List.nodup_nil, by decide, rfl, List.Pairwise.nil, by
    show _ ∨ (!w.params.followText "set-order") = true
    cases w.params.followText "set-order"
    · exact .inr rfl
    · exact .inl rfl⟩
  add := fun {A E s a L m v Q} R _ hk room _ hQ => by
    obtain ⟨es, ep, t, o, R⟩ := R
    unfold setAdd
    refine wpAny_holding (wpAny_bind ((mixKind P w).pyHash (k := m) hk ?_))
    refine add_key (s := { s with toks := s.toks + 1 }) R hk room fun b h' L' sb r c1 c2 => hQ b h' (s.toks + 1) L' sb (Nat.le_succ _) r (fun z => c1 ?_) fun z => c2 ?_
    · rw [List.map_id] at z
      exact z
    · rw [List.map_id] at z
      exact z
  col := fun {A E s a L Q} R _ hh hQ => by
    obtain ⟨es, ep, t, o, R⟩ := R
    refine collect_set hh ⟨o, R.ho, R.hex.1, R.hd⟩ R.fit R.bd R.ris R.led fun s' out k z g os pm => hQ s' out (out.map kOf) k z g os ?_ ?_
    · refine (pm.map kOf).trans ?_
      rw [List.map_map]
      exact R.pm
    · refine each_of fun v hv => ?_
      obtain ⟨e, he, q⟩ := List.mem_map.mp (pm.mem_iff.mp hv)
      rw [← q]
      exact (R.ent e he).1
end KS
set_option maxHeartbeats 3200000
/-! set(xs), sorted(set) over a Kit -/
namespace KS
open PySem PySem.Spec PyProof.Rows L2

/-- the object of a new set -/
def newObj0 (w : World) : Obj := { cls := .type "set", dict := none, data := .set #[] 0 (.fresh 0 0 (!w.params.followText "set-order")) }

section
variable {P : Program} {w : World} {μ κ : Type} (Z : Kit P w μ κ)
/-- L is what the first i of ms make -/
structure From (ms : List μ) (i : Nat) (L : List μ) : Prop where
  sub : ∀ m ∈ L, m ∈ ms.take i
  all : ∀ m ∈ ms.take i, Z.key m ∈ L.map Z.key
  len : L.length ≤ i
theorem From.start (ms : List μ) : From Z ms 0 [] := ⟨(fun m h => by cases h), (fun m h => by simp at h), Nat.le_refl _⟩
variable {Z}
theorem From.step {ms L L' : List μ} {i : Nat} {m : μ} (g : From Z ms i L) (h : ms[i]? = some m) (c1 : Z.key m ∈ L.map Z.key → L' = L) (c2 : Z.key m ∉ L.map Z.key → L'.Perm (m :: L)) : From Z ms (i + 1) L' := by
  have tk : ms.take (i + 1) = ms.take i ++ [m] := take_next h
  rcases Classical.em (Z.key m ∈ L.map Z.key) with c | c
  · rw [c1 c]
    refine ⟨fun x hx => by rw [tk]; exact List.mem_append_left _ (g.sub x hx), fun x hx => ?_, Nat.le_succ_of_le g.len⟩
    rw [tk] at hx
    rcases List.mem_append.mp hx with z | z
    · exact g.all x z
    · rw [List.mem_singleton.mp z]
      exact c
  · have pm := c2 c
    refine ⟨fun x hx => ?_, fun x hx => ?_, by rw [pm.length_eq, List.length_cons]; exact Nat.succ_le_succ g.len⟩
    · rw [tk]
      rcases List.mem_cons.mp (pm.mem_iff.mp hx) with e | z
      · exact List.mem_append_right _ (List.mem_singleton.mpr e)
      · exact List.mem_append_left _ (g.sub x z)
    · rw [(pm.map Z.key).mem_iff, List.map_cons]
      rw [tk] at hx
      rcases List.mem_append.mp hx with z | z
      · exact List.mem_cons_of_mem _ (g.all x z)
      · rw [List.mem_singleton.mp z]
        exact List.mem_cons_self
end

theorem each_get {α : Type} {R : Value → α → Prop} : ∀ {vs : List Value} {ms : List α} {i : Nat} {v : Value}, PySem.W.EachIs R vs ms → vs[i]? = some v → ∃ m, ms[i]? = some m ∧ R v m
  | _, _, _, _, .nil, e => by simp at e
  | _, _, 0, _, .cons r _, e => ⟨_, rfl, by rw [← Option.some.inj e]; exact r⟩
  | _, _, i + 1, v, .cons _ t, e => by
    obtain ⟨m, h1, h2⟩ := each_get (i := i) t (by simpa using e)
    exact ⟨m, by simpa using h1, h2⟩
theorem each_has {α : Type} {R : Value → α → Prop} : ∀ {vs : List Value} {ms : List α} {m : α}, PySem.W.EachIs R vs ms → m ∈ ms → ∃ v, R v m
  | _, _, _, .nil, h => by cases h
  | _, _, m, .cons r t, h => by
    rcases List.mem_cons.mp h with e | h
    · subst e
      exact ⟨_, r⟩
    · exact each_has t h
section
variable {P : Program} {w : World} {A : Around} {E : Value → Shared → Prop} {s : Shared} {μ κ : Type} (Z : Kit P w μ κ)
/-- the loop behind set(..) -/
theorem fill_loop {I : Addr} {fp wr : List Addr} {G : Array GenState → Array GenState → Prop} {n : Nat} {Pv : Nat → Value → Prop} {St : Nat → Shared → Prop} {R : Result → Shared → Prop}
    (W : WalksS P w A.in1 I fp wr G n Pv St) (S : Addr) (hS : S ∉ fp) (ms : List μ) (hn : n = ms.length) (few : ms.length < 64) (h0 : Heap) (hv : ∀ i v, Pv i v → ∃ m, ms[i]? = some m ∧ Z.mv h0 m v) (hm : ∀ m ∈ ms, ∃ v, Z.mv h0 m v)
    (hS0 : h0.get? S = none) (hw : ∀ b ∈ wr, h0.get? b = none) (hu : A.in1.units < cLine) :
    ∀ (k i : Nat) (s : Shared), n - i = k → i ≤ n → St i s → (∀ b o, h0.get? b = some o → s.heap.get? b = some o) → (∃ L, Z.sp s.heap S L ∧ From Z ms i L) →
      (∀ s' L, Moved (S :: wr) G s s' → Z.sp s'.heap S L → From Z ms n L → (∀ b o, h0.get? b = some o → s'.heap.get? b = some o) → R (.ok (.ret .none)) s') →
      codeAny (model P w) A (.builtin "set.update.loop"
                                                        ⟨[.ref S, .ref I], []⟩) R s := by
  have hSw : S ∉ wr := fun h => hS (W.sub _ h)
  have wider : ∀ b ∈ wr, b ∈ S :: wr := fun b hb => List.mem_cons_of_mem _ hb
  have stay : ∀ {s s' : Shared}, Moved wr G s s' → (∀ b o, h0.get? b = some o → s.heap.get? b = some o) → ∀ b o, h0.get? b = some o → s'.heap.get? b = some o := fun q kp b o e =>
    q.heap b o (fun hb => by rw [hw b hb] at e; cases e) (kp b o e)
  intro k
  induction k with
  | zero =>
    intro i s hk hi st kp ⟨L, sp, g⟩ hR
    obtain rfl : i = n := by omega
    refine codeAny_builtin F.entry_set_update_loop ?_
    rw [Around.under_plainId F.plain_set_update_loop _]
    show wpAny _ A.in1 (pyNext (.ref I) >>= _) _ _ s
    refine wpAny_bind (W.done s _ _ st fun s' mv => ?_)
    exact wpAny_pure (hR s' L (mv.mono wider) (Z.spAt sp fun o e => mv.heap S o hSw e) g (stay mv kp))
  | succ k ih =>
    intro i s hk hi st kp ⟨L, sp, g⟩ hR
    have lt : i < n := by omega
    refine codeAny_builtin F.entry_set_update_loop ?_
    rw [Around.under_plainId F.plain_set_update_loop _]
    show wpAny _ A.in1 (pyNext (.ref I) >>= _) _ _ s
    refine wpAny_bind (W.item i s _ _ lt st fun v s1 pv st1 mv => ?_)
    obtain ⟨m, em, vm⟩ := hv i v pv
    have kp1 := stay mv kp
    have sp1 : Z.sp s1.heap S L := Z.spAt sp fun o e => mv.heap S o hSw e
    show wpAny _ A.in1 (holding [v] (setAdd S v) >>= _) _ _ s1
    refine wpAny_bind (wpAny_holding ?_)
    refine Z.add sp1 (fun x hx => ?_) (Z.mvK vm kp1) (by have := g.len; omega) hu fun b h2 tk L' sb ht sp2 c1 c2 => ?_
    · obtain ⟨u, hu⟩ := hm x (List.mem_of_mem_take (g.sub x hx))
      exact ⟨u, Z.mvK hu kp1⟩
    · have kp2 : ∀ b o, h0.get? b = some o → h2.get? b = some o := fun b o e => (sb.2 b (fun z => by rw [z, hS0] at e; cases e)).trans (kp1 b o e)
      refine wpAny_pure ⟨plainId_quiet F.plain_set_update_loop _, ih (i + 1) _ (by omega) lt (W.frame _ s1 _ _ st1 ht fun c hc o e => ?_) kp2 ⟨L', sp2, g.step em c1 c2⟩ fun s3 L3 mv3 sp3 g3 kp3 => ?_⟩
      · rw [sb.2 c (fun h : c = S => hS (by rw [← h]; exact hc))]
        exact e
      · refine hR s3 L3 (Moved.trans W.gtrans ((mv.mono wider).then_heap ht fun c o hc e => ?_) mv3) sp3 g3 kp3
        rw [sb.2 c (fun h : c = S => hc (by rw [h]; exact List.mem_cons_self))]
        exact e

/-- set(xs), xs a list -/
theorem call_set {l : Addr} {items : Array Value} (ms : List μ) {Q : Value → Shared → Prop} (hh : A.handled = none) (hl : s.heap.IsList l items) (hi : PySem.W.EachIs (fun v m => Z.mv s.heap m v) items.toList ms)
    (few : ms.length < 64) (hu : A.units + 3 < cLine)
    (h : ∀ (h' : Heap) (tk : Nat) L, Z.sp h' s.heap.objs.size L → From Z ms ms.length L → (∀ b o, s.heap.get? b = some o → h'.get? b = some o) → Q (.ref s.heap.objs.size) { s with heap := h', toks := tk }) :
    wpAny (model P w) A (call
                              (.type "set") [.ref l]) Q E s := by
  have sz : items.size = ms.length := by
    have q := hi.length
    rw [Array.length_toList] at q
    exact q
  obtain ⟨c, tl, hmro⟩ := F.called_set.mro
  have hmade := F.called_set.made
  have hsub := F.called_set.sub
  refine wpAny_call (codeAny_of_tree ?_)
  show wpAny _ _ (callAny (.type "set") _) _ _ _
  refine wpAny_pure ⟨Code.quiet_builtin _
                                          (by decide +kernel), codeAny_builtin F.entry_type_call ?_⟩
  rw [Around.under_plain
                         (weight_type_call_type "set" [.ref l] []) rfl]
  have h1 := F.called_set.notType
  have h2 := F.called_set.canCreate
  have hct := F.typeCall_set_1 (.ref l)
  repeat (any_goals (first | assumption | wp_step))
  refine codeAny_mono (code_set_led1 (.ref l) (E := E) (Q₁ := fun obj s₁ => obj = .ref s.heap.objs.size ∧ s₁ = { s with heap := s.heap.push (newObj0 w) }) ⟨rfl, rfl⟩) fun r s₁ hr => ?_
  cases r with
  | error e => exact hr
  | ok fl =>
    cases fl with
    | ret obj =>
      obtain ⟨rfl, rfl⟩ := hr
      have hS : (s.heap.push (newObj0 w)).get? s.heap.objs.size = some (newObj0 w) := Heap.get?_push_size _ rfl
      have hT : Shared.TypeIs { s with heap := s.heap.push (newObj0 w) } (.ref s.heap.objs.size) "set" := ⟨_, hS, rfl⟩
      have hli := F.called_set.init.lookup
      have hbi := F.called_set.init.bind (.ref s.heap.objs.size)
      repeat (any_goals (first | assumption | wp_step))
      refine codeAny_mono (codeAny_call_builtin (R := wants (fun r s₂ => r = .none ∧ ∃ h' tk L, s₂ = { s with heap := h', toks := tk } ∧ Z.sp h' s.heap.objs.size L ∧ From Z ms ms.length L ∧
          (∀ b o, s.heap.get? b = some o → h'.get? b = some o)) E) F.called_set.init.plain F.entry_set_init
                                                                                                            (check_set_init_1 hT ?_)) fun r₂ s₂ hr₂ => ?_
      · obtain ⟨ol, hol, hcl, nl, hdl⟩ := hl
        obtain ⟨ocls, odict, odata, oslots⟩ := ol
        simp only at hcl hdl
        subst hcl; subst hdl
        have hol' : (s.heap.push (newObj0 w)).get? l = some { cls := .type "list", dict := odict, data := .seq items nl, slots := oslots } := Heap.get?_push_of_some _ hol
        have hsls := F.sub_list_set
        have hslf := F.sub_list_frozenset
        have hne :
                   (Value.type "list" == Value.type "dict") = false := by decide
        have hl1 : (s.heap.push (newObj0 w)).IsList l items := ⟨_, hol', rfl, nl, rfl⟩
        unfold Builtin.«set.__init__» noKeywords Builtin.Frozenset.updateFrom
        generalize hPI : pyIter = PI
        wp_walk
        subst hPI
        refine wpAny_pyIter_list hl1 ?_
        refine wpAny_bind (wpAny_runValue ?_)
        have lS : l < s.heap.objs.size := Heap.lt_size hol
        have hh3 : A.in1.in1.in1.handled = none := by simp [hh]
        have z1 : (s.heap.push (newObj0 w)).objs.size = s.heap.objs.size + 1 := Heap.size_push ..
        have neI : l ≠ (s.heap.push (newObj0 w)).objs.size := by
          rw [z1]
          exact Nat.ne_of_lt (Nat.lt_succ_of_lt lS)
        have nS : s.heap.objs.size ∉ [(s.heap.push (newObj0 w)).objs.size, l] := by
          rw [z1]
          simp only [List.mem_cons, List.mem_singleton, List.not_mem_nil, or_false, not_or]
          exact ⟨Nat.ne_of_lt (Nat.lt_succ_self _), Nat.ne_of_gt lS⟩
        have vals : ∀ (i : Nat) (v : Value), items[i]? = some v → ∃ m, ms[i]? = some m ∧ Z.mv s.heap m v := fun i v hv => each_get hi (by rw [Array.getElem?_toList]; exact hv)
        have out : ∀ b, s.heap.objs.size ≤ b → s.heap.get? b = none := fun b hb => by
          cases q : s.heap.get? b with
          | none => rfl
          | some o => exact absurd (Nat.lt_of_lt_of_le
                                                       (Heap.lt_size q) hb) (Nat.lt_irrefl _)
        refine fill_loop Z ((Walks.list hh3 _ l neI items).toS) s.heap.objs.size nS ms sz few s.heap vals (fun m hm => each_has hi hm) (out _ (Nat.le_refl _))
          (fun b hb => out b (by rw [List.mem_singleton.mp hb, z1]; exact Nat.le_succ _)) hu (items.size - 0) 0 _ (by omega) (Nat.zero_le _)
          ⟨⟨_, Heap.get?_push_size _ rfl, rfl, rfl⟩, (hl1.push _)⟩ (fun b o e => Heap.get?_push_of_some _ (Heap.get?_push_of_some _ e)) ⟨[], Z.fresh (Heap.get?_push_of_some _ hS), From.start Z ms⟩ ?_
        intro s3 L mv sp g kp
        obtain ⟨h3, g3, d3, tk3, os3⟩ := s3
        have eg : g3 = s.gens := mv.gens
        have ed : d3 = s.drawn := mv.drawn
        have eo : os3 = s.os := mv.os
        subst eg; subst ed; subst eo
        rw [sz] at g
        exact wpAny_pure (wpAny_pure ⟨rfl, h3, tk3, L, rfl, sp, g, kp⟩)
      · cases r₂ with
        | error e => exact hr₂
        | ok fl₂ =>
          cases fl₂ with
          | ret r =>
            obtain ⟨rfl, h', tk, L, rfl, sp, g, kp⟩ := hr₂
            repeat (any_goals (first | assumption | wp_step))
            exact h _ _ _ sp g kp
          | _ => exact hr₂.elim
    | _ => exact hr.elim
end
end KS
set_option maxHeartbeats 3200000
/-! sorted(set) over a Kit -/
namespace KS
open PySem PySem.Spec PyProof.Rows L2
section
variable {P : Program} {w : World} {A : Around} {E : Value → Shared → Prop} {s : Shared} {μ κ : Type} (Z : Kit P w μ κ)
theorem each_reads {enc : μ → PyData} {h h' : Heap} {a : Addr} (rd : ∀ {h : Heap} {m : μ} {v : Value}, Z.mv h m v → Reads h v (enc m) []) (k : ∀ b o, h.get? b = some o → h'.get? b = some o) :
    ∀ {vs : List Value} {ms : List μ}, PySem.W.EachIs (fun v m => Z.mv h m v) vs ms → PySem.W.EachIs (fun v b => ∃ as, Reads h' v (enc b) as ∧ a ∉ as) vs ms
  | _, _, .nil => .nil
  | _, _, .cons r t => .cons ⟨[], rd (Z.mvK r k), by simp⟩ (each_reads rd k t)
/-- sorted(set) -/
theorem sorted_kit {a : Addr} {L : List μ} {enc : μ → PyData} {Q : Value → Shared → Prop} (rd : ∀ {h : Heap} {m : μ} {v : Value}, Z.mv h m v → Reads h v (enc m) []) (R : Z.sp s.heap a L) (hm : ∀ m ∈ L, ∃ v, Z.mv s.heap m v) (hh : A.handled = none)
    (hal : PySem.W.AllAlike (L.map enc)) (hk : PySem.W.Sortable (L.map enc)) (hu : ∀ m ∈ L, A.in1.units + 1 + (enc m).depth < cLine)
    (hQ : ∀ s' p (out : Array Value) (c : Nat) (L1 : List μ), (∀ b o, s.heap.get? b = some o → s'.heap.get? b = some o) → s'.gens = s.gens → s'.os = s.os → s.heap.objs.size ≤ p →
      s'.heap.get? p = some (seqObj "list" out c) → L1.Perm L → PySem.W.EachIs (fun v m => Z.mv s.heap m v) out.toList (L1.mergeSort (PySem.W.dataLe false enc)) → Q (.ref p) s') :
    wpAny (model P w) A (call
                              (.builtin "sorted") [.ref a]) Q E s := by
  have few := Z.spFew R
  refine Calls.call_function_entry kind_sorted plain_sorted entry_sorted
                                                                         (args_sorted1 _) ?_
  unfold Builtin.«sorted»
  refine wpAny_bind
                    (m := checkCount "sorted" 1 1 _) (wpAny_pure ?_)
  refine wpAny_bind (Z.col (A := A.in1) R hm hh fun s1 vs L1 k1 hz g1 o1 pm ei => ?_)
  have len : vs.length = L1.length := ei.length
  have small : vs.length < 64 := by
    rw [len, pm.length_eq]
    exact few
  refine wpAny_bind (wpAny_newList ?_
                                      (by rw [sizeLine_eq]; omega))
  have hoL : (s1.heap.push (seqObj "list" vs.toArray 0)).get? s1.heap.objs.size = some
                                                                                       (seqObj "list" vs.toArray 0) := Heap.get?_push_size _ rfl
  have kk : ∀ b o, s.heap.get? b = some o → (s1.heap.push (seqObj "list" vs.toArray 0)).get? b = some o := fun b o e => Heap.get?_push_of_some _ (k1 b o e)
  have al1 : PySem.W.AllAlike (L1.map enc) := fun d hd d' hd' => hal d ((pm.map enc).mem_iff.mp hd) d' ((pm.map enc).mem_iff.mp hd')
  have so1 : PySem.W.Sortable (L1.map enc) := hk.imp (fun q d hd => q d ((pm.map enc).mem_iff.mp hd)) fun q d hd => q d ((pm.map enc).mem_iff.mp hd)
  refine wpAny_bind (wpAny_holding (PySem.W.list_sort_data (s := { s1 with heap := s1.heap.push (seqObj "list" vs.toArray 0) }) (R := fun v m => Z.mv s.heap m v) hoL ei (each_reads Z rd kk ei) al1 so1 (by rw [← len, sizeLine_eq]; omega) (fun m hm => hu m (pm.mem_iff.mp hm)) fun out e1 e2 => ?_))
  obtain ⟨c, hc⟩ := sortedHeap_at (vs := vs) (out := out.toArray) hoL
  refine wpAny_pure ⟨_, rfl, hQ _ s1.heap.objs.size out.toArray c L1 (fun b u e => ?_) g1 o1 hz hc pm (by simpa using e2)⟩
  have lt := Heap.lt_size e
  show (sortedHeap (s1.heap.push (seqObj "list" vs.toArray 0)) s1.heap.objs.size vs out.toArray).get? b = some u
  rw [sortedHeap_old (Nat.ne_of_lt (Nat.lt_of_lt_of_le lt hz)) (by rw [size_push']; exact Nat.lt_succ_of_lt (Nat.lt_of_lt_of_le lt hz))]
  exact kk b u e
end
end KS
set_option maxHeartbeats 3200000
/-! sets of tuples whose items are ints and texts -/
namespace KS
open PySem PySem.Spec PyProof.Rows L2

abbrev HT (P : Program) (w : World) (k : List Key) : Int := tupleKeyHash (mixKind P w) k
abbrev TpK (P : Program) (w : World) (h : Heap) (k : List Key) (b : Addr) : Prop := IsTupleKey (mixKind P w) h k b
abbrev Mem := Addr × List Key
def hs (P : Program) (w : World) (L : List Mem) : List Int := L.map fun p => HT P w p.2
def rws (P : Program) (w : World) (L : List Mem) : List (Int × Value) := L.map fun p => (HT P w p.2, Value.ref p.1)

section
variable {P : Program} {w : World} {A : Around}
                                                {E : Value → Shared → Prop} {s : Shared}
theorem items_key {k : List Key} {vs : List Value} (h : ItemsAre (mixKind P w) k vs) : ∀ v ∈ vs, ∃ q, keyIs q v = true := by
  induction h with
  | nil => intro v hv; cases hv
  | cons h1 _ ih =>
    intro v hv
    rcases List.mem_cons.mp hv with e | hv
    · rw [e]
      exact ⟨_, h1⟩
    · exact ih v hv
theorem noClass (n : Nat) {q : Key} {v : Value} (h : keyIs q v = true) : ofAClassStatement n v = pure false := by
  rcases keyIs_shape h with ⟨i, t, rfl, rfl⟩ | ⟨x, t, rfl, rfl⟩ <;> cases n <;> rfl
theorem byVal (n : Nat) {q : Key} {v : Value} (h : keyIs q v = true) : ∃ b, hashByValue n v = pure b := by
  rcases keyIs_shape h with ⟨i, t, rfl, rfl⟩ | ⟨x, t, rfl, rfl⟩ <;> cases n <;> exact ⟨_, rfl⟩
theorem tup_noClass {k : List Key} {b : Addr} {Q : Bool → Shared → Prop} (hk : TpK P w s.heap k b) (h : Q false s) : wpAny (model P w) A (ofAClassStatement 8 (.ref b)) Q E s := by
  have hT := hk.typeIs
  obtain ⟨o, its, n, ho, _, hd, hi⟩ := hk
  unfold ofAClassStatement
  refine wpAny_bind (wpAny_typeOf hT ?_)
  dsimp only
  have e : (("tuple" : String) == "tuple") = true := by decide
  simp only [e, if_true, Bool.not_true, Bool.false_eq_true, if_false]
  try refine wpAny_bind (wpAny_pure ?_)
  try simp only [Bool.not_true, Bool.false_eq_true, if_false]
  show wpAny _ _ (seqItems? (.ref b) >>= _) _ _ s
  refine wpAny_bind (wpAny_seqItems ho hd ?_)
  dsimp only
  refine wpAny_bind ?_
  show wpAny _ _ (forIn its _ _) _ _ s
  rw [← Array.forIn_toList]
  refine wpAny_forIn_list _ (fun rest r s' => r.1 = none ∧ s' = s ∧ ∀ v ∈ rest, ∃ q, keyIs q v = true) _ ?_ ?_ _ _ ⟨rfl, rfl, items_key hi⟩
  · rintro v rest r s' ⟨hr, rfl, all⟩
    obtain ⟨q, hq⟩ := all v List.mem_cons_self
    rw [noClass _ hq]
    refine wpAny_bind (wpAny_pure ?_)
    simp only [Bool.false_eq_true, if_false]
    exact wpAny_pure ⟨rfl, rfl, fun u hu' => all u (List.mem_cons_of_mem _ hu')⟩
  · rintro ⟨r1, r2⟩ s' ⟨hr, rfl, _⟩
    simp only at hr
    subst hr
    exact wpAny_pure h
theorem tup_byVal {k : List Key} {b : Addr} {Q : Bool → Shared → Prop} (hk : TpK P w s.heap k b) (h : ∀ z, Q z s) : wpAny (model P w) A (hashByValue 8 (.ref b)) Q E s := by
  have hT := hk.typeIs
  obtain ⟨o, its, n, ho, _, hd, hi⟩ := hk
  unfold hashByValue
  refine wpAny_bind
                    (wpAny_specialOf hT F.slot_tuple_hash.lookup ?_)
  show wpAny _ _ (seqItems? (.ref b) >>= _) _ _ s
  refine wpAny_bind (wpAny_seqItems ho hd ?_)
  refine wpAny_bind ?_
  show wpAny _ _ (forIn its _ _) _ _ s
  rw [← Array.forIn_toList]
  refine wpAny_forIn_list _ (fun rest r s' => r.1 = none ∧ s' = s ∧ ∀ v ∈ rest, ∃ q, keyIs q v = true) _ ?_ ?_ _ _ ⟨rfl, rfl, items_key hi⟩
  · rintro v rest r s' ⟨hr, rfl, all⟩
    obtain ⟨q, hq⟩ := all v List.mem_cons_self
    obtain ⟨z, e⟩ := byVal 7 hq
    rw [e]
    refine wpAny_bind (wpAny_pure ?_)
    cases z with
    | true =>
      simp only [Bool.not_true, Bool.false_eq_true, if_false]
      exact wpAny_pure ⟨rfl, rfl, fun u hu' => all u (List.mem_cons_of_mem _ hu')⟩
    | false =>
      simp only [Bool.not_false, if_true]
      exact wpAny_pure (wpAny_pure (h _))
  · rintro ⟨r1, r2⟩ s' ⟨hr, rfl, _⟩
    simp only at hr
    subst hr
    exact wpAny_pure (h _)
/-- comparing tuples shows nothing -/
theorem tup_unseen {k : List Key} {b : Addr} {Q : Bool → Shared → Prop} (hk : TpK P w s.heap k b) {ys : List Value} (hy : ∀ y ∈ ys, ∃ k' c, y = Value.ref c ∧ TpK P w s.heap k' c) (h : Q false s) :
    wpAny (model P w) A (searchCouldBeSeen
                                           (.ref b) ys) Q E s := by
  unfold searchCouldBeSeen
  refine wpAny_bind ?_
  refine wpAny_forIn_list _ (fun rest r s' => r.1 = none ∧ s' = s ∧ ∀ y ∈ rest, ∃ k' c, y = Value.ref c ∧ TpK P w s.heap k' c) _ ?_ ?_ _ _ ⟨rfl, rfl, hy⟩
  · rintro v rest r s' ⟨hr, rfl, all⟩
    obtain ⟨k', c, rfl, hc⟩ := all v List.mem_cons_self
    have more : ∀ y ∈ rest, ∃ k' c, y = Value.ref c ∧ TpK P w s'.heap k' c := fun u hu' => all u (List.mem_cons_of_mem _ hu')
    dsimp only
    by_cases hv : (b == c || (carriedByValue
                                             (.ref b) && carriedByValue (.ref c))) = true
    · exact wp_if_pos hv (wpAny_pure ⟨rfl, rfl, more⟩)
    · refine wp_if_neg hv (wpAny_bind (wpAny_eqIsQuiet_tuple hk ?_))
      simp only [Bool.not_true, Bool.false_eq_true, if_false]
      refine wpAny_bind (wpAny_eqIsQuiet_tuple hc ?_)
      simp only [Bool.not_true, Bool.false_eq_true, if_false]
      refine wpAny_bind (tup_noClass hk ?_)
      simp only [Bool.false_eq_true, if_false]
      refine wpAny_bind (tup_noClass hc ?_)
      simp only [Bool.false_eq_true, if_false]
      exact wpAny_pure ⟨rfl, rfl, more⟩
  · rintro ⟨r1, r2⟩ s' ⟨hr, rfl, _⟩
    simp only at hr
    subst hr
    exact wpAny_pure h
end

/-! ### the table -/
structure SpT (P : Program) (w : World) (h : Heap) (a : Addr) (L : List Mem) (es : Array (Int × Value)) (ep : Nat) (t : SetTable) (o : Obj) : Prop where
  ho : h.get? a = some o
  hex : o.ExactSet
  hd : o.data = .set es ep t
  rows : es.toList = rws P w L
  tab : TabOk t (hs P w L)
  nd : (L.map (·.2)).Nodup
  led : w.params.followText "set-order" = true ∨ t.led = true
  room : L.length * 5 < t.mask * 3
  few : L.length < 64
section
variable {P : Program} {w : World} {A : Around} {E : Value → Shared → Prop} {s : Shared} {a : Addr} {L : List Mem} {es : Array (Int × Value)} {ep : Nat} {t : SetTable} {o : Obj}
theorem rws_len {es : Array (Int × Value)} {L : List Mem} (h : es.toList = rws P w L) : es.size = L.length := by
  have e := congrArg List.length h
  unfold rws at e
  rw [Array.length_toList, List.length_map] at e
  exact e
theorem hs_len (L : List Mem) : (hs P w L).length = L.length := List.length_map _
theorem fits_of {t : SetTable} {n : Nat} (hz : t.place.size = n) (hd : t.dummies = #[]) (hn : n ≤ t.mask) : t.fits n = true := by
  unfold SetTable.fits SetTable.fill
  rw [hd, Bool.and_eq_true, beq_iff_eq, decide_eq_true_eq]
  show t.place.size = n ∧ t.place.size + 0 ≤ t.mask
  omega
theorem SpT.fit {h : Heap} (R : SpT P w h a L es ep t o) : t.fits es.size = true := by
  have e := R.tab.sz
  rw [hs_len] at e
  have f := rws_len R.rows
  have g := R.room
  exact fits_of (by omega) R.tab.dm (by omega)
theorem SpT.at_ {h : Heap} (R : SpT P w h a L es ep t o) {i : Nat} {p : Mem} (e : L[i]? = some p) : es[i]? = some (HT P w p.2, Value.ref p.1) := by
  rw [← Array.getElem?_toList, R.rows]
  unfold rws
  rw [List.getElem?_map, e] <;> rfl
/-- the c-th step of a search -/
abbrev stp (t : SetTable) (h : Int) (c : Nat) : SetTable.Probe := nth t.mask (runAt t.mask (SetTable.bits h % (t.mask + 1)) (SetTable.bits h)) c
theorem stp_dm (t : SetTable) (h : Int) (c : Nat) : (stp t h c).dummy = none := by
  have key : ∀ (n : Nat) (p : SetTable.Probe), p.dummy = none →
                                                                (nth t.mask p n).dummy = none := by
    intro n
    induction n with
    | zero => intro p h; exact h
    | succ n ih =>
      intro p h
      refine ih (adv t.mask p) ?_
      unfold adv
      split <;> exact h
  exact key c _ rfl
theorem stp_add (t : SetTable) (h : Int) (c q : Nat) : nth t.mask (stp t h c) q = stp t h (c + q) := (nth_add t.mask c _ q).symm

/-- the search, from the c-th step on -/
theorem seek (R : SpT P w s.heap a L es ep t o) (tup : ∀ p ∈ L, TpK P w s.heap p.2 p.1) {x : Addr} {k : List Key} (hx : TpK P w s.heap k x) (hu : A.units < cLine) {K : Nat} (hKf : K < 10 * SetTable.turns t.mask)
    (hK : way t.mask (HT P w k) K ∉ t.place.toList) (hKb : ∀ c, c < K → way t.mask (HT P w k) c ∈ t.place.toList) {Q : SetFound → Shared → Prop}
    (hin : k ∈ L.map (·.2) → Q (.there none) s) (hout : k ∉ L.map (·.2) → Q (.free (way t.mask (HT P w k) K) false) s) :
    ∀ (f c : Nat) (stand : Option SetTable.Probe), stand.getD (t.probeStart (HT P w k)) = stp t (HT P w k) c → c ≤ K → K - c < f →
      (∀ (i : Nat) p, L[i]? = some p → p.2 = k → ∃ c', c ≤ c' ∧ c' < K ∧ t.place.toList[i]? = some (way t.mask (HT P w k) c')) →
      wpAny (model P w) A (setSearchFrom a (.ref x) (HT P w k) true f stand) Q E s
  | 0, c, stand, _, _, hf, _ => absurd hf (Nat.not_lt_zero _)
  | f + 1, c, stand, hst, hc, hf, hre => by
    have gw : ¬ t.gaveWay = true := by
      unfold SetTable.gaveWay
      rw [mask_odd R.tab.mok]
      decide
    rw [setSearchFrom_succ]
    refine wpAny_bind (wpAny_setState_of R.ho R.hd R.fit ?_)
    dsimp only
    refine wp_if_neg gw ?_
    try refine wpAny_bind (wpAny_pure ?_)
    have wj : ∀ q, (nth t.mask (stp t (HT P w k) c) q).j = way t.mask (HT P w k) (c + q) := fun q => congrArg SetTable.Probe.j (stp_add t _ c q)
    have hash_at : ∀ (i : Nat) p, L[i]? = some p → (es[i]?.map (·.1)).getD 0 = HT P w p.2 := fun i p hp => by
      rw [R.at_ hp] <;> rfl
    have spec := go_spec t R.tab.ris R.tab.dm (fun i => (es[i]?.map (·.1)).getD 0) (HT P w k) (10 * SetTable.turns t.mask) (K - c) _ (stp_dm t (HT P w k) c) (by omega)
      (fun q hq => by rw [wj]; exact hKb (c + q) (by omega)) (by rw [wj, show c + (K - c) = K by omega]; exact hK)
    rcases spec with ⟨q, i, hq, hi, hh, hno, hpr⟩ | ⟨hno, hpr⟩
    · have met : t.probe (fun i => (es[i]?.map (·.1)).getD 0) (HT P w k) (stand.getD (t.probeStart (HT P w k))) = some (.candidate (way t.mask (HT P w k) (c + q)) i (stp t (HT P w k) (c + (q + 1)))) := by
        rw [hst, ← wj, ← stp_add]
        exact hpr
      rw [met]
      dsimp only
      rw [wj] at hi
      have hil : i < L.length := by
        have h1 : i < t.place.toList.length :=
                                               (List.getElem?_eq_some_iff.mp hi).1
        have h2 := R.tab.sz
        rw [hs_len] at h2
        rw [Array.length_toList] at h1
        omega
      obtain ⟨p, hp⟩ : ∃ p, L[i]? = some p := ⟨_, List.getElem?_eq_getElem hil⟩
      have pm : p ∈ L := List.mem_of_getElem? hp
      have rest : wpAny (model P w) A (searchRest a (.ref x) (HT P w k) true f es t (way t.mask (HT P w k) (c + q)) i (stp t (HT P w k) (c + (q + 1)))) Q E s := by
        unfold searchRest
        rw [R.at_ hp]
        dsimp only
        refine wpAny_bind (wpAny_holding (wpAny_eqBool_tuple hu (tup p pm) hx ?_))
        refine wpAny_bind (wpAny_setState_of R.ho R.hd R.fit ?_)
        dsimp only
        by_cases same : p.2 = k
        · exact wp_if_pos (by simp [same]) (wpAny_pure (hin (List.mem_map.mpr ⟨p, pm, same⟩)))
        · refine wp_if_neg (by simp [same]) ?_
          try refine wpAny_bind (wpAny_pure ?_)
          rw [sameMem]
          dsimp only
          have here : t.slot (way t.mask (HT P w k) (c + q)) = .live i := slot_live R.tab.ris hi
          simp only [if_true, here, R.at_ hp]
          refine wpAny_bind (wpAny_isSame_ref_self
                                                   (wpAny_bind (wpAny_pure ?_)))
          simp only [if_true]
          refine wp_if_neg (by simp [same]) ?_
          refine seek R tup hx hu hKf hK hKb hin hout f (c + (q + 1)) _ rfl (by omega) (by omega) fun i0 p0 h0 k0 => ?_
          obtain ⟨c', a1, a2, a3⟩ := hre i0 p0 h0 k0
          refine ⟨c', ?_, a2, a3⟩
          -- it has not been passed: neither before the candidate nor at it
          rcases Nat.lt_trichotomy c' (c + q) with z | z | z
          · exact absurd ((hash_at i0 p0 h0).trans (congrArg (HT P w) k0)) (hno (c' - c) i0 (by omega) (by rw [wj, show c + (c' - c) = c' by omega]; exact a3))
          · rw [z] at a3
            have e0 := slot_live R.tab.ris a3
            rw [here] at e0
            injection e0 with e0
            rw [← e0, hp] at h0
            exact absurd ((congrArg Prod.snd (Option.some.inj h0)).trans k0) same
          · omega
      by_cases hl : t.led = true
      · refine wp_if_neg (by simp [hl]) ?_
        try refine wpAny_bind (wpAny_pure ?_)
        exact rest
      · refine wp_if_pos (by simp [hl]) ?_
        refine wpAny_bind (tup_unseen hx (fun y hy => ?_) ?_)
        · obtain ⟨e, he, ee⟩ := List.mem_map.mp hy
          have he1 : e ∈ es ∧ e.1 = HT P w k := by simpa using he
          have he2 : e ∈ es.toList := by simpa using he1.1
          rw [R.rows] at he2
          obtain ⟨p2, m2, e2⟩ := List.mem_map.mp he2
          exact ⟨p2.2, p2.1, by rw [← ee, ← e2], tup p2 m2⟩
        · refine wp_if_neg (by decide) ?_
          try refine wpAny_bind (wpAny_pure ?_)
          exact rest
    · have met : t.probe (fun i => (es[i]?.map (·.1)).getD 0) (HT P w k) (stand.getD (t.probeStart (HT P w k))) = some (.empty (way t.mask (HT P w k) K) none) := by
        have e2 : way t.mask (HT P w k) K = (nth t.mask (stp t (HT P w k) c) (K - c)).j := by
          rw [wj, show c + (K - c) = K by omega]
        rw [hst, e2]
        exact hpr
      rw [met]
      dsimp only
      refine wpAny_pure (hout fun hm => ?_)
      obtain ⟨p0, m0, k0⟩ := List.mem_map.mp hm
      obtain ⟨i0, l0, e0⟩ := List.getElem_of_mem m0
      have h0 : L[i0]? = some p0 := by rw [List.getElem?_eq_getElem l0, e0]
      obtain ⟨c', a1, a2, a3⟩ := hre i0 p0 h0 k0
      exact absurd ((hash_at i0 p0 h0).trans (congrArg (HT P w) k0)) (hno (c' - c) i0 (by omega) (by rw [wj, show c + (c' - c) = c' by omega]; exact a3))
theorem seek0 (R : SpT P w s.heap a L es ep t o) (tup : ∀ p ∈ L, TpK P w s.heap p.2 p.1) {x : Addr} {k : List Key} (hx : TpK P w s.heap k x) (hu : A.units < cLine) {Q : SetFound → Shared → Prop}
    (hin : k ∈ L.map (·.2) → Q (.there none) s)
    (hout : ∀ K, k ∉ L.map (·.2) → way t.mask (HT P w k) K ∉ t.place.toList → (∀ c, c < K → way t.mask (HT P w k) c ∈ t.place.toList) → Q (.free (way t.mask (HT P w k) K) false) s) :
    wpAny (model P w) A (setSearch a (.ref x) (HT P w k) true) Q E s := by
  have hroom := R.room
  obtain ⟨K, f1, f2, f3⟩ := R.tab.first (by rw [hs_len]; omega) (HT P w k)
  have big : 10 * SetTable.turns t.mask ≤ 1420 := by
    unfold SetTable.turns
    rcases R.tab.mok with e | e | e <;> omega
  unfold setSearch
  refine seek R tup hx hu f1 f2 f3 hin (fun hn => hout K hn f2 f3) 100000 0 none rfl (Nat.zero_le _) (by omega) fun i p hp hk => ?_
  have hi : (hs P w L)[i]? = some (HT P w k) := by
    unfold hs
    rw [List.getElem?_map, hp, ← hk] <;> rfl
  have lt : i < t.place.toList.length := by
    have h1 : i < L.length :=
                              (List.getElem?_eq_some_iff.mp hp).1
    have h2 := R.tab.sz
    rw [hs_len] at h2
    rw [Array.length_toList]
    omega
  obtain ⟨c, hc, e⟩ := R.tab.before f2 hi (List.getElem?_eq_getElem lt)
  exact ⟨c, Nat.zero_le _, hc, by rw [List.getElem?_eq_getElem lt, e]⟩
end
end KS
set_option maxHeartbeats 3200000
namespace KS
open PySem PySem.Spec PyProof.Rows L2

section
variable {P : Program} {w : World} {A : Around} {E : Value → Shared → Prop} {s : Shared} {a : Addr} {L : List Mem} {es : Array (Int × Value)} {ep : Nat} {t : SetTable} {o : Obj}
/-- a tuple is not the set that changes -/
theorem tt_same {h h' : Heap} {k : List Key} {b : Addr} (x : TpK P w h k b) (ho : h.get? a = some o) (hd : o.data = .set es ep t) (sb : Heap.SameBut a h h') : TpK P w h' k b := by
  obtain ⟨u, its, n, hu, hc, hd', hi⟩ := x
  refine ⟨u, its, n, (sb.2 b ?_).trans hu, hc, hd', hi⟩
  rintro rfl
  rw [ho] at hu
  rw [← Option.some.inj hu, hd] at hd'
  exact nomatch hd'
theorem tt_keep {h h' : Heap} {k : List Key} {b : Addr} (x : TpK P w h k b) (kk : ∀ c o, h.get? c = some o → h'.get? c = some o) : TpK P w h' k b := by
  obtain ⟨u, its, n, hu, r⟩ := x
  exact ⟨u, its, n, kk b u hu, r⟩
theorem hs_ins (L : List Mem) (i : Nat) (m : Mem) : hs P w (L.take i ++ m :: L.drop i) = (hs P w L).take i ++ HT P w m.2 :: (hs P w L).drop i := by
  unfold hs
  rw [List.map_append, List.map_cons, List.map_take, List.map_drop]
theorem rws_ins (L : List Mem) (i : Nat) (m : Mem) : rws P w (L.take i ++ m :: L.drop i) = (rws P w L).take i ++ (HT P w m.2, Value.ref m.1) :: (rws P w L).drop i := by
  unfold rws
  rw [List.map_append, List.map_cons, List.map_take, List.map_drop]
/-- rows picked by an order -/
theorem picked {es : Array (Int × Value)} (hr : es.toList = rws P w L) : ∀ l : List Nat, (∀ i ∈ l, i < L.length) →
    l.filterMap (fun i => es[i]?) = rws P w (l.filterMap fun i => L[i]?) ∧ hs P w (l.filterMap fun i => L[i]?) = l.map fun i => (es.map (·.1)).getD i 0
  | [], _ => ⟨rfl, rfl⟩
  | i :: l, hl => by
    have lt := hl i List.mem_cons_self
    obtain ⟨e1, e2⟩ := picked hr l fun j hj => hl j (List.mem_cons_of_mem _ hj)
    have q : L[i]? = some L[i] := List.getElem?_eq_getElem lt
    have en : es[i]? = some (HT P w (L[i]).2, Value.ref (L[i]).1) := by
      rw [← Array.getElem?_toList, hr]
      unfold rws
      rw [List.getElem?_map, q] <;> rfl
    have eg : (es.map (·.1)).getD i 0 = HT P w (L[i]).2 := by
      have e5 : (es.map (·.1))[i]? = some (HT P w (L[i]).2) := by rw [Array.getElem?_map, en] <;> rfl
      simp [Array.getD_eq_getD_getElem?, e5]
    refine ⟨?_, ?_⟩
    · rw [List.filterMap_cons_some en, List.filterMap_cons_some q, e1] <;> rfl
    · rw [List.filterMap_cons_some q, List.map_cons, eg, ← e2] <;> rfl
theorem pick_all {α : Type} (L : List α) : ∀ n, n ≤ L.length → (List.range n).filterMap (fun i => L[i]?) = L.take n
  | 0, _ => rfl
  | n + 1, h => by
    have lt : n < L.length := h
    rw [List.range_succ, List.filterMap_append, pick_all L n (Nat.le_of_lt lt), List.take_succ, List.getElem?_eq_getElem lt, List.filterMap_cons_some (List.getElem?_eq_getElem lt)] <;> rfl

theorem relay (ho : s.heap.get? a = some o) (hex : o.ExactSet) (hd : o.data = .set es ep t) (hr : es.toList = rws P w L) (hz : t.place.size = es.size) (dm : t.dummies = #[]) (hm : es.size ≤ t.mask)
    (nd : (L.map (·.2)).Nodup) (led : w.params.followText "set-order" = true ∨ t.led = true) (few : L.length < 64) {wanted M : Nat} (hw : SetTable.sizeAbove wanted - 1 = M) (hM : MaskOk M) (h128 : SetTable.sizeAbove wanted ≤ 128) (room : L.length * 5 < M * 3)
    {Q : Unit → Shared → Prop} (hQ : ∀ h' L' es' ep' t' o', Heap.SameBut a s.heap h' → SpT P w h' a L' es' ep' t' o' → L'.Perm L → Q () { s with heap := h' }) : wpAny (model P w) A (setRelay a wanted) Q E s := by
  have len := rws_len hr
  obtain ⟨t', order, e, pm, T, em, el, _, _⟩ := relaid_ok t (hs := es.map (·.1)) (wanted := wanted) hw hM (by rw [Array.size_map, len]; omega)
  rw [Array.size_map, len] at pm
  obtain ⟨r1, r2⟩ := picked (P := P) (w := w) hr order.toList fun i hi => List.mem_range.mp (pm.mem_iff.mp hi)
  have p2 : (order.toList.filterMap fun i => L[i]?).Perm L := by
    have q := pm.filterMap fun i => L[i]?
    rw [pick_all L L.length (Nat.le_refl _), List.take_length] at q
    exact q
  generalize order.toList.filterMap (fun i => L[i]?) = L2 at r1 r2 p2
  rw [← r2] at T
  have r1' : (order.filterMap (es[·]?)).toList = rws P w L2 := by first | (rw [Array.toList_filterMap]; exact r1) | simpa using r1
  have sz2 : (order.filterMap (es[·]?)).size = es.size := by rw [rws_len r1', p2.length_eq, len]
  rw [setRelay_eq]
  refine wpAny_bind (wpAny_setState_of ho hd (fits_of hz dm hm) ?_)
  dsimp only
  refine wp_if_neg (by rw [sizeLine_eq]; omega) ?_
  try refine wpAny_bind (wpAny_pure ?_)
  rw [e]
  dsimp only
  refine wpAny_bind ?_
  refine wp_if_neg (by rw [sz2]; simp) ?_
  try refine wpAny_bind (wpAny_pure ?_)
  refine wpAny_pure ?_
  dsimp only
  refine wpAny_storeSet_of ho hd ?_ (by rw [sz2, len, sizeLine_eq]; omega)
  exact hQ _ L2 _ (ep + 1) t' _ (Heap.SameBut.update ..) ⟨store_at ho hd, ⟨hex.1, hex.2.1, hex.2.2⟩, rfl, r1', T, (p2.map (·.2)).nodup_iff.mpr nd, by rw [el]; exact led, by rw [p2.length_eq, em]; exact room, by rw [p2.length_eq]; exact few⟩ p2

theorem add_tup (R : SpT P w s.heap a L es ep t o) (tup : ∀ p ∈ L, TpK P w s.heap p.2 p.1) {x : Addr} {k : List Key} (hx : TpK P w s.heap k x) (hu : A.units < cLine) (few : L.length + 1 < 64) {Q : Bool → Shared → Prop}
    (hQ : ∀ b h' L' es' ep' t' o', Heap.SameBut a s.heap h' → SpT P w h' a L' es' ep' t' o' → (k ∈ L.map (·.2) → L' = L) → (k ∉ L.map (·.2) → L'.Perm ((x, k) :: L)) → Q b { s with heap := h' }) :
    wpAny (model P w) A (setAddHashed a (.ref x) (HT P w k)) Q E s := by
  have hroom := R.room
  unfold setAddHashed
  refine wpAny_holding ?_
  rw [show (100000 : Nat) = 99999 + 1 from rfl, setAddHashedIn_succ]
  refine wpAny_bind (wpAny_setState_of R.ho R.hd R.fit ?_)
  dsimp only
  refine wp_if_neg (by simp [byScan, Value.scannable]) ?_
  try refine wpAny_bind (wpAny_pure ?_)
  refine wpAny_bind (seek0 R tup hx hu (fun hm => ?_) fun K hm hK hb => ?_)
  · exact wpAny_pure (hQ false s.heap L es ep t o (Heap.SameBut.refl a s.heap) R (fun _ => rfl) fun z => absurd hm z)
  dsimp only
  refine wpAny_bind (wpAny_setState_of R.ho R.hd R.fit ?_)
  dsimp only
  obtain ⟨q1, q2, q3, q4, q5, _, _, _, q9⟩ := R.tab.put hK hb
  generalize t.put (way t.mask (HT P w k) K) = pt at q1 q3 q4 q5 q9 ⊢
  obtain ⟨t1, i⟩ := pt
  dsimp only at q1 q3 q4 q5 q9 ⊢
  subst q1
  generalize SetTable.below t.place (way t.mask (HT P w k) K) = i at q2 q3 ⊢
  rw [← hs_ins L i (x, k)] at q3
  rw [hs_len] at q9
  have pm : (L.take i ++ (x, k) :: L.drop i).Perm ((x, k) :: L) := put_perm L i (x, k)
  have hr : (SetTable.insertAt es i (HT P w k, Value.ref x)).toList = rws P w (L.take i ++ (x, k) :: L.drop i) := by rw [SetTable.toList_insertAt, rws_ins, R.rows]
  have len : (L.take i ++ (x, k) :: L.drop i).length = L.length + 1 := pm.length_eq
  have nd1 : ((L.take i ++ (x, k) :: L.drop i).map (·.2)).Nodup := by
    refine (pm.map (·.2)).nodup_iff.mpr ?_
    rw [List.map_cons]
    exact List.nodup_cons.mpr ⟨hm, R.nd⟩
  generalize SetTable.insertAt es i (HT P w k, Value.ref x) = es1 at hr ⊢
  generalize L.take i ++ (x, k) :: L.drop i = L1 at pm hr len nd1 q3
  have sz1 : es1.size = L.length + 1 := by rw [rws_len hr, len]
  have led1 : w.params.followText "set-order" = true ∨ t1.led = true := by rw [q5]; exact R.led
  have lenT : t1.place.size = L.length + 1 := by
    have e := q3.sz
    rw [hs_len, len] at e
    exact e
  rw [rws_len R.rows]
  -- what follows, whether or not the table stays plain
  have rest : ∀ t2 : SetTable, t2.mask = t1.mask → t2.place = t1.place → t2.dummies = t1.dummies → t2.led = t1.led → TabOk t2 (hs P w L1) →
      wpAny (model P w) A (do
        storeSet a es1 t2
        if (!false && t2.tooFull) = true then setRelay a (SetTable.grown (L.length + 1))
        return true) Q E s := fun t2 m2 p2 d2 l2 T2 => by
    refine wpAny_bind (wpAny_storeSet_of R.ho R.hd ?_ (by rw [sz1, sizeLine_eq]; omega))
    have sb : Heap.SameBut a s.heap (s.heap.update a (Obj.putSet es1 t2)) := Heap.SameBut.update ..
    have o1 := store_at (es' := es1) (t' := t2) R.ho R.hd
    generalize s.heap.update a (Obj.putSet es1 t2) = h1 at sb o1 ⊢
    have led2 : w.params.followText "set-order" = true ∨ t2.led = true := by rw [l2]; exact led1
    have fill2 : t2.fill = L.length + 1 := by
      show t2.place.size + t2.dummies.size = L.length + 1
      rw [p2, d2]
      exact q9
    by_cases full : t2.tooFull = true
    · have big : (L.length + 1) * 5 ≥ t2.mask * 3 := by
        have h := full
        unfold SetTable.tooFull at h
        rw [decide_eq_true_eq, fill2] at h
        exact h
      have two : (t.mask = 7 ∧ L.length = 4) ∨ (t.mask = 31 ∧ L.length = 18) := by
        rcases R.tab.mok with e | e | e
        · left; rw [m2, q4, e] at big; rw [e] at hroom; exact ⟨e, by omega⟩
        · right; rw [m2, q4, e] at big; rw [e] at hroom; exact ⟨e, by omega⟩
        · exfalso; rw [m2, q4, e] at big; omega
      have go : ∀ M, SetTable.sizeAbove (SetTable.grown (L.length + 1)) - 1 = M → MaskOk M → SetTable.sizeAbove
                                                                                                                (SetTable.grown (L.length + 1)) ≤ 128 → (L.length + 1) * 5 < M * 3 →
          wpAny (model P w) A (setRelay a (SetTable.grown (L.length + 1))) (fun _ s' => wpAny (model P w) A (pure true) Q E s') E { s with heap := h1 } := fun M g1 g2 g3 g4 => by
        refine relay (s := { s with heap := h1 }) o1 ⟨R.hex.1, R.hex.2.1, R.hex.2.2⟩ rfl hr (by rw [p2, lenT, sz1]) (by rw [d2]; exact q3.dm) (by rw [sz1, m2, q4]; rcases two with ⟨e, e2⟩ | ⟨e, e2⟩ <;> omega) nd1 led2 (by rw [len]; exact few) g1 g2 g3 (by rw [len]; exact g4) ?_
        intro h2 L3 es3 ep3 t3 o3 sb3 R3 pm3
        exact wpAny_pure (hQ true h2 L3 es3 ep3 t3 o3 (sb.trans sb3) R3 (fun z => absurd z hm) fun _ => pm3.trans pm)
      first
        | (refine wpAny_bind ?_; refine wp_if_pos (by simp [full]) ?_)
        | (refine wp_if_pos (by simp [full]) ?_; refine wpAny_bind ?_)
      rcases two with ⟨_, e2⟩ | ⟨_, e2⟩
      · exact go 31 (by rw [e2, size_20]) (.inr (.inl rfl)) (by rw [e2, size_20]; decide) (by omega)
      · exact go 127 (by rw [e2, size_76]) (.inr (.inr rfl)) (by rw [e2, size_76]; decide) (by omega)
    · first
        | refine wp_if_neg (by simp [full]) ?_
        | (refine wpAny_bind ?_; refine wp_if_neg (by simp [full]) ?_; refine wpAny_pure ?_)
      refine wpAny_pure (hQ true h1 L1 es1 (ep + 1) t2 _ sb ⟨o1, ⟨R.hex.1, R.hex.2.1, R.hex.2.2⟩, rfl, hr, T2, nd1, led2, ?_, by rw [len]; exact few⟩ (fun z => absurd z hm) fun _ => pm)
      have h := full
      unfold SetTable.tooFull at h
      rw [decide_eq_true_eq, fill2] at h
      rw [len]
      omega
  have T0 : TabOk { t1 with plain := false } (hs P w L1) := ⟨q3.ris, q3.dm, q3.sz, q3.mok, q3.bd, q3.reach⟩
  by_cases pl : t1.plain = true
  · first
      | (refine wpAny_bind ?_; refine wp_if_pos pl ?_; refine tup_byVal hx fun z => ?_)
      | refine wp_if_pos pl (wpAny_bind (tup_byVal hx fun z => ?_))
    cases z with
    | true =>
      simp only [if_true]
      exact rest t1 rfl rfl rfl rfl q3
    | false =>
      simp only [Bool.false_eq_true, if_false]
      exact rest { t1 with plain := false } rfl rfl rfl rfl T0
  · first
      | (refine wpAny_bind ?_; refine wp_if_neg pl ?_; refine wpAny_pure ?_)
      | refine wp_if_neg pl (wpAny_bind (wpAny_pure ?_))
    simp only [if_true]
    exact rest t1 rfl rfl rfl rfl q3
end
end KS
set_option maxHeartbeats 3200000
namespace KS
open PySem PySem.Spec PyProof.Rows L2

theorem perm_pre {α β : Type} {f : α → β} {out l : List β} (p : out.Perm l) : ∀ L : List α, l = L.map f → ∃ L' : List α, L'.Perm L ∧ out = L'.map f := by
  induction p with
  | nil =>
    intro L e
    cases L with
    | nil => exact ⟨[], .nil, rfl⟩
    | cons x L => exact nomatch e
  | cons x _ ih =>
    intro L e
    cases L with
    | nil => exact nomatch e
    | cons y L =>
      rw [List.map_cons] at e
      injection e with e1 e2
      obtain ⟨L', q1, q2⟩ := ih L e2
      exact ⟨y :: L', q1.cons y, by rw [List.map_cons, ← q2, e1]⟩
  | swap x y l =>
    intro L e
    match L, e with
    | a :: b :: L, e =>
      rw [List.map_cons, List.map_cons] at e
      injection e with e1 e2
      injection e2 with e2 e3
      exact ⟨b :: a :: L, .swap _ _ _, by rw [List.map_cons, List.map_cons, e1, e2, e3]⟩
  | trans _ _ ih1 ih2 =>
    intro L e
    obtain ⟨L2, q1, q2⟩ := ih2 L e
    obtain ⟨L1, q3, q4⟩ := ih1 L2 q2
    exact ⟨L1, q3.trans q1, q4⟩
theorem each_map_of {α : Type} {R : Value → α → Prop} {f : α → Value} : ∀ {ms : List α}, (∀ m ∈ ms, R (f m) m) → PySem.W.EachIs R (ms.map f) ms
  | [], _ => .nil
  | m :: ms, h => .cons (h m List.mem_cons_self) (each_map_of fun u hu => h u (List.mem_cons_of_mem _ hu))

/-- tuples of ints and texts -/
def tupKit (P : Program) (w : World) : Kit P w Mem (List Key) where
  key := fun m => m.2
  mv := fun h m v => v = .ref m.1 ∧ TpK P w h m.2 m.1
  sp := fun h a L => ∃ es ep t o, SpT P w h a L es ep t o
  mvK := fun x k => ⟨x.1, tt_keep x.2 k⟩
  spAt := fun R k => by
    obtain ⟨es, ep, t, o, R⟩ := R
    exact ⟨es, ep, t, o, { R with ho := k o R.ho }⟩
  spEx := fun R => by
    obtain ⟨es, ep, t, o, R⟩ := R
    exact ⟨o, R.ho, R.hex.1⟩
  spNd := fun R => by
    obtain ⟨es, ep, t, o, R⟩ := R
    exact R.nd
  spFew := fun R => by
    obtain ⟨es, ep, t, o, R⟩ := R
    exact R.few
  fresh := fun ho => ⟨#[], 0, _, _, ho, ⟨rfl, rfl, rfl⟩, rfl, rfl, ⟨List.Pairwise.nil, rfl, rfl, .inl rfl, (fun x hx => by cases hx), fun i h j hi => by simp [hs] at hi⟩, List.nodup_nil, (by
    show _ ∨ (!w.params.followText "set-order") = true
    cases w.params.followText "set-order"
    · exact .inr rfl
    · exact .inl rfl), (by show 0 * 5 < 7 * 3; decide), by show 0 < 64; decide⟩
  add := fun {A E s a L m v Q} R ht hk room hu hQ => by
    obtain ⟨es, ep, t, o, R⟩ := R
    obtain ⟨rfl, hx⟩ := hk
    unfold setAdd
    refine wpAny_holding (wpAny_bind (wpAny_pyHash_tuple hu hx ?_))
    refine add_tup (s := { s with toks := s.toks + (m.2.length + 1) }) R (fun p hp => ?_) hx hu room fun b h' L' es' ep' t' o' sb r c1 c2 => hQ b h' _ L' sb (Nat.le_add_right _ _) ⟨es', ep', t', o', r⟩ c1 c2
    obtain ⟨_, _, q⟩ := ht p hp
    exact q
  col := fun {A E s a L Q} R ht hh hQ => by
    obtain ⟨es, ep, t, o, R⟩ := R
    have few := R.few
    refine collect_set hh ⟨o, R.ho, R.hex.1, R.hd⟩ R.fit (by rw [rws_len R.rows]; unfold scanBound; omega) R.tab.ris R.led fun s' out k z g os pm => ?_
    have e : es.toList.map (·.2) = L.map fun p => Value.ref p.1 := by
      rw [R.rows]
      unfold rws
      rw [List.map_map] <;> rfl
    obtain ⟨L', q1, q2⟩ := perm_pre pm L e
    subst q2
    refine hQ s' _ L' k z g os q1 (each_map_of fun m hm => ⟨rfl, ?_⟩)
    obtain ⟨_, _, q⟩ := ht m (q1.mem_iff.mp hm)
    exact q
end KS
set_option maxHeartbeats 3200000
/-! rules over tracked heaps: set(xs), sorted(set), the comprehension's add -/
namespace KS
open PySem PySem.Spec PyProof.Rows L2

/-- the set at a with the members L -/
def SetO {P : Program} {w : World} {μ κ : Type} (Z : Kit P w μ κ) (a : Addr) (L : List μ) : HO := .ext fun h => Z.sp h a L
theorem setO_new {P : Program} {w : World} {μ κ : Type} {Z : Kit P w μ κ} {H : Hp} {h : Heap} {a : Addr} {L : List μ} (R : Z.sp h a L) : ObjOk P w H h a (SetO Z a L) := by
  have ⟨o, ho, _⟩ := Z.spEx R
  exact ⟨R, ⟨o, ho⟩, fun h1 h2 p k => Z.spAt p k⟩
/-- how members stand in a tracked heap -/
structure Lnk (X : Cx) {μ κ : Type} (Z : Kit X.prog X.w μ κ) where
  vOf : μ → V
  ok : Hp → μ → Prop
  get : ∀ {pins : List (Addr × Obj)} {σ : L2.St} {H : Hp} {s : Shared} {m : μ} {u : Value}, Inv X pins σ H s → ok H m → RelV (vOf m) u → Z.mv s.heap m u
  some_ : ∀ m, ∃ u, RelV (vOf m) u
  back : ∀ {h : Heap} {m : μ} {u : Value}, Z.mv h m u → RelV (vOf m) u
section
variable {X : Cx} {μ κ : Type} {Z : Kit X.prog X.w μ κ} (K : Lnk X Z)
def linkKey (X : Cx) : Lnk X (keyKit X.prog X.w) where
  vOf := kV
  ok := fun _ _ => True
  get := fun _ _ r => kV_is (P := X.prog) (w := X.w) r
  some_ := fun m => by
    cases m with
    | inl i => exact ⟨.int i 0, 0, rfl⟩
    | inr x => exact ⟨.str x 0, 0, rfl⟩
  back := fun {h m u} q => by
    rcases keyIs_shape (show keyIs m u = true from q) with ⟨i, t, rfl, rfl⟩ | ⟨x, t, rfl, rfl⟩ <;> exact ⟨t, rfl⟩
def linkTup (X : Cx) : Lnk X (tupKit X.prog X.w) where
  vOf := fun m => .ref m.1
  ok := fun H m => SqT X.K H m.1 (m.2.map kV)
  get := fun {pins σ H s m u} I h r => by
    cases r
    obtain ⟨its, rv, ⟨o, ho, hc, n, hd⟩, _⟩ := I.tuple h
    exact ⟨rfl, o, its.toArray, n, ho, hc, hd, by simpa using items_are rv⟩
  some_ := fun m => ⟨.ref m.1, rfl⟩
  back := fun q => q.1
theorem vals_each {pins : List (Addr × Obj)} {σ : L2.St} {H : Hp} {s : Shared} (I : Inv X pins σ H s) : ∀ {ms : List μ} {us : List Value}, (∀ m ∈ ms, K.ok H m) → Vals (ms.map K.vOf) us → PySem.W.EachIs (fun v m => Z.mv s.heap m v) us ms
  | [], _, _, r => by cases r; exact .nil
  | m :: ms, _, h, r => by
    cases r with
    | cons r t => exact .cons (K.get I (h m List.mem_cons_self) r) (vals_each I (fun x hx => h x (List.mem_cons_of_mem _ hx)) t)
theorem each_vals {h : Heap} : ∀ {us : List Value} {ms : List μ}, PySem.W.EachIs (fun v m => Z.mv h m v) us ms → Vals (ms.map K.vOf) us
  | _, _, .nil => .nil
  | _, _, .cons r t => .cons (K.back r) (each_vals t)
theorem all_mv {pins : List (Addr × Obj)} {σ : L2.St} {H : Hp} {s : Shared} (I : Inv X pins σ H s) {L : List μ} (h : ∀ m ∈ L, K.ok H m) : ∀ m ∈ L, ∃ v, Z.mv s.heap m v := fun m hm => by
  obtain ⟨u, hu⟩ := K.some_ m
  exact ⟨u, K.get I (h m hm) hu⟩
/-- set(xs), xs a list of members -/
def rSetOf : List V → Hp → VK → Prop := fun xs H Q => ∃ (l : Addr) (ms : List μ), xs = [V.ref l] ∧ SqL X.K H l (ms.map K.vOf) ∧ (∀ m ∈ ms, K.ok H m) ∧ ms.length < 64 ∧
  ∀ a L, H a = none → From Z ms ms.length L → (L.map Z.key).Nodup → Q (.ref a) (upd H a (SetO Z a L))
theorem cr_setOf (hc : X.calm = true) (hu : X.A.units + 3 < cLine) : CallR X (.type "set") (rSetOf K) := by
  intro pins s σ H xs us Q I r h
  obtain ⟨l, ms, rfl, hl, hk, hf, q⟩ := h
  rw [Vals.ref1 r]
  obtain ⟨its, rv, pl, hz⟩ := I.list hl
  refine call_set Z ms (I.ok.hd hc) pl.isList (by simpa using vals_each K I hk rv) hf hu fun h' tk L R g k => ?_
  exact ⟨.ref s.heap.objs.size, upd H s.heap.objs.size (SetO Z s.heap.objs.size L), I.laid (t' := tk) k (Nat.le_refl _) (setO_new R), rfl, q _ L (I.hok.fresh (Nat.le_refl _)) g (Z.spNd R)⟩
/-- sorted(set) -/
def rSortedK (enc : μ → PyData) : List V → Hp → VK → Prop := fun vs H Q => ∃ (a : Addr) (L : List μ), vs = [V.ref a] ∧ H a = some (SetO Z a L) ∧ (∀ m ∈ L, K.ok H m) ∧ PySem.W.AllAlike (L.map enc) ∧ PySem.W.Sortable (L.map enc) ∧
  ∀ (L1 : List μ) (p : Addr), L1.Perm L → (L.map Z.key).Nodup → H p = none → Q (.ref p) (upd H p (.lst ((L1.mergeSort (PySem.W.dataLe false enc)).map K.vOf)))
theorem cr_sortedK {enc : μ → PyData} (hc : X.calm = true) (rd : ∀ {h : Heap} {m : μ} {v : Value}, Z.mv h m v → Reads h v (enc m) []) (hu : ∀ m, X.A.in1.units + 1 + (enc m).depth < cLine) : CallR X (.builtin "sorted") (rSortedK K enc) := by
  intro pins s σ H vs us Q I r h
  obtain ⟨a, L, rfl, ha, hk, al, so, q⟩ := h
  have R : Z.sp s.heap a L := (I.hok a _ ha).1
  rw [Vals.ref1 r]
  refine sorted_kit Z rd R (all_mv K I hk) (I.ok.hd hc) al so (fun m _ => hu m) fun s' p out c L1 k g o hp hg pm ei => ?_
  have few : (L1.mergeSort (PySem.W.dataLe false enc)).length < 64 := by
    rw [List.length_mergeSort, pm.length_eq]
    exact Z.spFew R
  have hlen : ((L1.mergeSort (PySem.W.dataLe false enc)).map K.vOf).length ≤ sizeLine := by
    rw [List.length_map, sizeLine_eq]
    omega
  have hn : H p = none := I.hok.fresh hp
  have J : Inv X pins σ (upd H p (.lst ((L1.mergeSort (PySem.W.dataLe false enc)).map K.vOf))) { s with heap := s'.heap, gens := s'.gens, drawn := s'.drawn, toks := s'.toks } :=
    I.call (ch := []) (Un.laid k hp hn) (I.hok.laid k hp ⟨hlen, out.toList, c, each_vals K ei, hg⟩) (by rw [g]; exact I.bare) (fun _ z => nomatch z)
  have e : s' =
                { s with heap := s'.heap, gens := s'.gens, drawn := s'.drawn, toks := s'.toks } := by
    cases s'
    cases s
    cases o
    rfl
  rw [e]
  exact ⟨.ref p, _, J, rfl, q L1 p pm (Z.spNd R) hn⟩
end
section
variable {P : Program} {w : World} {A : Around} {E : Value → Shared → Prop} {s : Shared} {μ κ : Type} (Z : Kit P w μ κ)
/-- found.add(x) -/
theorem call_add {a : Addr} {L : List μ} {m : μ} {v : Value} {Q : Value → Shared → Prop} (R : Z.sp s.heap a L) (hm : ∀ m ∈ L, ∃ v, Z.mv s.heap m v) (hv : Z.mv s.heap m v) (room : L.length + 1 < 64) (hu : A.in1.units < cLine)
    (hQ : ∀ h' tk L', Heap.SameBut a s.heap h' → Z.sp h' a L' → (Z.key m ∈ L.map Z.key → L' = L) → (Z.key m ∉ L.map Z.key → L'.Perm (m :: L)) → Q .none { s with heap := h', toks := tk }) :
    wpAny (model P w) A (call (.builtin "set.add") [.ref a, v]) Q E s := by
  obtain ⟨o, ho, hc⟩ := Z.spEx R
  refine wpAny_call_entry F.slot_set_add ⟨o, ho, hc⟩ F.entry_set_add ?_ (F.args_set_add_2 _ _)
  unfold Builtin.«set.add» Builtin.Frozenset.oneOther
  simp only [List.isEmpty_nil, bind_assoc]
  unfold Builtin.Frozenset.addrOf
  refine wpAny_bind (wpAny_pure ?_)
  try dsimp only
  refine wpAny_bind (wpAny_pure ?_)
  try dsimp only
  refine wpAny_bind ?_
  refine Z.add R hm hv room hu fun b h' tk L' sb ht r c1 c2 => ?_
  show wpAny _ _ (ret Value.none) _ _ _
  exact wpAny_pure ⟨_, rfl, hQ h' tk L' sb r c1 c2⟩
end
section
variable {X : Cx} {μ κ : Type} {Z : Kit X.prog X.w μ κ} (K : Lnk X Z)
/-- L and m make L' -/
def Grow (Z : Kit X.prog X.w μ κ) (L : List μ) (m : μ) (L' : List μ) : Prop := (Z.key m ∈ L.map Z.key → L' = L) ∧ (Z.key m ∉ L.map Z.key → L'.Perm (m :: L))
theorem addK_ok {pins : List (Addr × Obj)} {σ : L2.St} {H : Hp} {s : Shared} {E : Value → Shared → Prop} {D : Addr} {L : List μ} {m : μ} {u : Value} {Q : Value → Shared → Prop} (I : Inv X pins σ H s) (hD : H D = some (SetO Z D L))
    (hk : ∀ m ∈ L, K.ok H m) (hm : K.ok H m) (ru : RelV (K.vOf m) u) (room : L.length + 1 < 64) (hu : X.A.in1.units < cLine)
    (h : ∀ s' L', Grow Z L m L' → Inv X pins σ (upd H D (SetO Z D L')) s' → Q .none s') : wpAny (model X.prog X.w) X.A (call (.builtin "set.add") [.ref D, u]) Q E s := by
  have R : Z.sp s.heap D L := (I.hok D _ hD).1
  refine call_add Z R (all_mv K I hk) (K.get I hm ru) room hu fun h' tk L' sb new c1 c2 => ?_
  have he : ∃ u, h'.get? D = some u := by
    have ⟨o, ho, _⟩ := Z.spEx new
    exact ⟨o, ho⟩
  exact h _ L' ⟨c1, c2⟩ (I.write (e := D) (t' := tk) (by rw [hD]; trivial) (.inl rfl) (fun b u hb hu => (sb.2 b hb).trans hu) he (setO_new new))
end
end KS
set_option maxHeartbeats 3200000
/-! {elt for tg in iter if ..} over a Kit -/
namespace KS
open PySem PySem.Spec PyProof.Rows L2
section
variable {X : Cx} {μ κ : Type} {Z : Kit X.prog X.w μ κ} (K : Lnk X Z)
/-- D the new set; W i m: what holds ahead of the i-th turn, m goes down -/
def tSetC (wi : TI) (g : TG) (tt : TT) (te : TE) (vs : List Nat) : TE := fun σ H Q => wi σ H fun J H1 => ∀ D, H1 D = none → ∃ W : Nat → Nat → Hp → Prop, (∃ m, W 0 m (upd H1 D (SetO Z D []))) ∧ ∀ i m H, W i m H →
  (J.stop i H ∧ Q (.ref D) H) ∨ (J.go i H ∧ ∃ Nx : Hp → Prop, (∀ H', Nx H' → ∃ m', m' < m ∧ W
                                                                                              (i + 1) m' H') ∧ ∀ x H', J.yld i H x H' → g x (wipe σ vs) H' fun σ2 H2 => wipe σ2 vs = wipe σ vs ∧ tt σ2 H2 fun b H3 =>
    if b = true then te σ2 H3 fun y H4 => ∃ (m : μ) (L : List μ), y = K.vOf m ∧ H4 D = some (SetO Z D L) ∧ K.ok H4 m ∧ (∀ x ∈ L, K.ok H4 x) ∧ L.length + 1 < 64 ∧ (∀ L', Grow Z L m L' → Nx (upd H4 D (SetO Z D L'))) else Nx H3)
theorem setc {pins : List (Addr × Obj)} {s : Shared} {σ : L2.St} {H : Hp} {Q : VK} {elt tg iter : Expr} {ifs : List Expr} {scope : Scope} {own : List (PySem.Str × Nat)} {pos pos' : Pos} {wi : TI} {g : TG} {tt : TT} {te : TE} {use : Option (Value → Sem Unit)} {Qf : Value → Shared → Prop}
    (hc : X.calm = true) (hu : X.A.in1.units < cLine) (hN : X.N.Nodup) (I : Inv X pins σ H s) (hi : PI X tg iter wi) (ok : BlkOk X.N X.env.scope scope own)
    (hg : ∀ (s : Shared) (H : Hp) (C : Addr) (cl : List (PySem.Str × Addr)) (fp : List Addr), PG (X.blk s H scope (compEnvC scope cl C X.env) fp) tg g)
                                                                                                                                                        (ht : ∀ (s : Shared) (H : Hp) (C : Addr) (cl : List (PySem.Str × Addr)) (fp : List Addr), PTs (X.blk s H scope (compEnvC scope cl C X.env) fp) ifs tt)
    (he : ∀ (s : Shared) (H : Hp) (C : Addr) (cl : List (PySem.Str × Addr)) (fp : List Addr), PE
                                                                                                 (X.blk s H scope (compEnvC scope cl C X.env) fp) elt te) (hs : ∀ x, foldedSetIterable iter X.env x = pure x)
    (hK : ∀ (s : Shared) (H : Hp) (env : Env) (fp : List Addr), ∃ K' : Lnk (X.blk s H scope env fp) Z, K'.vOf = K.vOf ∧ K'.ok = K.ok)
    (h : tSetC K wi g tt te (own.map (·.2)) σ H Q)
    (hRR : ∀ D C s' m H', Inv X pins σ H' s' → Q (.ref D) H' → s'.heap.Ns C m → FpOk X pins H' C → compPost
                                                                                                            (model X.prog X.w) X.A X.xe use Qf (.ref D) C (.ok .next) s') :
    wpAny (model X.prog X.w) X.A (comprehension (.SetComp elt [⟨tg, iter, ifs, 0⟩] scope pos) scope X.env pos'
                                                                                                               (newSet (.type "set")) false (eval iter X.env) use) Qf X.xe s := by
  have free : ∀ y ∈ scope.names, y.2 = .free → ∃ c, X.env.cells.lookup y.1 = some c := fun y hy e => (ok.free y hy e).elim (fun k => I.ok.has _ (.inl k)) fun k => I.ok.has _ (.inr k)
  refine wpAny_comprehension_free (use := use) rfl hs (closure_ok free) ok.kind (fun y hy e => by rw [ok.uniq y hy, e]) (thn (hi.run pins s σ H _ I h) fun xv s1 hx => thn hx fun itv s2 h2 => ?_)
  obtain ⟨it, fp, tn, J, H2, e, I2, T, st2, f2, q⟩ := h2
  subst e
  refine PpSet.newSet_ok (newEnv_comp ?_)
  generalize hD : s2.heap.objs.size = D
  obtain ⟨W, ⟨m0, w0⟩, turn⟩ := q D (I2.hok.fresh (Nat.le_of_eq hD))
  generalize hs3 : ({ s2 with heap := s2.heap.push (newObj0 X.w) } : Shared) = s3
  have hs3' : ({ s2 with heap := s2.heap.push { cls := .type "set", dict := none, data := .set #[] 0 (.fresh 0 0 (!X.w.params.followText "set-order")) } } : Shared) = s3 := hs3
  rw [hs3']
  have h3 : s3.heap = s2.heap.push (newObj0 X.w) := by rw [← hs3]
  have I3 : Inv X pins σ (upd H2 D (SetO Z D [])) s3 := by
    rw [← hs3]
    refine I2.laid (t' := s2.toks) (fun b o e => Heap.get?_push_of_some _ e) (Nat.le_of_eq hD) (setO_new (Z.fresh ?_))
    rw [← hD]
    exact Heap.get?_push_size _ rfl
  have lt : ∀ b ∈ fp, b < s2.heap.objs.size := fun b hb => by
    obtain ⟨o, e, _⟩ := T.obj _ _ st2 b hb
    exact Heap.lt_size e
  have f3 : ∀ b ∈ fp, FpOk X pins (upd H2 D (SetO Z D [])) b ∧ b < s3.heap.objs.size := fun b hb => by
    refine ⟨⟨?_, (f2 b hb).2⟩, by rw [h3, Heap.size_push]; exact Nat.lt_succ_of_lt (lt b hb)⟩
    rw [upd_ne (by rw [← hD]; exact Nat.ne_of_lt (lt b hb))]
    exact (f2 b hb).1
  have st3 : tn 0 s3.heap := T.keep _ _ _ st2 fun b _ o e => by rw [h3]; exact Heap.get?_push_of_some _ e
  generalize hH3 : upd H2 D (SetO Z D []) = H3 at I3 w0 f3
  have I4 := block_start I3 ok hN f3
  have pg := hg s3 H3 s3.heap.objs.size (cellsFrom (s3.heap.objs.size + 1) scope.names (cloFrom X.env.cells scope.names [])) fp
  have pt := ht s3 H3 s3.heap.objs.size (cellsFrom (s3.heap.objs.size + 1) scope.names (cloFrom X.env.cells scope.names [])) fp
  have pe := he s3 H3 s3.heap.objs.size (cellsFrom (s3.heap.objs.size + 1) scope.names (cloFrom X.env.cells scope.names [])) fp
  show codeAny _ _ (.compStart (.SetComp elt [⟨tg, iter, ifs, 0⟩] scope pos) 0 (.ref it) (.ref D) (compEnvC scope (cellsFrom (s3.heap.objs.size + 1) scope.names (cloFrom X.env.cells scope.names [])) s3.heap.objs.size X.env))
                                                                                                                                                                                                                                 (compPost (model X.prog X.w) X.A X.xe use Qf (.ref D) s3.heap.objs.size) { s3 with heap := pushCells (s3.heap.push { cls := .type "dict", data := .dict #[] }) scope.names }
  generalize hce : compEnvC scope (cellsFrom (s3.heap.objs.size + 1) scope.names
                                                                                 (cloFrom X.env.cells scope.names [])) s3.heap.objs.size X.env = ce at I4 pg pt pe ⊢
  have cL : ce.locals = s3.heap.objs.size := by subst hce; rfl
  obtain ⟨K', ev, eo⟩ := hK s3 H3 ce fp
  generalize hs4 : ({ s3 with heap := pushCells (s3.heap.push
                                                              { cls := .type "dict", data := .dict #[] }) scope.names } : Shared) = s4 at I4 ⊢
  have st4 : tn 0 s4.heap := T.keep _ _ _ st3 fun b _ o e => by rw [← hs4]; exact pushCells_keeps _ _ _ _
                                                                                                          (Heap.get?_push_of_some _ e)
  have stat : ∀ {σ' : L2.St} {H' : Hp} {s' : Shared}, Inv (X.blk s3 H3 scope ce fp) [] σ' H' s' →
                                                                                                  (∀ b ∈ fp, H' b = none) → ∀ b ∈ fp, FpOk (X.blk s3 H3 scope ce fp) [] H' b := fun {σ' H' s'} I' hn b hb =>
    ⟨hn b hb, (I'.ok.exf b hb).1, I'.ok.exfs b hb, .inl hb, fun x c e =>
                                                                         (I'.ok.exf b hb).2 x c e, fun p hp => absurd (show p ∈ ([] : List (Addr × Obj)) ++ [] from hp) (by simp)⟩
  have loop : codeAny (model X.prog X.w) X.A (.compLoop (.SetComp elt [⟨tg, iter, ifs, 0⟩] scope pos) 0
                                                                                                        (.ref it) (.ref D) ce) (compPost (model X.prog X.w) X.A X.xe use Qf (.ref D) s3.heap.objs.size) s4 := by
    refine PpSet.compLoopS_any (fun n s' => ∃ i H', Inv (X.blk s3 H3 scope ce fp) [] (wipe σ (own.map (·.2))) H' s' ∧ tn i s'.heap ∧ (∀ b ∈ fp, H' b = none) ∧ W i n H') ?_ m0 ⟨0, H3, I4, st4, fun b hb => (f3 b hb).1.1, w0⟩
    rintro n s5 ⟨i, H5, I5, st5, n5, w5⟩
    rcases turn i n H5 w5 with ⟨stop, qq⟩ | ⟨go, Nx, hNx, step⟩
    · have td := T.done (X.blk s3 H3 scope ce fp) rfl rfl rfl hc i [] s5 _ H5
                                                                              (fun _ _ => False) I5 (stat I5 n5) st5 stop
      refine thnF td fun r s6 ⟨hr, I6⟩ => ?_
      subst hr
      have I7 : Inv X pins σ H5 s6 := I3.call' (ch := fp) I6.os I6.base I6.hok I6.bare fun b hb =>
                                                                                                   ⟨(f3 b hb).1.2.2.2.1, (f3 b hb).1.2.1, (f3 b hb).1.2.2.2.2.1, (f3 b hb).1.2.2.2.2.2⟩
      have z : H5 ce.locals = none := I6.free
      obtain ⟨m, hn, _⟩ := I6.loc
      have hn : s6.heap.Ns ce.locals m := hn
      rw [cL] at hn z
      exact hRR D s3.heap.objs.size s6 m H5 I7 qq hn (I3.fpOk (Nat.le_refl _) z)
    · have ti := T.item (X.blk s3 H3 scope ce fp) rfl rfl rfl hc i [] s5 _ H5
                                                                              (fun _ _ => False) I5 (stat I5 n5) st5 go
      refine thnF ti fun r s6 ⟨u, hr, h6⟩ => ?_
      subst hr
      refine thnF h6 fun _ s7 ⟨x, H7, I7, r7, y7, st7, n7⟩ => ?_
      have P7 := I7.pinned (stat I7 n7) (T.obj _ _ st7)
      refine thnF (pg.run _ s7 _ H7 x u _ P7 r7 (step x H7 y7)) fun _ s8 ⟨σ8, H8, I8, hw8, q8⟩ => ?_
      refine thnF (pt.run _ s8 σ8 H8 _ I8 q8) fun b s9
                                                       ⟨H9, I9, q9⟩ => ?_
      have fin : ∀ {s' : Shared} {H' : Hp}, Inv (X.blk s3 H3 scope ce fp) ([] ++ pinsAt fp s7.heap) σ8 H' s' → Nx H' → ∃ m, m < n ∧ ∃ i H', Inv
                                                                                                                                                (X.blk s3 H3 scope ce fp) [] (wipe σ (own.map (·.2))) H' s' ∧ tn i s'.heap ∧ (∀ b ∈ fp, H' b = none) ∧ W i m H' := fun {s' H'} I' nx => by
        obtain ⟨m', hm, w'⟩ := hNx H' nx
        have pin : ∀ b ∈ fp, ∀ o, s7.heap.get? b = some o → s'.heap.get? b = some o ∧ H' b = none := fun b hb o e =>
          let z := I'.pin (b, o) (List.mem_append_right _
                                                          (List.mem_append_right _ (mem_pinsAt hb e)))
          ⟨z.1, z.2.1⟩
        refine ⟨m', hm, i + 1, H', (I'.unpinned (pins := [])).weak (by rw [← hw8, wipe_length]) (fun j v e => ?_), T.keep _ _ _ st7 fun b hb o e => (pin b hb o e).1, fun b hb => ?_, w'⟩
        · rw [← hw8] at e
          exact (wipe_some e).1
        · obtain ⟨o, e, _⟩ := T.obj _ _ st7 b hb
          exact (pin b hb o e).2
      cases b with
      | false =>
        simp only [Bool.false_eq_true, if_false] at q9 ⊢
        exact fin I9 q9
      | true =>
        simp only [if_true] at q9 ⊢
        refine thnF (pe.run _ s9 σ8 H9 _ I9 q9) fun z s10 ⟨yv, H10, I10, r10, m, L, ey, hD10, om, oL, room, nx⟩ => ?_
        subst ey
        exact addK_ok (X := X.blk s3 H3 scope ce fp) K' I10 hD10 (by rw [eo]; exact oL) (by rw [eo]; exact om) (by rw [ev]; exact r10) room hu fun s11 L' gr I11 => fin I11 (nx L' gr)
  exact PpSet.codeAny_compStart_set loop (T.self X.A 0 _ _ _ st4 loop)
/-- as a value -/
theorem pe_setc {elt tg iter : Expr} {ifs : List Expr} {scope : Scope} {own : List (PySem.Str × Nat)} {pos : Pos} {wi : TI} {g : TG} {tt : TT} {te : TE} (hc : X.calm = true) (hu : X.A.in1.units < cLine) (hN : X.N.Nodup) (hi : PI X tg iter wi) (ok : BlkOk X.N X.env.scope scope own)
    (hg : ∀ (s : Shared) (H : Hp) (C : Addr) (cl : List (PySem.Str × Addr)) (fp : List Addr), PG (X.blk s H scope (compEnvC scope cl C X.env) fp) tg g)
                                                                                                                                                        (ht : ∀ (s : Shared) (H : Hp) (C : Addr) (cl : List (PySem.Str × Addr)) (fp : List Addr), PTs (X.blk s H scope (compEnvC scope cl C X.env) fp) ifs tt)
    (he : ∀ (s : Shared) (H : Hp) (C : Addr) (cl : List (PySem.Str × Addr)) (fp : List Addr), PE (X.blk s H scope (compEnvC scope cl C X.env) fp) elt te)
    (hK : ∀ (s : Shared) (H : Hp) (env : Env) (fp : List Addr), ∃ K' : Lnk (X.blk s H scope env fp) Z, K'.vOf = K.vOf ∧ K'.ok = K.ok) (hs : ∀ x, foldedSetIterable iter X.env x = pure x := by intro _; rfl) :
    PE X (.SetComp elt [⟨tg, iter, ifs, 0⟩] scope pos) (tSetC K wi g tt te (own.map (·.2))) := by
  refine ⟨fun pins s σ H Q I h => ?_⟩
  rw [PpSet.eval_SetComp]
  refine setc K hc hu hN I hi ok hg ht he hs hK h fun D C s' m H' I' q hn f => ⟨m, hn, fun h'' sb => ?_⟩
  obtain ⟨f0, f1, f2, f3, f4, f5⟩ := f
  exact ⟨.ref D, H', I'.turned (t' := s'.toks)
                                               (fun b o hb e => (sb.2 b hb).trans e) f0 f1 f3 f4 f5, rfl, q⟩
end
end KS
/-! sets of texts; sets of pairs of a text and an int -/
namespace KS
open PySem PySem.Spec PyProof.Rows L2

section
variable {P : Program} {w : World} {μ κ ν κ' : Type}
theorem pull_mem {Z : Kit P w μ κ} {f : ν → μ} {key' : ν → κ'} (hk : ∀ a b, key' a = key' b ↔ Z.key (f a) = Z.key (f b)) {m : ν} {L : List ν} : key' m ∈ L.map key' ↔ Z.key (f m) ∈ (L.map f).map Z.key := by
  rw [List.mem_map, List.map_map, List.mem_map]
  exact ⟨fun ⟨x, hx, e⟩ => ⟨x, hx, (hk x m).1 e⟩, fun ⟨x, hx, e⟩ => ⟨x, hx, (hk x m).2 e⟩⟩
/-- a kind of members, told otherwise -/
def Kit.pull (Z : Kit P w μ κ) (f : ν → μ) (key' : ν → κ') (hk : ∀ a b, key' a = key' b ↔ Z.key (f a) = Z.key (f b)) : Kit P w ν κ' where
  key := key'
  mv := fun h n v => Z.mv h (f n) v
  sp := fun h a L => Z.sp h a (L.map f)
  mvK := Z.mvK
  spAt := Z.spAt
  spEx := Z.spEx
  spNd := fun {h a L} R => by
    have q := Z.spNd R
    rw [List.map_map] at q
    refine List.pairwise_map.mpr (List.Pairwise.imp (fun {x y} ne e => ne ?_) (List.pairwise_map.mp q))
    exact (hk x y).1 e
  spFew := fun R => by
    have q := Z.spFew R
    rw [List.length_map] at q
    exact q
  fresh := fun ho => Z.fresh ho
  add := fun {A E s a L m v Q} R hm hv room hu hQ => by
    refine Z.add R (fun x hx => ?_) hv (by rw [List.length_map]; exact room) hu fun b h' tk L' sb ht r c1 c2 => ?_
    · obtain ⟨y, hy, e⟩ := List.mem_map.mp hx
      rw [← e]
      exact hm y hy
    · by_cases c : Z.key (f m) ∈ (L.map f).map Z.key
      · have e := c1 c
        subst e
        exact hQ b h' tk L sb ht r (fun _ => rfl) fun z => absurd ((pull_mem hk).2 c) z
      · obtain ⟨L2, p2, e2⟩ := perm_pre (f := f) (c2 c) (m :: L) rfl
        subst e2
        exact hQ b h' tk L2 sb ht r (fun z => absurd ((pull_mem hk).1 z) c) fun _ => p2
  col := fun {A E s a L Q} R hm hh hQ => by
    refine Z.col R (fun x hx => ?_) hh fun s' out L' k z g o pm ei => ?_
    · obtain ⟨y, hy, e⟩ := List.mem_map.mp hx
      rw [← e]
      exact hm y hy
    · obtain ⟨L2, p2, e2⟩ := perm_pre (f := f) pm L rfl
      subst e2
      exact hQ s' out L2 k z g o p2 (each_un ei)
where each_un {R : Value → μ → Prop} : ∀ {vs : List Value} {ms : List ν}, PySem.W.EachIs R vs (ms.map f) → PySem.W.EachIs (fun v m => R v (f m)) vs ms
  | _, [], e => by cases e; exact .nil
  | _, m :: ms, e => by
    cases e with
    | cons r t => exact .cons r (each_un t)
end
/-- texts -/
def strKit (P : Program) (w : World) : Kit P w Str Str := (keyKit P w).pull Sum.inr id fun a b => by
  show a = b ↔ (Sum.inr a : Key) = Sum.inr b
  exact ⟨fun e => by rw [e], fun e => Sum.inr.inj e⟩
/-- pairs -/
def pairKit (P : Program) (w : World) : Kit P w (Addr × Str × Int) (Str × Int) := (tupKit P w).pull (fun m => (m.1, [.inr m.2.1, .inl m.2.2])) (fun m => m.2) fun a b => by
  obtain ⟨a1, a2, a3⟩ := a
  obtain ⟨b1, b2, b3⟩ := b
  show (a2, a3) = (b2, b3) ↔ ([.inr a2, .inl a3] : List Key) = [.inr b2, .inl b3]
  constructor
  · intro e
    injection e with e1 e2
    rw [e1, e2]
  · intro e
    injection e with e1 e2
    injection e2 with e2 _
    rw [Sum.inr.inj e1, Sum.inl.inj e2]
def linkStr (X : Cx) : Lnk X (strKit X.prog X.w) where
  vOf := V.str
  ok := fun _ _ => True
  get := fun _ _ r => (linkKey X).get (m := .inr _) (by assumption) True.intro r
  some_ := fun m => ⟨.str m 0, 0, rfl⟩
  back := fun {h m u} q => (linkKey X).back (h := h) (m := .inr m) q
def linkPair (X : Cx) : Lnk X (pairKit X.prog X.w) where
  vOf := fun m => .ref m.1
  ok := fun H m => SqT X.K H m.1 [.str m.2.1, .int m.2.2]
  get := fun I h r => (linkTup X).get (m := (_, [.inr _, .inl _])) I h r
  some_ := fun m => ⟨.ref m.1, rfl⟩
  back := fun q => q.1

/-! ### sorted -/
theorem rd_str {P : Program} {w : World} {h : Heap} {m : Str} {v : Value} (q : (strKit P w).mv h m v) : Reads h v (.str m) [] := by
  have q : keyIs (.inr m) v = true := q
  rcases keyIs_shape q with ⟨i, t, e, _⟩ | ⟨x, t, e, rfl⟩
  · cases e
  · cases e
    exact .str _ _
def encP (m : Addr × Str × Int) : PyData := .tuple [.str m.2.1, .int m.2.2]
theorem rd_pair {P : Program} {w : World} {h : Heap} {m : Addr × Str × Int} {v : Value} (q : (pairKit P w).mv h m v) : Reads h v (encP m) [] := by
  obtain ⟨a, x, i⟩ := m
  obtain ⟨rfl, o, its, n, ho, hc, hd, hi⟩ := q
  refine .tuple ho hc hd ?_
  cases hi' : its.toList with
  | nil => rw [hi'] at hi; cases hi
  | cons u us =>
    rw [hi'] at hi
    cases hi with
    | cons h1 h2 =>
      cases h2 with
      | cons h3 h4 =>
        cases h4
        rcases keyIs_shape (show keyIs (.inr x) u = true from h1) with ⟨j, t, e, _⟩ | ⟨y, t, e, rfl⟩
        · cases e
        · cases e
          rcases keyIs_shape (show keyIs (.inl i) _ = true from h3) with ⟨j, t2, e, rfl⟩ | ⟨y, t2, e, _⟩
          · cases e
            exact .cons (as := []) (bs := []) (.str _ _) (.cons (as := []) (bs := []) (.int _ _) .nil)
          · cases e
/-- ys are the members of xs, each once, ascending -/
def Srt (xs ys : List Str) : Prop := ys.Pairwise (fun a b => a.cps.toList < b.cps.toList) ∧ ∀ z, z ∈ ys ↔ z ∈ xs
theorem cps_ext {a b : Str} (h : a.cps.toList = b.cps.toList) : a = b := by
  obtain ⟨a⟩ := a
  obtain ⟨b⟩ := b
  exact congrArg Str.mk (Array.toList_inj.mp h)
theorem srt_unique {xs : List Str} : ∀ {ys zs : List Str}, ys.Pairwise (fun a b => a.cps.toList < b.cps.toList) → zs.Pairwise (fun a b => a.cps.toList < b.cps.toList) → (∀ z, z ∈ ys ↔ z ∈ zs) → ys = zs
  | [], [], _, _, _ => rfl
  | [], z :: zs, _, _, h => absurd ((h z).2 List.mem_cons_self) (by simp)
  | y :: ys, [], _, _, h => absurd ((h y).1 List.mem_cons_self) (by simp)
  | y :: ys, z :: zs, h1, h2, h => by
    obtain ⟨a1, a2⟩ := List.pairwise_cons.mp h1
    obtain ⟨b1, b2⟩ := List.pairwise_cons.mp h2
    have e : y = z := by
      rcases List.mem_cons.mp ((h y).1 List.mem_cons_self) with e | m1
      · exact e
      · rcases List.mem_cons.mp ((h z).2 List.mem_cons_self) with e | m2
        · exact e.symm
        · exact absurd (List.lt_trans (a1 z m2) (b1 y m1)) (List.lt_irrefl _)
    subst e
    refine congrArg _ (srt_unique (xs := xs) a2 b2 fun w => ⟨fun m => ?_, fun m => ?_⟩)
    · rcases List.mem_cons.mp ((h w).1 (List.mem_cons_of_mem _ m)) with e | m'
      · exact absurd (a1 w m) (by rw [e]; exact List.lt_irrefl _)
      · exact m'
    · rcases List.mem_cons.mp ((h w).2 (List.mem_cons_of_mem _ m)) with e | m'
      · exact absurd (b1 w m) (by rw [e]; exact List.lt_irrefl _)
      · exact m'
theorem Srt.eq {xs ys zs : List Str} (a : Srt xs ys) (b : Srt xs zs) : ys = zs := srt_unique (xs := xs) a.1 b.1 fun z => (a.2 z).trans (b.2 z).symm
theorem srt_of {xs L L1 : List Str} (nd : L.Nodup) (mem : ∀ z, z ∈ L ↔ z ∈ xs) (pm : L1.Perm L) : Srt xs (L1.mergeSort (PySem.W.dataLe false PyData.str)) := by
  have e : PySem.W.dataLe false PyData.str = fun a b : Str => decide (a.cps.toList ≤ b.cps.toList) := PySem.W.dataLe_str (fun b : Str => b)
  rw [e]
  have pp := List.mergeSort_perm L1 (fun a b : Str => decide (a.cps.toList ≤ b.cps.toList))
  have tr : ∀ a b c : Str, decide (a.cps.toList ≤ b.cps.toList) = true → decide (b.cps.toList ≤ c.cps.toList) = true → decide (a.cps.toList ≤ c.cps.toList) = true :=
    fun a b c h1 h2 => decide_eq_true (List.le_trans (of_decide_eq_true h1) (of_decide_eq_true h2))
  have tt : ∀ a b : Str, (decide (a.cps.toList ≤ b.cps.toList) || decide (b.cps.toList ≤ a.cps.toList)) = true := fun a b => by
    rcases List.le_total a.cps.toList b.cps.toList with h | h
    · rw [decide_eq_true h, Bool.true_or]
    · rw [decide_eq_true h, Bool.or_true]
  have st := List.pairwise_mergeSort (le := fun a b : Str => decide (a.cps.toList ≤ b.cps.toList)) tr tt L1
  have nd1 : (L1.mergeSort (fun a b : Str => decide (a.cps.toList ≤ b.cps.toList))).Nodup := (pp.trans pm).nodup_iff.mpr nd
  refine ⟨?_, fun z => by rw [(pp.trans pm).mem_iff]; exact mem z⟩
  have both := st.and nd1
  refine List.Pairwise.imp (fun {a b} h => ?_) both
  have h1 : a.cps.toList ≤ b.cps.toList := of_decide_eq_true h.1
  rcases Classical.em (a.cps.toList < b.cps.toList) with c | c
  · exact c
  · exact absurd (cps_ext (List.le_antisymm h1 c)) h.2
end KS
set_option maxHeartbeats 3200000
/-! set(xs) of a tuple over a Kit -/
namespace KS
open PySem PySem.Spec PyProof.Rows L2
section
variable {P : Program} {w : World} {A : Around} {E : Value → Shared → Prop} {s : Shared} {μ κ : Type} (Z : Kit P w μ κ)
/-- set(xs), xs a tuple -/
theorem call_setT {l : Addr} {items : Array Value} (ms : List μ) {Q : Value → Shared → Prop} (hh : A.handled = none) (hl : s.heap.IsTuple l items) (hi : PySem.W.EachIs (fun v m => Z.mv s.heap m v) items.toList ms)
    (few : ms.length < 64) (hu : A.units + 3 < cLine)
    (h : ∀ (h' : Heap) (tk : Nat) L, Z.sp h' s.heap.objs.size L → From Z ms ms.length L → (∀ b o, s.heap.get? b = some o → h'.get? b = some o) → Q (.ref s.heap.objs.size) { s with heap := h', toks := tk }) :
    wpAny (model P w) A (call
                              (.type "set") [.ref l]) Q E s := by
  have sz : items.size = ms.length := by
    have q := hi.length
    rw [Array.length_toList] at q
    exact q
  obtain ⟨c, tl, hmro⟩ := F.called_set.mro
  have hmade := F.called_set.made
  have hsub := F.called_set.sub
  refine wpAny_call (codeAny_of_tree ?_)
  show wpAny _ _ (callAny (.type "set") _) _ _ _
  refine wpAny_pure ⟨Code.quiet_builtin _
                                          (by decide +kernel), codeAny_builtin F.entry_type_call ?_⟩
  rw [Around.under_plain
                         (weight_type_call_type "set" [.ref l] []) rfl]
  have h1 := F.called_set.notType
  have h2 := F.called_set.canCreate
  have hct := F.typeCall_set_1 (.ref l)
  repeat (any_goals (first | assumption | wp_step))
  refine codeAny_mono (code_set_led1 (.ref l) (E := E) (Q₁ := fun obj s₁ => obj = .ref s.heap.objs.size ∧ s₁ = { s with heap := s.heap.push (newObj0 w) }) ⟨rfl, rfl⟩) fun r s₁ hr => ?_
  cases r with
  | error e => exact hr
  | ok fl =>
    cases fl with
    | ret obj =>
      obtain ⟨rfl, rfl⟩ := hr
      have hS : (s.heap.push (newObj0 w)).get? s.heap.objs.size = some (newObj0 w) := Heap.get?_push_size _ rfl
      have hT : Shared.TypeIs { s with heap := s.heap.push (newObj0 w) } (.ref s.heap.objs.size) "set" := ⟨_, hS, rfl⟩
      have hli := F.called_set.init.lookup
      have hbi := F.called_set.init.bind (.ref s.heap.objs.size)
      repeat (any_goals (first | assumption | wp_step))
      refine codeAny_mono (codeAny_call_builtin (R := wants (fun r s₂ => r = .none ∧ ∃ h' tk L, s₂ = { s with heap := h', toks := tk } ∧ Z.sp h' s.heap.objs.size L ∧ From Z ms ms.length L ∧
          (∀ b o, s.heap.get? b = some o → h'.get? b = some o)) E) F.called_set.init.plain F.entry_set_init
                                                                                                            (check_set_init_1 hT ?_)) fun r₂ s₂ hr₂ => ?_
      · obtain ⟨ol, hol, hcl, nl, hdl⟩ := hl
        obtain ⟨ocls, odict, odata, oslots⟩ := ol
        simp only at hcl hdl
        subst hcl; subst hdl
        have hol' : (s.heap.push (newObj0 w)).get? l = some { cls := .type "tuple", dict := odict, data := .seq items nl, slots := oslots } := Heap.get?_push_of_some _ hol
        have hsls := F.sub_tuple_set
        have hslf := F.sub_tuple_frozenset
        have hne :
                   (Value.type "tuple" == Value.type "dict") = false := by decide
        have hl1 : (s.heap.push (newObj0 w)).IsTuple l items := ⟨_, hol', rfl, nl, rfl⟩
        unfold Builtin.«set.__init__» noKeywords Builtin.Frozenset.updateFrom
        generalize hPI : pyIter = PI
        wp_walk
        subst hPI
        refine wpAny_pyIter_tuple hl1 ?_
        refine wpAny_bind (wpAny_runValue ?_)
        have lS : l < s.heap.objs.size := Heap.lt_size hol
        have hh3 : A.in1.in1.in1.handled = none := by simp [hh]
        have z1 : (s.heap.push (newObj0 w)).objs.size = s.heap.objs.size + 1 := Heap.size_push ..
        have neI : l ≠ (s.heap.push (newObj0 w)).objs.size := by
          rw [z1]
          exact Nat.ne_of_lt (Nat.lt_succ_of_lt lS)
        have nS : s.heap.objs.size ∉ [(s.heap.push (newObj0 w)).objs.size, l] := by
          rw [z1]
          simp only [List.mem_cons, List.mem_singleton, List.not_mem_nil, or_false, not_or]
          exact ⟨Nat.ne_of_lt (Nat.lt_succ_self _), Nat.ne_of_gt lS⟩
        have vals : ∀ (i : Nat) (v : Value), items[i]? = some v → ∃ m, ms[i]? = some m ∧ Z.mv s.heap m v := fun i v hv => each_get hi (by rw [Array.getElem?_toList]; exact hv)
        have out : ∀ b, s.heap.objs.size ≤ b → s.heap.get? b = none := fun b hb => by
          cases q : s.heap.get? b with
          | none => rfl
          | some o => exact absurd (Nat.lt_of_lt_of_le
                                                       (Heap.lt_size q) hb) (Nat.lt_irrefl _)
        refine fill_loop Z ((Walks.tuple hh3 _ l neI items).toS) s.heap.objs.size nS ms sz few s.heap vals (fun m hm => each_has hi hm) (out _ (Nat.le_refl _))
          (fun b hb => out b (by rw [List.mem_singleton.mp hb, z1]; exact Nat.le_succ _)) hu (items.size - 0) 0 _ (by omega) (Nat.zero_le _)
          ⟨⟨_, Heap.get?_push_size _ rfl, rfl, rfl⟩, (hl1.push _)⟩ (fun b o e => Heap.get?_push_of_some _ (Heap.get?_push_of_some _ e)) ⟨[], Z.fresh (Heap.get?_push_of_some _ hS), From.start Z ms⟩ ?_
        intro s3 L mv sp g kp
        obtain ⟨h3, g3, d3, tk3, os3⟩ := s3
        have eg : g3 = s.gens := mv.gens
        have ed : d3 = s.drawn := mv.drawn
        have eo : os3 = s.os := mv.os
        subst eg; subst ed; subst eo
        rw [sz] at g
        exact wpAny_pure (wpAny_pure ⟨rfl, h3, tk3, L, rfl, sp, g, kp⟩)
      · cases r₂ with
        | error e => exact hr₂
        | ok fl₂ =>
          cases fl₂ with
          | ret r =>
            obtain ⟨rfl, h', tk, L, rfl, sp, g, kp⟩ := hr₂
            repeat (any_goals (first | assumption | wp_step))
            exact h _ _ _ sp g kp
          | _ => exact hr₂.elim
    | _ => exact hr.elim
end
section
variable {X : Cx} {μ κ : Type} {Z : Kit X.prog X.w μ κ} (K : Lnk X Z)
/-- set(xs), xs a tuple of members -/
def rSetOfU : List V → Hp → VK → Prop := fun xs H Q => ∃ (l : Addr) (ms : List μ), xs = [V.ref l] ∧ SqT X.K H l (ms.map K.vOf) ∧ (∀ m ∈ ms, K.ok H m) ∧ ms.length < 64 ∧
  ∀ a L, H a = none → From Z ms ms.length L → (L.map Z.key).Nodup → Q (.ref a) (upd H a (SetO Z a L))
theorem cr_setOfU (hc : X.calm = true) (hu : X.A.units + 3 < cLine) : CallR X (.type "set") (rSetOfU K) := by
  intro pins s σ H xs us Q I r h
  obtain ⟨l, ms, rfl, hl, hk, hf, q⟩ := h
  rw [Vals.ref1 r]
  obtain ⟨its, rv, ⟨⟨cls, dd, data, sl⟩, ho, hc', m, hd⟩, _⟩ := I.tuple hl
  simp only at hc' hd
  subst hc' hd
  have ht : s.heap.IsTuple l its.toArray := ⟨_, ho, rfl, m, rfl⟩
  refine call_setT Z ms (I.ok.hd hc) ht (by simpa using vals_each K I hk rv) hf hu fun h' tk L R g k => ?_
  exact ⟨.ref s.heap.objs.size, upd H s.heap.objs.size (SetO Z s.heap.objs.size L), I.laid (t' := tk) k (Nat.le_refl _) (setO_new R), rfl, q _ L (I.hok.fresh (Nat.le_refl _)) g (Z.spNd R)⟩
end
end KS
/-! o.m(..) of a method with a parameter for more -/
namespace MR
open PySem PySem.Spec PyProof.Rows L2
section
variable {X : Cx} {CX : CXT} {k : Nat} {C f : Addr} {m : Str} {sp : Sp} {E : XK} {o e : Expr} {es : List Expr} {ta : TE} {t : TA} {apos pos : Pos}
def tMethR (C : Addr) (m : Str) (sp : Sp) (E : XK) (ta : TE) (t : TA) : TE := fun σ H Q => ta σ H fun x H1 => ∃ a dx fs, x = .ref a ∧ H1 a = some
                                                                                                                                                  (.ins C dx fs) ∧ fs.lookup m = none ∧ t σ H1 fun vs H2 => sp (x :: vs) H2 Q E
theorem pe_methR {pl : Sem Bool} (he : PE X o ta) (c : Cls X.K C) (hm : Meth X.K C m f) (F : FnR X.prog X.w X.K X.mg X.base CX k f sp) (hr : Room k X.A) (hx : Passes CX X E)
    (ha : PA X (e :: es) t) (hst : starEach (e :: es) X.env = (false, eval e X.env) :: starEach es X.env := by rfl) (hpl : (backTo pos (starEach es X.env)).any (·.1) = false := by rfl)
    (ht : eval (.Call (.Attribute o m apos)
                                            (e :: es) [] pos) X.env = (do
      let ov ← eval o X.env
      standAt apos.atName
      let (g, front) ← holding [ov] (getMethod ov m pl)
      callWith pos g front (backTo pos (starEach (e :: es) X.env)) (backToKw pos (keywordEach [] X.env))) := by rfl) :
    PE X (.Call (.Attribute o m apos)
                                      (e :: es) [] pos) (tMethR C m sp E ta t) := by
  refine ⟨fun pins s σ H Q I h => ?_⟩
  refine PySem.W.methodCall_KW (pl := pl) (thn (he.run pins s σ H _ I h) fun u s1
                                                                                  ⟨x, H1, I1, rx, a, dx, fs, ex, ea, l, q⟩ => ?_) ht
  subst ex
  obtain rfl : u = Value.ref a := rx
  refine getmeth_ok I1 ea c hm l ?_
  exact PySem.W.callWith_K (first := [.ref a]) (h₀ := X.base) I.ok.mod.kin hm.kp (thn (ha.run pos pins s1 σ H1 _ I1 q) fun us s2 ⟨vs, H2, I2, r, q2⟩ =>
    ⟨I2.kIn, wpAny_call (codeAny_mono (run_fnR (us := .ref a :: us) (vs := .ref a :: vs) F hr hx I2 (.cons rfl r) q2) fun r' s' z => by
      cases r' with
      | error e => exact z
      | ok fl => cases fl <;> exact z)⟩) hst hpl
theorem pe_methR0 {pl : Sem Bool} (he : PE X o ta) (c : Cls X.K C) (hm : Meth X.K C m f) (F : FnR X.prog X.w X.K X.mg X.base CX k f sp) (hr : Room k X.A) (hx : Passes CX X E)
    (ht : eval (.Call
                      (.Attribute o m apos) [] [] pos) X.env = (do
      let ov ← eval o X.env
      standAt apos.atName
      let (g, front) ← holding [ov] (getMethod ov m pl)
      callWith pos g front (backTo pos (starEach [] X.env)) (backToKw pos (keywordEach [] X.env))) := by rfl) :
    PE X (.Call (.Attribute o m apos) [] [] pos) (tMethR C m sp E ta tNil) := by
  refine ⟨fun pins s σ H Q I h => ?_⟩
  refine PySem.W.methodCall_KW (pl := pl) (thn (he.run pins s σ H _ I h) fun u s1
                                                                                  ⟨x, H1, I1, rx, a, dx, fs, ex, ea, l, q⟩ => ?_) ht
  subst ex
  obtain rfl : u = Value.ref a := rx
  refine getmeth_ok I1 ea c hm l ?_
  exact PySem.W.callWith_K0 (first := [.ref a]) I1.kIn hm.kp (wpAny_call (codeAny_mono (run_fnR (us := [.ref a]) (vs := [.ref a]) F hr hx I1 (.cons rfl .nil) q) fun r' s' z => by
      cases r' with
      | error e => exact z
      | ok fl => cases fl <;> exact z))
end
end MR
/-! for loops in generators -/
namespace PySem
open PyProof.Rows
section
variable {prog : Program} {w : World} {A : Around} {R : GenEnd} {Y : Protocol} {n : Nat} {s₀ : Shared} {c : Code} {fs : List Frame} {s : Shared} {env : Env} {K : Flow → Sem Fin} {H : Value → Sem Fin} {gd : Bool → Bool} {lv : List Value → List Value}
theorem seg_ForG {target iter : Expr} {body orelse : List Stmt} {pos : Pos}
    (h : wpAny (model prog w) (A.over c fs) (eval iter env) (fun x s₁ => wpAny (model prog w) (A.over c fs) (pyIter x) (fun it s₂ => ∀ p, Seg (model prog w) A R Y n s₀ (.forLoop target it body orelse env) ((model prog w).den (.forLoop target it body orelse env))
      (.ret (fun r => ((match r with | .ok f =>
                                                (.pure f : Sem Flow) | .error e => .raise e).onRaise fun (x : Value) => do
        if (← field x 1) == Value.none then unsupported "frame.own-activation:exception-without-traceback"
        setFlight x env.frame).wrap K H gd lv) none (gd false) (lv []) c p [] :: fs) s₂) (fun x s' => Seg (model prog w) A R Y n s₀ c (H x) fs s') s₁) (fun x s' => Seg (model prog w) A R Y n s₀ c (H x) fs s') s)
    (hs : ∀ x, foldedSetIterable iter env x = pure x) :
    Seg (model prog w) A R Y n s₀ c ((exec (.For target iter body orelse pos) env).wrap K H gd lv) fs s := by
  rw [exec_For]
  refine seg_at ?_
  show Seg _ _ _ _ _ _ _ ((eval iter env >>= fun v => (foldedSetIterable iter env v >>= fun x => (standAt iter.pos >>= fun _ => (holding [x] (pyIter x) >>= fun it => runOwn (.forLoop target it body orelse env) env)))).wrap K H gd lv) fs s
  rw [Sem.bind_eq_wrap', Sem.wrap_wrap]
  refine seg_wrap (wpAny_mono h (fun x s1 h1 => ?_) fun _ _ q => q)
  rw [hs x]
  show Seg _ _ _ _ _ _ _ ((standAt iter.pos >>= fun _ => (holding [x] (pyIter x) >>= fun it => runOwn (.forLoop target it body orelse env) env)).wrap K H gd lv) fs s1
  refine seg_at ?_
  show Seg _ _ _ _ _ _ _ ((holding [x] (pyIter x) >>= fun it => runOwn (.forLoop target it body orelse env) env).wrap K H gd lv) fs s1
  rw [Sem.bind_eq_wrap', Sem.wrap_wrap]
  refine seg_wrap (wpAny_holding (wpAny_mono h1 (fun it s2 h2 => ?_) fun _ _ q => q))
  exact seg_call h2
def turnB (target : Expr) (it : Value) (body orelse : List Stmt) (env : Env) (r : Option Value) : Sem Fin := do
  match r with
  | none => again (.block orelse env)
  | some v =>
    letOwnedTupleGo target it v
    assign target env v
    match ← execs body env with
    | .next | .cont => again
                             (.forLoop target it body orelse env)
    | .brk => pure (.done .next)
    | .ret v => pure (.done (.ret v))
theorem forTurn_eq (target : Expr) (it : Value) (body orelse : List Stmt) (env : Env) : forTurn target it body orelse env = (standAt target.pos >>= fun _ => ((pyNext it).onRaise (fun _ => standAt { target.pos with line := 0 }) >>= fun r => turnB target it body orelse env r)) := rfl
theorem seg_forLoopG {target : Expr} {it : Value} {body orelse : List Stmt}
    (h : wpAny (model prog w) (A.over (.forLoop target it body orelse env) fs) (pyNext it) (fun r s1 => match r with
        | none => Seg (model prog w) A R Y n s₀ (.block orelse env) ((model prog w).den (.block orelse env)) fs s1
        | some v => wpAny (model prog w) (A.over (.forLoop target it body orelse env) fs) (letOwnedTupleGo target it v) (fun _ s1' => wpAny (model prog w) (A.over (.forLoop target it body orelse env) fs) (assign target env v) (fun _ s2 =>
          Seg (model prog w) A R Y n s₀ (.forLoop target it body orelse env) ((execs body env).wrap (fun f => match f with
            | .next | .cont => .pure (.again (.forLoop target it body orelse env))
            | .brk => .pure (.done .next)
            | .ret v => .pure (.done (.ret v))) (fun e => (do noteFrame e env; theTreesLotGoes e : Sem Unit).wrap (fun _ => .raise e) .raise id id) id id) fs s2)
          (fun x s' => Seg (model prog w) A R Y n s₀ (.forLoop target it body orelse env) ((do noteFrame x env; theTreesLotGoes x : Sem Unit).wrap (fun _ => .raise x) .raise id id) fs s') s1')
          (fun x s' => Seg (model prog w) A R Y n s₀ (.forLoop target it body orelse env) ((do noteFrame x env; theTreesLotGoes x : Sem Unit).wrap (fun _ => .raise x) .raise id id) fs s') s1)
      (fun x s' => Seg (model prog w) A R Y n s₀ (.forLoop target it body orelse env) ((do noteFrame x env; theTreesLotGoes x : Sem Unit).wrap (fun _ => .raise x) .raise id id) fs s') s) :
    Seg (model prog w) A R Y n s₀ (.forLoop target it body orelse env) ((model prog w).den (.forLoop target it body orelse env)) fs s := by
  show Seg _ A R Y n s₀ _ ((forTurn target it body orelse env).onRaise (fun x => do noteFrame x env; theTreesLotGoes x)) fs s
  have bad : ∀ (x : Value) (s' : Shared), Seg (model prog w) A R Y n s₀ (.forLoop target it body orelse env) ((do noteFrame x env; theTreesLotGoes x : Sem Unit).wrap (fun _ => .raise x) .raise id id) fs s' →
      Seg (model prog w) A R Y n s₀ (.forLoop target it body orelse env) ((do noteFrame x env; theTreesLotGoes x : Sem Unit).bind fun _ => .raise x) fs s' := fun x s' hx => by
    rw [Sem.bind_eq_wrap]
    exact hx
  rw [forTurn_eq, Sem.onRaise_eq_wrap]
  refine seg_at ?_
  show Seg _ A R Y n s₀ _ (((pyNext it).onRaise (fun _ => standAt { target.pos with line := 0 }) >>= fun r => turnB target it body orelse env r).wrap Sem.pure (fun e => (do noteFrame e env; theTreesLotGoes e : Sem Unit).bind fun _ => .raise e) id id) fs s
  rw [Sem.bind_eq_wrap', Sem.wrap_wrap]
  refine seg_wrap (wpAny_onRaise (wpAny_mono h (fun r s1 h1 => ?_) fun x s' hx => wpAny_standAt (bad x s' hx)))
  cases r with
  | none => exact seg_again rfl h1
  | some v =>
    dsimp only [turnB]
    rw [Sem.bind_eq_wrap', Sem.wrap_wrap]
    refine seg_wrap (wpAny_mono h1 (fun _ s1' h1' => ?_) fun x s' hx => bad x s' hx)
    rw [Sem.bind_eq_wrap', Sem.wrap_wrap]
    refine seg_wrap (wpAny_mono h1' (fun _ s2 h2 => ?_) fun x s' hx => bad x s' hx)
    rw [Sem.bind_eq_wrap', Sem.wrap_wrap]
    rw [Sem.wrap_congr (execs body env) _ _
                                            (K' := fun f => match f with
            | .next | .cont => .pure (.again (.forLoop target it body orelse env))
            | .brk => .pure (.done .next)
            | .ret v => .pure (.done (.ret v))) (H' := (fun e =>
                                                                 (do noteFrame e env; theTreesLotGoes e : Sem Unit).wrap (fun _ => .raise e) .raise id id))
        (fun f => by cases f <;> rfl)
        (fun e => by first | exact Sem.bind_eq_wrap _ _ | (show
                                                                (do noteFrame e env; theTreesLotGoes e : Sem Unit).bind (fun _ => .raise e) = _; rw [Sem.bind_eq_wrap]))]
    exact h2
end
end PySem
namespace L2
open PySem PySem.Spec PyProof.Rows GenW
section
variable {X : Cx}
def tGFor (wi : TI) (g : TG) (tb : TGn) : TGn := fun D ys σ H => wi σ H fun J H2 => ∃ W : Nat → Nat → List V → St → Hp → Prop, (∃ m, W 0 m ys σ H2) ∧ ∀ i m ys σ H, W i m ys σ H →
  (J.stop i H ∧ D.nx ys σ H) ∨ (J.go i H ∧ ∃ N : List V → St → Hp → Prop, (∀ ys' σ' H', N ys' σ' H' → ∃ m', m' < m ∧ W (i + 1) m' ys' σ' H') ∧ ∀ x H', J.yld i H x H' → g x σ H' fun σ2 H2 => tb { D with nx := N, ct := N, bk := D.nx } ys σ2 H2)
theorem gs_for {tg iter : Expr} {body : List Stmt} {wi : TI} {g : TG} {tb : TGn} {pos : Pos} (hp : PassesOwn (model X.prog X.w) X.A X.env X.xe) (hc : X.calm = true) (hi : PI X tg iter wi) (hg : PG X tg g) (hb : GSs X body tb)
    (hs : ∀ x, foldedSetIterable iter X.env x = pure x := by intro _; rfl) : GS X (.For tg iter body [] pos) (tGFor wi g tb) := by
  refine ⟨fun A S ip R n ys s₀ c fs K J gd lv s σ H D g' hn k hI ht => ?_⟩
  obtain ⟨acc, cc, r, I⟩ := hI
  refine seg_ForG ?_ hs
  rw [g'.over]
  refine wpAny_mono (hi.run _ s σ H _ I ht) (fun v s1 h1 => wpAny_mono h1 (fun itv s2 h2 => ?_) fun x s' hx => k.exc n s₀ x s' hx) fun x s' hx => k.exc n s₀ x s' hx
  obtain ⟨it, fp, tn, JJ, H2, e, I2, T, st2, f2, W, ⟨m0, w0⟩, turn⟩ := h2
  subst e
  intro p
  have stat : ∀ {acc' : Array Value} {cc' : Nat} {H' : Hp}, (∀ b ∈ fp, H' b = none) → ∀ b ∈ fp, FpOk X ((S, lstObj acc' cc') :: ip) H' b := fun {acc' cc' H'} hn b hb => by
    obtain ⟨a0, a1, a2, a3, a4, a5⟩ := f2 b hb
    refine ⟨hn b hb, a1, a2, a3, a4, fun q hq => ?_⟩
    rcases List.mem_append.mp hq with hq | hq
    · exact a5 q (List.mem_append_left _ hq)
    · rcases List.mem_cons.mp hq with hq | hq
      · rw [hq]
        exact a5 (S, lstObj acc cc) (List.mem_append_right _ List.mem_cons_self)
      · exact a5 q (List.mem_append_right _ (List.mem_cons_of_mem _ hq))
  have fpS : ∀ b ∈ fp, b ≠ S := fun b hb z => by
    obtain ⟨_, _, _, _, _, a5⟩ := f2 b hb
    exact a5 (S, lstObj acc cc) (List.mem_append_right _ List.mem_cons_self) z.symm
  have gl := fun (kk : Result → Sem PySem.Fin) => gc_loop (k := kk) (c' := .forLoop tg (.ref it) body [] X.env) (l := lv []) (kp := []) (p := p) g' rfl rfl
  have loop : ∀ (m i n : Nat) (ys : List V) (s₀ s : Shared) (σ : St) (H : Hp), n + ys.length = sizeLine → W i m ys σ H → GI X S ip ys σ H s → tn i s.heap → (∀ b ∈ fp, H b = none) →
      Seg (model X.prog X.w) A R (GY X S) n s₀ (.forLoop tg (.ref it) body [] X.env) ((model X.prog X.w).den (.forLoop tg (.ref it) body [] X.env))
        (.ret (fun r => ((match r with | .ok f => (.pure f : Sem Flow) | .error e => .raise e).onRaise
                                                                                                       (cameBack X.env)).wrap K J gd lv) none (gd false) (lv []) c p [] :: fs) s := by
    intro m
    induction m using Nat.strongRecOn with
    | ind m ih =>
      intro i n ys s₀ s σ H hn w hI st fr
      have ee : ∀ (n : Nat) (s₀ : Shared) (x : Value) (s' : Shared), X.xe x s' → Seg (model X.prog X.w) A R (GY X S) n s₀ (.forLoop tg (.ref it) body [] X.env)
          ((do noteFrame x X.env; theTreesLotGoes x : Sem Unit).wrap
                                                                     (fun _ => .raise x) .raise id id)
          (.ret (fun r => ((match r with | .ok f => (.pure f : Sem Flow) | .error e => .raise e).onRaise
                                                                                                         (cameBack X.env)).wrap K J gd lv) none (gd false) (lv []) c p [] :: fs) s' := fun n s₀ x s' hx => by
        refine seg_wrap ?_
        rw [(gl _).over]
        refine wpAny_bind (wpAny_mono (hp x s' hx)
                                                   (fun _ s'' hcb => wpAny_theTreesLotGoes ?_) fun y s'' hcb => ?_)
        · exact seg_leaf (.error x) (seg_cameBack g' k hcb)
        · exact seg_leaf (.error y) (seg_cameBack g' k hcb)
      refine seg_forLoopG ?_
      rw [(gl _).over]
      obtain ⟨acc, cc, r, I⟩ := hI
      rcases turn i m ys σ H w with ⟨stop, qn⟩ | ⟨go, N, hN, step⟩
      · refine wpAny_mono (T.done X rfl rfl rfl hc i _ s σ H X.xe I (stat fr) st stop) (fun r' s4 z => ?_) fun x s' hx => ee n s₀ x s' hx
        obtain ⟨hr, I4⟩ := z
        subst hr
        exact seg_leaf (.ok .next) (k.ok n ys s₀ s4 .next hn ⟨σ, H, ⟨acc, cc, r, I4⟩, qn⟩)
      · refine wpAny_mono (T.item X rfl rfl rfl hc i _ s σ H X.xe I (stat fr) st go) (fun r' s4 z => ?_) fun x s' hx => ee n s₀ x s' hx
        obtain ⟨u, hr, h4⟩ := z
        subst hr
        refine wpAny_mono h4 (fun _ s5 z => ?_) fun x s' hx => ee n s₀ x s' hx
        obtain ⟨x, H5, I5, r5, y5, st5, fr5⟩ := z
        have I5' := I5.pinned (stat fr5) (T.obj _ _ st5)
        refine wpAny_mono (hg.run _ s5 σ H5 x u _ I5' r5 (step x H5 y5)) (fun _ s6 z => ?_) fun x s' hx => ee n s₀ x s' hx
        obtain ⟨σ6, H6, I6, q6⟩ := z
        have gl2 : ∀ kk : Result → Sem PySem.Fin, GC X S (ip ++ pinsAt fp s5.heap) A (.forLoop tg (.ref it) body [] X.env) (.ret kk none (gd false) (lv []) c p [] :: fs) id := fun kk =>
          ⟨(gl kk).pn, fun q hq => by
            rcases List.mem_append.mp hq with hq | hq
            · exact (gl kk).ip q hq
            · exact fpS _ (of_pinsAt hq).1, (gl kk).apart, (gl kk).over, (gl kk).split, (gl kk).guard, (gl kk).gd⟩
        have back : ∀ {ys' : List V} {σ3 : St} {H3 : Hp} {s3 : Shared}, GI X S (ip ++ pinsAt fp s5.heap) ys' σ3 H3 s3 → GI X S ip ys' σ3 H3 s3 ∧ tn (i + 1) s3.heap ∧ ∀ b ∈ fp, H3 b = none := fun {ys' σ3 H3 s3} hI => by
          obtain ⟨acc', cc', r', I'⟩ := hI
          have I' : Inv X (((S, lstObj acc' cc') :: ip) ++ pinsAt fp s5.heap) σ3 H3 s3 := I'
          refine ⟨⟨acc', cc', r', I'.unpinned⟩, T.keep _ _ _ st5 fun b hb o e => (I'.pin (b, o) (List.mem_append_right _ (List.mem_append_right _ (mem_pinsAt hb e)))).1, fun b hb => ?_⟩
          obtain ⟨o, e, d⟩ := T.obj _ _ st5 b hb
          exact (I'.pin (b, o) (List.mem_append_right _ (List.mem_append_right _ (mem_pinsAt hb e)))).2.1
        refine hb.run A S (ip ++ pinsAt fp s5.heap) R n ys s₀ _ _ _ _ id id s6 σ6 H6 { D with nx := N, ct := N, bk := D.nx } (gl2 _) hn ⟨fun n' ys' s₀' s3 f hn' hs => ?_, fun n' s₀' x s3 hx => ee n' s₀' x s3 hx⟩ ⟨acc, cc, r, I6⟩ q6
        cases f with
        | next =>
          obtain ⟨σ3, H3, I3, n3⟩ := hs
          obtain ⟨m', hm, w3⟩ := hN ys' σ3 H3 n3
          obtain ⟨b1, b2, b3⟩ := back I3
          exact seg_again rfl (ih m' hm (i + 1) n' ys' s₀' s3 σ3 H3 hn' w3 b1 b2 b3)
        | cont =>
          obtain ⟨σ3, H3, I3, n3⟩ := hs
          obtain ⟨m', hm, w3⟩ := hN ys' σ3 H3 n3
          obtain ⟨b1, b2, b3⟩ := back I3
          exact seg_again rfl (ih m' hm (i + 1) n' ys' s₀' s3 σ3 H3 hn' w3 b1 b2 b3)
        | brk =>
          obtain ⟨σ3, H3, I3, n3⟩ := hs
          exact seg_leaf (.ok .next) (k.ok n' ys' s₀' s3 .next hn' ⟨σ3, H3, (back I3).1, n3⟩)
        | ret v =>
          obtain ⟨v3, σ3, H3, I3, r3, n3⟩ := hs
          exact seg_leaf (.ok (.ret v)) (k.ok n' ys' s₀' s3 (.ret v) hn' ⟨v3, σ3, H3, (back I3).1, r3, n3⟩)
  exact loop m0 0 n ys s₀ s2 σ H2 hn w0 ⟨acc, cc, r, I2⟩ st2 fun b hb => (f2 b hb).1
def tGLock (t : TGn) : TGn := fun D ys σ H => ∃ d u, H d = some u ∧ Mut (some u) ∧ ∀ od, t ⟨fun ys' σ' H' => H' d = some (.frz od u) ∧ D.nx ys' σ' (upd H' d u), fun ys' v H' => H' d = some (.frz od u) ∧ D.rt ys' v (upd H' d u), fun ys' σ' H' => H' d = some (.frz od u) ∧ D.bk ys' σ' (upd H' d u), fun ys' σ' H' => H' d = some (.frz od u) ∧ D.ct ys' σ' (upd H' d u)⟩ ys σ (upd H d (.frz od u))
theorem gs_lock {st : Stmt} {t : TGn} (h : GS X st t) : GS X st (tGLock t) := by
  refine ⟨fun A S ip R n ys s₀ c fs K J gd lv s σ H D g hn k hI ht => ?_⟩
  obtain ⟨d, u, hd, mu, hw⟩ := ht
  obtain ⟨acc, cc, r, I⟩ := hI
  obtain ⟨od, I1⟩ := I.lock hd mu
  refine h.run A S ip R n ys s₀ c fs K J gd lv s σ _ _ g hn ⟨fun n' ys' s₀' s' f hn' hs => k.ok n' ys' s₀' s' f hn' ?_, k.exc⟩ ⟨acc, cc, r, I1⟩ (hw od)
  cases f with
  | next => obtain ⟨σ', H', ⟨a, c', r', I2⟩, e, q⟩ := hs; exact ⟨σ', _, ⟨a, c', r', I2.unlock e (I.nofrz hd mu)⟩, q⟩
  | brk => obtain ⟨σ', H', ⟨a, c', r', I2⟩, e, q⟩ := hs; exact ⟨σ', _, ⟨a, c', r', I2.unlock e (I.nofrz hd mu)⟩, q⟩
  | cont => obtain ⟨σ', H', ⟨a, c', r', I2⟩, e, q⟩ := hs; exact ⟨σ', _, ⟨a, c', r', I2.unlock e (I.nofrz hd mu)⟩, q⟩
  | ret v => obtain ⟨x, σ', H', ⟨a, c', r', I2⟩, r3, e, q⟩ := hs; exact ⟨x, σ', _, ⟨a, c', r', I2.unlock e (I.nofrz hd mu)⟩, r3, q⟩
theorem gfor_it {J : It} {n : Nat} {G : Hp → Prop} {Y : Nat → Hp → V → Hp → Prop} (w : Walk J n G Y) {g : TG} {tb : TGn} {D : GEnds} {ys : List V} {σ : St} {H1 : Hp} (Pv : Nat → List V → St → Hp → Prop) (h0 : Pv 0 ys σ H1) (hG : ∀ i ys σ H, i ≤ n → Pv i ys σ H → G H)
    (hs : ∀ i x ys σ H H', i < n → Pv i ys σ H → Y i H x H' → g x σ H' fun σ2 H2 => tb { D with nx := Pv (i + 1), ct := Pv (i + 1), bk := D.nx } ys σ2 H2) (hd : ∀ ys σ H, Pv n ys σ H → D.nx ys σ H) :
    ∃ W : Nat → Nat → List V → St → Hp → Prop, (∃ m, W 0 m ys σ H1) ∧ ∀ i m ys σ H, W i m ys σ H →
      (J.stop i H ∧ D.nx ys σ H) ∨ (J.go i H ∧ ∃ N : List V → St → Hp → Prop, (∀ ys' σ' H', N ys' σ' H' → ∃ m', m' < m ∧ W (i + 1) m' ys' σ' H') ∧ ∀ x H', J.yld i H x H' → g x σ H' fun σ2 H2 => tb { D with nx := N, ct := N, bk := D.nx } ys σ2 H2) := by
  refine ⟨fun i m ys σ H => m = n - i ∧ i ≤ n ∧ Pv i ys σ H, ⟨n, by simp, Nat.zero_le _, h0⟩, ?_⟩
  rintro i m ys σ H ⟨rfl, hi, p⟩
  have q := hG i ys σ H hi p
  by_cases lt : i < n
  · exact .inr ⟨w.goes i H lt q, Pv (i + 1), fun ys' σ' H' p' => ⟨n - (i + 1), by omega, rfl, lt, p'⟩, fun x H' y => hs i x ys σ H H' lt p (w.yields i H x H' lt q y)⟩
  · obtain rfl : i = n := by omega
    exact .inl ⟨w.stops H q, hd ys σ H p⟩
end
end L2
namespace K44
open PySem L2
open PyProof.Rows PySem.Spec
theorem un2 {k : Nat} {A : Around} (r : Room k A) : A.in1.units + 1 + 0 < cLine := by
  have := r.un
  show A.units + 1 + 1 + 0 < cLine
  omega
theorem un3 {k : Nat} {A : Around} (r : Room k A) : A.units + 3 < cLine := by
  have := r.un
  omega
/-- how many values of some names are alive in a tick -/
def alvs (S : Rws) (t k : Int) (ns : List Str) (s : Int) : List Int := ns.map fun n => alv t ((spn S n).1 + k) (spn S n).2 s
def cnt (S : Rws) (t k : Int) (ns : List Str) (s : Int) : Int := (alvs S t k ns s).sum
theorem Cts.get {H : Hp} {t k : Int} {n : Str} : ∀ {L : List (Str × Addr)} {R : Rws}, Cts H t k L R → n ∈ R.map (·.1) → ∃ a, valV (Kvs L) (.inr n) = some (.ref a) ∧ H a = some (.lst (cntL t ((spn R n).1 + k) (spn R n).2))
  | _, _, .nil, h => by cases h
  | _, _, .cons (n := m) (a := a) (b := b) (e := e) (L := L) (R := R) h c, hn => by
    by_cases q : n = m
    · subst q
      have e1 : spn ((n, b, e) :: R) n = (b, e) := by unfold spn; simp
      rw [e1]
      exact ⟨a, valV_pos (p := ((Sum.inr n : Key), V.ref a)) rfl, h⟩
    · have e1 : spn ((m, b, e) :: R) n = spn R n := by
        unfold spn
        rw [List.lookup_cons]
        have : (n == m) = false := by simpa using q
        rw [this]
      rw [e1]
      rcases List.mem_cons.mp hn with z | z
      · exact absurd z q
      · obtain ⟨a', h1, h2⟩ := Cts.get c z
        exact ⟨a', (valV_neg (p := ((Sum.inr m : Key), V.ref a)) (fun z => q (Sum.inr.inj z).symm)).trans h1, h2⟩
theorem cntL_at {t b e : Int} {j : Nat} (h : j < t.toNat) : atI (cntL t b e) (0 + (j : Int)) = some (.int (alv t b e (j : Int))) := by
  rw [Int.zero_add]
  refine atI_nat ?_
  unfold cntL
  rw [List.getElem?_map, List.getElem?_range h]
  rfl
section
variable {P : Program} {w : World} {K : PySem.W.Frag}
                                                      {mg : Str → Option Value} {base : Heap}
end
end K44
namespace K44
open PySem L2
open PyProof.Rows PySem.Spec
section
variable {P : Program} {w : World} {K : PySem.W.Frag}
                                                      {mg : Str → Option Value} {base : Heap}
theorem okN {x qual : Str} {params : Arguments} {body : List Stmt} {scope : Scope} {dvs kws} {f : Addr} {fd : FuncData} {N ps : List Str} {k : Nat} {sp : Sp} (F : FunD K x qual params body scope dvs kws f fd) (S : FnScope N ps scope) (len : ∀ vs H Q E, sp vs H Q E → vs.length = ps.length)
    (hbody : ∀ (cdv : Value) (A : Around) (outer : List Env) (s : Shared) (H : Hp) (vs : List V) (Q : VK) (E : XK), Room k (A.deeper (PyProof.Rows.envOfC qual scope s.heap.objs.size f cdv)) → sp vs H Q E →
      ∃ t, PSs (cxOf CX0 P w K mg base N qual scope f cdv A outer s H E).nox body t ∧ t { nx := fun _ H' => Q .non H', rt := Q } (L2.start N vs) H) : FnOk P w K mg base CX0 (k + 1) f fd ps sp :=
  F.ok S len fun cdv A outer s H vs Q E hr h => by
    obtain ⟨t, h1, q⟩ := hbody cdv A outer s H vs Q E hr h
    exact ⟨t, h1.nox, q⟩
def sp_chosen (K : PySem.W.Frag) (C : Addr) : Sp := fun vs H Q _ => ∃ (p nl : Addr) (t : Int) (S : Rws) (r : Addr) (ns : List Str), vs = [.ref p, .ref nl] ∧ SpS H C p t S r ∧ SqT K H nl (ns.map V.str) ∧ ns.length < 64 ∧ (∀ n ∈ ns, n ∈ S.map (·.1)) ∧
  ∀ q zs H', Same H H' → SqT K H' q (zs.map V.str) → KS.Srt ns zs → Q (.ref q) H'
theorem ok_chosen (T : T K mg) (U : UX K mg) : FnOk P w K mg base CX0 1 U.mh.f U.mh.d ["self", "names"] (sp_chosen K U.C) := by
  refine okN U.mh.F sc_Spans_chosen (fun vs H Q E h => ?_) (fun cdv A outer s H vs Q E hr h => ?_)
  · obtain ⟨p, nl, t, S, r, ns, rfl, _⟩ := h
    rfl
  · obtain ⟨p, nl, t, S, r, ns, rfl, sp, hnl, few, hns, k⟩ := h
    obtain ⟨g, so, dx, rd, nm, lv, cr, L0, LL, LC, h1, h2, h3, h4, _⟩ := id sp
    have hu := hu_of hr
    refine ⟨_, (pss_cons (ps_for PassesOwn.never rfl (pi_tup (pv 1)) (pg_name (i := 2) sc_Spans_chosen.nd rfl (Or.inl rfl))
      (pss_one (ps_if (pt_cmpR op_notIn_seq (pv 2) (pe_fld (pv 0) rfl) rfl)
      (pss_one ps_never)
      pss_nil)))
      (pss_one (ps_ret (pe_callTy call_tuple_of (by rfl) T.z_tuple (by decide +kernel) (pa_cons (pe_callB (KS.cr_sortedK (KS.linkStr _) (enc := PyData.str) rfl KS.rd_str (fun m => un2 hr)) (by rfl) T.z_sorted (by decide +kernel) (pa_cons (pe_callTy (KS.cr_setOfU (KS.linkStr _) rfl (un3 hr)) (by rfl) T.z_set (by decide +kernel) (pa_cons (pv 1) pa_nil)) pa_nil)) pa_nil))))), ?_⟩
    refine ⟨_, rfl, nl, rfl, ⟨_, hnl⟩, for_tup (xs := ns.map V.str) (fun i σ H' => (∃ v, σ = [some (.ref p), some (.ref nl), v]) ∧ H' = H) ⟨⟨none, rfl⟩, rfl⟩ (fun i σ H' _ h => by rw [h.2]; exact hnl) ?_ ?_⟩
    · rintro i x σ' H' hx ⟨⟨v, rfl⟩, rfl⟩
      rw [List.getElem?_map] at hx
      cases e2 : ns[i]? with
      | none => rw [e2] at hx; cases hx
      | some n =>
        rw [e2] at hx
        cases hx
        refine ⟨_, rfl, _, rfl, p, U.C, dx, _, .ref nm, rfl, h1, U.cl, U.n3, rfl, nm, _, rfl, .inr (SqT.of h4), rfl, flat_strs _, _, rfl, ?_⟩
        rw [inV_strs, decide_eq_true (hns n (List.mem_of_getElem? e2))]
        exact iteF ⟨⟨_, rfl⟩, rfl⟩
    rintro σ' H' ⟨⟨v, rfl⟩, rfl⟩
    refine ⟨_, rfl, nl, ns, rfl, hnl, fun _ _ => True.intro, few, fun a L ha fr nd => ?_⟩
    refine ⟨a, L, rfl, upd_same, fun _ _ => True.intro, PySem.W.AllAlike.of (enc := PyData.str) (fun b b' => by simp [PySem.W.alike]), PySem.W.Sortable.others (enc := PyData.str) (fun b => ⟨by simp, by simp⟩), fun L1 q pm nd' hq => ?_⟩
    have nd2 : L.Nodup := by
      have q : (L.map id).Nodup := nd
      rw [List.map_id] at q
      exact q
    have tk : ns.take ns.length = ns := List.take_length
    have mem : ∀ z, z ∈ L ↔ z ∈ ns := fun z => by
      constructor
      · intro m
        have q := fr.sub z m
        rw [tk] at q
        exact q
      · intro m
        have q : z ∈ L.map id := fr.all z (by rw [tk]; exact m)
        rw [List.map_id] at q
        exact q
    have A1 := Same.new (o := KS.SetO (KS.strKit P w) a L) ha
    refine ⟨q, _, rfl, .inl ⟨SqL.of upd_same, fun l hl => ?_⟩⟩
    exact k l _ _ (Same.trans A1 (Same.trans (Same.new hq) (Same.new hl))) (SqT.of upd_same) (KS.srt_of nd2 mem pm)
end
end K44
namespace K44
open PySem L2
open PyProof.Rows PySem.Spec
/-- the names that are asked for: all, if none is said -/
def chs (S : Rws) (ns zs : List Str) : List Str := if ns = [] then S.map (·.1) else zs
theorem or_join {K : PySem.W.Frag} {x : V} {H1 : Hp} {tb : TE} {σ : L2.St} {Qf : V → Hp → Prop} (k : Bool) (hk : TruV K x H1 k) (z : V) (e1 : k = true → z = x) (e2 : k = false → ∀ Q : V → Hp → Prop, Q z H1 → tb σ H1 Q) (h : Qf z H1) :
    ∃ k, TruV K x H1 k ∧ if k = true then Qf x H1 else tb σ H1 Qf := by
  refine ⟨k, hk, ?_⟩
  cases k with
  | true =>
    rw [if_pos rfl, ← e1 rfl]
    exact h
  | false =>
    rw [if_neg (by decide)]
    exact e2 rfl _ h
theorem srt_nil {zs : List Str} (h : KS.Srt [] zs) : zs = [] := by
  cases zs with
  | nil => rfl
  | cons z r => exact absurd ((h.2 z).mp List.mem_cons_self) (by simp)
theorem srt_ne {ns zs : List Str} (h : KS.Srt ns zs) (hn : ns ≠ []) : zs ≠ [] := fun e => by
  cases ns with
  | nil => exact hn rfl
  | cons n r =>
    have := (h.2 n).mpr List.mem_cons_self
    rw [e] at this
    cases this
theorem srt_nd {ns zs : List Str} (h : KS.Srt ns zs) : zs.Nodup := h.1.imp fun hab e => by
  rw [e] at hab
  exact List.lt_irrefl _ hab
theorem srt_len {ns zs X : List Str} (h : KS.Srt ns zs) (hs : ∀ n ∈ ns, n ∈ X) : zs.length ≤ X.length := (srt_nd h).length_le_of_subset fun z hz => hs z ((h.2 z).mp hz)
section
variable {P : Program} {w : World} {K : PySem.W.Frag}
                                                      {mg : Str → Option Value} {base : Heap}
theorem chs_in {S : Rws} {ns zs : List Str} (st : KS.Srt ns zs) (h : ∀ n ∈ ns, n ∈ S.map (·.1)) : ∀ n ∈ chs S ns zs, n ∈ S.map (·.1) := fun n hn => by
  unfold chs at hn
  split at hn
  · exact hn
  · exact h n ((st.2 n).mp hn)
def sp_across (K : PySem.W.Frag) (C : Addr) : Sp := fun vs H Q _ => ∃ (p nl : Addr) (t i : Int) (S : Rws) (r : Addr) (ns : List Str), vs = [.ref p, .int i, .ref nl] ∧ SpS H C p t S r ∧ H nl = some (.tup (ns.map V.str)) ∧ ns.length < 64 ∧ (∀ n ∈ ns, n ∈ S.map (·.1)) ∧ (-1000000000000 < i ∧ i < 1000000000000) ∧
  ∀ zs H', Same H H' → KS.Srt ns zs → Q (.int (cnt S t 1 (chs S ns zs) (i % t))) H'
/-- from outside: the names behind the tick are the promise's own -/
def sr_across (K : PySem.W.Frag) (C : Addr) : Sp := fun vs H Q _ => ∃ (p : Addr) (t i : Int) (S : Rws) (r : Addr) (ns : List Str), vs = V.ref p :: .int i :: ns.map V.str ∧ SpS H C p t S r ∧ ns.length < 64 ∧ (∀ n ∈ ns, n ∈ S.map (·.1)) ∧ (-1000000000000 < i ∧ i < 1000000000000) ∧
  ∀ zs H', Same H H' → KS.Srt ns zs → Q (.int (cnt S t 1 (chs S ns zs) (i % t))) H'
theorem ok_across (T : T K mg) (U : UX K mg) : FnR P w K mg base CX0 4 U.mc.f (sr_across K U.C) := by
  have G_check_integer : FnOk P w K mg base CX0 2 T.f_check_integer T.d_check_integer ["value"] (sp_check_integer K) := ok_check_integer T
  have G_chosen : FnOk P w K mg base CX0 1 U.mh.f U.mh.d ["self", "names"] (sp_chosen K U.C) := ok_chosen T U
  obtain ⟨oc, od, kV, doc, pm, an, cdv, ct, osl, hfd, lk, hcd⟩ := U.mc.F.ex
  rw [hfd] at lk
  refine (StX.fn_star (ps := ["self", "moment"]) (pv := "names") (sp := sp_across K U.C) lk hcd sc_Spans_across StX.cxUp_none ?_ ?_).imp ?_
  · intro us rest hl
    match us, hl with
    | [a, b], _ => cases rest <;> rfl
  · intro A outer s H vs Q E hr h
    obtain ⟨p, nl, t, i, S, r, ns, rfl, sp, hnl, few, hns, hi, k⟩ := h
    have hu := hu_of hr
    have hr_check_integer : Room 2 _ := hr.mono (by decide)
    obtain ⟨g, so, dx, rd, nm, lv, cr, L0, LL, LC, h1, h2, h3, h4, h5, h6, h7, h8, _⟩ := id sp
    refine ⟨_, (pss_cons (ps_expr (pe_call G_check_integer hr_check_integer rfl T.m_check_integer T.F_check_integer.kp T.b_check_integer .nil pass0 (pa_cons (pv 1) pa_nil)))
      (pss_cons (ps_set (i := 3) sc_Spans_across.nd rfl (Or.inl rfl) (pe_orT (pe_meth (pv 0) U.cl U.mh.m G_chosen (hr.mono (by decide)) U.mh.b .nil pass0 (pa_cons (pv 2) pa_nil)) (pe_one (pe_fld (pv 0) rfl))))
      (pss_one (ps_ret (pe_callB (cr_sum rfl) (by rfl) T.z_sum (by decide +kernel) (pa_cons (pe_lc (own := [("name", 4)]) (g := gName 4) rfl sc_Spans_across.nd (pi_tup (pv 3)) (blkOk_by (N := ["self", "moment", "names", "chosen", "name"]) (sc := defScope s_Spans_across) (by decide +kernel)) (fun _ _ _ _ _ => (pg_name (i := 4) sc_Spans_across.nd rfl (Or.inl rfl))) (fun _ _ _ _ _ => pts_nil) (fun _ _ _ _ _ => (pe_ix (r := rIx K) ix_seq (pe_dget (by exact hu) (pe_fldK (K := K) rfl (pv 0) rfl) (pv 4) (fun _ _ => rfl)) (pe_op op_mod (pv 1) (pe_fldK (K := K) rfl (pv 0) rfl)) (fun _ _ => rfl)))) pa_nil)))))), ?_⟩
    have g1 := g.t1
    refine ⟨_, rfl, i, rfl, hi, ?_⟩
    -- chosen
    refine ⟨_, rfl, p, dx, _, rfl, h1, rfl, _, rfl, p, nl, t, S, r, ns, rfl, sp, SqT.of hnl, few, hns, fun q zs H1 S1 hq st => ?_⟩
    have hq1 : SqT K H1 q (zs.map V.str) := hq
    obtain ⟨ch, hch, kk, hk, e1, e2⟩ : ∃ (ch : Addr) , SqT K H1 ch ((chs S ns zs).map V.str) ∧ ∃ kk : Bool, TruV K (.ref q) H1 kk ∧ (kk = true → V.ref ch = .ref q) ∧ (kk = false → ch = nm) := by
      by_cases c : ns = []
      · subst c
        obtain rfl := srt_nil st
        exact ⟨nm, SqT.of (S1 _ _ h4), false, .inr (.inl ⟨_, hq1, rfl⟩), (fun z => by cases z), fun _ => rfl⟩
      · refine ⟨q, by unfold chs; rw [if_neg c]; exact hq1, true, .inr (.inl ⟨_, hq1, ?_⟩), fun _ => rfl, fun z => by cases z⟩
        cases zs with
        | nil => exact absurd rfl (srt_ne st c)
        | cons _ _ => rfl
    refine or_join kk hk (.ref ch) e1 (fun z Q' q' => ?_) ?_
    · have e3 := e2 z
      subst e3
      exact ⟨_, rfl, p, U.C, dx, _, .ref ch, rfl, S1 _ _ h1, U.cl, U.n3, rfl, q'⟩
    have hin := chs_in st hns
    have lch : (chs S ns zs).length ≤ 63 := by
      unfold chs
      split
      · rw [List.length_map]
        have := g.l8
        omega
      · have := srt_len st hns
        rw [List.length_map] at this
        have := g.l8
        omega
    have kf := k zs
    generalize chs S ns zs = cs at hch hin lch kf
    have m0 := Int.emod_nonneg i (b := t) (by omega)
    have m1 := Int.emod_lt_of_pos i (b := t) (by omega)
    refine ⟨_, rfl, ch, rfl, ⟨_, hch⟩, fun G hG => ?_⟩
    refine lc_it (walk_tup (K := K) (a := ch) (xs := cs.map V.str)) (fun j H' => Same H1 H' ∧ H' G = some (.lst ((alvs S t 1 (cs.take j) (i % t)).map V.int))) ⟨Same.new hG, upd_same⟩ (fun j H' _ h => Same.seqT h.1 hch) ?_ ?_
    · rintro j x Hd He hj ⟨Sd, eG⟩ ⟨rfl, hx⟩
      rw [List.getElem?_map] at hx
      cases e4 : cs[j]? with
      | none => rw [e4] at hx; cases hx
      | some n =>
        rw [e4] at hx
        cases hx
        have jj : j < cs.length := (List.getElem?_eq_some_iff.mp e4).1
        have Se := Same.trans S1 Sd
        obtain ⟨a, va, ha⟩ := (h8.same Se).get (hin n (List.mem_of_getElem? e4))
        refine ⟨rfl, ?_⟩
        unfold tYes
        dsimp only
        rw [if_pos rfl]
        have pc := Se _ _ h1
        refine ⟨_, rfl, p, U.C, dx, _, .ref cr, rfl, pc, U.cl, U.n5, rfl, _, rfl, cr, V.ref a, rfl, ?_, _, rfl, _, rfl, p, U.C, dx, _, .int t, rfl, pc, U.cl, U.n1, rfl, _, _, rfl, rfl, by omega, .inl ⟨a, _, _, .int (alv t ((spn S n).1 + 1) (spn S n).2 (i % t)), rfl, rfl, SqL.of ha, ?_, ?_⟩⟩
        · have := DGet.k (k := Sum.inr n) (Se _ _ h7)
          rw [va] at this
          exact this
        · have := cntL_at (t := t) (b := (spn S n).1 + 1) (e := (spn S n).2) (j := (i % t).toNat) (by omega)
          rw [Int.zero_add, Int.toNat_of_nonneg m0] at this
          exact this
        refine ⟨_, eG, by rw [List.length_map]; unfold alvs; rw [List.length_map, List.length_take, sizeLine_eq]; omega, Same.at hG Sd, ?_⟩
        rw [upd_same, List.take_add_one, e4]
        unfold alvs
        simp
    · rintro Hd ⟨Sd, eG⟩
      rw [List.length_map, List.take_length] at eG
      exact ⟨G, _, rfl, SqL.of eG, kf _ (Same.trans S1 Sd) st⟩
  · rintro vs H Q E ⟨p, t, i, S, r, ns, rfl, sp, few, hns, hi, k⟩
    refine ⟨[.ref p, .int i], ns.map V.str, rfl, rfl, by rw [List.length_map, sizeLine_eq]; omega, fun q hq => ?_⟩
    exact ⟨p, q, t, i, S, r, ns, rfl, sp.same (Same.new hq), upd_same, few, hns, hi, fun zs H' s' st => k zs H' (Same.trans (Same.new hq) s') st⟩
end
end K44
namespace K44
open PySem L2
open PyProof.Rows PySem.Spec
/-- the values of a name that are alive in a tick -/
def turnsOf (t i : Int) (r : Str × Int × Int) : List (Str × Int) := (List.range (alv t r.2.1 r.2.2 (i % t)).toNat).map fun (s : Nat) => (r.1, (i - r.2.1) / t - alv t r.2.1 r.2.2 (i % t) + 1 + (s : Int))
def eachL (t i : Int) (S : Rws) : List (Str × Int) := S.flatMap (turnsOf t i)
/-- pairs, as told -/
def OutAt (H : Hp) (xs : List V) (L : List (Str × Int)) : Prop := Paired (fun (x : V) (q : Str × Int) => ∃ a, x = V.ref a ∧ H a = some (.tup [.str q.1, .int q.2])) xs L
theorem OutAt.keep {H H' : Hp} (k : KT H H') {xs : List V} {L : List (Str × Int)} (h : OutAt H xs L) : OutAt H' xs L := Paired.mapP h fun _ _ ⟨a, e, q⟩ => ⟨a, e, k _ _ q⟩
theorem OutAt.snoc {H : Hp} {a : Addr} {n : Str} {v : Int} (q : H a = some (.tup [.str n, .int v])) : ∀ {xs : List V} {L : List (Str × Int)}, OutAt H xs L → OutAt H (xs ++ [V.ref a]) (L ++ [(n, v)])
  | _, _, .nil => .cons ⟨a, rfl, q⟩ .nil
  | _, _, .cons h t => .cons h (OutAt.snoc q t)
theorem OutAt.len {H : Hp} : ∀ {xs : List V} {L : List (Str × Int)}, OutAt H xs L → xs.length = L.length
  | _, _, .nil => rfl
  | _, _, .cons _ t => by rw [List.length_cons, List.length_cons, OutAt.len t]
theorem alv_le {t b e s : Int} (h : 0 < t) (h8 : e - b ≤ 8 * t) : alv t b e s ≤ 8 := by
  have h1 : (s - b) / t ≤ (s - e + 8 * t) / t := Int.ediv_le_ediv h (by omega)
  rw [Int.add_mul_ediv_right _ _ (by omega)] at h1
  unfold alv
  omega
theorem alv_nn {t b e s : Int} (h : 0 < t) (h8 : 1 ≤ e - b) : 0 ≤ alv t b e s := by
  have h1 : (s - e) / t ≤ (s - b) / t := Int.ediv_le_ediv h (by omega)
  unfold alv
  omega
theorem cts_tups {H : Hp} {t k : Int} : ∀ {L LL : List (Str × Addr)} {S : Rws}, Tups H L S → Cts H t k LL S → 1 ≤ S.length → Kvs L ≠ Kvs LL
  | _, _, [], _, _, h => by cases h
  | _, _, _ :: _, a, c, _ => by
    cases a with
    | cons x _ =>
      cases c with
      | cons y _ =>
        intro z
        unfold Kvs at z
        rw [List.map_cons, List.map_cons] at z
        have z1 := congrArg List.head? z
        simp only [List.head?_cons] at z1
        injection z1 with z1
        injection z1 with _ z1
        injection z1 with z1
        subst z1
        unfold TupAt at x
        rw [x] at y
        cases y
section
variable {P : Program} {w : World} {K : PySem.W.Frag}
                                                      {mg : Str → Option Value} {base : Heap}
def sp_each (K : PySem.W.Frag) (C : Addr) : SpG := fun vs H Q _ => ∃ (p : Addr) (t i : Int) (S : Rws) (r : Addr), vs = [.ref p, .int i] ∧ SpS H C p t S r ∧ (-1000000000000 < i ∧ i < 1000000000000) ∧ ∀ xs H', Same H H' → OutAt H' xs (eachL t i S) → Q xs H'
theorem ok_each (T : T K mg) (U : UX K mg) : GFn P w K mg base 4 U.m8.f U.m8.d ["self", "tick"] (sp_each K U.C) := by
  have G_check_integer : FnOk P w K mg base CX0 2 T.f_check_integer T.d_check_integer ["value"] (sp_check_integer K) := ok_check_integer T
  obtain ⟨oc, od, dV, kV, doc, pm, an, cdv, ct, osl, e, lk, hcd, _, _⟩ := U.m8.F.ex
  rw [e] at lk ⊢
  refine gfn_of lk hcd gc_Spans_each_alive (fun vs H Q E h => ?_) (fun A outer s H vs Q E pn hr h => ?_)
  · obtain ⟨p, t, i, S, r, rfl, _⟩ := h
    rfl
  · obtain ⟨p, t, i, S, r, rfl, sp, hi, k⟩ := h
    have hu := hu_of hr
    have hr_check_integer : Room 2 _ := hr.mono (by decide)
    obtain ⟨g, so, dx, rd, nm, lv, cr, L0, LL, LC, h1, h2, h3, h4, h5, h6, _⟩ := id sp
    refine ⟨_, (gss_cons (gs_ps (ps_expr (pe_call G_check_integer hr_check_integer rfl T.m_check_integer T.F_check_integer.kp T.b_check_integer .nil pass0 (pa_cons (pv 1) pa_nil))))
      (gss_cons (gs_lock (gs_for owns_gcx rfl (pi_items (pe_fld (pv 0) rfl)) (pg_tup rfl (pgs_cons (pg_name (i := 2) gc_Spans_each_alive.nd rfl (Or.inl rfl)) (pgs_cons (pg_tup rfl (pgs_cons (pg_name (i := 3) gc_Spans_each_alive.nd rfl (Or.inl rfl)) (pgs_cons (pg_name (i := 4) gc_Spans_each_alive.nd rfl (Or.inl rfl)) pgs_nil))) pgs_nil)))
        (gss_cons (gs_ps (ps_set (i := 5) gc_Spans_each_alive.nd rfl (Or.inl rfl) (pe_op op_fdivW (pe_op op_sub (pv 1) (pv 3)) (pe_fld (pv 0) rfl))))
        (gss_cons (gs_ps (ps_set (i := 6) gc_Spans_each_alive.nd rfl (Or.inl rfl) (pe_ix ix_seq (pe_dget (by exact hu) (pe_fld (pv 0) rfl) (pv 2) (fun _ _ => rfl)) (pe_op op_mod (pv 1) (pe_fld (pv 0) rfl)) (fun _ _ => rfl))))
        (gss_cons (gs_for owns_gcx rfl (pi_range2 (by rfl) T.z_range (pa_cons (pe_op op_add (pe_op op_sub (pv 5) (pv 6)) pe_int) (pa_cons (pe_op op_add (pv 5) pe_int) pa_nil))) (pg_name (i := 7) gc_Spans_each_alive.nd rfl (Or.inl rfl))
          (gss_cons (gs_yield (pe_tup (pa_cons (pv 2) (pa_cons (pv 7) pa_nil)))) gss_nil)) gss_nil))))) gss_nil)), ?_⟩
    have g3 := g.t2
    have g4 := g.t1
    have g8 := g.l8
    have m0 := Int.emod_nonneg i (b := t) (by omega)
    have m1 := Int.emod_lt_of_pos i (b := t) (by omega)
    refine ⟨_, rfl, i, rfl, hi, ?_⟩
    refine ⟨rd, _, h2, True.intro, fun od => ?_⟩
    have lk : (upd H rd (.frz od (.dK (Kvs L0)))) rd = some (.frz od (.dK (Kvs L0))) := upd_same
    have ktl : KT H (upd H rd (.frz od (.dK (Kvs L0)))) := KT.put h2 (fun _ z => by cases z)
    have nrp : p ≠ rd := fun z => by rw [z, h2] at h1; cases h1
    have nrl : lv ≠ rd := fun z => by
      rw [z, h2] at h5
      injection h5 with h5
      injection h5 with h5
      exact cts_tups h3 h6 g.l1 h5
    refine ⟨_, rfl, p, U.C, dx, _, .ref rd, rfl, (by rw [upd_ne nrp]; exact h1), U.cl, U.n2, rfl, rd, od, Kvs L0, rfl, lk, ?_⟩
    refine gfor_it walk_items (fun j ys σ H' => (∃ x2 x3 x4 x5 x6 x7, σ = [some (V.ref p), some (V.int i), x2, x3, x4, x5, x6, x7]) ∧ Same (upd H rd (.frz od (.dK (Kvs L0)))) H' ∧ OutAt H' ys (eachL t i (S.take j)) ∧ ys.length ≤ 9 * j) ⟨⟨_, _, _, _, _, _, rfl⟩, Same.refl _, .nil, Nat.zero_le _⟩ (fun j ys σ H' _ h => h.2.1 _ _ lk) ?_ ?_
    · rintro j x ys σ Ha Hb hj ⟨⟨x2, x3, x4, x5, x6, x7, rfl⟩, Sa, oa, la⟩ ⟨TT, x1, y1, rfl, hTT, rfl, ex1, ey1⟩
      have Sn : Same Ha (upd Ha TT (.tup [x1, y1])) := Same.new hTT
      obtain ⟨n, a, b, e, rfl, e2, hab, e4⟩ := tups_at (h3.keep (KT.trans ktl (KT.same (Same.trans Sa Sn)))) j y1 ey1
      obtain rfl : V.str n = x1 := by
        unfold Kvs at ex1
        dsimp only at ex1
        rw [List.getElem?_map, e4] at ex1
        exact Option.some.inj ex1
      have Sb : Same (upd H rd (.frz od (.dK (Kvs L0)))) (upd Ha TT (.tup [V.str n, V.ref a])) := Same.trans Sa Sn
      have eTT : (upd Ha TT (.tup [V.str n, V.ref a])) TT = some (.tup [V.str n, V.ref a]) := upd_same
      have ob := oa.keep (KT.same Sn)
      generalize upd Ha TT (.tup [V.str n, V.ref a]) = Hc at Sb eTT hab ob ⊢
      have hS : (n, b, e) ∈ S := List.mem_of_getElem? e2
      have g1 := g.nr _ hS
      have g2 := g.sp _ hS
      unfold Near at g1
      unfold SpOk at g2
      simp only at g1 g2
      have pc : Hc p = some (HO.ins U.C dx (spF t rd nm (V.ref lv) (V.ref cr))) := Sb _ _ (by rw [upd_ne nrp]; exact h1)
      refine ⟨TT, _, rfl, SqT.of eTT, rfl, _, _, rfl, _, _, rfl, a, _, rfl, SqT.of hab, rfl, _, _, rfl, _, _, rfl, rfl, rfl, ?_⟩
      have pin : n ∈ S.map (·.1) := List.mem_map.mpr ⟨(n, b, e), hS, rfl⟩
      have esp : spn S n = (b, e) := spn_at g.nd hS
      have cl0 : Cts Hc t 0 LL S := Cts.same Sb (Cts.put h2 (fun _ z => by cases z) h6)
      obtain ⟨la2, va, ha⟩ := cl0.get pin
      rw [esp, Int.add_zero] at ha
      refine ⟨_, rfl, _, rfl, _, _, rfl, rfl, ?_⟩
      refine ⟨_, rfl, p, U.C, dx, _, .int t, rfl, pc, U.cl, U.n1, rfl, _, _, rfl, rfl, wide_div (b := 6) (by omega) (by omega) (by decide) (by decide), ?_⟩
      refine ⟨_, rfl, p, U.C, dx, _, .ref lv, rfl, pc, U.cl, U.n4, rfl, _, rfl, lv, V.ref la2, rfl, ?_, _, rfl, _, rfl, p, U.C, dx, _, .int t, rfl, pc, U.cl, U.n1, rfl, _, _, rfl, rfl, by omega, .inl ⟨la2, _, _, .int (alv t b e (i % t)), rfl, rfl, SqL.of ha, ?_, ?_⟩⟩
      · have := DGet.k (k := Sum.inr n) (Sb _ _ ((upd_ne nrl).trans h5))
        rw [va] at this
        exact this
      · have := cntL_at (t := t) (b := b) (e := e) (j := (i % t).toNat) (by omega)
        rw [Int.zero_add, Int.toNat_of_nonneg m0] at this
        exact this
      have m8 : alv t b e (i % t) ≤ 8 := alv_le (by omega) (by omega)
      have mz : 0 ≤ alv t b e (i % t) := alv_nn (by omega) (by omega)
      have q1 : (i - b) / t ≤ 2000000000000 := Int.ediv_le_of_le_mul (by omega) (by omega)
      have q2 : -2000000000000 ≤ (i - b) / t := Int.le_ediv_of_mul_le (by omega) (by omega)
      have jl : j < S.length := (List.getElem?_eq_some_iff.mp e2).1
      have eL : eachL t i (S.take (j + 1)) = eachL t i (S.take j) ++ turnsOf t i (n, b, e) := by
        unfold eachL
        rw [List.take_add_one, e2, List.flatMap_append]
        simp
      have lT : (turnsOf t i (n, b, e)).length = (alv t b e (i % t)).toNat := by unfold turnsOf; rw [List.length_map, List.length_range]
      refine ⟨_, rfl, _, rfl, _, _, rfl, rfl, _, _, rfl, rfl, _, rfl, _, _, rfl, rfl, _, _, rfl, ⟨by omega, by omega, by omega, by omega⟩, ?_⟩
      refine gfor_it walk_range (fun j2 ys' σ' H' => (∃ x7, σ' = [some (V.ref p), some (V.int i), some (V.str n), some (V.int b), some (V.int e), some (V.int ((i - b) / t)), some (V.int (alv t b e (i % t))), x7]) ∧ Same (upd H rd (.frz od (.dK (Kvs L0)))) H' ∧ OutAt H' ys' (eachL t i (S.take j) ++ (turnsOf t i (n, b, e)).take j2) ∧ ys'.length = ys.length + j2) ⟨⟨_, rfl⟩, Sb, by rw [List.take_zero, List.append_nil]; exact ob, rfl⟩ (fun _ _ _ _ _ _ => True.intro) ?_ ?_
      · rintro j2 x ys2 σ2 Hd He hj2 ⟨⟨x7', rfl⟩, Sd, od2, ld⟩ ⟨rfl, rfl⟩
        refine ⟨by rw [sizeLine_eq]; omega, _, rfl, _, rfl, by rw [sizeLine_eq]; simp, fun T2 hT2 => ?_⟩
        have hq : (turnsOf t i (n, b, e))[j2]? = some (n, (i - b) / t - alv t b e (i % t) + 1 + (j2 : Int)) := by
          unfold turnsOf
          rw [List.getElem?_map, List.getElem?_range (by show j2 < (alv t b e (i % t)).toNat; omega)]
          rfl
        refine ⟨⟨_, rfl⟩, Same.trans Sd (Same.new hT2), ?_, by rw [List.length_append, ld]; rfl⟩
        rw [List.take_add_one, hq, ← List.append_assoc]
        exact OutAt.snoc upd_same (od2.keep (KT.same (Same.new hT2)))
      · rintro ys2 σ2 H2 ⟨⟨x7', rfl⟩, Sd, od2, ld⟩
        refine ⟨⟨_, _, _, _, _, _, rfl⟩, Sd, ?_, by omega⟩
        rw [List.take_of_length_le (l := turnsOf t i (n, b, e)) (by rw [lT]; omega)] at od2
        rw [eL]
        exact od2
    · rintro ys σ H' ⟨_, Sa, oa, _⟩
      rw [List.take_of_length_le (by
        have := congrArg List.length h3.names
        rw [List.length_map, List.length_map] at this
        unfold Kvs
        rw [List.length_map]
        omega)] at oa
      refine ⟨Sa _ _ lk, k _ _ (same_lock h2 Sa) (oa.keep fun a xs e => ?_)⟩
      rw [upd_ne (fun z => by rw [z, Sa _ _ lk] at e; cases e)]
      exact e
end
end K44
namespace K44
open PySem L2
open PyProof.Rows PySem.Spec
/-- the free turns of a name: e its end, w its wait -/
def freT (t i : Int) (n : Str) (e w : Int) : List (Str × Int) := (List.range ((i - e) / t + 1 + (w - (i - e)) / t).toNat).map fun (s : Nat) => (n, -((w - (i - e)) / t) + (s : Int))
def freeL (t i : Int) (S : Rws) (F : Flw) (ns : List Str) : List (Str × Int) := ns.flatMap fun n => freT t i n (spn S n).2 (fol F n).2
theorem fre_bd {t i e w : Int} (ht : 0 < t) (h0 : 0 ≤ w) (h1 : w ≤ 4 * t) : 0 ≤ (i - e) / t + 1 + (w - (i - e)) / t ∧ (i - e) / t + 1 + (w - (i - e)) / t ≤ 5 := by
  have a := Int.mul_ediv_add_emod (i - e) t
  have b := Int.mul_ediv_add_emod (w - (i - e)) t
  have a0 := Int.emod_nonneg (i - e) (b := t) (by omega)
  have a1 := Int.emod_lt_of_pos (i - e) ht
  have b0 := Int.emod_nonneg (w - (i - e)) (b := t) (by omega)
  have b1 := Int.emod_lt_of_pos (w - (i - e)) ht
  have s : t * ((i - e) / t + (w - (i - e)) / t) = w - (i - e) % t - (w - (i - e)) % t := by rw [Int.mul_add]; omega
  obtain ⟨k, hk⟩ : ∃ k, (i - e) / t + (w - (i - e)) / t = k := ⟨_, rfl⟩
  rw [hk] at s
  have k1 : -2 < k := by
    apply Decidable.byContradiction
    intro z
    have : t * k ≤ t * (-2) := Int.mul_le_mul_of_nonneg_left (by omega) (by omega)
    omega
  have k2 : k < 5 := by
    apply Decidable.byContradiction
    intro z
    have : t * 5 ≤ t * k := Int.mul_le_mul_of_nonneg_left (by omega) (by omega)
    omega
  omega
section
variable {P : Program} {w : World} {K : PySem.W.Frag}
                                                      {mg : Str → Option Value} {base : Heap}
def sp_free (C D : Addr) : SpG := fun vs H Q _ => ∃ (q p : Addr) (t i : Int) (S : Rws) (F : Flw), vs = [.ref q, .int i] ∧ WgAt H C D q p t S F ∧ (-1000000000000 < i ∧ i < 1000000000000) ∧ ∀ xs H', Same H H' → OutAt H' xs (freeL t i S F (S.map (·.1))) → Q xs H'
theorem ok_free (T : T K mg) (U : UX K mg) : GFn P w K mg base 4 U.wf.f U.wf.d ["self", "moment"] (sp_free U.C U.D) := by
  have G_check_integer : FnOk P w K mg base CX0 2 T.f_check_integer T.d_check_integer ["value"] (sp_check_integer K) := ok_check_integer T
  have Gg : FnOk P w K mg base CX0 1 U.mi.f U.mi.d ["self", "name"] (sp_item K U.C) := ok_item T U
  have Gi : FnOk P w K mg base CX0 1 U.pi.g U.pi.d ["self"] (getSp U.C "_interval") := ok_get U.cl U.pi sc_Spans_interval U.n1 ⟨_, _, _, rfl⟩
  have Gn : FnOk P w K mg base CX0 1 U.pn.g U.pn.d ["self"] (getSp U.C "_names") := ok_get U.cl U.pn sc_Spans_names U.n3 ⟨_, _, _, rfl⟩
  obtain ⟨oc, od, dV, kV, doc, pm, an, cdv, ct, osl, e, lk, hcd, _, _⟩ := U.wf.F.ex
  rw [e] at lk ⊢
  refine gfn_of lk hcd gc_Wiring_each_free (fun vs H Q E h => ?_) (fun A outer s H vs Q E pn hr h => ?_)
  · obtain ⟨q, p, t, i, S, F, rfl, _⟩ := h
    rfl
  · obtain ⟨q, p, t, i, S, F, rfl, wg, hi, k⟩ := h
    have hu := hu_of hr
    have hr_check_integer : Room 2 _ := hr.mono (by decide)
    obtain ⟨sp, fok, dx, fd, ca, L, as, h1, h2, h3, h4, h5⟩ := id wg
    obtain ⟨g, so, dx2, rd, nm, lv, cr, L0, p1, p2, p3, p4⟩ := id sp
    refine ⟨_, (gss_cons (gs_ps (ps_expr (pe_call G_check_integer hr_check_integer rfl T.m_check_integer T.F_check_integer.kp T.b_check_integer .nil pass0 (pa_cons (pv 1) pa_nil))))
      (gss_cons (gs_ps (ps_set (i := 2) gc_Wiring_each_free.nd rfl (Or.inl rfl) (pe_prop (pe_fld (pv 0) rfl) U.cl U.pi.pr Gi (hr.mono (by decide)) U.pi.b .nil pass0 rfl)))
      (gss_cons (gs_for owns_gcx rfl (pi_tup (pe_prop (pe_fld (pv 0) rfl) U.cl U.pn.pr Gn (hr.mono (by decide)) U.pn.b .nil pass0 rfl)) (pg_name (i := 3) gc_Wiring_each_free.nd rfl (Or.inl rfl))
        (gss_cons (gs_ps (ps_set (i := 4) gc_Wiring_each_free.nd rfl (Or.inl rfl) (pe_op op_sub (pv 1) (pe_ix ix_seq (OW.pe_ownItem (pe_fld (pv 0) rfl) (pv 3) Gg ⟨U.mi.m.at_, U.mi.m.fn⟩ U.fn (hr.mono (by decide)) U.mi.b pass0 (fun _ _ => rfl)) pe_int (fun _ _ => rfl)))))
        (gss_cons (gs_ps (ps_set (i := 5) gc_Wiring_each_free.nd rfl (Or.inl rfl) (pe_un un_neg (pe_op op_fdivW (pe_op op_sub (pe_ix ix_seq (pe_dget (by exact hu) (pe_fld (pv 0) rfl) (pv 3) (fun _ _ => rfl)) pe_int (fun _ _ => rfl)) (pv 4)) (pv 2)))))
        (gss_cons (gs_for owns_gcx rfl (pi_range2 (by rfl) T.z_range (pa_cons (pv 5) (pa_cons (pe_op op_add (pe_op op_fdivW (pv 4) (pv 2)) pe_int) pa_nil))) (pg_name (i := 6) gc_Wiring_each_free.nd rfl (Or.inl rfl))
          (gss_cons (gs_yield (pe_tup (pa_cons (pv 3) (pa_cons (pv 6) pa_nil)))) gss_nil)) gss_nil)))) gss_nil))), ?_⟩
    have t1 := g.t1
    have t2 := g.t2
    have l6 := fok.len.1
    refine ⟨_, rfl, i, rfl, hi, ?_⟩
    refine ⟨_, rfl, q, U.D, dx, _, .ref p, rfl, h1, U.clD, U.k1, rfl, p, dx2, _, rfl, p1, p, dx2, _, .int t, rfl, p1, rfl, ?_⟩
    have sqn : SqT K H nm ((S.map (·.1)).map V.str) := SqT.of p4
    refine ⟨_, rfl, q, U.D, dx, _, .ref p, rfl, h1, U.clD, U.k1, rfl, p, dx2, _, rfl, p1, p, dx2, _, .ref nm, rfl, p1, rfl, ?_⟩
    refine ⟨nm, rfl, ⟨_, sqn⟩, ?_⟩
    refine gfor_it (walk_tup (K := K) (a := nm) (xs := (S.map (·.1)).map V.str)) (fun j ys σ H' => (∃ x3 x4 x5 x6, σ = [some (V.ref q), some (V.int i), some (V.int t), x3, x4, x5, x6]) ∧ Same H H' ∧ OutAt H' ys (freeL t i S F ((S.map (·.1)).take j)) ∧ ys.length ≤ 6 * j) ⟨⟨_, _, _, _, rfl⟩, Same.refl _, .nil, Nat.zero_le _⟩ (fun j ys σ H' _ h => Same.seqT h.2.1 sqn) ?_ ?_
    · rintro j x ys σ Ha Hb hj ⟨⟨x3, x4, x5, x6, rfl⟩, Sa, oa, la⟩ ⟨rfl, hx⟩
      rw [List.getElem?_map] at hx
      obtain ⟨n, e2, rfl⟩ : ∃ n, (S.map (·.1))[j]? = some n ∧ x = V.str n := by
        cases e2 : (S.map (·.1))[j]? with
        | none => rw [e2] at hx; cases hx
        | some n => rw [e2] at hx; cases hx; exact ⟨n, rfl, rfl⟩
      have hn : n ∈ S.map (·.1) := List.mem_of_getElem? e2
      have hnr := g.nr _ (spn_in g.nd hn)
      unfold Near at hnr
      simp only at hnr
      have hsp := g.sp _ (spn_in g.nd hn)
      unfold SpOk at hsp
      simp only at hsp
      have hw := fok.wt _ (fok.in g hn)
      simp only at hw
      have bd := fre_bd (t := t) (i := i) (e := (spn S n).2) (w := (fol F n).2) (by omega) hw.1 hw.2
      have q1 : (i - (spn S n).2) / t ≤ 2000000000000 := Int.ediv_le_of_le_mul (by omega) (by omega)
      have q2 : -2000000000000 ≤ (i - (spn S n).2) / t := Int.le_ediv_of_mul_le (by omega) (by omega)
      have w1 := Sa _ _ h1
      have w2 := Sa _ _ p1
      refine ⟨_, rfl, _, rfl, q, U.D, dx, _, .ref p, rfl, w1, U.clD, U.k1, rfl, _, rfl, p, dx2, _, rfl, w2, p, t, S, n, _, _, rfl, sp.same Sa, spn_in g.nd hn, fun a1 e1 => ?_⟩
      refine .inr (.inl ⟨_, _, _, _, rfl, rfl, SqT.of e1, rfl, _, _, rfl, rfl, ?_⟩)
      obtain ⟨a2, va, fa⟩ := (h3.keep (KT.same Sa)).get (by rw [ordF_names]; exact hn)
      rw [ord_fol g hn] at fa
      refine ⟨_, rfl, q, U.D, dx, _, .ref fd, rfl, w1, U.clD, U.k2, rfl, _, rfl, fd, V.ref a2, rfl, ?_, ?_⟩
      · have := DGet.k (k := Sum.inr n) (Sa _ _ h2)
        rw [va] at this
        exact this
      refine .inr (.inl ⟨_, _, _, _, rfl, rfl, SqT.of fa.1, rfl, _, rfl, _, _, rfl, rfl, _, rfl, _, _, rfl, rfl, wide_div (b := 6) (by omega) (by omega) (by decide) (by decide), _, rfl, ?_⟩)
      have jl : j < S.length := by have := (List.getElem?_eq_some_iff.mp e2).1; rw [List.length_map] at this; exact this
      have eL : freeL t i S F ((S.map (·.1)).take (j + 1)) = freeL t i S F ((S.map (·.1)).take j) ++ freT t i n (spn S n).2 (fol F n).2 := by
        unfold freeL
        rw [List.take_add_one, e2, List.flatMap_append]
        simp
      have lT : (freT t i n (spn S n).2 (fol F n).2).length = ((i - (spn S n).2) / t + 1 + ((fol F n).2 - (i - (spn S n).2)) / t).toNat := by unfold freT; rw [List.length_map, List.length_range]
      refine ⟨_, rfl, _, rfl, _, rfl, _, _, rfl, rfl, wide_div (b := 6) (by omega) (by omega) (by decide) (by decide), _, _, rfl, rfl, _, _, rfl, ⟨by omega, by omega, by omega, by omega⟩, ?_⟩
      refine gfor_it walk_range (fun j2 ys' σ' H' => (∃ x6, σ' = [some (V.ref q), some (V.int i), some (V.int t), some (V.str n), some (V.int (i - (spn S n).2)), some (V.int (-(((fol F n).2 - (i - (spn S n).2)) / t))), x6]) ∧ Same H H' ∧ OutAt H' ys' (freeL t i S F ((S.map (·.1)).take j) ++ (freT t i n (spn S n).2 (fol F n).2).take j2) ∧ ys'.length = ys.length + j2) ⟨⟨_, rfl⟩, Sa, by rw [List.take_zero, List.append_nil]; exact oa, rfl⟩ (fun _ _ _ _ _ _ => True.intro) ?_ ?_
      · rintro j2 x ys2 σ2 Hd He hj2 ⟨⟨x7', rfl⟩, Sd, od2, ld⟩ ⟨rfl, rfl⟩
        refine ⟨by rw [sizeLine_eq]; omega, _, rfl, _, rfl, by rw [sizeLine_eq]; simp, fun T2 hT2 => ?_⟩
        have hq : (freT t i n (spn S n).2 (fol F n).2)[j2]? = some (n, -(((fol F n).2 - (i - (spn S n).2)) / t) + (j2 : Int)) := by
          unfold freT
          rw [List.getElem?_map, List.getElem?_range (by omega)]
          rfl
        refine ⟨⟨_, rfl⟩, Same.trans Sd (Same.new hT2), ?_, by rw [List.length_append, ld]; rfl⟩
        rw [List.take_add_one, hq, ← List.append_assoc]
        exact OutAt.snoc upd_same (od2.keep (KT.same (Same.new hT2)))
      · rintro ys2 σ2 H2 ⟨⟨x7', rfl⟩, Sd, od2, ld⟩
        refine ⟨⟨_, _, _, _, rfl⟩, Sd, ?_, by omega⟩
        rw [List.take_of_length_le (l := freT t i n (spn S n).2 (fol F n).2) (by rw [lT]; omega)] at od2
        rw [eL]
        exact od2
    · rintro ys σ H' ⟨_, Sa, oa, _⟩
      rw [List.length_map, List.take_length] at oa
      exact k _ _ Sa oa
end
end K44
namespace K44
open PySem L2
open PyProof.Rows PySem.Spec
theorem alv_mod {t b e i : Int} (h : 0 < t) : alv t b e (i % t) = (i - b) / t - (i - e) / t := by
  have h1 : i - b = i % t - b + t * (i / t) := by have := Int.mul_ediv_add_emod i t; omega
  have h2 : i - e = i % t - e + t * (i / t) := by have := Int.mul_ediv_add_emod i t; omega
  rw [h1, h2, Int.add_mul_ediv_left _ _ (by omega), Int.add_mul_ediv_left _ _ (by omega)]
  unfold alv
  omega
open PyProof.Rows PySem.Spec
theorem free_later {t i m : Int} (ht : 0 < t) (S : Rws) (F : Flw) (ns : List Str) : freeL t (i + t * m) S F ns = (freeL t i S F ns).map fun q => (q.1, q.2 + m) := by
  unfold freeL
  rw [List.map_flatMap]
  congr 1
  funext n
  unfold freT
  have h1 : ∀ e : Int, (i + t * m - e) / t = (i - e) / t + m := fun e => by
    rw [show i + t * m - e = i - e + t * m by omega, Int.add_mul_ediv_left _ _ (by omega)]
  have h2 : ∀ e w : Int, (w - (i + t * m - e)) / t = (w - (i - e)) / t - m := fun e w => by
    rw [show w - (i + t * m - e) = w - (i - e) + t * (-m) by rw [Int.mul_neg]; omega, Int.add_mul_ediv_left _ _ (by omega)]
    omega
  rw [h1, h2, List.map_map, show (i - (spn S n).2) / t + m + 1 + (((fol F n).2 - (i - (spn S n).2)) / t - m) = (i - (spn S n).2) / t + 1 + ((fol F n).2 - (i - (spn S n).2)) / t by omega]
  apply List.map_congr_left
  intro s _
  show (n, -(((fol F n).2 - (i - (spn S n).2)) / t - m) + (s : Int)) = (n, -(((fol F n).2 - (i - (spn S n).2)) / t) + (s : Int) + m)
  rw [show -(((fol F n).2 - (i - (spn S n).2)) / t - m) + (s : Int) = -(((fol F n).2 - (i - (spn S n).2)) / t) + (s : Int) + m by omega]
theorem neg_div {t y : Int} (ht : 0 < t) : (-y - 1) / t = -(y / t) - 1 := by
  have a := Int.mul_ediv_add_emod y t
  have a0 := Int.emod_nonneg y (b := t) (by omega)
  have a1 := Int.emod_lt_of_pos y ht
  have : -y - 1 = (t - 1 - y % t) + t * (-(y / t) - 1) := by rw [Int.mul_sub, Int.mul_neg]; omega
  rw [this, Int.add_mul_ediv_left _ _ (by omega), Int.ediv_eq_zero_of_lt (by omega) (by omega)]
  omega
/-- what a name adds to the registers -/
theorem rnd_eq {t : Int} {S : Rws} {F : Flw} (g : Good t S) (h : FOk t S F) {n : Str} (hn : n ∈ S.map (·.1)) : (spn S n).2 + (fol F n).2 = (spn S (nxt F n)).1 + t * rnd S t F n := by
  have d := h.dv _ (h.in g hn)
  have := Int.mul_ediv_add_emod ((spn S n).2 + (fol F n).2 - (spn S (nxt F n)).1) t
  unfold rnd
  unfold nxt at *
  simp only at d
  omega
def fb (S : Rws) (t i : Int) (n : Str) : Int := (i - (spn S n).1 - 1) / t
theorem one_free {t i : Int} {S : Rws} {F : Flw} (g : Good t S) (h : FOk t S F) {n : Str} (hn : n ∈ S.map (·.1)) :
    ((freT t i n (spn S n).2 (fol F n).2).length : Int) + alv t ((spn S n).1 + 1) (spn S n).2 (i % t) = rnd S t F n + (fb S t i n - fb S t i (nxt F n)) := by
  have ht : 0 < t := by have := g.t1; omega
  have e := rnd_eq g h hn
  have w := h.wt _ (h.in g hn)
  have bd := fre_bd (t := t) (i := i) (e := (spn S n).2) (w := (fol F n).2) ht w.1 w.2
  have l : ((freT t i n (spn S n).2 (fol F n).2).length : Int) = (i - (spn S n).2) / t + 1 + ((fol F n).2 - (i - (spn S n).2)) / t := by
    unfold freT
    rw [List.length_map, List.length_range]
    omega
  rw [l, alv_mod ht]
  have k : ((fol F n).2 - (i - (spn S n).2)) / t = rnd S t F n + ((spn S (nxt F n)).1 - i) / t := by
    rw [show (fol F n).2 - (i - (spn S n).2) = ((spn S (nxt F n)).1 - i) + t * rnd S t F n by omega, Int.add_mul_ediv_left _ _ (by omega)]
    omega
  have k2 : fb S t i (nxt F n) = -(((spn S (nxt F n)).1 - i) / t) - 1 := by
    unfold fb
    rw [← neg_div ht]
    congr 1
    omega
  have k3 : (i - ((spn S n).1 + 1)) / t = fb S t i n := by
    unfold fb
    congr 1
    omega
  rw [k, k2, k3]
  omega
theorem len_free {t i : Int} {S : Rws} {F : Flw} : ∀ ns : List Str, ((freeL t i S F ns).length : Int) = (ns.map fun n => ((freT t i n (spn S n).2 (fol F n).2).length : Int)).sum
  | [] => rfl
  | n :: ns => by
    have := len_free (t := t) (i := i) (S := S) (F := F) ns
    unfold freeL at *
    rw [List.flatMap_cons, List.length_append, List.map_cons, List.sum_cons, ← this]
    omega
theorem sum_sub {f g : Str → Int} : ∀ l : List Str, (l.map fun n => f n - g n).sum = (l.map f).sum - (l.map g).sum
  | [] => rfl
  | n :: l => by
    rw [List.map_cons, List.sum_cons, List.map_cons, List.sum_cons, List.map_cons, List.sum_cons, sum_sub l]
    omega
theorem sum_mul {f : Str → Int} {t : Int} : ∀ l : List Str, (l.map fun n => t * f n).sum = t * (l.map f).sum
  | [] => by simp
  | n :: l => by
    rw [List.map_cons, List.sum_cons, List.map_cons, List.sum_cons, sum_mul l, Int.mul_add]
theorem nxt_perm {t : Int} {S : Rws} {F : Flw} (g : Good t S) (h : FOk t S F) : ((S.map (·.1)).map (nxt F)).Perm (S.map (·.1)) := h.tgs g
theorem size_rnd {t : Int} {S : Rws} {F : Flw} (g : Good t S) (h : FOk t S F) {ns : List Str} (hn : ∀ n ∈ ns, n ∈ S.map (·.1)) (p : (ns.map (nxt F)).Perm ns) : sizeV S t F ns = (ns.map (rnd S t F)).sum := by
  have ht : 0 < t := by have := g.t1; omega
  unfold sizeV
  have e : ns.map (lw S F) = ns.map fun n => (t * rnd S t F n) + ((spn S (nxt F n)).1 - (spn S n).1) := List.map_congr_left fun n hm => by
    have := rnd_eq g h (hn n hm)
    unfold lw
    omega
  have z : (ns.map fun n => (spn S (nxt F n)).1 - (spn S n).1).sum = 0 := by
    rw [sum_sub]
    have := perm_sum (p.map fun n => (spn S n).1)
    rw [List.map_map] at this
    have e3 : (ns.map ((fun n => (spn S n).1) ∘ nxt F)) = ns.map fun n => (spn S (nxt F n)).1 := rfl
    rw [e3] at this
    omega
  rw [e, sum_add, z, sum_mul, Int.add_zero, Int.mul_ediv_cancel_left _ (by omega)]
/-- the free turns and those across are the registers -/
theorem free_across {t i : Int} {S : Rws} {F : Flw} (g : Good t S) (h : FOk t S F) : ((freeL t i S F (S.map (·.1))).length : Int) + cnt S t 1 (S.map (·.1)) (i % t) = sizeV S t F (S.map (·.1)) := by
  rw [len_free, size_rnd g h (fun _ h => h) (nxt_perm g h)]
  unfold cnt alvs
  rw [← sum_add]
  have e : ((S.map (·.1)).map fun n => ((freT t i n (spn S n).2 (fol F n).2).length : Int) + alv t ((spn S n).1 + 1) (spn S n).2 (i % t)) = (S.map (·.1)).map fun n => rnd S t F n + (fb S t i n - fb S t i (nxt F n)) := List.map_congr_left fun n hn => one_free g h hn
  rw [e, sum_add, sum_sub]
  have := perm_sum ((nxt_perm g h).map (fb S t i))
  rw [List.map_map] at this
  have e3 : ((S.map (·.1)).map (fb S t i ∘ nxt F)) = (S.map (·.1)).map fun n => fb S t i (nxt F n) := rfl
  rw [e3] at this
  omega
end K44
namespace K44
open PySem L2
open PyProof.Rows PySem.Spec
def kF (lo q2 q1 : Int) (j : Nat) : Nat := (min (lo + (j : Int) - 1 - q2) (q1 - q2)).toNat
def tnF (q2 : Int) (k : Nat) : List Int := (List.range k).map fun (s : Nat) => q2 + 1 + (s : Int)
theorem kF_in {lo q2 q1 : Int} {j : Nat} (h1 : q2 < lo + j) (h2 : lo + j ≤ q1) : kF lo q2 q1 (j + 1) = kF lo q2 q1 j + 1 ∧ q2 + 1 + (kF lo q2 q1 j : Int) = lo + j := by
  unfold kF
  omega
theorem kF_out {lo q2 q1 : Int} {j : Nat} (h : ¬(q2 < lo + j ∧ lo + j ≤ q1)) (h0 : q2 ≤ q1) : kF lo q2 q1 (j + 1) = kF lo q2 q1 j := by
  unfold kF
  omega
theorem OutAt.app {H : Hp} {ys : List V} {M : List (Str × Int)} (h2 : OutAt H ys M) : ∀ {xs : List V} {L : List (Str × Int)}, OutAt H xs L → OutAt H (xs ++ ys) (L ++ M)
  | _, _, .nil => h2
  | _, _, .cons q t => .cons q (OutAt.app h2 t)
theorem in_free {t i e w v : Int} (ht : 0 < t) : (e ≤ i - t * v ∧ i - t * v ≤ e + w) ↔ (-((w - (i - e)) / t) - 1 < v ∧ v ≤ (i - e) / t) := by
  have a := Int.le_ediv_iff_mul_le (a := v) (b := i - e) ht
  have b := Int.le_ediv_iff_mul_le (a := -v) (b := w - (i - e)) ht
  rw [Int.mul_comm] at a
  rw [Int.mul_comm, Int.mul_neg] at b
  constructor
  · rintro ⟨h1, h2⟩
    have := b.mpr (by omega)
    exact ⟨by omega, a.mpr (by omega)⟩
  · rintro ⟨h1, h2⟩
    have := b.mp (by omega)
    have := a.mp h2
    omega
section
variable {P : Program} {w : World} {K : PySem.W.Frag}
                                                      {mg : Str → Option Value} {base : Heap}
def sp_w_free (K : PySem.W.Frag) : Sp := fun vs H Q _ => ∃ (d d2 : Addr) (L L2 : List (Str × Addr)) (R S : Rws) (F : Flw) (t i : Int), vs = [.ref d, .int t, .ref d2, .int i] ∧ H d = some (.dK (Kvs L)) ∧ Tups H L R ∧ (R.map (·.1)).Nodup ∧ Srd R S ∧ Good t S ∧ (∀ x ∈ R, Fin1 t x) ∧ H d2 = some (.dK (Kvs L2)) ∧ FTs H L2 F ∧ FOk t S F ∧ (-t ≤ i ∧ i ≤ 2 * t) ∧
  ∀ r xs H', Same H H' → H r = none → H' r = some (.lst xs) → OutAt H' xs (freeL t i S F (S.map (·.1))) → Q (.ref r) H'
theorem ok_w_free (T : T K mg) : FnOk P w K mg base CX0 1 T.f_w_free T.d_w_free ["rows", "interval", "follows", "moment"] (sp_w_free K) := by
  refine T.F_w_free.ok sc_w_free (fun vs H Q E h => ?_) (fun cdv A outer s H vs Q E hr h => ?_)
  · obtain ⟨d, d2, L, L2, R, S, F, t, i, rfl, _⟩ := h
    rfl
  · obtain ⟨d, d2, L, L2, R, S, W, t, i, rfl, hd, ts, nd, srd, g, fin, hd2, fts, fok, hi, k⟩ := h
    have hu := hu_of hr
    refine ⟨_, (pss_cons (ps_set (i := 4) sc_w_free.nd rfl (Or.inl rfl) (pe_lst pa_nil))
      (pss_cons (ps_for PassesOwn.never rfl (pi_list (pe_callB (call_sortedD rfl) (by rfl) T.z_sorted (by decide +kernel) (pa_cons (pv 0) pa_nil))) (pg_name (i := 5) sc_w_free.nd rfl (Or.inr rfl))
      (pss_cons (ps_asg (pe_tup (pa_cons (pe_ix ix_seq (pe_dget (by exact hu) (pv 0) (pv 5) (fun _ _ => rfl)) pe_int (fun _ _ => rfl)) (pa_cons (pe_ix ix_seq (pe_dget (by exact hu) (pv 2) (pv 5) (fun _ _ => rfl)) pe_int (fun _ _ => rfl)) pa_nil))) (pg_tup rfl (pgs_cons (pg_name (i := 6) sc_w_free.nd rfl (Or.inr rfl)) (pgs_cons (pg_name (i := 7) sc_w_free.nd rfl (Or.inr rfl)) pgs_nil))))
      (pss_cons (ps_setLc (i := 8) (own := [("turn", 9)]) (g := gName 9) rfl sc_w_free.nd rfl rfl (sw_true rfl rfl rfl (by decide +kernel)) (pi_range2 (by rfl) T.z_range (pa_cons (pe_un un_neg pe_int) (pa_cons pe_int pa_nil))) (blkOk_by (N := ["rows", "interval", "follows", "moment", "found", "name", "end", "wait", "turns", "turn"]) (sc := defScope s_w_free) (by decide +kernel)) (fun _ _ _ _ _ => (pg_name (i := 9) sc_w_free.nd rfl (Or.inl rfl))) (fun _ _ _ _ _ => pts_one (pt_chain op_le op_le (pv 6) (pe_op op_sub (pv 3) (pe_op op_mul (pv 1) (pv 9))) (pe_op op_add (pv 6) (pv 7)))) (fun _ _ _ _ _ => (pv 9)))
      (pss_one (ps_expr (pe_bm PySem.F.plainAttrs_list PySem.F.slot_list_extend PySem.F.type_list_extend mt_extend (pv 4) (pa_cons (pe_lc (own := [("turn", 9)]) (g := gName 9) rfl sc_w_free.nd (pi_list (pv 8)) (blkOk_by (N := ["rows", "interval", "follows", "moment", "found", "name", "end", "wait", "turns", "turn"]) (sc := defScope s_w_free) (by decide +kernel)) (fun _ _ _ _ _ => (pg_name (i := 9) sc_w_free.nd rfl (Or.inl rfl))) (fun _ _ _ _ _ => pts_nil) (fun _ _ _ _ _ => (pe_tup (pa_cons (pv 5) (pa_cons (pv 9) pa_nil))))) pa_nil)))))))
      (pss_one (ps_ret (pv 4))))), ?_⟩
    have t1 := g.t1
    have t2 := g.t2
    have lS := g.l8
    have lR := srd.pm.length_eq
    refine ⟨by rw [sizeLine_eq]; simp, fun F hF => ?_⟩
    refine ⟨_, rfl, d, _, L.map (·.1), rfl, .inl (by rw [upd_ne (ne_of_none hd hF)]; exact hd), kvs_keys L, by rw [List.length_map, ts.len]; omega, fun ys p pm so hp => ?_⟩
    have enm : (L.map (·.1)).Perm (S.map (·.1)) := by rw [ts.names]; exact (srd.pm.map (·.1)).symm
    obtain rfl : ys = S.map (·.1) := sort_to pm so enm srd.so
    have ly : (S.map (·.1)).length ≤ 8 := by rw [List.length_map]; exact lS
    have eF0 : (upd H F (.lst [])) F = some (.lst []) := upd_same
    have npF : F ≠ p := ne_of_none eF0 hp
    have S1 : Same H (upd (upd H F (.lst [])) p (.lst ((S.map (·.1)).map V.str))) := Same.trans (Same.new hF) (Same.new hp)
    have ep : (upd (upd H F (.lst [])) p (.lst ((S.map (·.1)).map V.str))) p = some (.lst ((S.map (·.1)).map V.str)) := upd_same
    have eF : (upd (upd H F (.lst [])) p (.lst ((S.map (·.1)).map V.str))) F = some (.lst []) := by rw [upd_ne npF]; exact eF0
    generalize upd (upd H F (.lst [])) p (.lst ((S.map (·.1)).map V.str)) = H1 at S1 ep eF ⊢
    refine ⟨p, rfl, ⟨_, SqL.of ep⟩, ?_⟩
    refine for_list (xs := (S.map (·.1)).map V.str) (fun j σ H' => (∃ x5 x6 x7 x8 x9, σ = [some (V.ref d), some (V.int t), some (V.ref d2), some (V.int i), some (V.ref F), x5, x6, x7, x8, x9]) ∧ (∀ b v, b ≠ F → H1 b = some v → H' b = some v) ∧ ∃ xs, H' F = some (.lst xs) ∧ OutAt H' xs (freeL t i S W ((S.map (·.1)).take j)) ∧ xs.length ≤ 6 * j) ⟨⟨_, _, _, _, _, rfl⟩, fun _ _ _ h => h, [], eF, .nil, Nat.zero_le _⟩ (fun j σ H' _ h => SqL.of (h.2.1 _ _ npF.symm ep)) ?_ ?_
    · rintro j x σ Ha hx ⟨⟨x5, x6, x7, x8, x9, rfl⟩, Oa, xs, eFa, oa, la⟩
      rw [List.getElem?_map] at hx
      cases e2 : (S.map (·.1))[j]? with
      | none => rw [e2] at hx; cases hx
      | some n =>
      rw [e2] at hx
      cases hx
      have hn : n ∈ S.map (·.1) := List.mem_of_getElem? e2
      have kF0 : ∀ {b v}, H b = some v → Ha b = some v := fun {b v} h => Oa _ _ (ne_of_none h hF) (S1 _ _ h)
      have ts2 := ts.keep (H' := Ha) (fun _ _ h => kF0 h)
      obtain ⟨u, b, e, hv, hu2, hm⟩ := ts2.get ((srd.pm.map (·.1)).mem_iff.mp hn)
      have espn : spn S n = (b, e) := spn_srd g srd hm
      have g1 := fin _ hm
      have g2 := g.sp _ (srd.pm.mem_iff.mpr hm)
      unfold Fin1 Near at g1
      unfold SpOk at g2
      simp only at g1 g2
      obtain ⟨u3, va, fa⟩ := (fts.keep (H' := Ha) (fun _ _ h => kF0 h)).get (fok.at hn)
      have hw := fok.wt _ (fok.in g hn)
      simp only at hw
      have jl : j < (S.map (·.1)).length := (List.getElem?_eq_some_iff.mp e2).1
      have bd := fre_bd (t := t) (i := i) (e := e) (w := (fol W n).2) (by omega) hw.1 hw.2
      have q1 : (i - e) / t ≤ 8 := Int.ediv_le_of_le_mul (by omega) (by omega)
      have q2 : (((fol W n).2 - (i - e)) / t) ≤ 20 := Int.ediv_le_of_le_mul (by omega) (by omega)
      refine ⟨_, rfl, _, rfl, d, V.ref u, rfl, ?_, .inr (.inl ⟨_, _, _, _, rfl, rfl, SqT.of hu2, rfl, ?_⟩)⟩
      · have := DGet.k (k := Sum.inr n) (kF0 hd)
        rw [hv] at this
        exact this
      refine ⟨_, rfl, _, rfl, d2, V.ref u3, rfl, ?_, .inr (.inl ⟨_, _, _, _, rfl, rfl, SqT.of fa.1, rfl, ?_⟩)⟩
      · have := DGet.k (k := Sum.inr n) (kF0 hd2)
        rw [va] at this
        exact this
      refine ⟨by show 2 ≤ sizeLine; decide, fun tq htq => ?_⟩
      have ntF : F ≠ tq := ne_of_none eFa htq
      have Sq := Same.new (o := .tup [V.int e, V.int (fol W n).2]) htq
      have etq : (upd Ha tq (.tup [V.int e, V.int (fol W n).2])) tq = some (.tup [V.int e, V.int (fol W n).2]) := upd_same
      have Ob : ∀ b v, b ≠ F → H1 b = some v → (upd Ha tq (.tup [V.int e, V.int (fol W n).2])) b = some v := fun b v n h => Sq _ _ (Oa b v n h)
      have eFb := Sq _ _ eFa
      have ob := oa.keep (KT.same Sq)
      generalize upd Ha tq (.tup [V.int e, V.int (fol W n).2]) = Hb at Sq etq Ob eFb ob ⊢
      refine ⟨tq, _, rfl, SqT.of etq, rfl, _, _, rfl, _, _, rfl, rfl, ?_⟩
      have eX : freeL t i S W ((S.map (·.1)).take (j + 1)) = freeL t i S W ((S.map (·.1)).take j) ++ freT t i n e (fol W n).2 := by
        unfold freeL
        rw [List.take_add_one, e2, List.flatMap_append]
        simp [espn]
      rw [eX]
      clear eX Oa oa etq Sq htq eFa ts2 hu2 va fa hv
      generalize (fol W n).2 = wt at *
      obtain ⟨Q2, hQ2⟩ : ∃ z, z = -((wt - (i - e)) / t) - 1 := ⟨_, rfl⟩
      obtain ⟨Q1, hQ1⟩ : ∃ z, z = (i - e) / t := ⟨_, rfl⟩
      have iffAll : ∀ v : Int, (e ≤ i - t * v ∧ i - t * v ≤ e + wt) ↔ (Q2 < v ∧ v ≤ Q1) := fun v => by rw [hQ2, hQ1]; exact in_free (by omega)
      have eT : freT t i n e wt = (tnF Q2 (Q1 - Q2).toNat).map fun v => (n, v) := by
        unfold freT tnF
        rw [List.map_map, hQ1, hQ2, show (i - e) / t + 1 + (wt - (i - e)) / t = (i - e) / t - (-((wt - (i - e)) / t) - 1) by omega]
        refine List.map_congr_left fun s _ => ?_
        show (n, -((wt - (i - e)) / t) + (s : Int)) = (n, -((wt - (i - e)) / t) - 1 + 1 + (s : Int))
        rw [show -((wt - (i - e)) / t) + (s : Int) = -((wt - (i - e)) / t) - 1 + 1 + (s : Int) from by omega]
      rw [eT]
      clear eT
      have b1 : Q2 ≤ Q1 ∧ Q1 - Q2 ≤ 5 ∧ Q1 ≤ 8 ∧ -21 ≤ Q2 := by omega
      clear hQ1 hQ2 q1 q2 bd
      refine ⟨_, rfl, _, _, rfl, ⟨by omega, by omega, by omega, by omega⟩, fun G hG => ?_⟩
      refine lc_range (lo := -40) (vs := [9]) (n := 80) (fun j2 H' => Same Hb H' ∧ H' G = some (.lst ((tnF Q2 (kF (-40) Q2 Q1 j2)).map V.int))) ⟨Same.new hG, by rw [show kF (-40) Q2 Q1 0 = 0 from by unfold kF; omega]; exact upd_same⟩ ?_ ?_
      · rintro j2 Hd hj2 ⟨Sd, eG⟩
        refine ⟨rfl, ?_⟩
        have iff := iffAll (-40 + (j2 : Int))
        have fin2 : ∀ {c : Bool}, (c = true ↔ (Q2 < -40 + (j2 : Int) ∧ -40 + (j2 : Int) ≤ Q1)) → if c = true then (∃ v, (some (some (V.int (-40 + (j2 : Int)))) : Option (Option V)) = some (some v) ∧ ∃ acc, Hd G = some (.lst acc) ∧ acc.length < sizeLine ∧ (Same Hb (upd Hd G (.lst (acc ++ [v]))) ∧ (upd Hd G (.lst (acc ++ [v]))) G = some (.lst ((tnF Q2 (kF (-40) Q2 Q1 (j2 + 1))).map V.int)))) else (Same Hb Hd ∧ Hd G = some (.lst ((tnF Q2 (kF (-40) Q2 Q1 (j2 + 1))).map V.int))) := fun {c} hc => by
          by_cases h : Q2 < -40 + (j2 : Int) ∧ -40 + (j2 : Int) ≤ Q1
          · obtain ⟨z1, z2⟩ := kF_in h.1 h.2
            rw [if_pos (hc.mpr h)]
            refine ⟨_, rfl, _, eG, ?_, Same.at hG Sd, ?_⟩
            · unfold tnF
              rw [List.length_map, List.length_map, List.length_range, sizeLine_eq]
              unfold kF
              omega
            · rw [upd_same, z1]
              unfold tnF
              rw [List.range_succ, List.map_append, List.map_append]
              simp only [List.map_cons, List.map_nil]
              rw [z2]
          · rw [if_neg (fun z => h (hc.mp z)), kF_out h b1.1]
            exact ⟨Sd, eG⟩
        refine ⟨_, rfl, _, rfl, _, rfl, _, rfl, _, _, rfl, rfl, ?_, _, _, rfl, rfl, _, _, rfl, rfl, _, rfl, ?_⟩
        · exact .inl ⟨by omega, by omega⟩
        by_cases hb : e ≤ i - t * (-40 + (j2 : Int))
        · rw [if_pos (decide_eq_true hb)]
          refine ⟨_, rfl, _, rfl, _, _, rfl, rfl, _, _, rfl, rfl, _, rfl, ?_⟩
          exact fin2 ⟨fun z => iff.mp ⟨hb, of_decide_eq_true z⟩, fun z => decide_eq_true (iff.mpr z).2⟩
        · rw [if_neg (by rw [decide_eq_false hb]; exact Bool.false_ne_true)]
          refine ⟨_, rfl, ?_⟩
          exact fin2 ⟨fun z => (by cases z), fun z => absurd (iff.mpr z).1 hb⟩
      · rintro Hd ⟨Sd, eG⟩
        have ek : kF (-40) Q2 Q1 80 = (Q1 - Q2).toNat := by unfold kF; omega
        rw [ek] at eG
        have nGF : G ≠ F := fun z => by rw [z, eFb] at hG; cases hG
        have lT : (tnF Q2 (Q1 - Q2).toNat).length ≤ 5 := by unfold tnF; rw [List.length_map, List.length_range]; omega
        generalize tnF Q2 (Q1 - Q2).toNat = vs at eG lT ⊢
        refine ⟨_, rfl, ?_⟩
        refine ⟨.inl ⟨rfl, _, SqL.of (Sd _ _ eFb)⟩, _, rfl, G, rfl, ⟨_, SqL.of eG⟩, fun G2 hG2 => ?_⟩
        have nG2F : G2 ≠ F := fun z => by rw [z, Sd _ _ eFb] at hG2; cases hG2
        refine lc_list (xs := vs.map V.int) (fun j2 H' => Same Hd H' ∧ ∃ ps, H' G2 = some (.lst ps) ∧ OutAt H' ps ((vs.take j2).map fun v => (n, v))) ⟨Same.new hG2, [], upd_same, .nil⟩ (fun j2 H' _ h => SqL.of (h.1 _ _ eG)) ?_ ?_
        · rintro j2 x He hx ⟨Se, ps, ep2, op⟩
          rw [List.getElem?_map] at hx
          cases e5 : vs[j2]? with
          | none => rw [e5] at hx; cases hx
          | some v =>
          rw [e5] at hx
          cases hx
          refine ⟨rfl, ?_⟩
          unfold tYes
          dsimp only
          rw [if_pos rfl]
          refine ⟨_, rfl, _, rfl, by rw [sizeLine_eq]; simp, fun q hq => ?_⟩
          have nGq : G2 ≠ q := ne_of_none ep2 hq
          have lps := op.len
          rw [List.length_map, List.length_take] at lps
          refine ⟨ps, (by rw [upd_ne nGq]; exact ep2), by rw [sizeLine_eq]; omega, Same.at hG2 (Same.trans Se (Same.new hq)), ps ++ [V.ref q], upd_same, ?_⟩
          rw [List.take_add_one, e5, List.map_append]
          have kt : KT He (upd (upd He q (.tup [V.str n, V.int v])) G2 (.lst (ps ++ [V.ref q]))) := KT.trans (KT.new hq) (KT.put (u := .lst ps) (by rw [upd_ne nGq]; exact ep2) (fun _ z => by cases z))
          exact (op.keep kt).snoc (by rw [upd_ne nGq.symm, upd_same])
        · rintro He ⟨Se, ps, ep2, op⟩
          rw [List.length_map, List.take_length] at op
          have lps := op.len
          rw [List.length_map] at lps
          have eFe := Se _ _ (Sd _ _ eFb)
          refine ⟨F, G2, xs, ps, rfl, rfl, eFe, ep2, by rw [sizeLine_eq]; omega, ⟨_, _, _, _, _, rfl⟩, fun b v n h => by rw [upd_ne n]; exact Se _ _ (Sd _ _ (Ob _ _ n h)), xs ++ ps, upd_same, ?_, by rw [List.length_append]; omega⟩
          have kt : KT He (upd He F (.lst (xs ++ ps))) := KT.put (u := .lst xs) eFe (fun _ z => by cases z)
          exact OutAt.app (op.keep kt) ((ob.keep (KT.same (Same.trans Sd Se))).keep kt)
    · rintro σ H' ⟨⟨x5, x6, x7, x8, x9, rfl⟩, Oa, xs, eFa, oa, la⟩
      rw [List.take_of_length_le (by rw [List.length_map, List.length_map, List.length_map]; exact Nat.le_refl _)] at oa
      exact ⟨_, rfl, k F xs H' (fun b v h => Oa _ _ (ne_of_none h hF) (S1 _ _ h)) hF eFa oa⟩
end
end K44
namespace K44
open PySem L2
open PyProof.Rows PySem.Spec
theorem one_sum {P : Str → Prop} [DecidablePred P] : ∀ {A : List Str}, A.Nodup → (∃ m ∈ A, P m) → (∀ m ∈ A, ∀ m' ∈ A, P m → P m' → m = m') → (A.map fun m => if P m then (1 : Int) else 0).sum = 1
  | [], _, h, _ => by obtain ⟨m, hm, _⟩ := h; cases hm
  | a :: A, nd, h, u => by
    rw [List.nodup_cons] at nd
    rw [List.map_cons, List.sum_cons]
    by_cases q : P a
    · have z : (A.map fun m => if P m then (1 : Int) else 0).sum = 0 := by
        have : ∀ m ∈ A, ¬ P m := fun m hm pm => nd.1 (by rw [u a List.mem_cons_self m (List.mem_cons_of_mem _ hm) q pm]; exact hm)
        have e : (A.map fun m => if P m then (1 : Int) else 0) = A.map fun _ => 0 := List.map_congr_left fun m hm => if_neg (this m hm)
        rw [e]
        clear e this u h nd
        induction A with
        | nil => rfl
        | cons b A ih => rw [List.map_cons, List.sum_cons, ih]; rfl
      rw [if_pos q, z]
      rfl
    · have h2 : ∃ m ∈ A, P m := by
        obtain ⟨m, hm, pm⟩ := h
        rcases List.mem_cons.mp hm with e | hm
        · rw [e] at pm
          exact absurd pm q
        · exact ⟨m, hm, pm⟩
      rw [if_neg q, one_sum nd.2 h2 (fun m hm m' hm' => u m (List.mem_cons_of_mem _ hm) m' (List.mem_cons_of_mem _ hm'))]
      rfl
/-- how often x stands in L -/
def frq (L : List (Str × Int)) (x : Str × Int) : Nat := (L.filter fun q => decide (q = x)).length
theorem frq_app (A B : List (Str × Int)) (x : Str × Int) : frq (A ++ B) x = frq A x + frq B x := by
  unfold frq
  rw [List.filter_append, List.length_append]
theorem frq_snoc (A : List (Str × Int)) (y x : Str × Int) : frq (A ++ [y]) x = frq A x + if y = x then 1 else 0 := by
  rw [frq_app]
  unfold frq
  by_cases h : y = x
  · rw [if_pos h]; simp [h]
  · rw [if_neg h]; simp [h]
def laterT (S : Rws) (t : Int) (F : Flw) (n : Str) : List (Str × Int) := (List.range 160).map fun (s : Nat) => (nxt F n, -80 + (s : Int) + rnd S t F n)
def laterL (S : Rws) (t : Int) (F : Flw) (ns : List Str) : List (Str × Int) := ns.flatMap (laterT S t F)
theorem range_one (k : Nat) : ∀ N : Nat, ((List.range N).filter fun s => decide (s = k)).length = if k < N then 1 else 0
  | 0 => rfl
  | N + 1 => by
    rw [List.range_succ, List.filter_append, List.length_append, range_one k N]
    by_cases h : N = k
    · subst h
      rw [if_neg (Nat.lt_irrefl _), if_pos (Nat.lt_succ_self _)]
      simp
    · have : ([N].filter fun s => decide (s = k)) = [] := by simp [h]
      rw [this, List.length_nil, Nat.add_zero]
      by_cases q : k < N
      · rw [if_pos q, if_pos (by omega)]
      · rw [if_neg q, if_neg (by omega)]
theorem frq_row {S : Rws} {t : Int} {F : Flw} {n m : Str} {u : Int} (h : -80 ≤ u - rnd S t F n ∧ u - rnd S t F n < 80) : (frq (laterT S t F n) (m, u) : Int) = if nxt F n = m then 1 else 0 := by
  unfold frq laterT
  rw [List.filter_map, List.length_map]
  by_cases q : nxt F n = m
  · rw [if_pos q]
    have e : ((fun p : Str × Int => decide (p = (m, u))) ∘ fun (s : Nat) => (nxt F n, -80 + (s : Int) + rnd S t F n)) = fun (s : Nat) => decide (s = (u - rnd S t F n + 80).toNat) := funext fun s => by
      show decide ((nxt F n, -80 + (s : Int) + rnd S t F n) = (m, u)) = _
      rw [decide_eq_decide, Prod.mk.injEq]
      constructor
      · rintro ⟨_, h2⟩; omega
      · intro z; exact ⟨q, by omega⟩
    rw [e, range_one, if_pos (by omega)]
    rfl
  · rw [if_neg q]
    have e : ((fun p : Str × Int => decide (p = (m, u))) ∘ fun (s : Nat) => (nxt F n, -80 + (s : Int) + rnd S t F n)) = fun (s : Nat) => false := funext fun s => by
      show decide ((nxt F n, -80 + (s : Int) + rnd S t F n) = (m, u)) = _
      exact decide_eq_false fun z => q (Prod.mk.inj z).1
    rw [e, List.filter_eq_nil_iff.mpr (fun _ _ => Bool.false_ne_true)]
    rfl
theorem frq_later {S : Rws} {t : Int} {F : Flw} {m : Str} {u : Int} : ∀ {ns : List Str}, (∀ n ∈ ns, -80 ≤ u - rnd S t F n ∧ u - rnd S t F n < 80) → (frq (laterL S t F ns) (m, u) : Int) = (ns.map fun n => if nxt F n = m then (1 : Int) else 0).sum
  | [], _ => rfl
  | n :: ns, h => by
    have i := frq_later (m := m) (ns := ns) fun x hx => h x (List.mem_cons_of_mem _ hx)
    have r := frq_row (m := m) (h n List.mem_cons_self)
    unfold laterL at *
    rw [List.flatMap_cons, frq_app, List.map_cons, List.sum_cons, ← i, ← r]
    omega
theorem rnd_bd {t : Int} {S : Rws} {F : Flw} (g : Good t S) (h : FOk t S F) (fin : ∀ x ∈ S, Fin1 t x) {n : Str} (hn : n ∈ S.map (·.1)) : -16 ≤ rnd S t F n ∧ rnd S t F n ≤ 16 := by
  have hm : nxt F n ∈ S.map (·.1) := h.to (h.in g hn)
  have a := fin _ (spn_in g.nd hn)
  have b := fin _ (spn_in g.nd hm)
  have c := g.sp _ (spn_in g.nd hn)
  have d := g.sp _ (spn_in g.nd hm)
  have e := h.wt _ (h.in g hn)
  have t1 := g.t1
  unfold Fin1 Near at a b
  unfold SpOk at c d
  simp only at a b c d e
  unfold rnd
  exact ⟨Int.le_ediv_of_mul_le (by omega) (by omega), Int.ediv_le_of_le_mul (by omega) (by omega)⟩
theorem frq_one {t : Int} {S : Rws} {F : Flw} (g : Good t S) (h : FOk t S F) (fin : ∀ x ∈ S, Fin1 t x) {ns : List Str} (pm : ns.Perm (S.map (·.1))) {m : Str} (hm : m ∈ ns) {u : Int} (hu : 0 ≤ u ∧ u < 10) : frq (laterL S t F ns) (m, u) = 1 := by
  have e := frq_later (S := S) (t := t) (F := F) (m := m) (u := u) (ns := ns) fun n hn => by
    have := rnd_bd g h fin (pm.mem_iff.mp hn)
    omega
  have nd : ns.Nodup := pm.nodup_iff.mpr g.nd
  have p2 : (ns.map (nxt F)).Perm ns := ((pm.map (nxt F)).trans (nxt_perm g h)).trans pm.symm
  have one := one_sum (P := fun n => nxt F n = m) nd (by
    obtain ⟨x, hx, ex⟩ := List.mem_map.mp (p2.mem_iff.mpr hm)
    exact ⟨x, hx, ex⟩) (fun a ha b hb e1 e2 => nd_inj (p2.nodup_iff.mpr nd) ha hb (e1.trans e2.symm))
  rw [one] at e
  omega
theorem later_len (S : Rws) (t : Int) (F : Flw) : ∀ ns : List Str, (laterL S t F ns).length = 160 * ns.length
  | [] => rfl
  | n :: ns => by
    have := later_len S t F ns
    unfold laterL at *
    rw [List.flatMap_cons, List.length_append, this, List.length_cons]
    unfold laterT
    rw [List.length_map, List.length_range]
    omega
def cvl (k : Nat) : Option V := if k = 0 then none else some (.int k)
theorem cvl_get (k : Nat) : (cvl k).getD (.int 0) = .int k := by
  unfold cvl
  by_cases h : k = 0
  · rw [if_pos h, h]; rfl
  · rw [if_neg h]; rfl
def dueL (ns : List Str) (j : Nat) : List (Str × Int) := (List.range j).flatMap fun (u : Nat) => ns.map fun n => (n, (u : Int))
theorem dueL_succ (ns : List Str) (j : Nat) : dueL ns (j + 1) = dueL ns j ++ ns.map fun n => (n, (j : Int)) := by
  unfold dueL
  rw [List.range_succ, List.flatMap_append]
  simp
theorem dueL_len (ns : List Str) : ∀ j : Nat, (dueL ns j).length = ns.length * j
  | 0 => rfl
  | j + 1 => by
    rw [dueL_succ, List.length_append, dueL_len ns j, List.length_map, Nat.mul_succ]
theorem dueL_mem {ns : List Str} {n : Str} {v : Int} (h : (n, v) ∈ dueL ns 10) : n ∈ ns ∧ (0 ≤ v ∧ v < 10) := by
  unfold dueL at h
  obtain ⟨u, hu, h2⟩ := List.mem_flatMap.mp h
  obtain ⟨m, hm, e⟩ := List.mem_map.mp h2
  cases e
  have := List.mem_range.mp hu
  exact ⟨hm, by omega, by omega⟩
theorem OutAt.at {H : Hp} : ∀ {xs : List V} {L : List (Str × Int)} (j : Nat) {x : V}, OutAt H xs L → xs[j]? = some x → ∃ n v a, x = V.ref a ∧ L[j]? = some (n, v) ∧ H a = some (.tup [.str n, .int v])
  | _, _, 0, _, .cons ⟨a, e, q⟩ _, h => by cases h; exact ⟨_, _, a, e, rfl, q⟩
  | _, _, j + 1, _, .cons _ t, h => OutAt.at j t h
end K44
namespace K44
open PySem L2
open PyProof.Rows PySem.Spec
section
variable {P : Program} {w : World} {K : PySem.W.Frag}
                                                      {mg : Str → Option Value} {base : Heap}
def sp_w_is_once (K : PySem.W.Frag) (C D : Addr) : Sp := fun vs H Q _ => ∃ (q p na : Addr) (t : Int) (S : Rws) (F : Flw) (ns : List Str), vs = [.ref q, .ref na] ∧ WgAt H C D q p t S F ∧ (∀ x ∈ S, Fin1 t x) ∧ H na = some (.lst (ns.map V.str)) ∧ ns.Perm (S.map (·.1)) ∧ ∀ H', Same H H' → Q (.bl true) H'
theorem ok_w_is_once (T : T K mg) (U : UX K mg) : FnOk P w K mg base CX0 7 T.f_w_is_once T.d_w_is_once ["wiring", "names"] (sp_w_is_once K U.C U.D) := by
  have Ga : FnOk P w K mg base CX0 5 U.wa.f U.wa.d ["self", "name", "turn"] (sp_after U.C U.D) := ok_after T U
  refine T.F_w_is_once.ok sc_w_is_once (fun vs H Q E h => ?_) (fun cdv A outer s H vs Q E hr h => ?_)
  · obtain ⟨q, p, na, t, S, F, ns, rfl, _⟩ := h
    rfl
  · obtain ⟨q, p, na, t, S, F, ns, rfl, wg, fin, hna, pm, k⟩ := h
    have hu := hu_of hr
    obtain ⟨sp, fok, dx, fd, ca, L, as, h1, h2, h3, h4, h5⟩ := id wg
    have g := sp.1
    have l6 : ns.length ≤ 6 := by rw [pm.length_eq, List.length_map]; exact fok.len.1
    refine ⟨_, PSs.nox (pss_cons (ps_set (i := 2) sc_w_is_once.nd rfl (Or.inl rfl) (pe_lst pa_nil))
      (pss_cons (ps_for PassesOwn.never rfl (pi_list (pv 1)) (pg_name (i := 3) sc_w_is_once.nd rfl (Or.inr rfl))
      (pss_one (ps_expr (pe_bm PySem.F.plainAttrs_list PySem.F.slot_list_extend PySem.F.type_list_extend mt_extend (pv 2) (pa_cons (pe_lc (own := [("turn", 6)]) (g := gName 6) rfl sc_w_is_once.nd (pi_range2 (by rfl) T.z_range (pa_cons (pe_un un_neg pe_int) (pa_cons pe_int pa_nil))) (blkOk_by (N := ["wiring", "names", "later", "name", "due", "counts", "turn", "value"]) (sc := defScope s_w_is_once) (by decide +kernel)) (fun _ _ _ _ _ => (pg_name (i := 6) sc_w_is_once.nd rfl (Or.inl rfl))) (fun _ _ _ _ _ => pts_nil) (fun _ _ _ _ _ => (pe_meth (pv 0) U.clD U.wa.m Ga (hr.mono (by decide)) U.wa.b .nil pass0 (pa_cons (pv 3) (pa_cons (pv 6) pa_nil))))) pa_nil)))))
      (pss_cons (ps_asg (pe_tup (pa_cons (pe_lst pa_nil) (pa_cons pe_dnewT pa_nil))) (pg_tup rfl (pgs_cons (pg_name (i := 4) sc_w_is_once.nd rfl (Or.inl rfl)) (pgs_cons (pg_name (i := 5) sc_w_is_once.nd rfl (Or.inr rfl)) pgs_nil))))
      (pss_cons (ps_for PassesOwn.never rfl (pi_range1 (by rfl) T.z_range (pa_cons pe_int pa_nil)) (pg_name (i := 6) sc_w_is_once.nd rfl (Or.inr rfl))
      (pss_one (ps_expr (pe_bm PySem.F.plainAttrs_list PySem.F.slot_list_extend PySem.F.type_list_extend mt_extend (pv 4) (pa_cons (pe_lc (own := [("name", 3)]) (g := gName 3) rfl sc_w_is_once.nd (pi_list (pv 1)) (blkOk_by (N := ["wiring", "names", "later", "name", "due", "counts", "turn", "value"]) (sc := defScope s_w_is_once) (by decide +kernel)) (fun _ _ _ _ _ => (pg_name (i := 3) sc_w_is_once.nd rfl (Or.inl rfl))) (fun _ _ _ _ _ => pts_nil) (fun _ _ _ _ _ => (pe_tup (pa_cons (pv 3) (pa_cons (pv 6) pa_nil))))) pa_nil)))))
      (pss_cons (ps_for PassesOwn.never rfl (pi_list (pv 2)) (pg_name (i := 7) sc_w_is_once.nd rfl (Or.inl rfl))
      (pss_one (ps_dput (by exact hu) (pv 5) (pv 7) (pe_op op_add (pe_dget2 (by exact hu) (pv 5) (pv 7) pe_int ⟨rfl, rfl, rfl, rfl⟩) pe_int) (by rfl))))
      (pss_one (ps_ret (pe_cmpR (op_eqD (un64 hr)) (pe_lc (own := [("value", 7)]) (g := gName 7) rfl sc_w_is_once.nd (pi_list (pv 4)) (blkOk_by (N := ["wiring", "names", "later", "name", "due", "counts", "turn", "value"]) (sc := defScope s_w_is_once) (by decide +kernel)) (fun _ _ _ _ _ => (pg_name (i := 7) sc_w_is_once.nd rfl (Or.inl rfl))) (fun _ _ _ _ _ => pts_one (pt_cmpR op_ne (pe_dget2 (by exact hu) (pv 5) (pv 7) pe_int ⟨rfl, rfl, rfl, rfl⟩) pe_int (nomark _))) (fun _ _ _ _ _ => (pv 7))) (pe_lst pa_nil) (nomark _))))))))), ?_⟩
    refine ⟨by rw [sizeLine_eq]; simp, fun F1 hF1 => ?_⟩
    have eF0 : (upd H F1 (.lst [])) F1 = some (.lst []) := upd_same
    have S1 : Same H (upd H F1 (.lst [])) := Same.new hF1
    generalize upd H F1 (.lst []) = H1 at S1 eF0 ⊢
    have en0 := S1 _ _ hna
    have nFn : F1 ≠ na := fun z => by rw [z, hna] at hF1; cases hF1
    refine ⟨_, rfl, na, rfl, ⟨_, SqL.of en0⟩, ?_⟩
    refine for_list (xs := ns.map V.str) (fun j σ H' => (∃ x3 x4 x5 x6 x7, σ = [some (V.ref q), some (V.ref na), some (V.ref F1), x3, x4, x5, x6, x7]) ∧ (∀ b v, b ≠ F1 → H1 b = some v → H' b = some v) ∧ ∃ xs, H' F1 = some (.lst xs) ∧ OutAt H' xs (laterL S t F (ns.take j))) ⟨⟨_, _, _, _, _, rfl⟩, fun _ _ _ h => h, [], eF0, .nil⟩ (fun j σ H' _ h => SqL.of (h.2.1 _ _ nFn.symm en0)) ?_ ?_
    · rintro j x σ Ha hx ⟨⟨x3, x4, x5, x6, x7, rfl⟩, Oa, xs, eFa, oa⟩
      rw [List.getElem?_map] at hx
      cases e2 : ns[j]? with
      | none => rw [e2] at hx; cases hx
      | some n =>
      rw [e2] at hx
      cases hx
      have hn : n ∈ S.map (·.1) := pm.mem_iff.mp (List.mem_of_getElem? e2)
      have Sa : Same H Ha := fun b v h => Oa _ _ (ne_of_none h hF1) (S1 _ _ h)
      have bd := rnd_bd g fok fin hn
      have jl : j < ns.length := (List.getElem?_eq_some_iff.mp e2).1
      refine ⟨_, rfl, .inl ⟨rfl, _, SqL.of eFa⟩, _, rfl, _, _, rfl, ⟨by omega, by omega, by omega, by omega⟩, fun G hG => ?_⟩
      have eX : laterL S t F (ns.take (j + 1)) = laterL S t F (ns.take j) ++ laterT S t F n := by
        unfold laterL
        rw [List.take_add_one, e2, List.flatMap_append]
        simp
      have lX := later_len S t F (ns.take j)
      rw [List.length_take] at lX
      have lT : (laterT S t F n).length = 160 := by unfold laterT; rw [List.length_map, List.length_range]
      rw [eX]
      refine lc_range (lo := -80) (vs := [6]) (n := 160) (fun j2 H' => Same Ha H' ∧ ∃ ps, H' G = some (.lst ps) ∧ OutAt H' ps ((laterT S t F n).take j2)) ⟨Same.new hG, [], upd_same, .nil⟩ ?_ ?_
      · rintro j2 Hd hj2 ⟨Sd, ps, eG, op⟩
        refine ⟨rfl, ?_⟩
        unfold tYes
        dsimp only
        rw [if_pos rfl]
        refine ⟨_, rfl, q, dx, _, rfl, Sd _ _ (Sa _ _ h1), rfl, _, rfl, _, rfl, q, p, t, S, F, n, _, rfl, wg.same (Same.trans Sa Sd), hn, by omega, fun a Hc Sc ea => ?_⟩
        have lps := op.len
        rw [List.length_take, lT] at lps
        refine ⟨ps, Sc _ _ eG, by rw [sizeLine_eq]; omega, Same.at hG (Same.trans Sd Sc), ps ++ [V.ref a], upd_same, ?_⟩
        have hq : (laterT S t F n)[j2]? = some (nxt F n, -80 + (j2 : Int) + rnd S t F n) := by
          unfold laterT
          rw [List.getElem?_map, List.getElem?_range hj2]
          rfl
        rw [List.take_add_one, hq]
        have kt : KT Hc (upd Hc G (.lst (ps ++ [V.ref a]))) := KT.put (u := .lst ps) (Sc _ _ eG) (fun _ z => by cases z)
        exact ((op.keep (KT.same Sc)).keep kt).snoc (kt _ _ ea)
      · rintro He ⟨Se, ps, ep2, op⟩
        rw [List.take_of_length_le (by omega)] at op
        have lps := op.len
        have lxs := oa.len
        have eFe := Se _ _ eFa
        refine ⟨F1, G, xs, ps, rfl, rfl, eFe, ep2, by rw [sizeLine_eq]; omega, ⟨_, _, _, _, _, rfl⟩, fun b v n h => by rw [upd_ne n]; exact Se _ _ (Oa _ _ n h), xs ++ ps, upd_same, ?_⟩
        have kt : KT He (upd He F1 (.lst (xs ++ ps))) := KT.put (u := .lst xs) eFe (fun _ z => by cases z)
        exact OutAt.app (op.keep kt) ((oa.keep (KT.same Se)).keep kt)
    rintro σ Ha ⟨⟨x3, x4, x5, x6, x7, rfl⟩, Oa, xs, eFa, oa⟩
    rw [List.take_of_length_le (by rw [List.length_map]; exact Nat.le_refl _)] at oa
    have Sa : Same H Ha := fun b v h => Oa _ _ (ne_of_none h hF1) (S1 _ _ h)
    clear Oa eF0 en0 S1
    refine ⟨by rw [sizeLine_eq]; simp, fun F2 hF2 CD hCD => ?_⟩
    refine ⟨by show 2 ≤ sizeLine; decide, fun tq htq => ?_⟩
    have e20 : (upd Ha F2 (.lst [])) F2 = some (.lst []) := upd_same
    have n2C : F2 ≠ CD := ne_of_none e20 hCD
    have eC0 : (upd (upd Ha F2 (.lst [])) CD (.dT [])) CD = some (.dT []) := upd_same
    have nCt : CD ≠ tq := ne_of_none eC0 htq
    have S2 : Same Ha (upd (upd (upd Ha F2 (.lst [])) CD (.dT [])) tq (.tup [.ref F2, .ref CD])) := Same.trans (Same.trans (Same.new hF2) (Same.new hCD)) (Same.new htq)
    have eC : (upd (upd (upd Ha F2 (.lst [])) CD (.dT [])) tq (.tup [.ref F2, .ref CD])) CD = some (.dT []) := by rw [upd_ne nCt]; exact eC0
    have eF : (upd (upd (upd Ha F2 (.lst [])) CD (.dT [])) tq (.tup [.ref F2, .ref CD])) F2 = some (.lst []) := by
      rw [upd_ne (ne_of_none (by rw [upd_ne n2C]; exact e20) htq), upd_ne n2C]; exact e20
    have et : (upd (upd (upd Ha F2 (.lst [])) CD (.dT [])) tq (.tup [.ref F2, .ref CD])) tq = some (.tup [.ref F2, .ref CD]) := upd_same
    have hCa : Ha CD = none := (upd_ne (o := .lst []) n2C.symm).symm.trans hCD
    generalize upd (upd (upd Ha F2 (.lst [])) CD (.dT [])) tq (.tup [.ref F2, .ref CD]) = H2 at S2 eC eF et ⊢
    refine ⟨tq, _, rfl, SqT.of et, rfl, _, _, rfl, _, _, rfl, rfl, ?_⟩
    clear et htq nCt eC0 e20
    refine ⟨10, rfl, by decide, by decide, ?_⟩
    have en2 := S2 _ _ (Sa _ _ hna)
    have n2n : na ≠ F2 := ne_of_none (Sa _ _ hna) hF2
    refine for_range (n := 10) (fun j σ H' => (∃ x3 x6 x7, σ = [some (V.ref q), some (V.ref na), some (V.ref F1), x3, some (V.ref F2), some (V.ref CD), x6, x7]) ∧ (∀ b v, b ≠ F2 → H2 b = some v → H' b = some v) ∧ ∃ ys, H' F2 = some (.lst ys) ∧ OutAt H' ys (dueL ns j)) ⟨⟨_, _, _, rfl⟩, fun _ _ _ h => h, [], eF, .nil⟩ ?_ ?_
    · rintro j σ Hb hj ⟨⟨y3, y6, y7, rfl⟩, Ob, ys, eFb, ob⟩
      rw [Int.zero_add]
      have enb := Ob _ _ n2n en2
      refine ⟨_, rfl, .inl ⟨rfl, _, SqL.of eFb⟩, _, rfl, na, rfl, ⟨_, SqL.of enb⟩, fun G hG => ?_⟩
      refine lc_list (xs := ns.map V.str) (fun j2 H' => Same Hb H' ∧ ∃ ps, H' G = some (.lst ps) ∧ OutAt H' ps ((ns.take j2).map fun n => (n, (j : Int)))) ⟨Same.new hG, [], upd_same, .nil⟩ (fun j2 H' _ h => SqL.of (h.1 _ _ enb)) ?_ ?_
      · rintro j2 x He hx ⟨Se, ps, ep2, op⟩
        rw [List.getElem?_map] at hx
        cases e5 : ns[j2]? with
        | none => rw [e5] at hx; cases hx
        | some n =>
        rw [e5] at hx
        cases hx
        refine ⟨rfl, ?_⟩
        unfold tYes
        dsimp only
        rw [if_pos rfl]
        refine ⟨_, rfl, _, rfl, by rw [sizeLine_eq]; simp, fun z hz => ?_⟩
        have nGq : G ≠ z := ne_of_none ep2 hz
        have lps := op.len
        rw [List.length_map, List.length_take] at lps
        refine ⟨ps, (by rw [upd_ne nGq]; exact ep2), by rw [sizeLine_eq]; omega, Same.at hG (Same.trans Se (Same.new hz)), ps ++ [V.ref z], upd_same, ?_⟩
        rw [List.take_add_one, e5, List.map_append]
        have kt : KT He (upd (upd He z (.tup [V.str n, V.int (j : Int)])) G (.lst (ps ++ [V.ref z]))) := KT.trans (KT.new hz) (KT.put (u := .lst ps) (by rw [upd_ne nGq]; exact ep2) (fun _ z => by cases z))
        exact (op.keep kt).snoc (by rw [upd_ne nGq.symm, upd_same])
      · rintro He ⟨Se, ps, ep2, op⟩
        rw [List.length_map, List.take_length] at op
        have lps := op.len
        rw [List.length_map] at lps
        have lys := ob.len
        rw [dueL_len] at lys
        have eFe := Se _ _ eFb
        have hm : ns.length * j ≤ 6 * 10 := Nat.mul_le_mul l6 (by omega)
        refine ⟨F2, G, ys, ps, rfl, rfl, eFe, ep2, by rw [sizeLine_eq]; omega, ⟨_, _, _, rfl⟩, fun b v n h => by rw [upd_ne n]; exact Se _ _ (Ob _ _ n h), ys ++ ps, upd_same, ?_⟩
        have kt : KT He (upd He F2 (.lst (ys ++ ps))) := KT.put (u := .lst ys) eFe (fun _ z => by cases z)
        rw [dueL_succ]
        exact OutAt.app (op.keep kt) ((ob.keep (KT.same Se)).keep kt)
    rintro σ Hb ⟨⟨y3, y6, y7, rfl⟩, Ob, ys, eFb, ob⟩
    have S3 : Same H Hb := fun b v h => Ob _ _ (ne_of_none (Sa _ _ h) hF2) (S2 _ _ (Sa _ _ h))
    have hC3 : Hb CD = some (.dT []) := Ob _ _ n2C.symm eC
    have nFF : F1 ≠ F2 := ne_of_none eFa hF2
    have eF1 := Ob _ _ nFF (S2 _ _ eFa)
    have hCH : H CD = none := by
      cases z : H CD with
      | none => rfl
      | some o => rw [Sa _ _ z] at hCa; cases hCa
    have oa2 : OutAt Hb xs (laterL S t F ns) := oa.keep fun a ys e => Ob _ _ (ne_of_none e hF2) (S2 _ _ e)
    have nCF : F1 ≠ CD := ne_of_none eFa hCa
    clear Ob oa eF eC
    refine ⟨_, rfl, F1, rfl, ⟨_, SqL.of eF1⟩, ?_⟩
    refine for_list (xs := xs) (fun j σ H' => (∃ x3 x6 x7, σ = [some (V.ref q), some (V.ref na), some (V.ref F1), x3, some (V.ref F2), some (V.ref CD), x6, x7]) ∧ (∀ b v, b ≠ CD → Hb b = some v → H' b = some v) ∧ ∃ kvs, H' CD = some (.dT kvs) ∧ kvs.length ≤ j ∧ ∀ n v, valV kvs [.inr n, .inl v] = cvl (frq ((laterL S t F ns).take j) (n, v))) ⟨⟨_, _, _, rfl⟩, fun _ _ _ h => h, [], hC3, Nat.le_refl _, fun n v => rfl⟩ (fun j σ H' _ h => SqL.of (h.2.1 _ _ nCF eF1)) ?_ ?_
    · rintro j x σ Hc hx ⟨⟨z3, z6, z7, rfl⟩, Oc, kvs, eCc, lk, hk⟩
      have lxs := oa2.len
      rw [later_len] at lxs
      have jl : j < xs.length := (List.getElem?_eq_some_iff.mp hx).1
      obtain ⟨n, v, a, rfl, eL, ea⟩ := oa2.at j hx
      have eac : Hc a = some (.tup (([.inr n, .inl v] : List Key).map kV)) := Oc _ _ (fun z => by rw [z, hC3] at ea; cases ea) ea
      refine ⟨_, rfl, CD, rfl, .inr ⟨_, .inl eCc⟩, _, rfl, _, DGet.t eCc eac, _, _, (by rw [hk]; exact cvl_get _), rfl, _, rfl, _, rfl, CD, _, rfl, DPut.t eCc eac (by rw [sizeLine_eq]; omega), ⟨_, _, _, rfl⟩, fun b v n h => by rw [upd_ne n]; exact Oc _ _ n h, _, upd_same, Nat.le_trans (length_putK _ _ _) (by omega), fun n' v' => ?_⟩
      rw [valV_put, List.take_add_one, eL]
      show _ = cvl (frq (_ ++ [(n, v)]) (n', v'))
      rw [frq_snoc]
      by_cases ee : (n, v) = (n', v')
      · cases ee
        rw [if_pos rfl, if_pos rfl]
        unfold cvl
        rw [if_neg (by omega)]
        rfl
      · rw [if_neg ee, if_neg (fun z => ee (by injection z with z1 z2; injection z1 with z1; injection z2 with z2; injection z2 with z2; rw [z1, z2])), Nat.add_zero]
        exact hk n' v'
    rintro σ Hc ⟨⟨z3, z6, z7, rfl⟩, Oc, kvs, eCc, lk, hk⟩
    rw [oa2.len, List.take_length] at hk
    have nC2 : F2 ≠ CD := n2C
    have eF2 := Oc _ _ nC2 eFb
    have ob2 : OutAt Hc ys (dueL ns 10) := ob.keep fun a xs e => Oc _ _ (fun z => by rw [z, hC3] at e; cases e) e
    have S4 : Same H Hc := fun b v h => Oc _ _ (ne_of_none h hCH) (S3 _ _ h)
    refine ⟨_, rfl, F2, rfl, ⟨_, SqL.of eF2⟩, fun G hG => ?_⟩
    refine lc_list (xs := ys) (fun j2 H' => Same Hc H' ∧ H' G = some (.lst [])) ⟨Same.new hG, upd_same⟩ (fun j2 H' _ h => SqL.of (h.1 _ _ eF2)) ?_ ?_
    · rintro j2 x He hx ⟨Se, eG⟩
      obtain ⟨n, v, a, rfl, eL, ea⟩ := ob2.at j2 hx
      refine ⟨rfl, ?_⟩
      refine ⟨_, rfl, CD, rfl, .inr ⟨_, .inl (Se _ _ eCc)⟩, _, rfl, _, DGet.t (k := [.inr n, .inl v]) (Se _ _ eCc) (Se _ _ ea), ?_⟩
      rw [hk, cvl_get]
      obtain ⟨hn, hv⟩ := dueL_mem (List.mem_of_getElem? eL)
      rw [frq_one g fok fin pm hn hv]
      refine ⟨rfl, _, rfl, ?_⟩
      rw [show (!decide (V.int ((1 : Nat) : Int) = V.int 1)) = false from rfl]
      exact iteF ⟨Se, eG⟩
    · rintro He ⟨Se, eG⟩
      refine ⟨by rw [sizeLine_eq]; simp, fun G2 hG2 => ?_⟩
      have S5 := Same.new (o := .lst []) hG2
      refine ⟨.list [], .list [], .lst (SqL.of (S5 _ _ eG)) .nil, .lst (SqL.of upd_same) .nil, by decide +kernel, by decide +kernel, ?_⟩
      rw [show PyData.eqv (.list []) (.list []) = true by decide +kernel]
      exact k _ (Same.trans (Same.trans S4 Se) S5)
end
end K44
namespace K44
open PySem L2
open PyProof.Rows PySem.Spec
/-- pairs as data -/
def qD (q : Str × Int) : PyData := .tuple [.str q.1, .int q.2]
def outD (L : List (Str × Int)) : PyData := .list (L.map qD)
theorem out_dss {K : PySem.W.Frag} {H : Hp} : ∀ {xs : List V} {L : List (Str × Int)}, OutAt H xs L → RL.DSs K H xs (L.map qD)
  | _, _, .nil => .nil
  | _, _, .cons ⟨a, e, q⟩ t => .cons (by rw [e]; exact .tup (SqT.of q) (.cons (.str _) (.cons (.int _) .nil))) (out_dss t)
theorem q_dp {K : PySem.W.Frag} {H : Hp} {a : Addr} {q : Str × Int} (h : H a = some (.tup [.str q.1, .int q.2])) : Dp K H (.ref a) (qD q) := .tup (SqT.of h) (.cons (.str _) (.cons (.int _) .nil))
theorem out_dpa {K : PySem.W.Frag} {H : Hp} : ∀ {xs : List V} {L : List (Str × Int)}, OutAt H xs L → DpAll K H xs (L.map qD)
  | _, _, .nil => .nil
  | _, _, .cons ⟨a, e, q⟩ t => .cons (by rw [e]; exact q_dp q) (out_dpa t)
theorem q_lay {q : Str × Int} (h : nmC q.1 = true) : (qD q).canLay0 = true := by
  simp [qD, PyData.canLay0, PyData.canLayAll0, nm_ok h]
theorem outs_lay : ∀ {L : List (Str × Int)}, (∀ q ∈ L, nmC q.1 = true) → PyData.canLayAll0 (L.map qD) = true
  | [], _ => rfl
  | q :: L, h => by
    rw [List.map_cons, PyData.canLayAll0, q_lay (h q List.mem_cons_self), outs_lay fun x hx => h x (List.mem_cons_of_mem _ hx)]
    rfl
theorem outs_dep : ∀ L : List (Str × Int), PyData.depthAll (L.map qD) ≤ 1
  | [] => by simp [PyData.depthAll]
  | q :: L => by
    have := outs_dep L
    simp only [List.map_cons, PyData.depthAll, qD, PyData.depth]
    omega
theorem shaped_out {L : List (Str × Int)} (h : ∀ q ∈ L, nmC q.1 = true) : SeqAt.shaped (outD L) = true := by
  have h1 := outs_lay h
  have h2 := outs_dep L
  unfold SeqAt.shaped outD
  rw [Bool.and_eq_true, decide_eq_true_eq]
  refine ⟨by simpa [PyData.canLay0] using h1, ?_⟩
  simp only [PyData.depth]
  omega
theorem shaped_q {q : Str × Int} (h : nmC q.1 = true) : SeqAt.shaped (qD q) = true := by
  unfold SeqAt.shaped
  rw [Bool.and_eq_true, decide_eq_true_eq]
  refine ⟨q_lay h, ?_⟩
  simp [qD, PyData.depth, PyData.depthAll]
theorem eqv_out {L : List (Str × Int)} (h : ∀ q ∈ L, nmC q.1 = true) : PyData.eqv (outD L) (outD L) = true := by
  have := shaped_out h
  unfold SeqAt.shaped at this
  rw [Bool.and_eq_true] at this
  exact PySem.SeqAt.eqv_refl _ this.1
theorem eqv_q (a b : Str × Int) : PyData.eqv (qD a) (qD b) = decide (a = b) := by
  obtain ⟨n, v⟩ := a
  obtain ⟨m, u⟩ := b
  rw [Bool.eq_iff_iff]
  simp [qD, PyData.eqv, PyData.eqvAll]
theorem any_q (L : List (Str × Int)) (q : Str × Int) : ((L.map qD).any fun z => PyData.eqv z (qD q)) = decide (q ∈ L) := by
  induction L with
  | nil => simp
  | cons a L ih =>
    rw [List.map_cons, List.any_cons, ih, eqv_q, Bool.eq_iff_iff]
    simp only [Bool.or_eq_true, decide_eq_true_eq, List.mem_cons]
    exact or_congr_left eq_comm
theorem TD.out {L : List (Str × Int)} (h : ∀ q ∈ L, nmC q.1 = true) (hv : ∀ q ∈ L, -999999999999 ≤ q.2 ∧ q.2 ≤ 999999999999) : TD 2 (outD L) (11 * L.length) := by
  refine TD.list (TLs.mapd fun q hq => ?_)
  exact TD.tup (TLs.cons (TD.name (h q hq)) (TLs.cons (TD.int (hv q hq).1 (hv q hq).2) TLs.nil))
theorem each_names {t i : Int} {S : Rws} {q : Str × Int} (h : q ∈ eachL t i S) : q.1 ∈ S.map (·.1) := by
  unfold eachL turnsOf at h
  obtain ⟨r, hr, h2⟩ := List.mem_flatMap.mp h
  obtain ⟨s, _, rfl⟩ := List.mem_map.mp h2
  exact List.mem_map.mpr ⟨r, hr, rfl⟩
theorem each_nm {t i : Int} {S : Rws} (g : Good t S) : ∀ q ∈ eachL t i S, nmC q.1 = true := fun q h => by
  obtain ⟨r, hr, e⟩ := List.mem_map.mp (each_names h)
  rw [← e]
  exact g.nm r hr
theorem each_len {t i : Int} (ht : 0 < t) : ∀ {S : Rws}, (∀ x ∈ S, SpOk t x) → (eachL t i S).length ≤ 8 * S.length
  | [], _ => Nat.le_refl _
  | r :: S, h => by
    have ih := each_len ht (i := i) fun x hx => h x (List.mem_cons_of_mem _ hx)
    have h1 := h r List.mem_cons_self
    unfold SpOk at h1
    have m8 := alv_le (t := t) (b := r.2.1) (e := r.2.2) (s := i % t) ht (by omega)
    have e : eachL t i (r :: S) = turnsOf t i r ++ eachL t i S := by unfold eachL; rw [List.flatMap_cons]
    rw [e, List.length_append, List.length_cons]
    unfold turnsOf
    rw [List.length_map, List.length_range]
    omega
end K44
namespace K44
open PySem L2
open PyProof.Rows PySem.Spec
theorem rising_of : ∀ (p : Str) (l : List Str), (∀ y ∈ l, ltCps y.cps.toList p.cps.toList = false) → l.Pairwise (fun a b => ltCps b.cps.toList a.cps.toList = false) → risingS p l = true
  | p, [], _, _ => rfl
  | p, x :: r, h, q => by
    obtain ⟨q1, q2⟩ := List.pairwise_cons.mp q
    show (!ltCps x.cps.toList p.cps.toList && risingS x r) = true
    rw [h x List.mem_cons_self, rising_of x r q1 q2]
    rfl
theorem sorted_of {l : List Str} (q : l.Pairwise fun a b => ltCps b.cps.toList a.cps.toList = false) : sortedS l = true := by
  cases l with
  | nil => rfl
  | cons x r =>
    obtain ⟨q1, q2⟩ := List.pairwise_cons.mp q
    exact rising_of x r q1 q2
theorem sort_ex (ns : List Str) : ∃ ys : List Str, ys.Perm ns ∧ sortedS ys = true := by
  refine ⟨ns.mergeSort fun a b => !ltCps b.cps.toList a.cps.toList, List.mergeSort_perm _ _, sorted_of ?_⟩
  refine (List.pairwise_mergeSort (le := fun a b : Str => !ltCps b.cps.toList a.cps.toList) (fun a b c h1 h2 => ?_) (fun a b => ?_) ns).imp fun {a b} h => by simpa using h
  · simp only [Bool.not_eq_true', ltCps_eq, decide_eq_false_iff_not] at h1 h2 ⊢
    exact List.not_lt.mpr (List.le_trans (List.not_lt.mp h1) (List.not_lt.mp h2))
  · simp only [Bool.or_eq_true, Bool.not_eq_true', ltCps_eq, decide_eq_false_iff_not]
    rcases List.le_total a.cps.toList b.cps.toList with h | h
    · exact .inl (List.not_lt.mpr h)
    · exact .inr (List.not_lt.mpr h)
theorem srd_ex {R : Rws} (nd : (R.map (·.1)).Nodup) : ∃ S, Srd R S := by
  obtain ⟨ys, p, s⟩ := sort_ex (R.map (·.1))
  exact ⟨pickR R ys, pickR_perm nd p, by rw [pickR_names]; exact s⟩
theorem good_rows {t : Int} {R : Rws} {ns : List Str} (pm : (R.map (·.1)).Perm ns) (nd : ns.Nodup) (l1 : 1 ≤ ns.length) (l8 : ns.length ≤ 8) (nm : ∀ n ∈ ns, nmC n = true) (t1 : 1 ≤ t) (t2 : t ≤ 32) (fin : ∀ x ∈ R, SpOk t x ∧ Fin1 t x) : Good t R := by
  have e := pm.length_eq
  rw [List.length_map] at e
  refine ⟨pm.nodup_iff.mpr nd, by omega, by omega, fun x hx => nm _ (pm.mem_iff.mp (List.mem_map.mpr ⟨x, hx, rfl⟩)), fun x hx => (fin x hx).1, fun x hx => ?_, t1, t2⟩
  have := (fin x hx).2.1
  unfold Near at *
  omega
theorem mk_same {H H' : Hp} {p dx : Addr} {o : HO} (hp : H p = none) (hd : H dx = none) (n : dx ≠ p) (B : But p (upd (upd H dx (.own p)) p o) H') : Same H H' := fun b u e => by
  have n1 : b ≠ p := ne_of_none e hp
  refine B b u n1 ?_
  rw [upd_ne n1, upd_ne (ne_of_none e hd)]
  exact e
end K44
/-! a generator whose values, pairs of a text and an int, are walked by a list comprehension: the list stands at D, the block's names at C; each value is made into a new tuple, its int raised by k -/
namespace GC2
open PySem PySem.Spec PyProof.Rows GenW L2
/-- the object of a tuple of a text and an int -/
def Tob (n : Str) (v : Int) (o : Obj) : Prop := o.cls = .type "tuple" ∧ ∃ t1 t2 m, o.data = .seq #[Value.str n t1, Value.int v t2] m
/-- while the generator sleeps, a new tuple is put behind the list, and the block's names change -/
structure Slp (D C : Addr) (n : Str) (v : Int) (s s' : Shared) : Prop where
  os : s'.os = s.os
  bare : AllBare s'.gens
  keep : ∀ b o, b ≠ D → b ≠ C → s.heap.get? b = some o → s'.heap.get? b = some o
  own : ∀ acc c, s.heap.get? D = some (lstObj acc c) → ∃ c' q oq, s'.heap.get? D = some (lstObj (acc.push (.ref q)) c') ∧ s.heap.get? q = none ∧ C < q ∧ s'.heap.get? q = some oq ∧ Tob n v oq
  env : ∃ oC, s'.heap.get? C = some oC ∧ ∀ x, oC.data ≠ .cell x
/-- the objects of the consumer: its list, its names, its tuples so far -/
def Pp (D C : Addr) (L : List (Str × Int)) (k : Int) (j : Nat) (pp : List (Addr × Obj)) : Prop :=
  ∃ acc c oC pt, pp = (D, lstObj acc c) :: (C, oC) :: pt ∧ acc.toList = pt.map (fun p => Value.ref p.1) ∧ (∀ x, oC.data ≠ .cell x) ∧ Paired (fun (q : Str × Int) (p : Addr × Obj) => Tob q.1 (q.2 + k) p.2) (L.take j) pt ∧ (∀ p ∈ pt, p.1 ≠ D ∧ p.1 ≠ C) ∧ pt.length = j ∧ (pt.map (·.1)).Nodup
/-- away from what the generator uses -/
def Far (X : Cx) (ip : List (Addr × Obj)) (b : Addr) : Prop := (∀ r ∈ X.pn ++ ip, r.1 ≠ b) ∧ X.s_0.heap.objs.size ≤ b ∧ b ≠ X.env.locals ∧ ∀ x c, X.env.cells.lookup x = some c → c ≠ b
/-- what all of it is about -/
structure Ct where
  D : Addr
  C : Addr
  L : List (Str × Int)
  k : Int
def GI2 (X : Cx) (T : Ct) (s₀ : Shared) (ip : List (Addr × Obj)) (ys : List V) (σ : L2.St) (H : Hp) (s : Shared) : Prop :=
  ∃ pp, Pp T.D T.C T.L T.k ys.length pp ∧ (∀ p ∈ pp, Far X ip p.1) ∧ (∀ p ∈ pp, s₀.heap.get? p.1 = some p.2) ∧ Inv X (pp ++ ip) σ H s
theorem Tob.nocell {n : Str} {v : Int} {o : Obj} (h : Tob n v o) : ∀ x, o.data ≠ .cell x := fun x e => by
  obtain ⟨_, t1, t2, m, z⟩ := h
  rw [z] at e
  cases e
theorem paired_snoc {α β : Type} {F : α → β → Prop} {a : α} {b : β} (h : F a b) : ∀ {xs : List α} {ys : List β}, Paired F xs ys → Paired F (xs ++ [a]) (ys ++ [b])
  | _, _, .nil => .cons h .nil
  | _, _, .cons q t => .cons q (paired_snoc h t)
/-- woken again -/
theorem GI2.woken {X : Cx} {T : Ct} {s₀ s s' : Shared} {ip : List (Addr × Obj)} {ys : List V} {x : V} {σ : L2.St} {H : Hp} {n : Str} {v : Int} (h : GI2 X T s₀ ip ys σ H s) (hx : T.L[ys.length]? = some (n, v)) (z : Slp T.D T.C n (v + T.k) s s') :
    GI2 X T s' ip (ys ++ [x]) σ H s' := by
  obtain ⟨pp, ⟨acc, c, oC, pt, rfl, ea, hC, hp, hne, hl, hnd⟩, far, _, I⟩ := h
  obtain ⟨z1, z2, z3, z4, oC', eC', hC'⟩ := z
  have pinD := I.pin (T.D, lstObj acc c) (List.mem_append_right _ List.mem_cons_self)
  have pinC := I.pin (T.C, oC) (List.mem_append_right _ (List.mem_cons_of_mem _ List.mem_cons_self))
  obtain ⟨c', q, oq, eD', hq, hCq, eq', hT⟩ := z4 acc c pinD.1
  have nq : ∀ {b : Addr} {o : Obj}, s.heap.get? b = some o → q ≠ b := fun e w => by rw [w, e] at hq; cases hq
  have nDq : q ≠ T.D := nq pinD.1
  have nCq : q ≠ T.C := nq pinC.1
  have farD := far _ (List.mem_cons_self (a := (T.D, lstObj acc c)))
  have farC := far (T.C, oC) (List.mem_cons_of_mem _ List.mem_cons_self)
  have pinT : ∀ p ∈ pt ++ ip, s.heap.get? p.1 = some p.2 ∧ H p.1 = none ∧ p.1 ≠ X.env.locals ∧ p.1 ∉ X.fs ∧ ∀ v, p.2.data ≠ .cell v := fun p hp => I.pin p (List.mem_append_right _ (List.mem_cons_of_mem _ (List.mem_cons_of_mem _ hp)))
  have I0 : Inv X (pt ++ ip) σ H s := I.pins_of pinT
  have fq : FpOk X (pt ++ ip) H q := by
    refine ⟨I.hok.gone hq, ?_, fun hb => ?_, .inr (Nat.le_trans farC.2.1 (Nat.le_of_lt hCq)), fun x c e z => ?_, fun p hp z => nq (I0.pin p hp).1 z.symm⟩
    · obtain ⟨m, ⟨o, _, _, e, _⟩, _⟩ := I.loc
      exact nq e
    · obtain ⟨_, o, e, _⟩ := I.funs.mem hb
      exact nq e rfl
    · obtain ⟨v, o, e2, _⟩ := I.cell x c e
      exact nq e2 z.symm
  have nD : ∀ b u, H b = some u → b ≠ T.D := fun b u e w => by rw [w, pinD.2.1] at e; cases e
  have nC : ∀ b u, H b = some u → b ≠ T.C := fun b u e w => by rw [w, pinC.2.1] at e; cases e
  obtain ⟨hh, g, d, t, o⟩ := s'
  have ho : o = s.os := z1
  subst ho
  have nch : ∀ b, b ∉ [T.D, T.C] → b ≠ T.D ∧ b ≠ T.C := fun b hb => ⟨fun e => hb (by rw [e]; exact List.mem_cons_self), fun e => hb (by rw [e]; exact List.mem_cons_of_mem _ List.mem_cons_self)⟩
  have kp : ∀ b ob, b ∉ [T.D, T.C] → s.heap.get? b = some ob → hh.get? b = some ob := fun b ob hb e => z3 b ob (nch b hb).1 (nch b hb).2 e
  have J : Inv X (pt ++ ip) σ H { s with heap := hh, gens := g, drawn := d, toks := t } := by
    refine I0.step (g' := g) (t' := t) (d' := d) (ch := [T.D, T.C]) (fun b hb => ?_)
      (fun b ob _ _ hc q _ => kp b ob hc q) (fun b ob _ _ hc q _ => ⟨ob.slots, kp b ob hc q⟩) (fun _ _ _ _ n => n) (fun b ob hc q => ⟨ob, kp b ob hc q⟩)
      (fun _ _ q => q) (fun _ _ _ q => q) (fun b ps q =>
                                                         ⟨#[], by rw [q]; simp⟩) (fun m hm => ?_) (fun b u q => ?_) z2
    · have pts : ∀ p ∈ pt ++ ip, p.1 ≠ b := fun p hp w => by
        rcases List.mem_append.mp hp with hp | hp
        · rcases List.mem_cons.mp hb with e | e
          · exact (hne p hp).1 (w.trans e)
          · exact (hne p hp).2 (w.trans (List.mem_singleton.mp e))
        · rcases List.mem_cons.mp hb with e | e
          · exact farD.1 p (List.mem_append_right _ hp) (w.trans e)
          · exact farC.1 p (List.mem_append_right _ hp) (w.trans (List.mem_singleton.mp e))
      have pns : ∀ p ∈ X.pn, p.1 ≠ b := fun p hp w => by
        rcases List.mem_cons.mp hb with e | e
        · exact farD.1 p (List.mem_append_left _ hp) (w.trans e)
        · exact farC.1 p (List.mem_append_left _ hp) (w.trans (List.mem_singleton.mp e))
      have fb : X.s_0.heap.objs.size ≤ b ∧ b ≠ X.env.locals ∧ ∀ x c, X.env.cells.lookup x = some c → c ≠ b := by
        rcases List.mem_cons.mp hb with e | e
        · rw [e]; exact farD.2
        · rw [List.mem_singleton.mp e]; exact farC.2
      exact ⟨.inr fb.1, fb.2.1, fb.2.2, fun p hp => (List.mem_append.mp hp).elim (pns p) (pts p)⟩
    · obtain ⟨ob, es, ep, ho, r⟩ := hm
      exact ⟨ob, es, ep, kp _ ob (fun hb => by
        rcases List.mem_cons.mp hb with e | e
        · exact farD.2.2.1 e.symm
        · exact farC.2.2.1 (List.mem_singleton.mp e).symm) ho, r⟩
    · refine (I0.hok b u q).stay (fun c v hc y => z3 c v ?_ ?_ y) (fun _ y => y) fun _ _ y => y
      · rcases hc with y | y
        · rw [y]; exact nD b u q
        · exact nD c _ y
      · rcases hc with y | y
        · rw [y]; exact nC b u q
        · exact nC c _ y
  refine ⟨(T.D, lstObj (acc.push (.ref q)) c') :: (T.C, oC') :: (pt ++ [(q, oq)]), ⟨acc.push (.ref q), c', oC', pt ++ [(q, oq)], rfl, ?_, hC', ?_, ?_, ?_, ?_⟩, ?_, ?_, J.pins_of ?_⟩
  · rw [Array.toList_push, ea, List.map_append]
    rfl
  · rw [List.length_append, List.length_singleton, List.take_add_one, hx]
    exact paired_snoc (a := (n, v)) (b := (q, oq)) hT hp
  · intro p hp
    rcases List.mem_append.mp hp with hp | hp
    · exact hne p hp
    · rw [List.mem_singleton.mp hp]; exact ⟨nDq, nCq⟩
  · rw [List.length_append, List.length_append, hl]; rfl
  · rw [List.map_append, List.nodup_append]
    refine ⟨hnd, by simp, fun a ha b hb => ?_⟩
    rw [List.map_cons, List.map_nil, List.mem_singleton] at hb
    obtain ⟨p, hp2, rfl⟩ := List.mem_map.mp ha
    rw [hb]
    exact fun z => nq (I0.pin p (List.mem_append_right _ (List.mem_append_left _ hp2))).1 z.symm
  · intro p hp
    rcases List.mem_cons.mp hp with e | hp
    · rw [e]; exact farD
    rcases List.mem_cons.mp hp with e | hp
    · rw [e]; exact farC
    rcases List.mem_append.mp hp with hp | hp
    · exact far p (List.mem_cons_of_mem _ (List.mem_cons_of_mem _ hp))
    · rw [List.mem_singleton.mp hp]
      obtain ⟨f0, f1, f2, f3, f4, f5⟩ := fq
      refine ⟨fun r hr => ?_, Nat.le_trans farC.2.1 (Nat.le_of_lt hCq), f1, f4⟩
      rcases List.mem_append.mp hr with hr | hr
      · exact f5 r (List.mem_append_left _ hr)
      · exact f5 r (List.mem_append_right _ (List.mem_append_right _ hr))
  · intro p hp
    rcases List.mem_cons.mp hp with e | hp
    · rw [e]; exact eD'
    rcases List.mem_cons.mp hp with e | hp
    · rw [e]; exact eC'
    rcases List.mem_append.mp hp with hp | hp
    · exact (J.pin p (List.mem_append_right _ (List.mem_append_left _ hp))).1
    · rw [List.mem_singleton.mp hp]; exact eq'
  · intro p hp
    rcases List.mem_cons.mp hp with e | hp
    · rw [e]; exact ⟨eD', pinD.2.1, pinD.2.2.1, pinD.2.2.2.1, fun v q => by cases q⟩
    rcases List.mem_cons.mp hp with e | hp
    · rw [e]; exact ⟨eC', pinC.2.1, pinC.2.2.1, pinC.2.2.2.1, hC'⟩
    rcases List.mem_append.mp hp with hp | hp
    · rcases List.mem_append.mp hp with hp | hp
      · exact J.pin p (List.mem_append_right _ (List.mem_append_left _ hp))
      · rw [List.mem_singleton.mp hp]
        exact ⟨eq', fq.1, fq.2.1, fq.2.2.1, hT.nocell⟩
    · exact J.pin p (List.mem_append_right _ (List.mem_append_right _ hp))
end GC2
namespace GC2
open PySem PySem.Spec PyProof.Rows GenW L2
/-- what is handed out and when it goes on -/
def GY2 (X : Cx) (T : Ct) : Protocol := fun m s₀ v s kap =>
  ∃ ys x ip σ H a n i, m + 1 + ys.length = sizeLine ∧ RelV x v ∧ x = .ref a ∧ T.L[ys.length]? = some (n, i) ∧ H a = some (.tup [.str n, .int i]) ∧ GI2 X T s₀ ip ys σ H s ∧ ∀ s', Slp T.D T.C n (i + T.k) s s' → kap (.send .none) s'
def GR2 (X : Cx) (T : Ct) (Q : List V → VK) (F : Value → Shared → Prop) : GenEnd := fun n s₀ r s => match r with
  | .ok (.ret u) => ∃ ys v ip σ H, n + ys.length = sizeLine ∧ GI2 X T s₀ ip ys σ H s ∧ RelV v u ∧ Q ys v H
  | .ok _ => False
  | .error e => F e s
def GSP2 (X : Cx) (T : Ct) (s₀ : Shared) (ip : List (Addr × Obj)) (D : GEnds) (ys : List V) (f : Flow) (s : Shared) : Prop :=
  match f with
  | .next => ∃ σ H, GI2 X T s₀ ip ys σ H s ∧ D.nx ys σ H
  | .brk => ∃ σ H, GI2 X T s₀ ip ys σ H s ∧ D.bk ys σ H
  | .cont => ∃ σ H, GI2 X T s₀ ip ys σ H s ∧ D.ct ys σ H
  | .ret u => ∃ v σ H, GI2 X T s₀ ip ys σ H s ∧ RelV v u ∧ D.rt ys v H
/-- the place in the generator's code -/
structure At2 (X : Cx) (A : Around) (c : Code) (fs : List Frame) (gd : Bool → Bool) : Prop where
  over : A.over c fs = X.A
  split : splitAtGen fs = none
  guard : fs.any Frame.guarded = false
  gd : gd false = false
/-- the rest of the generator's run -/
structure Go2 (X : Cx) (T : Ct) (ip : List (Addr × Obj)) (A : Around) (R : GenEnd) (c : Code) (fs : List Frame) (K : Flow → Sem PySem.Fin) (J : Value → Sem PySem.Fin) (D : GEnds) : Prop where
  ok : ∀ (n : Nat) (ys : List V) (s₀ s : Shared) (f : Flow), n + ys.length = sizeLine → GSP2 X T s₀ ip D ys f s → Seg (model X.prog X.w) A R (GY2 X T) n s₀ c (K f) fs s
  exc : ∀ (n : Nat) (s₀ : Shared) (e : Value) (s : Shared), X.xe e s → Seg (model X.prog X.w) A R (GY2 X T) n s₀ c (J e) fs s
structure Gs2 (X : Cx) (T : Ct) (st : Stmt) (t : TGn) : Prop where
  run : ∀ (A : Around) (ip : List (Addr × Obj)) (R : GenEnd) (n : Nat) (ys : List V) (s₀ : Shared) (c : Code) (fs : List Frame) (K : Flow → Sem PySem.Fin) (J : Value → Sem PySem.Fin) (gd : Bool → Bool) (lv : List Value → List Value) (s : Shared) (σ : L2.St) (H : Hp) (D : GEnds),
    At2 X A c fs gd → n + ys.length = sizeLine → Go2 X T ip A R c fs K J D → GI2 X T s₀ ip ys σ H s → t D ys σ H →
    Seg (model X.prog X.w) A R (GY2 X T) n s₀ c ((exec st X.env).wrap K J gd lv) fs s
structure Gss2 (X : Cx) (T : Ct) (st : List Stmt) (t : TGn) : Prop where
  run : ∀ (A : Around) (ip : List (Addr × Obj)) (R : GenEnd) (n : Nat) (ys : List V) (s₀ : Shared) (c : Code) (fs : List Frame) (K : Flow → Sem PySem.Fin) (J : Value → Sem PySem.Fin) (gd : Bool → Bool) (lv : List Value → List Value) (s : Shared) (σ : L2.St) (H : Hp) (D : GEnds),
    At2 X A c fs gd → n + ys.length = sizeLine → Go2 X T ip A R c fs K J D → GI2 X T s₀ ip ys σ H s → t D ys σ H →
    Seg (model X.prog X.w) A R (GY2 X T) n s₀ c ((execs st X.env).wrap K J gd lv) fs s
section
variable {X : Cx} {T : Ct} {st : Stmt} {rest : List Stmt}
theorem s2_plain {t : TS} (h : PS X st t) : Gs2 X T st (tPlain t) := by
  constructor
  intro A ip R n ys s₀ c fs K J gd lv s σ H D g hn k hI ht
  obtain ⟨pp, hp, far, ag, I⟩ := hI
  refine seg_wrap ?_
  rw [g.over]
  refine wpAny_mono (h.run _ s σ H (D.at ys) I ht) (fun f s' hs => k.ok n ys s₀ s' f hn ?_) fun x s' hx => k.exc n s₀ x s' hx
  cases f with
  | next =>
    obtain ⟨σ', H', I', q⟩ := hs
    exact ⟨σ', H', ⟨pp, hp, far, ag, I'⟩, q⟩
  | brk =>
    obtain ⟨σ', H', I', q⟩ := hs
    exact ⟨σ', H', ⟨pp, hp, far, ag, I'⟩, q⟩
  | cont =>
    obtain ⟨σ', H', I', q⟩ := hs
    exact ⟨σ', H', ⟨pp, hp, far, ag, I'⟩, q⟩
  | ret u =>
    obtain ⟨v, σ', H', I', r1, q⟩ := hs
    exact ⟨v, σ', H', ⟨pp, hp, far, ag, I'⟩, r1, q⟩
theorem s2_nil : Gss2 X T [] tG0 := ⟨fun A ip R n ys s₀ c fs K J gd lv s σ H D g hn k hI ht => seg_execs_nil (k.ok n ys s₀ s .next hn ⟨σ, H, hI, ht⟩)⟩
theorem s2_cons {t u : TGn} (a : Gs2 X T st t) (b : Gss2 X T rest u) : Gss2 X T (st :: rest) (tGThen t u) := by
  constructor
  intro A ip R n ys s₀ c fs K J gd lv s σ H D g hn k hI ht
  refine seg_execs_cons (a.run A ip R n ys s₀ c fs _ J gd lv s σ H { D with nx := fun ys' σ' H' => u D ys' σ' H' } g hn ⟨?_, k.exc⟩ hI ht)
  intro m zs s₁ s' f hm hs
  cases f with
  | next =>
    obtain ⟨σ', H', I', q⟩ := hs
    exact b.run A ip R m zs s₁ c fs K J gd lv s' σ' H' D g hm k I' q
  | brk => exact k.ok m zs s₁ s' .brk hm hs
  | cont => exact k.ok m zs s₁ s' .cont hm hs
  | ret u => exact k.ok m zs s₁ s' (.ret u) hm hs
/-- a value is handed out: the tuple that is due -/
def tGOut (T : Ct) (te : TE) : TGn := fun D ys σ H => ys.length < sizeLine ∧ te σ H fun x H1 => (∃ a n i, x = .ref a ∧ T.L[ys.length]? = some (n, i) ∧ H1 a = some (.tup [.str n, .int i])) ∧ D.nx (ys ++ [x]) σ H1
theorem s2_yield {e : Expr} {yp pos : Pos} {te : TE} (he : PE X e te) (hco : X.env.scope.isCoroutine = false := by rfl) (hi : interactive X.env = false := by rfl) : Gs2 X T (.Expr (.Yield (some e) yp) pos) (tGOut T te) := by
  constructor
  intro A ip R n ys s₀ c fs K J gd lv s σ H D g hn k hI ht
  obtain ⟨hlt, ht⟩ := ht
  obtain ⟨m, rfl⟩ : ∃ m, n = m + 1 := ⟨n - 1, by omega⟩
  obtain ⟨pp, hp, far, ag, I⟩ := hI
  refine seg_Expr_Yield g.split g.gd g.guard ?_ hco hi
  rw [g.over]
  refine wpAny_mono (he.run _ s σ H _ I ht)
                                            (fun v s' hv => ?_) fun x s' hx => k.exc _ s₀ x s' hx
  obtain ⟨x, H1, I1, rv, ⟨a, nm, i, ex, hL, ha⟩, q⟩ := hv
  have G1 : GI2 X T s₀ ip ys σ H1 s' := ⟨pp, hp, far, ag, I1⟩
  intro kap hk
  refine ⟨ys, x, ip, σ, H1, a, nm, i, hn, rv, ex, hL, ha, G1, fun s'' z => hk .none s'' ?_⟩
  refine k.ok m (ys ++ [x]) s'' s'' .next ?_ ⟨σ, H1, G1.woken hL z, q⟩
  rw [List.length_append, List.length_singleton]
  omega
theorem s2_lock {t : TGn} (h : Gs2 X T st t) : Gs2 X T st (tGLock t) := by
  constructor
  intro A ip R n ys s₀ c fs K J gd lv s σ H D g hn k hI ht
  obtain ⟨d, u, hd, mu, hw⟩ := ht
  obtain ⟨pp, hp, far, ag, I⟩ := hI
  obtain ⟨od, I1⟩ := I.lock hd mu
  refine h.run A ip R n ys s₀ c fs K J gd lv s σ _ _ g hn ⟨fun m zs s₁ s' f hm hs => k.ok m zs s₁ s' f hm ?_, k.exc⟩ ⟨pp, hp, far, ag, I1⟩ (hw od)
  have un : ∀ {σ' : L2.St} {H' : Hp}, GI2 X T s₁ ip zs σ' H' s' → H' d = some (.frz od u) → GI2 X T s₁ ip zs σ' (upd H' d u) s' := fun {σ' H'} g2 e => by
    obtain ⟨pp', hp', far', ag', I'⟩ := g2
    exact ⟨pp', hp', far', ag', I'.unlock e (I.nofrz hd mu)⟩
  cases f with
  | next =>
    obtain ⟨σ', H', g2, e, q⟩ := hs
    exact ⟨σ', _, un g2 e, q⟩
  | brk =>
    obtain ⟨σ', H', g2, e, q⟩ := hs
    exact ⟨σ', _, un g2 e, q⟩
  | cont =>
    obtain ⟨σ', H', g2, e, q⟩ := hs
    exact ⟨σ', _, un g2 e, q⟩
  | ret v =>
    obtain ⟨x, σ', H', g2, r3, e, q⟩ := hs
    exact ⟨x, σ', _, un g2 e, r3, q⟩
theorem at2_loop {A : Around} {c c' : Code} {fs : List Frame} {gd : Bool → Bool} {k : Result → Sem PySem.Fin} {l kp : List Value} {p : Pos} (g : At2 X A c fs gd) (hw : c'.weight = 0) (hu : c'.cUnits = 0) :
    At2 X A c' (.ret k none (gd false) l c p kp :: fs) id := by
  refine ⟨(over_loop hw hu).trans g.over, ?_, ?_, rfl⟩
  · show (splitAtGen fs).map _ = none
    rw [g.split]
    rfl
  · show (gd false || fs.any Frame.guarded) = false
    rw [g.gd, g.guard]
    rfl
theorem seg_back2 {ip : List (Addr × Obj)} {A : Around} {R : GenEnd} {c : Code} {fs : List Frame} {K : Flow → Sem PySem.Fin} {J : Value → Sem PySem.Fin} {gd : Bool → Bool} {lv : List Value → List Value} {D : GEnds} {n : Nat} {s₀ s : Shared} {e : Value}
    (g : At2 X A c fs gd) (k : Go2 X T ip A R c fs K J D) (h : cameBackBy (model X.prog X.w) X.A X.env X.xe e s) :
    Seg (model X.prog X.w) A R (GY2 X T) n s₀ c (((Sem.raise e : Sem Flow).onRaise (cameBack X.env)).wrap K J gd lv) fs s := by
  show Seg _ _ _ _ _ _ _ (((cameBack X.env e).bind fun _ =>
                                                            (Sem.raise e : Sem Flow)).wrap K J gd lv) _ _
  rw [Sem.bind_eq_wrap, Sem.wrap_wrap]
  refine seg_wrap ?_
  rw [g.over]
  exact wpAny_mono h
                     (fun _ s' hx => k.exc n s₀ e s' hx) fun x s' hx => k.exc n s₀ x s' hx
theorem s2_for {tg iter : Expr} {body : List Stmt} {wi : TI} {g : TG} {tb : TGn} {pos : Pos} (hp : PassesOwn (model X.prog X.w) X.A X.env X.xe) (hc : X.calm = true) (hi : PI X tg iter wi) (hg : PG X tg g) (hb : Gss2 X T body tb)
    (hs : ∀ x, foldedSetIterable iter X.env x = pure x := by intro _; rfl) : Gs2 X T (.For tg iter body [] pos) (tGFor wi g tb) := by
  constructor
  intro A ip R n ys s₀ c fs K J gd lv s σ H D g' hn k hI ht
  obtain ⟨pp0, hp0, far0, ag0, I⟩ := hI
  refine seg_ForG ?_ hs
  rw [g'.over]
  refine wpAny_mono (hi.run _ s σ H _ I ht) (fun v s1 h1 => wpAny_mono h1 (fun itv s2 h2 => ?_) fun x s' hx => k.exc n s₀ x s' hx) fun x s' hx => k.exc n s₀ x s' hx
  obtain ⟨it, fp, tn, JJ, H2, e, I2, Tu, st2, f2, W, ⟨m0, w0⟩, turn⟩ := h2
  subst e
  intro p
  have f2ip : ∀ b ∈ fp, ∀ q ∈ X.pn ++ ip, q.1 ≠ b := fun b hb q hq => by
    obtain ⟨_, _, _, _, _, a5⟩ := f2 b hb
    rcases List.mem_append.mp hq with hq | hq
    · exact a5 q (List.mem_append_left _ hq)
    · exact a5 q (List.mem_append_right _ (List.mem_append_right _ hq))
  have f2pp : ∀ b ∈ fp, ∀ q ∈ pp0, q.1 ≠ b := fun b hb q hq => by
    obtain ⟨_, _, _, _, _, a5⟩ := f2 b hb
    exact a5 q (List.mem_append_right _ (List.mem_append_left _ hq))
  have stat : ∀ {pp : List (Addr × Obj)} {H' : Hp}, (∀ q ∈ pp, ∀ b ∈ fp, q.1 ≠ b) → (∀ b ∈ fp, H' b = none) → ∀ b ∈ fp, FpOk X (pp ++ ip) H' b := fun {pp H'} hq' hn b hb => by
    obtain ⟨a0, a1, a2, a3, a4, _⟩ := f2 b hb
    refine ⟨hn b hb, a1, a2, a3, a4, fun q hq => ?_⟩
    rcases List.mem_append.mp hq with hq | hq
    · exact f2ip b hb q (List.mem_append_left _ hq)
    rcases List.mem_append.mp hq with hq | hq
    · exact hq' q hq b hb
    · exact f2ip b hb q (List.mem_append_right _ hq)
  have gl := fun (kk : Result → Sem PySem.Fin) => at2_loop (k := kk) (c' := .forLoop tg (.ref it) body [] X.env) (l := lv []) (kp := []) (p := p) g' rfl rfl
  have loop : ∀ (m i n : Nat) (ys : List V) (s₀ s : Shared) (σ : L2.St) (H : Hp) (pp : List (Addr × Obj)), n + ys.length = sizeLine → W i m ys σ H → Pp T.D T.C T.L T.k ys.length pp → (∀ p ∈ pp, Far X ip p.1) → (∀ p ∈ pp, s₀.heap.get? p.1 = some p.2) → (∀ q ∈ pp, ∀ b ∈ fp, q.1 ≠ b) → Inv X (pp ++ ip) σ H s → tn i s.heap → (∀ b ∈ fp, H b = none) →
      Seg (model X.prog X.w) A R (GY2 X T) n s₀ (.forLoop tg (.ref it) body [] X.env) ((model X.prog X.w).den (.forLoop tg (.ref it) body [] X.env))
        (.ret (fun r => ((match r with | .ok f => (.pure f : Sem Flow) | .error e => .raise e).onRaise
                                                                                                       (cameBack X.env)).wrap K J gd lv) none (gd false) (lv []) c p [] :: fs) s := by
    intro m
    induction m using Nat.strongRecOn with
    | ind m ih =>
      intro i n ys s₀ s σ H pp hn w hpp far ag dis I st fr
      have ee : ∀ (n : Nat) (s₀ : Shared) (x : Value) (s' : Shared), X.xe x s' → Seg (model X.prog X.w) A R (GY2 X T) n s₀ (.forLoop tg (.ref it) body [] X.env)
          ((do noteFrame x X.env; theTreesLotGoes x : Sem Unit).wrap
                                                                     (fun _ => .raise x) .raise id id)
          (.ret (fun r => ((match r with | .ok f => (.pure f : Sem Flow) | .error e => .raise e).onRaise
                                                                                                         (cameBack X.env)).wrap K J gd lv) none (gd false) (lv []) c p [] :: fs) s' := fun n s₀ x s' hx => by
        refine seg_wrap ?_
        rw [(gl _).over]
        refine wpAny_bind (wpAny_mono (hp x s' hx)
                                                   (fun _ s'' hcb => wpAny_theTreesLotGoes ?_) fun y s'' hcb => ?_)
        · exact seg_leaf (.error x) (seg_back2 g' k hcb)
        · exact seg_leaf (.error y) (seg_back2 g' k hcb)
      refine seg_forLoopG ?_
      rw [(gl _).over]
      rcases turn i m ys σ H w with ⟨stop, qn⟩ | ⟨go, N, hN, step⟩
      · refine wpAny_mono (Tu.done X rfl rfl rfl hc i _ s σ H X.xe I (stat dis fr) st stop) (fun r' s4 z => ?_) fun x s' hx => ee n s₀ x s' hx
        obtain ⟨hr, I4⟩ := z
        subst hr
        exact seg_leaf (.ok .next) (k.ok n ys s₀ s4 .next hn ⟨σ, H, ⟨pp, hpp, far, ag, I4⟩, qn⟩)
      · refine wpAny_mono (Tu.item X rfl rfl rfl hc i _ s σ H X.xe I (stat dis fr) st go) (fun r' s4 z => ?_) fun x s' hx => ee n s₀ x s' hx
        obtain ⟨u, hr, h4⟩ := z
        subst hr
        refine wpAny_mono h4 (fun _ s5 z => ?_) fun x s' hx => ee n s₀ x s' hx
        obtain ⟨x, H5, I5, r5, y5, st5, fr5⟩ := z
        have I5' := I5.pinned (stat dis fr5) (Tu.obj _ _ st5)
        refine wpAny_mono (hg.run _ s5 σ H5 x u _ I5' r5 (step x H5 y5)) (fun _ s6 z => ?_) fun x s' hx => ee n s₀ x s' hx
        obtain ⟨σ6, H6, I6, q6⟩ := z
        have far6 : ∀ q ∈ pp, Far X (ip ++ pinsAt fp s5.heap) q.1 := fun q hq => by
          obtain ⟨z1, z2⟩ := far q hq
          refine ⟨fun r hr => ?_, z2⟩
          rcases List.mem_append.mp hr with hr | hr
          · exact z1 r (List.mem_append_left _ hr)
          rcases List.mem_append.mp hr with hr | hr
          · exact z1 r (List.mem_append_right _ hr)
          · exact fun w => dis q hq r.1 (of_pinsAt hr).1 w.symm
        have back : ∀ {ys' : List V} {σ3 : L2.St} {H3 : Hp} {s3 s₁ : Shared}, GI2 X T s₁ (ip ++ pinsAt fp s5.heap) ys' σ3 H3 s3 → GI2 X T s₁ ip ys' σ3 H3 s3 ∧
            ∃ pp', Pp T.D T.C T.L T.k ys'.length pp' ∧ (∀ p ∈ pp', Far X ip p.1) ∧ (∀ p ∈ pp', s₁.heap.get? p.1 = some p.2) ∧ (∀ q ∈ pp', ∀ b ∈ fp, q.1 ≠ b) ∧ Inv X (pp' ++ ip) σ3 H3 s3 ∧ tn (i + 1) s3.heap ∧ ∀ b ∈ fp, H3 b = none := fun {ys' σ3 H3 s3 s₁} hI => by
          obtain ⟨pp', hpp', far', ag', I'⟩ := hI
          rw [← List.append_assoc] at I'
          have far3 : ∀ p ∈ pp', Far X ip p.1 := fun p hp => ⟨fun r hr => (far' p hp).1 r ((List.mem_append.mp hr).elim (List.mem_append_left _) fun z => List.mem_append_right _ (List.mem_append_left _ z)), (far' p hp).2⟩
          have dis3 : ∀ q ∈ pp', ∀ b ∈ fp, q.1 ≠ b := fun q hq b hb w => by
            obtain ⟨o, e, _⟩ := Tu.obj _ _ st5 b hb
            exact (far' q hq).1 (b, o) (List.mem_append_right _ (List.mem_append_right _ (mem_pinsAt hb e))) w.symm
          refine ⟨⟨pp', hpp', far3, ag', I'.unpinned⟩, pp', hpp', far3, ag', dis3, I'.unpinned, Tu.keep _ _ _ st5 fun b hb o e => (I'.pin (b, o) (List.mem_append_right _ (List.mem_append_right _ (mem_pinsAt hb e)))).1, fun b hb => ?_⟩
          obtain ⟨o, e, d⟩ := Tu.obj _ _ st5 b hb
          exact (I'.pin (b, o) (List.mem_append_right _ (List.mem_append_right _ (mem_pinsAt hb e)))).2.1
        refine hb.run A (ip ++ pinsAt fp s5.heap) R n ys s₀ _ _ _ _ id id s6 σ6 H6 { D with nx := N, ct := N, bk := D.nx } (gl _) hn ⟨fun n' ys' s₀' s3 f hn' hs => ?_, fun n' s₀' x s3 hx => ee n' s₀' x s3 hx⟩ ⟨pp, hpp, far6, ag, by rw [← List.append_assoc]; exact I6⟩ q6
        cases f with
        | next =>
          obtain ⟨σ3, H3, I3, n3⟩ := hs
          obtain ⟨m', hm, w3⟩ := hN ys' σ3 H3 n3
          obtain ⟨_, pp', b1, b2, b3, b4, b5, b6, b7⟩ := back I3
          exact seg_again rfl (ih m' hm (i + 1) n' ys' s₀' s3 σ3 H3 pp' hn' w3 b1 b2 b3 b4 b5 b6 b7)
        | cont =>
          obtain ⟨σ3, H3, I3, n3⟩ := hs
          obtain ⟨m', hm, w3⟩ := hN ys' σ3 H3 n3
          obtain ⟨_, pp', b1, b2, b3, b4, b5, b6, b7⟩ := back I3
          exact seg_again rfl (ih m' hm (i + 1) n' ys' s₀' s3 σ3 H3 pp' hn' w3 b1 b2 b3 b4 b5 b6 b7)
        | brk =>
          obtain ⟨σ3, H3, I3, n3⟩ := hs
          exact seg_leaf (.ok .next) (k.ok n' ys' s₀' s3 .next hn' ⟨σ3, H3, (back I3).1, n3⟩)
        | ret v =>
          obtain ⟨v3, σ3, H3, I3, r3, n3⟩ := hs
          exact seg_leaf (.ok (.ret v)) (k.ok n' ys' s₀' s3 (.ret v) hn' ⟨v3, σ3, H3, (back I3).1, r3, n3⟩)
  exact loop m0 0 n ys s₀ s2 σ H2 pp0 hn w0 hp0 far0 ag0 (fun q hq b hb => f2pp b hb q hq) I2 st2 fun b hb => (f2 b hb).1
end
end GC2
namespace GC2
open PySem PySem.Spec PyProof.Rows GenW L2
abbrev noE : XK := fun _ _ _ => False
/-- the run is over -/
def Fin2 (P : Program) (w : World) (outer : List Env) (H : Hp) (s : Shared) (T : Ct) (Q : List V → Hp → Prop) (s₀ s1 : Shared) : Prop := ∃ H' ys acc c pt, s1.os = s.os ∧ AllBare s1.gens ∧ Un (frs outer) [] H H' s.heap s1.heap ∧ HOk P w H' s1.heap ∧ H' T.D = none ∧ H' T.C = none ∧ s1.heap.get? T.D = some (lstObj acc c) ∧
    acc.toList = pt.map (fun p => Value.ref p.1) ∧ Paired (fun (q : Str × Int) (p : Addr × Obj) => Tob q.1 (q.2 + T.k) p.2) (T.L.take ys.length) pt ∧ (∀ p ∈ pt, s1.heap.get? p.1 = some p.2 ∧ H' p.1 = none ∧ p.1 ≠ T.D ∧ p.1 ≠ T.C ∧ s.heap.objs.size ≤ p.1) ∧ (pt.map (·.1)).Nodup ∧ ys.length ≤ sizeLine ∧ s1.heap.get? T.C = s₀.heap.get? T.C ∧ Q ys H'
def End2 (P : Program) (w : World) (outer : List Env) (H : Hp) (s : Shared) (T : Ct) (Q : List V → Hp → Prop) : GenEnd := fun n s₀ r s1 => ((r = .ok (.ret .none) ∨ r = .ok .next) ∧ Fin2 P w outer H s T Q s₀ s1) ∨ ∃ e, r = .error e ∧ False
/-- a value is there -/
def Item2 (s : Shared) (T : Ct) (a : Addr) (g : Nat) : Protocol := fun m s₀ v s1 kap =>
  s1.os = s.os ∧ AllBare s1.gens ∧ s1.heap.NoLimit ∧ s1.heap.IsGen a g ∧ s1.heap.get? T.C = s₀.heap.get? T.C ∧ ∃ (j : Nat) (ta : Addr) (n : Str) (i : Int) (t1 t2 : Tok) (acc : Array Value) (c : Nat), m + 1 + j = sizeLine ∧ v = .ref ta ∧ T.L[j]? = some (n, i) ∧ IsTup s1.heap ta #[.str n t1, .int i t2] ∧
    s1.heap.get? T.D = some (lstObj acc c) ∧ acc.size = j ∧ ∀ s', Slp T.D T.C n (i + T.k) s1 s' → kap (.send .none) s'
/-- a generator that has not begun -/
def Made2 (P : Program) (w : World) (k : Nat) (outer : List Env) (H : Hp) (s : Shared) (L : List (Str × Int)) (kk : Int) (Q : List V → Hp → Prop) (u : Value) (s' : Shared) : Prop :=
  ∃ (a : Addr) (g : Nat) (c : Code), u = .ref a ∧ s.heap.objs.size ≤ a ∧ a < s'.heap.objs.size ∧ s'.heap.IsGen a g ∧ s'.gens[g]? = some
                                                                                                                                        (.fresh c) ∧ s'.os = s.os ∧ AllBare s'.gens ∧ s'.heap.NoLimit ∧ (∀ b o, s.heap.get? b = some o → s'.heap.get? b = some o) ∧
    ∀ (A : Around) (D C : Addr) (s2 : Shared), Room k A → A.frames = some outer → s'.heap.objs.size ≤ D → s'.heap.objs.size ≤ C → (∀ b o, s'.heap.get? b = some o → s2.heap.get? b = some o) → (∃ c, s2.heap.get? D = some (lstObj #[] c)) →
      (∃ oC, s2.heap.get? C = some oC ∧ ∀ x, oC.data ≠ .cell x) → s2.os = s.os → AllBare s2.gens → Seg (model P w) A (End2 P w outer H s ⟨D, C, L, kk⟩ Q) (Item2 s ⟨D, C, L, kk⟩ a g) sizeLine s2 c ((model P w).den c) [] s2
/-- the arguments, the heap, what is handed out, what is wanted at the end -/
abbrev Sp2 := List V → Hp → List (Str × Int) → (List V → Hp → Prop) → Prop
structure Fn2 (P : Program) (w : World) (K : PySem.W.Frag) (mg : Str → Option Value) (base : Heap) (k : Nat) (f : Addr) (fd : FuncData) (ps : List Str) (sp : Sp2) : Prop where
  len : ∀ vs H L Q, sp vs H L Q → vs.length = ps.length
  run : ∀ (A : Around) (outer : List Env) (s : Shared) (H : Hp) (args : Args) (us : List Value) (vs : List V) (L : List (Str × Int)) (kk : Int) (Q : List V → Hp → Prop), Room k A → Env0 P w K mg base A outer s H → BindsTo s fd args (ps.zip us) → Vals vs us → sp vs H L Q →
    codeAny (model P w) A (.call (.ref f) args) (fun r s' => match r with | .ok (.ret u) => Made2 P w k outer H s L kk Q u s' | _ => False) s
/-- a protocol and an end that ask for less -/
theorem seg_weak {M : Model} {A : Around} {R R' : GenEnd} {Y Y' : Protocol} (hR : ∀ n s₀ r s, R n s₀ r s → R' n s₀ r s) (hY : ∀ n s₀ v s kap kap', (∀ r s', kap r s' → kap' r s') → Y n s₀ v s kap → Y' n s₀ v s kap') :
    ∀ (n : Nat) {s₀ : Shared} {c : Code} {t : Sem PySem.Fin} {fs : List Frame} {s : Shared}, Seg M A R Y n s₀ c t fs s → Seg M A R' Y' n s₀ c t fs s := L2.seg_imp hR hY
theorem fn2_of {P : Program} {w : World} {K : PySem.W.Frag} {mg : Str → Option Value} {base : Heap} {k : Nat} {f : Addr} {name qual : Str} {params : Arguments} {body : List Stmt} {scope : Scope} {dV kV doc pm cdv ct oc : Value} {an od : Option Addr} {osl : Array (Option Value)} {N ps : List Str} {sp : Sp2}
    (lk : K.lookup f = some ⟨oc, od, .func (PySem.W.fnOf name qual params body scope dV kV doc pm an cdv ct), osl⟩) (hcd : PySem.W.codeIn K cdv qual = true) (S : GScope N ps scope) (len : ∀ vs H L Q, sp vs H L Q → vs.length = ps.length)
    (hbody : ∀ (A : Around) (outer : List Env) (s : Shared) (H : Hp) (vs : List V) (L : List (Str × Int)) (Q : List V → Hp → Prop) (pn : List (Addr × Obj)) (D C : Addr) (kk : Int), Room k (A.deeper (envOfC qual scope s.heap.objs.size f cdv)) → sp vs H L Q →
      ∃ t, Gss2 (gcxOf P w K mg base N qual scope f cdv A outer s H noE pn) ⟨D, C, L, kk⟩ body t ∧ t { nx := fun ys _ H' => Q ys H', rt := fun ys v H' => v = .non ∧ Q ys H' } [] (start N vs) H) :
    Fn2 P w K mg base (k + 1) f (PySem.W.fnOf name qual params body scope dV kV doc pm an cdv ct) ps sp := by
  refine ⟨len, fun A outer s H args us vs L kk Q hr e0 hb r hsp => ?_⟩
  have hl := len _ _ _ _ hsp
  have KX : K.In s.heap := e0.mod.kin.keeps fun b o e =>
                                                         (e0.bs b o e).1
  have lim : s.heap.NoLimit := e0.mod.nolimit.keeps fun b o e =>
                                                                 (e0.bs b o e).1
  have hkind : ∀ y ∈ ps.zip us, scope.names.lookup y.1 = some .local ∨ (scope.names.lookup y.1 = some .cell ∧ ((cellsFrom (s.heap.objs.size + 1) scope.names []).lookup y.1).isSome = true) := fun ⟨n, v⟩ hy =>
    (S.par n (List.of_mem_zip hy).1).imp id fun q => ⟨q, PySem.W.cellsFrom_some _ _ _ (.inl q)⟩
  refine codeAny_call_generator hr.depth (KX _ _ lk) rfl S.co S.gen rfl
                                                                        (PySem.W.codeRec_of KX hcd) (hb _ _ _ _ ?_)
  refine wpAny_newFunctionEnv_cells S.kind hkind fun env he s1 x => ?_
  subst he
  have lim1 : s1.heap.NoLimit := lim.keeps x.toInCall.keep
  refine ⟨lim1, ?_⟩
  obtain ⟨h1, tk, es1, hk1⟩ := x.done
  have os1 : s1.os = s.os := by rw [es1]
  have gen1 : s1.gens = s.gens := by rw [es1]
  have lt1 : s.heap.objs.size < s1.heap.objs.size := x.toInCall.ns.lt
  have kp1 : ∀ b o, s.heap.get? b = some o → s1.heap.get? b = some o := x.toInCall.keep
  have main : ∀ (go : Obj) (nm qn : Value) (tk2 : Nat), go.cls = .type "generator" → go.data = .fields #[.int s1.gens.size 0, nm, qn] → go.slots = #[] →
                                                                                                                                                         (∀ h : Heap, (h.push go).get? h.objs.size = some go) →
      Made2 P w (k + 1) outer H s L kk Q (.ref s1.heap.objs.size) { s1 with gens := s1.gens.push (.fresh (.func body (envOfC qual scope s.heap.objs.size f cdv))), toks := tk2, heap := s1.heap.push go } := by
    intro go nm qn tk2 hgc hgd0 hgs hgp
    have hgen : ∀ h : Heap, h.get? s1.heap.objs.size = some go → h.IsGen s1.heap.objs.size s1.gens.size := fun h e =>
                                                                                                                      ⟨go, nm, qn, e, hgc, hgd0, hgs⟩
    have hpushed :
                   (s1.heap.push go).get? s1.heap.objs.size = some go := hgp _
    refine ⟨s1.heap.objs.size, s1.gens.size, _, rfl, Nat.le_of_lt lt1, ?_, hgen _ hpushed, Array.getElem?_push_size .., os1, ?_, lim1.keeps fun b o e => Heap.get?_push_of_some _ e, fun b o e => Heap.get?_push_of_some _ (kp1 b o e), ?_⟩
    · show _ < (s1.heap.push _).objs.size
      rw [Heap.size_push]
      exact Nat.lt_succ_self _
    · exact AllBare.push (by rw [gen1]; exact e0.bare) rfl
    intro Aw D C s2 hrw hfr hD hC hk2 hDo hCo hos hba
    have e0w : Env0 P w K mg base Aw outer s H :=
                                                  ⟨hfr, e0.mod, e0.bs, e0.bsz, e0.funs, e0.frf, e0.hok, e0.bare⟩
    obtain ⟨t, ht, hq⟩ := hbody Aw outer s H vs L Q [(s1.heap.objs.size, go)] D C kk (hrw.deeper _) hsp
    have I1 : Inv (gcxOf P w K mg base N qual scope f cdv Aw outer s H noE []) [] (start N vs) H s1 := inv_startG S hrw.hd e0w hl r x
    have kp2 : ∀ b o, s1.heap.get? b = some o → s2.heap.get? b = some o := fun b o e => hk2 b o
                                                                                                (Heap.get?_push_of_some _ e)
    have I2 : Inv (gcxOf P w K mg base N qual scope f cdv Aw outer s H noE []) [] (start N vs) H s2 :=
      I1.call' (ch := []) (hos.trans os1.symm)
                                               (Un.kept kp2) (I1.hok.kept kp2) hba fun b z => by simp at z
    have big : ∀ b, (s1.heap.push go).objs.size ≤ b → s1.heap.objs.size < b := fun b h => by rw [Heap.size_push] at h; exact h
    have hD' := big D hD
    have hC' := big C hC
    obtain ⟨cD, heD⟩ := hDo
    obtain ⟨oC, heC, hoC⟩ := hCo
    have hea : s2.heap.get? s1.heap.objs.size = some go := hk2 s1.heap.objs.size go hpushed
    have hgd : ∀ v, go.data ≠ .cell v := fun v q => by rw [hgd0] at q; cases q
    have young : ∀ b, s1.heap.objs.size ≤ b → H b = none ∧ b ≠ s.heap.objs.size ∧ b ∉ frs outer ∧ s.heap.objs.size ≤ b ∧ ∀ y c,
                                                                                                                                (cellsFrom (s.heap.objs.size + 1) scope.names []).lookup y = some c → c ≠ b := fun b hb => by
      refine ⟨I1.hok.fresh hb, Nat.ne_of_gt (Nat.lt_of_lt_of_le lt1 hb), I1.nofs hb, Nat.le_trans (Nat.le_of_lt lt1) hb, fun y c e z => ?_⟩
      obtain ⟨v, ob, ho, _⟩ := I1.cell y c e
      have := Heap.lt_size ho
      rw [z] at this
      exact absurd (Nat.lt_of_lt_of_le this hb) (Nat.lt_irrefl _)
    have hG : GI2 (gcxOf P w K mg base N qual scope f cdv Aw outer s H noE [(s1.heap.objs.size, go)]) ⟨D, C, L, kk⟩ s2 [] [] (start N vs) H s2 := by
      have pins : ∀ p ∈ [(D, lstObj #[] cD), (C, oC)], s1.heap.objs.size < p.1 ∧ s2.heap.get? p.1 = some p.2 ∧ ∀ v, p.2.data ≠ .cell v := fun p hp => by
        rcases List.mem_cons.mp hp with e | e
        · rw [e]; exact ⟨hD', heD, fun v q => by cases q⟩
        · rw [List.mem_singleton.mp e]; exact ⟨hC', heC, hoC⟩
      refine ⟨[(D, lstObj #[] cD), (C, oC)], ⟨#[], cD, oC, [], rfl, rfl, hoC, .nil, (fun p hp => by cases hp), rfl, List.nodup_nil⟩, fun p hp => ?_, fun p hp => (pins p hp).2.1, Inv.pinnedG I2 fun p hp => ?_⟩
      · have lt := (pins p hp).1
        obtain ⟨_, y2, _, y4, y5⟩ := young p.1 (Nat.le_of_lt lt)
        refine ⟨fun r hr => ?_, y4, y2, y5⟩
        rw [List.append_nil] at hr
        have hr : r ∈ [(s1.heap.objs.size, go)] := hr
        rw [List.mem_singleton.mp hr]
        exact Nat.ne_of_lt lt
      · rcases List.mem_append.mp hp with z | z
        · rw [List.mem_singleton.mp z]
          obtain ⟨y1, y2, y3, _, _⟩ := young s1.heap.objs.size
                                                               (Nat.le_refl _)
          exact ⟨hea, y1, y2, y3, hgd⟩
        · rw [List.append_nil] at z
          obtain ⟨lt, e, d⟩ := pins p z
          obtain ⟨y1, y2, y3, _, _⟩ := young p.1 (Nat.le_of_lt lt)
          exact ⟨e, y1, y2, y3, d⟩
    have pinned : ∀ {ip : List (Addr × Obj)} {ys : List V} {s' s₁ : Shared} {σ' : L2.St} {H' : Hp}, GI2 (gcxOf P w K mg base N qual scope f cdv Aw outer s H noE [(s1.heap.objs.size, go)]) ⟨D, C, L, kk⟩ s₁ ip ys σ' H' s' → s'.heap.IsGen s1.heap.objs.size s1.gens.size := fun {ip ys s' s₁ σ' H'} hI => by
      obtain ⟨_, _, _, _, J⟩ := hI
      exact hgen _ (J.pin (s1.heap.objs.size, go)
                                                  (List.mem_append_left _ (List.mem_singleton.mpr rfl))).1
    refine seg_func ?_
    refine seg_weak (R := GR2 (gcxOf P w K mg base N qual scope f cdv Aw outer s H noE [(s1.heap.objs.size, go)]) ⟨D, C, L, kk⟩ (fun ys v H' => v = .non ∧ Q ys H') fun e s' => CX P w outer H s noE e s')
      (Y := GY2 (gcxOf P w K mg base N qual scope f cdv Aw outer s H noE [(s1.heap.objs.size, go)]) ⟨D, C, L, kk⟩) (fun n s₀ r s1' hR => ?_) (fun n s₀ v s1' kap kap' hkk hY => ?_) sizeLine ?_
    · cases r with
      | error e =>
        have hR : CX P w outer H s noE e s1' := hR
        obtain ⟨a, B, H', cls, d, _, _, _, _, _, _, _, hW⟩ := hR
        exact False.elim hW
      | ok fl =>
        cases fl with
        | next => exact False.elim hR
        | brk => exact False.elim hR
        | cont => exact False.elim hR
        | ret u =>
          obtain ⟨ys, v, ip, σ', H', hn, hI, rv, ev, hQ⟩ := hR
          subst ev
          have eu : u = Value.none := rv
          subst eu
          obtain ⟨pp, ⟨acc, c, oC', pt, rfl, ea, hC2, hp, hne, hl2, hnd⟩, far, ag, J⟩ := hI
          have pinD := J.pin (D, lstObj acc c) (List.mem_append_right _ List.mem_cons_self)
          have pinC := J.pin (C, oC') (List.mem_append_right _ (List.mem_cons_of_mem _ List.mem_cons_self))
          refine .inl ⟨.inl rfl, H', ys, acc, c, pt, J.os, J.bare, J.base, J.hok, pinD.2.1, pinC.2.1, pinD.1, ea, hp, fun p hp2 => ?_, hnd, by omega, ?_, hQ⟩
          · have q := J.pin p (List.mem_append_right _ (List.mem_cons_of_mem _ (List.mem_cons_of_mem _ (List.mem_append_left _ hp2))))
            exact ⟨q.1, q.2.1, (hne p hp2).1, (hne p hp2).2, (far p (List.mem_cons_of_mem _ (List.mem_cons_of_mem _ hp2))).2.1⟩
          · exact pinC.1.trans (ag (C, oC') (List.mem_cons_of_mem _ List.mem_cons_self)).symm
    · obtain ⟨ys, xx, ip, σ', H', ta, nn, ii, hn, h2, ex, hL, hta, hI, h3⟩ := hY
      have hg := pinned hI
      obtain ⟨pp, ⟨acc, c, oC', pt, rfl, ea, hC2, hp, hne, hl2, hnd⟩, far, ag, J⟩ := hI
      have pinD := J.pin (D, lstObj acc c) (List.mem_append_right _ List.mem_cons_self)
      have pinC := J.pin (C, oC') (List.mem_append_right _ (List.mem_cons_of_mem _ List.mem_cons_self))
      subst ex
      have ev : v = Value.ref ta := h2
      obtain ⟨_, its, rv, ht⟩ := J.hok ta _ hta
      cases rv with
      | cons r1 rr =>
        cases rr with
        | cons r2 rr =>
          cases rr
          obtain ⟨t1, rfl⟩ := r1
          obtain ⟨t2, rfl⟩ := r2
          have sz : acc.size = ys.length := by
            have e1 := congrArg List.length ea
            rw [List.length_map, Array.length_toList] at e1
            omega
          exact ⟨J.os, J.bare, J.nolimit, hg, pinC.1.trans (ag (C, oC') (List.mem_cons_of_mem _ List.mem_cons_self)).symm, ys.length, ta, nn, ii, t1, t2, acc, c, hn, ev, hL, ht, pinD.1, sz, fun s' z => hkk _ _ (h3 s' z)⟩
    · refine ht.run Aw [] _ sizeLine [] s2 _ [] _ _ id id s2 (start N vs) H _ ⟨over_func, rfl, rfl, rfl⟩ (Nat.add_zero _) ⟨fun n ys s₀ s' fl hn hs => ?_, fun n s₀ e s' hx => ?_⟩ hG hq
      · cases fl with
        | next =>
          obtain ⟨σ', H', hI, hQ⟩ := hs
          exact seg_end (.ok (.ret .none))
                                           ⟨ys, .non, [], σ', H', hn, hI, rfl, rfl, hQ⟩
        | brk => obtain ⟨_, _, _, q⟩ := hs; exact False.elim q
        | cont => obtain ⟨_, _, _, q⟩ := hs; exact False.elim q
        | ret u =>
          obtain ⟨v, σ', H', hI, rv, ev, hQ⟩ := hs
          exact seg_end (.ok (.ret u))
                                       ⟨ys, v, [], σ', H', hn, hI, rv, ev, hQ⟩
      · refine seg_wrap ?_
        rw [over_func]
        refine wpAny_mono (show wpAny (model P w) (Aw.deeper (envOfC qual scope s.heap.objs.size f cdv)) (leaving (envOfC qual scope s.heap.objs.size f cdv) e) (fun _ s'' => CX P w outer H s noE e s'' ∧ ∀ p ∈ [(s1.heap.objs.size, go)], s''.heap.get? p.1 = some p.2) (fun _ _ => False) s' from hx) (fun _ s'' q => ?_) fun _ s'' q => q.elim
        exact seg_end (.error e) q.1
  exact main _ _ _ _ rfl rfl rfl fun h => Heap.get?_push_size _ rfl
end GC2
namespace GC2
open PySem PySem.Spec PyProof.Rows GenW L2
section
variable {prog : Program} {w : World} {A : Around}
                                                   {E : Value → Shared → Prop} {env : Env}
/-- a turn of the comprehension: two names, a new tuple, the list -/
theorem turn2 {s : Shared} {x y : Str} {p1 p2 p3 p4 p5 q1 q2 q3 : Pos} {n1 n2 : Nat} {j : Nat} {kk i : Int} {D ta : Addr} {m : Str → Option Value} {n : Str} {t1 t2 : Tok} {acc : Array Value} {c : Nat} {Q N : Shared → Prop}
    (hh : A.handled = none) (hk : env.scope.kind = .function) (hx : env.kindOf x = some .local) (hy : env.kindOf y = some .local) (hxy : x ≠ y) (hdx : (x == ("__debug__" : Str)) = false) (hdy : (y == ("__debug__" : Str)) = false)
    (hn : s.heap.Ns env.locals m) (ht : IsTup s.heap ta #[.str n t1, .int i t2]) (hD : s.heap.get? D = some (lstObj acc c)) (hDC : D ≠ env.locals) (hsz : acc.size ≤ sizeLine)
    (h : ∀ hp tk m' q oq c', (∀ b o, b ≠ D → b ≠ env.locals → s.heap.get? b = some o → hp.get? b = some o) → hp.get? D = some (lstObj (acc.push (.ref q)) c') → s.heap.get? q = none → env.locals < q → hp.get? q = some oq → Tob n (i + kk) oq → hp.Ns env.locals m' → Q { s with heap := hp, toks := tk }) :
    wpAny (model prog w) A (assign (.Tuple [.Name x q1, .Name y q2] n2 q3) env (.ref ta)) (fun _ s2 => wpAny (model prog w) A (forIn ([] : List Expr) true fun c r => if r = true then do let ok ← isTrue c env (eval c env); pure (ForInStep.yield ok) else pure (ForInStep.yield r)) (fun ok s3 =>
      if ok = true then wpAny (model prog w) A (eval (.Tuple [.Name x p1, .BinOp (.Name y p2) .Add (.Constant (.int kk) j p3) p4] n1 p5) env) (fun z s4 => wpAny (model prog w) A (call (.builtin "list.append") [.ref D, z]) (fun _ s5 => Q s5) E s4) E s3 else N s3) E s2) E s := by
  have hcls : (env.scope.kind == .class || (env.scope.kind == .module && env.locals != env.globals)) = false := by rw [hk]; rfl
  refine assign_Tuple_tuple hh ht rfl rfl fun h1 e1 => ?_
  obtain ⟨oL, _, _, hoL, _⟩ := id hn
  have lt : ∀ b o, s.heap.get? b = some o → b ≠ s.heap.objs.size := fun b o e => Nat.ne_of_lt (Heap.lt_size e)
  have k1 : ∀ b o, s.heap.get? b = some o → h1.get? b = some o := fun b o e => e1 b o (lt b o e) e
  have n1' : h1.Ns env.locals m := hn.at' fun o e => k1 _ o e
  show wpAny _ A (assignInOrder [assign (.Name x q1) env, assign (.Name y q2) env] [.str n t1, .int i t2]) _ E _
  refine assignInOrder_cons (wpAny_assign_Name (wpAny_storeName_local hx n1' (fun h2 n2' e2 => ?_) hcls))
  refine assignInOrder_cons (wpAny_assign_Name (wpAny_storeName_local (m := fun z => if z = x then some (.str n t1) else m z) hy n2' (fun h3 n3' e3 => ?_) hcls))
  refine assignInOrder_nil (wpAny_tests_nil ?_)
  rw [if_pos rfl]
  have k3 : ∀ b o, b ≠ env.locals → s.heap.get? b = some o → h3.get? b = some o := fun b o hb e => (e3.2 b hb).trans ((e2.2 b hb).trans (k1 b o e))
  have hmx : (fun z => if z = y then some (Value.int i t2) else if z = x then some (.str n t1) else m z) x = some (.str n t1) := by
    dsimp only
    rw [if_neg hxy, if_pos rfl]
  have hmy : (fun z => if z = y then some (Value.int i t2) else if z = x then some (.str n t1) else m z) y = some (.int i t2) := by
    dsimp only
    rw [if_pos rfl]
  refine wpAny_Tuple_spliced ?_
  show wpAny _ A (spliced [(false, eval (.Name x p1) env), (false, eval (.BinOp (.Name y p2) .Add (.Constant (.int kk) j p3) p4) env)]) _ E _
  refine Calls.spliced_cons (wpAny_Name (wpAny_loadName_local hk hx n3' hmx ?_) hdx)
  refine Calls.spliced_cons (wpAny_BinOp (wpAny_Name (wpAny_loadName_local hk hy n3' hmy ?_) hdy))
  refine wpAny_Constant_int (PyProof.Rows.add_int ?_)
  refine Calls.spliced_nil ⟨by show 2 ≤ sizeLine; decide, ?_⟩
  have hD4 : (h3.push { cls := .type "tuple", data := .seq #[Value.str n t1, Value.int (i + kk) (s.toks + 1 + 1 + 1)] }).get? D = some (lstObj acc c) := Heap.get?_push_of_some _ (k3 D _ hDC hD)
  refine append_at (hsz := hsz) hD4 fun h5 e5 eD5 => ?_
  have ltq : ∀ {b : Addr} {o : Obj}, h3.get? b = some o → h3.objs.size ≠ b := fun e w => absurd (Heap.lt_size e) (by rw [w]; exact Nat.lt_irrefl _)
  have ltL : env.locals < h3.objs.size := n3'.lt
  have gone : s.heap.get? h3.objs.size = none := by
    cases e : s.heap.get? h3.objs.size with
    | none => rfl
    | some o => exact absurd rfl (ltq (k3 _ o (Nat.ne_of_gt ltL) e))
  have nqD : h3.objs.size ≠ D := fun z => absurd (Heap.lt_size (k3 D _ hDC hD)) (by rw [z]; exact Nat.lt_irrefl _)
  have push5 : ∀ b o, b ≠ D → h3.get? b = some o → h5.get? b = some o := fun b o hb e => (e5.2 b hb).trans (Heap.get?_push_of_some _ e)
  refine h h5 _ (fun z => if z = y then some (Value.int i t2) else if z = x then some (.str n t1) else m z) h3.objs.size _ _ (fun b o hb hc e => push5 b o hb (k3 b o hc e)) eD5 gone ltL ((e5.2 _ nqD).trans (Heap.get?_push_size _ rfl)) ⟨rfl, _, _, _, rfl⟩ (n3'.at' fun o e => push5 _ o hDC.symm e)
end
end GC2
namespace GC2
open PySem PySem.Spec PyProof.Rows GenW L2
/-- an expression whose value is a generator that has not begun, and what it will hand out -/
abbrev TGen2 := L2.St → Hp → List (Str × Int) → (List V → Hp → Prop) → Prop
structure Pg2 (X : Cx) (k : Nat) (e : Expr) (tg : TGen2) : Prop where
  run : ∀ (pins : List (Addr × Obj)) (s : Shared) (σ : L2.St) (H : Hp) (L : List (Str × Int)) (kk : Int) (cont : List V → Hp → Prop), Inv X pins σ H s → tg σ H L cont → wpAny (model X.prog X.w) X.A (eval e X.env)
    (fun u s' => ∃ H1 sc, Inv X pins σ H1 sc ∧ Made2 X.prog X.w k X.stack H1 sc L kk cont u s') X.xe s
section
variable {X : Cx} {k : Nat} {f C : Addr} {fd : FuncData} {ps : List Str} {sp : Sp2} {x m : Str} {p pos pos' apos : Pos} {o : Expr} {ta : TE}
theorem run_fn2 {pins : List (Addr × Obj)} {σ : L2.St} {H : Hp} {s : Shared} {us : List Value} {vs : List V} {L : List (Str × Int)} {kk : Int} {cont : List V → Hp → Prop} {E1 : Value → Shared → Prop} (F : Fn2 X.prog X.w X.K X.mg X.base k f fd ps sp) (hr : Room k X.A) (hb : Binds X.K fd ps [])
    (I : Inv X pins σ H s) (r : Vals vs us) (h : sp vs H L cont) :
    wpAny (model X.prog X.w) X.A (call (.ref f) us) (fun u s' => ∃ H1 sc, Inv X pins σ H1 sc ∧ Made2 X.prog X.w k X.stack H1 sc L kk cont u s') E1 s := by
  have hl : (us ++ []).length = ps.length := by rw [List.append_nil, ← r.length]; exact F.len _ _ _ _ h
  have bt := hb s us I.kIn hl
  rw [List.append_nil] at bt
  refine wpAny_call (codeAny_mono (F.run X.A X.stack s H ⟨us, []⟩ us vs L kk cont hr I.env0 bt r h) fun r s' hq => ?_)
  cases r with
  | error e => exact False.elim hq
  | ok fl =>
    cases fl with
    | ret u => exact ⟨H, s, I, hq⟩
    | next => exact False.elim hq
    | brk => exact False.elim hq
    | cont => exact False.elim hq
def tMeth2 (C : Addr) (m : Str) (sp : Sp2) (ta : TE) (t : TA) : TGen2 := fun σ H L cont => ta σ H fun x H1 => ∃ a dx fs, x = .ref a ∧ H1 a = some (.ins C dx fs) ∧ fs.lookup m = none ∧ t σ H1 fun vs H2 => sp (x :: vs) H2 L cont
theorem pg2_meth {pl : Sem Bool} {e : Expr} {es : List Expr} {t : TA} (he : PE X o ta) (c : Cls X.K C) (hm : Meth X.K C m f) (F : Fn2 X.prog X.w X.K X.mg X.base k f fd ps sp) (hr : Room k X.A) (hb : Binds X.K fd ps []) (ha : PA X (e :: es) t)
    (hst : starEach (e :: es) X.env = (false, eval e X.env) :: starEach es X.env := by rfl)
                                                                                            (hpl : (backTo pos' (starEach es X.env)).any (·.1) = false := by rfl)
    (ht : eval (.Call (.Attribute o m apos)
                                            (e :: es) [] pos') X.env = (do
      let ov ← eval o X.env
      standAt apos.atName
      let (f, first) ← holding [ov] (getMethod ov m pl)
      callWith pos' f first (backTo pos' (starEach (e :: es) X.env))
                                                                     (backToKw pos' (keywordEach [] X.env))) := by rfl) :
    Pg2 X k (.Call (.Attribute o m apos) (e :: es) [] pos') (tMeth2 C m sp ta t) := by
  constructor
  intro pins s σ H L kk cont I h
  refine PySem.W.methodCall_KW (pl := pl) (thn (he.run pins s σ H _ I h) fun u s1
                                                                                  ⟨x, H1, I1, rx, a, dx, fs, ex, ea, l, q⟩ => ?_) ht
  subst ex
  obtain rfl : u = Value.ref a := rx
  refine getmeth_ok I1 ea c hm l (PySem.W.callWith_K (first := [.ref a]) (h₀ := X.base) I.ok.mod.kin hm.kp (thn (ha.run pos' pins s1 σ H1 _ I1 q) fun us s2 ⟨vs, H2, I2, r, q2⟩ => ⟨I2.kIn, ?_⟩) hst hpl)
  exact run_fn2 (us := .ref a :: us) (vs := .ref a :: vs) F hr hb I2 (.cons rfl r) q2
end
/-- a list's values are tuples -/
def Tls (H : Hp) (kk : Int) (xs : List V) (L : List (Str × Int)) : Prop := Paired (fun (v : V) (q : Str × Int) => ∃ a, v = .ref a ∧ H a = some (.tup [.str q.1, .int (q.2 + kk)])) xs L
def laidT (kk : Int) (H : Hp) : List (Str × Int) → List (Addr × Obj) → Hp
  | q :: L, p :: pt => upd (laidT kk H L pt) p.1 (.tup [.str q.1, .int (q.2 + kk)])
  | [], _ => H
  | _ :: _, [] => H
theorem laidT_ne {kk : Int} {H : Hp} {b : Addr} : ∀ {L : List (Str × Int)} {pt : List (Addr × Obj)}, (∀ p ∈ pt, p.1 ≠ b) → laidT kk H L pt b = H b
  | [], _, _ => by unfold laidT; rfl
  | _ :: _, [], _ => rfl
  | q :: L, p :: pt, h => by
    show upd (laidT kk H L pt) p.1 _ b = _
    rw [upd_ne (h p List.mem_cons_self).symm, laidT_ne fun p hp => h p (List.mem_cons_of_mem _ hp)]
theorem Tls.mono {H H' : Hp} {kk : Int} {L : List (Str × Int)} {xs : List V} (h : Tls H kk xs L) (k : ∀ a, V.ref a ∈ xs → H' a = H a) : Tls H' kk xs L := by
  unfold Tls at *
  induction h with
  | nil => exact .nil
  | cons r t ih =>
    obtain ⟨a, e, q⟩ := r
    exact .cons ⟨a, e, (k a (by rw [e]; exact List.mem_cons_self)).trans q⟩ (ih fun b hb => k b (List.mem_cons_of_mem _ hb))
theorem laidT_tls {kk : Int} {H : Hp} : ∀ {L : List (Str × Int)} {pt : List (Addr × Obj)}, Paired (fun (q : Str × Int) (p : Addr × Obj) => Tob q.1 (q.2 + kk) p.2) L pt → (pt.map (·.1)).Nodup → Tls (laidT kk H L pt) kk (pt.map fun p => V.ref p.1) L
  | _, _, .nil, _ => .nil
  | q :: L, p :: pt, .cons r t, nd => by
    rw [List.map_cons, List.nodup_cons] at nd
    refine .cons ⟨p.1, rfl, upd_same⟩ (Tls.mono (laidT_tls (H := H) t nd.2) fun a ha => upd_ne fun e => nd.1 ?_)
    obtain ⟨p2, h2, e2⟩ := List.mem_map.mp ha
    exact List.mem_map.mpr ⟨p2, h2, (V.ref.inj e2).trans e⟩
theorem laidT_ok {P : Program} {w : World} {kk : Int} {H : Hp} {h : Heap} (ok : HOk P w H h) : ∀ {L : List (Str × Int)} {pt : List (Addr × Obj)}, Paired (fun (q : Str × Int) (p : Addr × Obj) => Tob q.1 (q.2 + kk) p.2) L pt → (pt.map (·.1)).Nodup → (∀ p ∈ pt, h.get? p.1 = some p.2 ∧ H p.1 = none) → HOk P w (laidT kk H L pt) h
  | _, _, .nil, _, _ => ok
  | q :: L, p :: pt, .cons r t, nd, hp => by
    rw [List.map_cons, List.nodup_cons] at nd
    have hp0 := hp p List.mem_cons_self
    obtain ⟨rc, t1, t2, m, rd⟩ := r
    refine HOk.laidN (laidT_ok ok t nd.2 fun p hq => hp p (List.mem_cons_of_mem _ hq)) (fun _ _ e => e) ?_ ⟨by show 2 ≤ sizeLine; decide, [Value.str q.1 t1, Value.int (q.2 + kk) t2], .cons ⟨_, rfl⟩ (.cons ⟨_, rfl⟩ .nil), p.2, hp0.1, rc, m, rd⟩
    rw [laidT_ne fun p2 h2 e => nd.1 (List.mem_map.mpr ⟨p2, h2, e⟩)]
    exact hp0.2
theorem vals_refs : ∀ pt : List (Addr × Obj), Vals (pt.map fun p => V.ref p.1) (pt.map fun p => Value.ref p.1)
  | [] => .nil
  | p :: pt => .cons rfl (vals_refs pt)
/-- [(x, y + k) for x, y in g]: the generator may hand out what it has told -/
def tLcGen (tg : TGen2) (kk : Int) : TE := fun σ H Q => ∃ L, tg σ H L fun out H2 => ∀ D xs H3, Same H2 H3 → H2 D = none → H3 D = some (.lst xs) → Tls H3 kk xs (L.take out.length) → Q (.ref D) H3
theorem lcg_core {X : Cx} {k : Nat} {iter : Expr} {tg : TGen2} {x y : Str} {p1 p2 p3 p4 p5 q1 q2 q3 : Pos} {n1 n2 j : Nat} {kk : Int} {scope : Scope} {own : List (Str × Nat)} {pos pos' : Pos} {use : Option (Value → Sem Unit)} {Qf : Value → Shared → Prop} {pins : List (Addr × Obj)} {s : Shared} {σ : L2.St} {H : Hp} {Q : VK}
    (hc : X.calm = true) (hN : X.N.Nodup) (I : Inv X pins σ H s) (h : Pg2 X k iter tg) (hr : Room (k + 3) X.A) (ok : BlkOk X.N X.env.scope scope own) (hx : scope.names.lookup x = some .local) (hy : scope.names.lookup y = some .local) (hxy : x ≠ y) (hdx : (x == ("__debug__" : Str)) = false)
    (hdy : (y == ("__debug__" : Str)) = false) (hs : ∀ z, foldedSetIterable iter X.env z = pure z) (h0 : tLcGen tg kk σ H Q) (hRR : ∀ D C s' m H', Inv X pins σ H' s' → Q (.ref D) H' → s'.heap.Ns C m → FpOk X pins H' C → compPost (model X.prog X.w) X.A X.xe use Qf (.ref D) C (.ok .next) s') :
    wpAny (model X.prog X.w) X.A (comprehension (.ListComp (.Tuple [.Name x p1, .BinOp (.Name y p2) .Add (.Constant (.int kk) j p3) p4] n1 p5) [⟨.Tuple [.Name x q1, .Name y q2] n2 q3, iter, [], 0⟩] scope pos) scope X.env pos' (newList []) false (eval iter X.env) use) Qf X.xe s := by
  obtain ⟨L, hL⟩ := h0
  obtain ⟨cont, hco⟩ : ∃ cont : List V → Hp → Prop, cont = fun out H2 => ∀ D xs H3, Same H2 H3 → H2 D = none → H3 D = some (.lst xs) → Tls H3 kk xs (L.take out.length) → Q (.ref D) H3 := ⟨_, rfl⟩
  rw [← hco] at hL
  have hfree : ∀ y ∈ scope.names, y.2 = .free → ∃ c, X.env.cells.lookup y.1 = some c := fun y hy e => by
    rcases ok.free y hy e with k | k
    · exact I.ok.has _ (.inl k)
    · exact I.ok.has _ (.inr k)
  refine wpAny_comprehension_free (use := use) rfl hs (closure_ok hfree) ok.kind (fun y hy e => by rw [ok.uniq y hy, e]) (thn (h.run pins s σ H L kk cont I hL) fun u s1 hM => ?_)
  obtain ⟨H1, sc, I1, a, g, c, rfl, ha1, ha2, hg, hgs, hos, hb, hl, hkp, wake⟩ := hM
  refine wpAny_pyIter_gen hg ?_
  have hlim : cStatics < s1.heap.objs.size := let ⟨_, hn, _⟩ := hl; hn.lt
  have hsc : sc.heap.objs.size ≤ s1.heap.objs.size := Nat.le_trans ha1 (Nat.le_of_lt ha2)
  have I2 : Inv X pins σ H1 s1 := I1.call' (ch := []) hos (Un.kept hkp) (I1.hok.kept hkp) hb fun b z => by simp at z
  refine wpAny_newObj_type (newEnv_comp ?_)
                                            (by show 0 ≤ sizeLine; decide)
  generalize hD : s1.heap.objs.size = D
  have hDn : H1 D = none := I2.hok.fresh (Nat.le_of_eq hD)
  generalize hs3 : ({ s1 with heap := s1.heap.push { cls := .type "list", data := .seq ([] : List Value).toArray } } : Shared) = s3
  have I3 : Inv X pins σ (upd H1 D (.lst [])) s3 := by
    rw [← hs3]
    refine I2.laid (t' := s1.toks) (fun b o e => Heap.get?_push_of_some _ e) (Nat.le_of_eq hD) ⟨Nat.zero_le _, [], 0, .nil, ?_⟩
    rw [← hD]
    exact Heap.get?_push_size _ rfl
  have h3 : s3.heap = s1.heap.push { cls := .type "list", data := .seq ([] : List Value).toArray } := by rw [← hs3]
  have eD3 : s3.heap.get? D = some (lstObj #[] 0) := by
    rw [h3, ← hD]
    exact Heap.get?_push_size _ rfl
  have k13 : ∀ b o, s1.heap.get? b = some o → s3.heap.get? b = some o := fun b o e => by rw [h3]; exact Heap.get?_push_of_some _ e
  have ltD : D < s3.heap.objs.size := by
    rw [h3, Heap.size_push, ← hD]
    exact Nat.lt_succ_self _
  have I4 := block_start (fp := []) I3 ok hN (fun b hb => by cases hb)
  generalize hce : compEnvC scope (cellsFrom (s3.heap.objs.size + 1) scope.names (cloFrom X.env.cells scope.names [])) s3.heap.objs.size X.env = ce at I4
  have cL : ce.locals = s3.heap.objs.size := by rw [← hce]; rfl
  have cS : ce.scope = relS scope X.env.scope := by rw [← hce]; rfl
  have cK : ce.scope.kind = .function := I4.ok.kind
  have cx : ce.kindOf x = some .local := by
    unfold Env.kindOf
    rw [cS]
    exact lookup_relS_keep (by decide) hx
  have cy : ce.kindOf y = some .local := by
    unfold Env.kindOf
    rw [cS]
    exact lookup_relS_keep (by decide) hy
  have k34 : ∀ b o, s3.heap.get? b = some o → (pushCells (s3.heap.push { cls := .type "dict", data := .dict #[] }) scope.names).get? b = some o := fun b o e => pushCells_keeps _ _ _ _ (Heap.get?_push_of_some _ e)
  show codeAny _ _ (.compStart (.ListComp _ _ scope pos) 0 (.ref a) (.ref D) (compEnvC scope (cellsFrom (s3.heap.objs.size + 1) scope.names (cloFrom X.env.cells scope.names [])) s3.heap.objs.size X.env)) (compPost (model X.prog X.w) X.A X.xe use _ (.ref D) s3.heap.objs.size) { s3 with heap := pushCells (s3.heap.push { cls := .type "dict", data := .dict #[] }) scope.names }
  rw [hce]
  have os3 : s3.os = s1.os := by rw [← hs3]
  have gens3 : s3.gens = s1.gens := by rw [← hs3]
  generalize hs4 : ({ s3 with heap := pushCells (s3.heap.push
                                                              { cls := .type "dict", data := .dict #[] }) scope.names } : Shared) = s4 at I4 ⊢
  have k34' : ∀ b o, s3.heap.get? b = some o → s4.heap.get? b = some o := fun b o e => by rw [← hs4]; exact k34 b o e
  have os4 : s4.os = sc.os := by rw [← hs4]; exact os3.trans hos
  have gens4 : s4.gens = s1.gens := by rw [← hs4]; exact gens3
  have k14 : ∀ b o, s1.heap.get? b = some o → s4.heap.get? b = some o := fun b o e => k34' b o (k13 b o e)
  obtain ⟨m0, hn0, _⟩ := I4.loc
  have hn0 : s4.heap.Ns ce.locals m0 := hn0
  generalize hC : ce.locals = C at *
  have hDC : D ≠ C := by rw [cL]; exact Nat.ne_of_lt ltD
  have leC : s1.heap.objs.size ≤ C := by rw [cL, hD]; exact Nat.le_of_lt ltD
  have naD : a ≠ D := by rw [← hD]; exact Nat.ne_of_lt ha2
  have naC : a ≠ C := Nat.ne_of_lt (Nat.lt_of_lt_of_le ha2 leC)
  have nsD : cStatics ≠ D := by rw [← hD]; exact Nat.ne_of_lt hlim
  have nsC : cStatics ≠ C := Nat.ne_of_lt (Nat.lt_of_lt_of_le hlim leC)
  rw [← cL]
  clear hce cS I4 I3 k34 hs4 hs3 h3
  have room : Room k X.A.in1 := ⟨hr.hd, by have := hr.dp; show X.A.depth + 3 * k + 5 < _; omega, by have := hr.un; show X.A.units + 1 + 16 * k + 200 < _; omega⟩
  have loop : codeAny (model X.prog X.w) X.A (.compLoop (.ListComp (.Tuple [.Name x p1, .BinOp (.Name y p2) .Add (.Constant (.int kk) j p3) p4] n1 p5) [⟨.Tuple [.Name x q1, .Name y q2] n2 q3, iter, [], 0⟩] scope pos) 0 (.ref a) (.ref D) ce) (compPost (model X.prog X.w) X.A X.xe use Qf (.ref D) C) s4 := by
    refine compLoop_any (fun n s' => s'.heap.IsGen a g ∧ s'.heap.NoLimit ∧ (∃ gs, s'.gens[g]? = some gs ∧ gs.Goes (model X.prog X.w) X.A.in1 (End2 X.prog X.w X.stack H1 sc ⟨D, C, L, kk⟩ cont) (Item2 sc ⟨D, C, L, kk⟩ a g) n (.send .none) (s'.setGen g .running)) ∧ s'.os = sc.os ∧ AllBare s'.gens ∧ ∃ m, s'.heap.Ns C m) ?_ sizeLine
      ⟨hg.keeps k14, hl.keeps k14, ⟨.fresh c, by rw [gens4]; exact hgs, rfl, wake X.A.in1 D C (s4.setGen g .running) room I1.ok.frames (Nat.le_of_eq hD) leC k14 ⟨0, k34' D _ eD3⟩ ?_ os4 (allBare_setGen (by rw [gens4]; exact hb) rfl)⟩, os4, by rw [gens4]; exact hb, m0, hn0⟩
    · rintro n s5 ⟨ig, lim, ⟨gs, egs, goes⟩, os5, hb5, m, hn5⟩
      have hgl : g < s5.gens.size := (Array.getElem?_eq_some_iff.mp egs).1
      refine wpAny_gsz (n := g + 1) hgl (next_genG (A := X.A) (F := fun _ s₀ s1 => Fin2 X.prog X.w X.stack H1 sc ⟨D, C, L, kk⟩ cont s₀ s1) (Er := fun _ _ => False) (I.ok.hd hc) lim hr.depth ig egs goes (fun v s₁ gs' hbare hv => ?_) (fun s₁ hp h' hk => ?_) fun e s₁ he => he.elim)
      · intro hsz
        obtain ⟨os1, hb1, hl1, hg1, eC, jj, ta, nn, i, t1, t2, acc, cc, hj, rfl, hLj, htup, eD, hacc, hk⟩ := hv
        obtain ⟨og, _, _, eg, cg, dg, _⟩ := id hg1
        have hsz1 : g < s₁.gens.size := by
          have q : (s₁.setGen g gs').gens.size = s₁.gens.size := setGen_size _ _ _
          have hsz' : g + 1 ≤ (s₁.setGen g gs').gens.size := hsz
          omega
        have hn1 : s₁.heap.Ns ce.locals m := by
          rw [hC]
          exact hn5.at' fun o e => eC.trans e
        refine go_of (s := s₁.setGen g gs') eg cg dg (by decide) ?_
        refine turn2 (kk := kk) (D := D) (s := s₁.setGen g gs') (I.ok.hd hc) cK cx cy hxy hdx hdy hn1 htup eD (by rw [hC]; exact hDC) (by omega) fun hp tk m' q oq c' kp eD' gone ltq eq' tob hn' => ?_
        rw [hC] at kp ltq hn'
        have slp : Slp D C nn (i + kk) s₁ (Shared.setGen { s₁.setGen g gs' with heap := hp, toks := tk } g .running) := by
          refine ⟨rfl, allBare_setGen (s := s₁.setGen g gs') (allBare_setGen hb1 hbare) rfl, kp, fun acc2 c2 e2 => ?_, ?_⟩
          · rw [eD] at e2
            cases e2
            exact ⟨c', q, oq, eD', gone, ltq, eq', tob⟩
          · obtain ⟨o, _, _, e, d, _⟩ := id hn'
            exact ⟨o, e, fun v z => by rw [d] at z; cases z⟩
        cases n with
        | zero => exact (hk _ slp).elim
        | succ n =>
          refine ⟨n, Nat.lt_succ_self _, ?_, ?_, ⟨gs', setGen_at hsz1, hk _ slp⟩, os1, allBare_setGen hb1 hbare, m', hn'⟩
          · obtain ⟨o, nm, qn, ho, rr⟩ := hg1
            exact ⟨o, nm, qn, kp a o naD naC ho, rr⟩
          · obtain ⟨mc, hns, hnn⟩ := hl1
            exact ⟨mc, hns.at' fun o e => kp _ o nsD nsC e, hnn⟩
      · intro hsz
        obtain ⟨H', ys, acc, cc, pt, os1, hb1, un, hok, hDn', hCn', eD, eacc, hp, hpt, nd, hle, eC, hcont⟩ := hp
        have hn1 : s₁.heap.Ns C m := hn5.at' fun o e => eC.trans e
        rw [hco] at hcont
        have hpt' : ∀ p ∈ pt, h'.get? p.1 = some p.2 ∧ H' p.1 = none := fun p hp2 => ⟨hk _ _ (hpt p hp2).1, (hpt p hp2).2.1⟩
        have okT : HOk X.prog X.w (laidT kk H' (L.take ys.length) pt) h' := laidT_ok (hok.kept hk) hp nd hpt'
        have nD : laidT kk H' (L.take ys.length) pt D = none := by rw [laidT_ne fun p hp2 => (hpt p hp2).2.2.1]; exact hDn'
        have lpt : pt.length ≤ sizeLine := by
          have e1 := Paired.length hp
          rw [List.length_take] at e1
          omega
        have okD : HOk X.prog X.w (upd (laidT kk H' (L.take ys.length) pt) D (.lst (pt.map fun p => V.ref p.1))) h' := by
          refine HOk.laidN okT (fun _ _ e => e) nD ⟨by rw [List.length_map]; exact lpt, acc.toList, cc, by rw [eacc]; exact vals_refs pt, ?_⟩
          exact hk _ _ eD
        have same : Same H' (upd (laidT kk H' (L.take ys.length) pt) D (.lst (pt.map fun p => V.ref p.1))) := fun b o e => by
          rw [upd_ne (ne_of_none e hDn'), laidT_ne fun p hp2 z => by rw [← z, (hpt p hp2).2.1] at e; cases e]
          exact e
        have un3 : Un (frs X.stack) [] H1 (upd (laidT kk H' (L.take ys.length) pt) D (.lst (pt.map fun p => V.ref p.1))) sc.heap h' := by
          have u := un.trans (Un.kept hk)
          refine ⟨u.keep, u.slot, fun b o e n hx => ?_, u.there, fun b xs e => same _ _ (u.tups b xs e), fun b o xs e => same _ _ (u.frzs b o xs e), fun b ps e => ?_⟩
          · have lt := Heap.lt_size e
            rw [upd_ne (by rw [← hD]; exact Nat.ne_of_lt (Nat.lt_of_lt_of_le lt hsc)), laidT_ne fun p hp2 z => absurd (hpt p hp2).2.2.2.2 (by rw [z]; exact Nat.not_le_of_lt lt)]
            exact u.free b o e n hx
          · obtain ⟨more, q⟩ := u.tbls b ps e
            exact ⟨more, same _ _ q⟩
        have nC : (upd (laidT kk H' (L.take ys.length) pt) D (.lst (pt.map fun p => V.ref p.1))) C = none := by
          rw [upd_ne hDC.symm, laidT_ne fun p hp2 => (hpt p hp2).2.2.2.1]
          exact hCn'
        have I9 : Inv X pins σ (upd (laidT kk H' (L.take ys.length) pt) D (.lst (pt.map fun p => V.ref p.1))) { s₁.setGen g .finished with heap := h' } := I1.call' (ch := []) os1 un3 okD (allBare_setGen hb1 rfl) fun b z => by simp at z
        refine hRR D C _ m _ I9 (hcont D _ _ same hDn' upd_same ?_) (hn1.at' fun o e => hk _ _ e) (I1.fpOk (Nat.le_trans hsc leC) nC)
        refine Tls.mono (laidT_tls (H := H') hp nd) fun b hb => upd_ne fun e => ?_
        obtain ⟨p2, h2, e2⟩ := List.mem_map.mp hb
        exact (hpt p2 h2).2.2.1 ((V.ref.inj e2).trans e)
    · obtain ⟨o, _, _, e, d, _⟩ := id hn0
      exact ⟨o, e, fun v z => by rw [d] at z; cases z⟩
  exact codeAny_compStart_list loop (wpAny_pyIter_gen (hg.keeps k14) loop)
section
variable {X : Cx} {k : Nat} {iter : Expr} {tg : TGen2} {x y : Str} {p1 p2 p3 p4 p5 q1 q2 q3 : Pos} {n1 n2 j : Nat} {kk : Int} {scope : Scope} {own : List (Str × Nat)} {pos : Pos}
theorem pe_lcGen (hc : X.calm = true) (hN : X.N.Nodup) (h : Pg2 X k iter tg) (hr : Room (k + 3) X.A) (ok : BlkOk X.N X.env.scope scope own) (hx : scope.names.lookup x = some .local) (hy : scope.names.lookup y = some .local) (hxy : x ≠ y) (hdx : (x == ("__debug__" : Str)) = false)
    (hdy : (y == ("__debug__" : Str)) = false) (hs : ∀ z, foldedSetIterable iter X.env z = pure z := by intro _; rfl) :
    PE X (.ListComp (.Tuple [.Name x p1, .BinOp (.Name y p2) .Add (.Constant (.int kk) j p3) p4] n1 p5) [⟨.Tuple [.Name x q1, .Name y q2] n2 q3, iter, [], 0⟩] scope pos) (tLcGen tg kk) := by
  refine ⟨fun pins s σ H Q I h0 => ?_⟩
  rw [eval_ListComp]
  refine lcg_core hc hN I h hr ok hx hy hxy hdx hdy hs h0 fun D C s' m H' I' q hn f => ⟨m, hn, fun h'' sb => ?_⟩
  obtain ⟨f0, f1, f2, f3, f4, f5⟩ := f
  exact ⟨.ref D, H', I'.turned (t' := s'.toks)
                                               (fun b o hb e => (sb.2 b hb).trans e) f0 f1 f3 f4 f5, rfl, q⟩
/-- z = [(x, y + k) for x, y in g] on one line -/
theorem ps_setLcGen {i : Nat} {z : Str} {pz spos : Pos} (hc : X.calm = true) (hN : X.N.Nodup) (hz : X.N[i]? = some z) (hzl : X.env.scope.names.lookup z = some .local) (hsw : swapsWith (.ListComp (.Tuple [.Name x p1, .BinOp (.Name y p2) .Add (.Constant (.int kk) j p3) p4] n1 p5) [⟨.Tuple [.Name x q1, .Name y q2] n2 q3, iter, [], 0⟩] scope pos) (some (.Name z pz)) spos.line X.env = pure true)
    (h : Pg2 X k iter tg) (hr : Room (k + 3) X.A) (ok : BlkOk X.N X.env.scope scope own) (hx : scope.names.lookup x = some .local) (hy : scope.names.lookup y = some .local) (hxy : x ≠ y) (hdx : (x == ("__debug__" : Str)) = false)
    (hdy : (y == ("__debug__" : Str)) = false) (hs : ∀ z, foldedSetIterable iter X.env z = pure z := by intro _; rfl) :
    PS X (.Assign [.Name z pz] (.ListComp (.Tuple [.Name x p1, .BinOp (.Name y p2) .Add (.Constant (.int kk) j p3) p4] n1 p5) [⟨.Tuple [.Name x q1, .Name y q2] n2 q3, iter, [], 0⟩] scope pos) spos) (tAsg (tLcGen tg kk) (gName i)) := by
  refine ⟨fun pins s σ H D I h0 => ?_⟩
  rw [exec_Assign_Name_used _ _ _ _ hsw]
  refine wpAny_bind (wpAny_standAt (wpAny_bind ?_))
  have h0 : tLcGen tg kk σ H (fun x H1 => gName i x σ H1 D.nx) := h0
  refine wpAny_bind (thn (lcg_core (Qf := fun _ s' => SP X pins D .next s') (use := some (assign (.Name z pz) X.env)) hc hN I h hr ok hx hy hxy hdx hdy hs h0 fun L C s' m H' I' q hn f => ?_) fun _ s' hq => wpAny_pure (wpAny_pure hq))
  refine wpAny_assign_Name (store_ok2 (v := V.ref L) I' hN hz (.inl hzl) rfl (fun s2 I2 ⟨a, sb, ha⟩ => ?_) (.inr hzl))
  obtain ⟨f0, f1, f2, f3, f4, f5⟩ := f
  have haC : C ≠ a := by
    rcases ha with w | w
    · rw [w]; exact f1
    · exact fun e => f4 z a w e.symm
  refine ⟨m, hn.sameBut sb haC, fun h3 sb3 => ⟨_, H', I2.turned (t' := s2.toks) (fun b o hb e => (sb3.2 b hb).trans e) f0 f1 f3 f4 f5, q⟩⟩
end
end GC2
/-! promises kept where nothing is being told of itself, and a law called for one -/
namespace GW
open PySem PySem.Spec PyProof.Rows L2
open LamX in
/-- a def whose promise is kept where nothing is being told of itself -/
structure FnG (P : Program) (w : World) (K : PySem.W.Frag) (mg : Str → Option Value) (base : Heap) (CX : CXT) (k : Nat) (f : Addr) (fd : FuncData) (ps : List Str) (sp : Sp) : Prop where
  len : ∀ vs H Q E, sp vs H Q E → vs.length = ps.length
  run : ∀ (A : Around) (outer : List Env) (s : Shared) (H : Hp) (args : Args) (us : List Value) (vs : List V) (Q : VK) (E : XK), A.guards = some [] → Room k A → Env0 P w K mg base A outer s H → BindsTo s fd args (ps.zip us) → Vals vs us → sp vs H Q E →
    codeAny (model P w) A (.call
                                 (.ref f) args) (CR CX outer P w H s Q E) s
theorem FunG.okG {P : Program} {w : World} {K : PySem.W.Frag} {mg : Str → Option Value} {base : Heap} {x qual : Str} {st : Stmt} {f : Addr} {fd : FuncData} {N ps : List Str} {k : Nat} {sp : Sp} (F : Fun K x qual st f fd) (S : FnScope N ps (defScope st)) (len : ∀ vs H Q E, sp vs H Q E → vs.length = ps.length)
    (hbody : ∀ (cdv : Value) (A : Around) (outer : List Env) (s : Shared) (H : Hp) (vs : List V) (Q : VK) (E : XK), A.guards = some [] → Room k (A.deeper (PyProof.Rows.envOfC qual (defScope st) s.heap.objs.size f cdv)) → sp vs H Q E →
      ∃ t, PSs (cxOf CX0 P w K mg base N qual (defScope st) f cdv A outer s H E).nox (defBody st) t ∧ t { nx := fun _ H' => Q .non H', rt := Q } (L2.start N vs) H) : FnG P w K mg base CX0 (k + 1) f fd ps sp := by
  obtain ⟨oc, od, kV, doc, pm, an, cdv, ct, osl, rfl, lk, hcd⟩ := F.ex
  refine ⟨len, fun A outer s H args us vs Q E hg hr e0 hb r hsp => ?_⟩
  exact LamX.run_ofS lk hcd S hr e0 hb r (len _ _ _ _ hsp) fun hr' => by
    obtain ⟨t, h, q⟩ := hbody cdv A outer s H vs Q E hg hr' hsp
    exact ⟨t, h.nox, q⟩
section
variable {X : Cx} {CX : CXT} {k : Nat} {f : Addr} {fd : FuncData} {ps : List Str} {sp : Sp} {dvs : List V} {ds : List Value} {E : XK} {x : Str} {p pos : Pos} {e : Expr} {es : List Expr} {t : TA}
theorem pe_callG (F : FnG X.prog X.w X.K X.mg X.base CX k f fd ps sp) (hgd : X.A.guards = some []) (hr : Room k X.A) (hg : Gl X x) (hm : X.mg x = some (.ref f)) (hk : PySem.W.keepIn X.K (.ref f) = true) (hb : Binds X.K fd ps ds) (hd : Vals dvs ds) (hx : Passes CX X E)
    (ha : PA X (e :: es) t) (hdb : (x == ("__debug__" : Str)) = false := by decide) (he : starEach (e :: es) X.env =
                                                                                                                     (false, eval e X.env) :: starEach es X.env := by rfl) (hpl : (backTo pos (starEach es X.env)).any (·.1) = false := by rfl) :
    PE X (.Call (.Name x p)
                            (e :: es) [] pos) (tCall sp dvs E t) := by
  refine ⟨fun pins s σ H Q I h => wpAny_Call_Name_kw (ld_glob I hg hm ?_ hdb)⟩
  refine PySem.W.callWith_K (h₀ := X.base) I.ok.mod.kin hk (thn
                                                                (ha.run pos pins s σ H _ I h) fun us s1 ⟨vs, H1, I1, r, q⟩ => ⟨I1.kIn, ?_⟩) he hpl
  have r2 : Vals (vs ++ dvs) (us ++ ds) := r.append hd
  have hl : (us ++ ds).length = ps.length := by
    rw [← r2.length]
    exact F.len _ _ _ _ q
  have run := F.run X.A X.stack s1 H1 ⟨us, []⟩ (us ++ ds) (vs ++ dvs) Q E hgd hr I1.env0 (hb s1 us I1.kIn hl) r2 q
  refine wpAny_call (codeAny_mono run fun w' s' z => ?_)
  cases w' with
  | error er => exact hx pins σ H1 s1 er s' I1 z
  | ok fl =>
    cases fl with
    | ret u => exact I1.after z
    | next => exact False.elim z
    | brk => exact False.elim z
    | cont => exact False.elim z
end
/-! ### the law's call, of a promise that is kept where nothing is being told of itself -/
section
open PySem.Spec PyProof.Rows LamX
variable {P : Program} {w : World} {K : PySem.W.Frag} {mg mb : Str → Option Value} {CX : CXT} {k : Nat} {fa a : Addr} {cs : List (Addr × Addr)} {fd : FuncData} {x : Str} {sp : Sp} {s1 : Shared} {vs : List Value} {ns : List Int}
/-- the heap ahead of the call, with the script and the tables -/
structure Ahead (K : PySem.W.Frag) (mg mb : Str → Option Value) (cs : List (Addr × Addr)) (a : Addr) (vs : List Value) (s1 : Shared) : Prop where
  kin : K.In s1.heap
  glob : s1.heap.Ns mainGlobals mg
  blt : s1.heap.Ns builtinsNs mb
  boot : ∀ y : Str, y ≠ "__name__" → mb y = bootBuiltins y
  lim : s1.heap.NoLimit
  gens : s1.gens = #[]
  tab : ∀ p ∈ cs, s1.heap.get? p.2 = some { cls := .none, data := .fields #[] }
  offK : ∀ p ∈ cs, K.lookup p.2 = none
  code : ∀ p ∈ cs, PySem.W.CodeHd s1.heap p.1 p.2
  main : ∃ (bm : Addr) (ob : Obj), mg "__builtins__" = some (.ref bm) ∧ bm ≠ builtinsNs ∧ s1.heap.get? bm = some ob ∧ ob.cls = .type "module" ∧ ob.dict = some builtinsNs ∧ ob.data = .plain
  scr : s1.heap.get? a = some { cls := .type "list", data := .seq vs.toArray }
/-- what is tracked: the script at most, and the tables -/
structure Seen (K : PySem.W.Frag) (cs : List (Addr × Addr)) (a : Addr) (H : Hp) : Prop where
  tbl : ∀ p ∈ cs, H p.2 = some (.tbl #[])
  kind : ∀ b, H b = none ∨ (∃ p ∈ cs, p.2 = b) ∨ ∃ o xs, H b = some (.frz o (.lst xs))
  none_ : ∀ b, H b ≠ none → b = a ∨ ∃ p ∈ cs, p.2 = b
  scrK : H a ≠ none → K.lookup a = none
theorem Ahead.free {H : Hp} (h : Ahead K mg mb cs a vs s1) (z : Seen K cs a H) {b : Addr} {o : Obj} (e : s1.heap.get? b = some o) (n1 : ∀ us n, o.data ≠ .seq us n) (n2 : o.data ≠ .fields #[]) : H b = none := by
  cases q : H b with
  | none => rfl
  | some u =>
    rcases z.none_ b (by rw [q]; simp) with rfl | ⟨p, hp, rfl⟩
    · rw [h.scr] at e
      cases e
      exact absurd rfl (n1 _ _)
    · rw [h.tab p hp] at e
      cases e
      exact absurd rfl n2
theorem Ahead.dict {H : Hp} (h : Ahead K mg mb cs a vs s1) (z : Seen K cs a H) {b : Addr} {o : Obj} {es : Array DictEntry} {ep : Nat} (e : s1.heap.get? b = some o) (d : o.data = .dict es ep) : H b = none := by
  refine h.free z e (fun us n y => ?_) fun y => ?_
  · rw [d] at y
    cases y
  · rw [d] at y
    cases y
theorem Ahead.nsp {H : Hp} (h : Ahead K mg mb cs a vs s1) (z : Seen K cs a H) {b : Addr} {m : Str → Option Value} (y : s1.heap.Ns b m) : (hidT s1.heap H).Ns b m := by
  obtain ⟨o, es, ep, e, d, r⟩ := y
  exact ⟨o, es, ep, hidT_get e (h.dict z e d), d, r⟩
theorem Ahead.inK {H : Hp} (h : Ahead K mg mb cs a vs s1) (z : Seen K cs a H) : K.In (hidT s1.heap H) := fun b o e => by
  refine hidT_get (h.kin b o e) ?_
  cases q : H b with
  | none => rfl
  | some u =>
    rcases z.none_ b (by rw [q]; simp) with rfl | ⟨p, hp, rfl⟩
    · rw [z.scrK (by rw [q]; simp)] at e
      cases e
    · rw [h.offK p hp] at e
      cases e
theorem Ahead.mod {H : Hp} (h : Ahead K mg mb cs a vs s1) (z : Seen K cs a H) : L2.Mod K mg (hidT s1.heap H) := by
  obtain ⟨mc, h1, h2⟩ := h.lim
  exact ⟨h.inK z, h.nsp z h.glob, ⟨mb, h.nsp z h.blt, h.boot⟩, mc, h.nsp z h1, h2⟩
theorem Ahead.tabB {H : Hp} (h : Ahead K mg mb cs a vs s1) (z : Seen K cs a H) : ∀ p ∈ cs, TabB (hidT s1.heap H) mg p.1 p.2 := fun p hp => by
  have tp := h.tab p hp
  obtain ⟨oG, esG, epG, eG, dG, _⟩ := h.glob
  refine ⟨?_, ?_, fun y => ?_⟩
  · obtain ⟨o, us, f1, f2, g1, g2, inF, t1, t2, e1, r1, r2, r3, r4, r5, r6, r7, r8, r9⟩ := h.code p hp
    refine ⟨o, us, f1, f2, g1, g2, inF, t1, t2, hidT_get e1 (h.free z e1 (fun v n y => ?_) fun y => ?_), r1, r2, r3, r4, r5, r6, r7, r8, r9⟩
    · rw [r2] at y
      cases y
    · rw [r2] at y
      cases y
      simp at r3
  · obtain ⟨bm, ob, b1, b2, b3, b4, b5, b6⟩ := h.main
    refine ⟨bm, ob, b1, b2, fun y => ?_, fun y => ?_, hidT_get b3 (h.free z b3 (fun v n y => ?_) fun y => ?_), b4, b5, b6⟩
    · rw [y, eG] at b3
      cases b3
      rw [dG] at b6
      cases b6
    · rw [y, tp] at b3
      cases b3
      cases b6
    · rw [b6] at y
      cases y
    · rw [b6] at y
      cases y
  · rw [y, tp] at eG
    cases eG
    cases dG
theorem Ahead.run {H : Hp} (h : Ahead K mg mb cs a vs s1) (z : Seen K cs a H) (hok : HOk P w H s1.heap) (hr : Room k callerA) (F : ∀ base : Heap, K.In base → base.Ns mainGlobals mg → (∀ p ∈ cs, TabB base mg p.1 p.2) → FnG P w K mg base CX k fa fd [x] sp)
    (hbind : ∀ (s : Shared) (u : Value), BindsTo s fd ⟨[u], []⟩ [(x, u)]) (hsp : sp [.ref a] H (fun v _ => v = .bl true) fun _ _ _ => False) (hCX : ∀ e s', CX [] H s1 (fun _ _ _ => False) e s' → False) :
    codeAny (model P w) callerA (.call (.ref fa) ⟨[.ref a], []⟩) (fun r s' => r = .ok (.ret (.bool true)) ∧ OldK s1.heap s'.heap ∧ s'.os = s1.os ∧ AllBare s'.gens) s1 := by
  have e0 : Env0 P w K mg (hidT s1.heap H) callerA [] s1 H :=
    ⟨rfl, h.mod z, fun b o e => of_hidT e, Nat.le_of_eq (hidT_size _ _), trivial, fun b hb => absurd (show b ∈ ([] : List Addr) from hb) (by simp), hok, .of_eq h.gens⟩
  have go := (F _ (h.inK z) (h.nsp z h.glob) (h.tabB z)).run callerA [] s1 H ⟨[.ref a], []⟩ [.ref a] [.ref a] _ _ rfl hr e0 (hbind s1 (.ref a)) (.cons rfl .nil) hsp
  refine codeAny_mono go fun r s' y => ?_
  cases r with
  | error e => exact (hCX e s' y).elim
  | ok fl =>
    cases fl with
    | next => exact False.elim y
    | brk => exact False.elim y
    | cont => exact False.elim y
    | ret u =>
      obtain ⟨v, H', os, bare, un, hok', rv, q⟩ := y
      cases (show v = V.bl true from q)
      cases (show u = Value.bool true from rv)
      have there : ∀ p ∈ cs, ∃ more : Array Value, s'.heap.get? p.2 = some { cls := .none, data := .fields more } := fun p hp => by
        obtain ⟨more, q⟩ := un.tbls p.2 #[] (z.tbl p hp)
        exact ⟨_, hok' p.2 _ q⟩
      have same : ∀ b o, (¬ ∃ p ∈ cs, p.2 = b) → s1.heap.get? b = some o → s'.heap.get? b = some o := fun b o nb e => by
        rcases z.kind b with q | q | ⟨ob, xs, q⟩
        · exact un.keep b o e q (by intro y; exact absurd (show b ∈ ([] : List Addr) from y) (by simp)) (by simp)
        · exact absurd q nb
        · obtain ⟨e1, _⟩ := hok b _ q
          obtain ⟨e2, _⟩ := hok' b _ (un.frzs b ob _ q)
          rw [e] at e1
          cases e1
          exact e2
      refine ⟨rfl, ⟨fun b o e => ?_, fun b o e => ?_⟩, os, bare⟩
      · by_cases c : ∃ p ∈ cs, p.2 = b
        · obtain ⟨p, hp, rfl⟩ := c
          obtain ⟨more, hm⟩ := there p hp
          rw [h.tab p hp] at e
          cases e
          exact .inr (.inl ⟨((h.code p hp).tab (h.tab p hp)).isCodeTable, rfl, #[], more, rfl, by rw [Array.empty_append]; exact hm⟩)
        · exact .inl (same b o c e)
      · by_cases c : ∃ p ∈ cs, p.2 = b
        · obtain ⟨p, hp, rfl⟩ := c
          obtain ⟨more, hm⟩ := there p hp
          exact ⟨_, hm⟩
        · exact ⟨o, same b o c e⟩
/-- the two ways of tracking -/
theorem Ahead.call (h : Ahead K mg mb cs a vs s1) (hi : IntsAre vs ns) (hl : ns.length ≤ sizeLine) (hr : Room k callerA) (F : ∀ base : Heap, K.In base → base.Ns mainGlobals mg → (∀ p ∈ cs, TabB base mg p.1 p.2) → FnG P w K mg base CX k fa fd [x] sp)
    (hbind : ∀ (s : Shared) (u : Value), BindsTo s fd ⟨[u], []⟩ [(x, u)]) (hsp : ∀ H : Hp, (∀ p ∈ cs, H p.2 = some (.tbl #[])) → SqL K H a (ns.map V.int) → sp [.ref a] H (fun v _ => v = .bl true) fun _ _ _ => False)
    (hCX : ∀ H e s', CX [] H s1 (fun _ _ _ => False) e s' → False) :
    codeAny (model P w) callerA (.call (.ref fa) ⟨[.ref a], []⟩) (fun r s' => r = .ok (.ret (.bool true)) ∧ OldK s1.heap s'.heap ∧ s'.os = s1.os ∧ AllBare s'.gens) s1 := by
  classical
  have rv := vals_ints hi
  have off : ¬ ∃ p ∈ cs, p.2 = a := fun ⟨p, hp, e⟩ => by
    have q := h.tab p hp
    rw [e, h.scr] at q
    have q2 : Data.seq vs.toArray _ = Data.fields #[] := congrArg Obj.data (Option.some.inj q)
    cases q2
  let o : HO := .frz { cls := .type "list", data := .seq vs.toArray } (.lst (ns.map V.int))
  cases hk : K.lookup a with
  | some oa =>
    have e := h.kin a oa hk
    rw [h.scr] at e
    cases e
    let H : Hp := fun b => if ∃ p ∈ cs, p.2 = b then some (.tbl #[]) else none
    have Ht : ∀ p ∈ cs, H p.2 = some (.tbl #[]) := fun p hp => if_pos ⟨p, hp, rfl⟩
    have Hn : ∀ {b}, (¬ ∃ p ∈ cs, p.2 = b) → H b = none := fun c => if_neg c
    refine h.run (H := H) ⟨Ht, fun b => ?_, fun b y => ?_, fun y => absurd (Hn off) y⟩ (fun b u q => ?_) hr F hbind (hsp H Ht (.inr ⟨_, vs.toArray, _, hk, rfl, rfl, rfl, by rw [List.size_toArray, hi.length]; exact hl, by simpa using rv⟩)) fun e s' => hCX H e s'
    · by_cases c : ∃ p ∈ cs, p.2 = b
      · exact .inr (.inl c)
      · exact .inl (Hn c)
    · by_cases c : ∃ p ∈ cs, p.2 = b
      · exact .inr c
      · exact absurd (Hn c) y
    · by_cases c : ∃ p ∈ cs, p.2 = b
      · obtain ⟨p, hp, rfl⟩ := c
        rw [Ht p hp] at q
        cases q
        exact h.tab p hp
      · rw [Hn c] at q
        cases q
  | none =>
    let H : Hp := fun b => if b = a then some o else if ∃ p ∈ cs, p.2 = b then some (.tbl #[]) else none
    have Ha : H a = some o := if_pos rfl
    have Ht : ∀ p ∈ cs, H p.2 = some (.tbl #[]) := fun p hp => (if_neg (fun y => off ⟨p, hp, y⟩)).trans (if_pos ⟨p, hp, rfl⟩)
    have Hn : ∀ {b}, b ≠ a → (¬ ∃ p ∈ cs, p.2 = b) → H b = none := fun n c => (if_neg n).trans (if_neg c)
    refine h.run (H := H) ⟨Ht, fun b => ?_, fun b y => ?_, fun _ => hk⟩ (fun b u q => ?_) hr F hbind (hsp H Ht (.inl (.inr ⟨_, Ha⟩))) fun e s' => hCX H e s'
    · by_cases n : b = a
      · exact .inr (.inr ⟨_, _, by rw [n]; exact Ha⟩)
      · by_cases c : ∃ p ∈ cs, p.2 = b
        · exact .inr (.inl c)
        · exact .inl (Hn n c)
    · by_cases n : b = a
      · exact .inl n
      · by_cases c : ∃ p ∈ cs, p.2 = b
        · exact .inr c
        · exact absurd (Hn n c) y
    · by_cases n : b = a
      · rw [n, Ha] at q
        cases q
        rw [n]
        exact ⟨h.scr, by rw [List.length_map]; exact hl, vs, _, rv, h.scr⟩
      · by_cases c : ∃ p ∈ cs, p.2 = b
        · obtain ⟨p, hp, rfl⟩ := c
          rw [Ht p hp] at q
          cases q
          exact h.tab p hp
        · rw [Hn n c] at q
          cases q
/-- what is known of the law's promise at the head's heap -/
def LawG (l : PySem.W.OpenLaw) (w : World) (K : PySem.W.Frag) (CX : CXT) (k n : Nat) (x : Str) (mg : Str → Option Value) (fa : Addr) (h : Heap) : Prop :=
  ∃ (fd : FuncData) (cs : List (Addr × Addr)) (sp : Sp), (∀ p ∈ cs, h.get? p.2 = some { cls := .none, data := .fields #[] }) ∧
                                                                                                                               (∀ p ∈ cs, K.lookup p.2 = none) ∧ (∀ p ∈ cs, PySem.W.CodeHd h p.1 p.2) ∧ (∀ (s : Shared) (u : Value), BindsTo s fd ⟨[u], []⟩ [(x, u)]) ∧
    (∀ (H : Hp) (a : Addr) (ns : List Int), ns.length ≤ n → (∀ p ∈ cs, H p.2 = some (.tbl #[])) → SqL K H a (ns.map V.int) → sp [.ref a] H (fun v _ => v = .bl true) fun _ _ _ => False) ∧
    ∀ base : Heap, K.In base → base.Ns mainGlobals mg → (∀ p ∈ cs, TabB base mg p.1 p.2) → FnG l.prog w K mg base CX k fa fd [x] sp
theorem walkG {l : PySem.W.OpenLaw} {n k : Nat} {q : Program} {loose : List Str} {XP : (Str → Option Value) → Heap → Prop} {YP : World → Heap → Prop} {d : DefRec} {K : Params → PySem.W.Frag} {x : Str}
    (hn : l.most = some n) (hn2 : n ≤ sizeLine) (hdf : d.params.defaults = [])
                                                                               (hr : Room k callerA) (hY : ∀ (w : World) (h : Heap), YP w h → (K w.params).In h)
    (F : ∀ (w : World) (mg : Str → Option Value) (fa : Addr) (h : Heap), YP w h → (K w.params).In h → h.Ns mainGlobals mg → mg d.name = some (.ref fa) → LawG l w (K w.params) CX0 k n x mg fa h) :
    PySem.W.WalkO q loose XP YP l.row.toRowW d []
                                                  (fun f vs => PySem.call f vs) := by
  refine Att.attach_callB hn hdf fun w s₀ s₁ mg mb fa o pm cd doc a vs ns G Y ho hd hcd hmg hobj hints hlen hbits hg => ?_
  have KX := hY w _ Y
  obtain ⟨fd, cs, sp, hT, nT, C, hb, hsp, hF⟩ := F w mg fa _ Y KX G.T.g hmg
  exact (Ahead.mk KX G.T.g G.T.b G.T.builtins G.T.nolimit hg hT nT C G.T.bmain hobj).call hints (Nat.le_trans hlen hn2) hr hF hb (fun H hH hS => hsp H a ns hlen hH hS) fun H e s' z => z.elim
end
end GW
namespace K44
open PySem L2
open PyProof.Rows PySem.Spec
abbrev NR : List Str := ["tray", "interval", "names", "rows", "follows", "spans", "wiring", "registers", "moment", "free", "far", "due", "cycle", "size", "value", "name", "begin", "turn"]
/-- the n-th statement -/
def nthS : Nat → List Stmt → Stmt
  | _, [] => s_w_right
  | 0, a :: _ => a
  | n + 1, _ :: l => nthS n l
/-- what the names stand for behind the first statements -/
def SR (r : Addr) (t : Int) (nl d fd p q : Addr) (g : Int) (σ : L2.St) : Prop := ∃ x8 x9 x10 x11 x12 x13 x14 x15 x16 x17, σ = [some (.ref r), some (.int t), some (.ref nl), some (.ref d), some (.ref fd), some (.ref p), some (.ref q), some (.int g), x8, x9, x10, x11, x12, x13, x14, x15, x16, x17]
section
variable {P : Program} {w : World} {K : PySem.W.Frag}
                                                      {mg : Str → Option Value} {base : Heap}
abbrev XR (P : Program) (w : World) (K : PySem.W.Frag) (mg : Str → Option Value) (base : Heap) (f : Addr) (cdv : Value) (A : Around) (outer : List Env) (s : Shared) (H : Hp) (E : XK) : Cx := (cxOf CX0 P w K mg base NR "_law_right" (defScope s_w_right) f cdv A outer s H E).nox
theorem passF {X : Cx} : Passes (CX X.prog X.w) X GC2.noE := fun pins σ H s e s' I h => by
  obtain ⟨a, B, H', cls, d, _, _, _, _, _, _, _, hW⟩ := h
  exact False.elim hW
theorem noStopF : NoStop K GC2.noE := fun cls d H h => False.elim h
theorem free_names {t i : Int} {S : Rws} {F : Flw} {q : Str × Int} {ns : List Str} (h : q ∈ freeL t i S F ns) : q.1 ∈ ns := by
  unfold freeL at h
  obtain ⟨n, hn, h2⟩ := List.mem_flatMap.mp h
  unfold freT at h2
  obtain ⟨s, _, e⟩ := List.mem_map.mp h2
  rw [← e]
  exact hn
theorem free_nm {t i : Int} {S : Rws} {F : Flw} (g : Good t S) : ∀ q ∈ freeL t i S F (S.map (·.1)), nmC q.1 = true := fun q h => by
  obtain ⟨x, hx, e⟩ := List.mem_map.mp (free_names h)
  rw [← e]
  exact g.nm x hx
theorem free_len {t i : Int} {S : Rws} {F : Flw} (g : Good t S) (h : FOk t S F) : (freeL t i S F (S.map (·.1))).length ≤ 40 := by
  have l6 := h.len.1
  have : ∀ ns : List Str, (∀ n ∈ ns, n ∈ S.map (·.1)) → (freeL t i S F ns).length ≤ 5 * ns.length := by
    intro ns
    induction ns with
    | nil => intro _; exact Nat.le_refl _
    | cons n ns ih =>
      intro hn
      have i1 := ih fun x hx => hn x (List.mem_cons_of_mem _ hx)
      have w := h.wt _ (h.in g (hn n List.mem_cons_self))
      have bd := fre_bd (t := t) (i := i) (e := (spn S n).2) (w := (fol F n).2) (by have := g.t1; omega) w.1 w.2
      have l : (freT t i n (spn S n).2 (fol F n).2).length ≤ 5 := by unfold freT; rw [List.length_map, List.length_range]; omega
      unfold freeL at *
      rw [List.flatMap_cons, List.length_append, List.length_cons]
      omega
  have h2 := this _ (fun _ h => h)
  rw [List.length_map] at h2
  omega
theorem free_small {t i : Int} {S : Rws} {F : Flw} (g : Good t S) (h : FOk t S F) (fin : ∀ x ∈ S, Fin1 t x) (hi : -1000 ≤ i ∧ i ≤ 1000) : ∀ q ∈ freeL t i S F (S.map (·.1)), -3000 ≤ q.2 ∧ q.2 ≤ 3000 := fun q hq => by
  unfold freeL at hq
  obtain ⟨n, hn, h2⟩ := List.mem_flatMap.mp hq
  have w := h.wt _ (h.in g hn)
  have t1 := g.t1
  have t2 := g.t2
  have f := fin _ (spn_in g.nd hn)
  unfold Fin1 Near at f
  have sp := g.sp _ (spn_in g.nd hn)
  unfold SpOk at sp
  simp only at f w sp
  have bd := fre_bd (t := t) (i := i) (e := (spn S n).2) (w := (fol F n).2) (by omega) w.1 w.2
  have a1 : ((fol F n).2 - (i - (spn S n).2)) / t ≤ 2200 := Int.ediv_le_of_le_mul (by omega) (by omega)
  have a2 : -2200 ≤ ((fol F n).2 - (i - (spn S n).2)) / t := Int.le_ediv_of_mul_le (by omega) (by omega)
  unfold freT at h2
  obtain ⟨s, hs, e⟩ := List.mem_map.mp h2
  have := List.mem_range.mp hs
  rw [← e]
  dsimp only
  omega
theorem loopM (T : T K mg) (U : UX K mg) {cdv : Value} {A : Around} {outer : List Env} {s : Shared} {H0 : Hp} {E : XK} (hg : A.guards = some []) (hr : Room 12 (A.deeper (PyProof.Rows.envOfC "_law_right" (defScope s_w_right) s.heap.objs.size T.f_w_right cdv))) :
    ∃ t, PS (XR P w K mg base T.f_w_right cdv A outer s H0 E) (nthS 5 (defBody s_w_right)) t ∧ ∀ (D : Ends) (σ : L2.St) (H : Hp) (r : Addr) (tt : Int) (nl d fd p q : Addr) (L0 Lf : List (Str × Addr)) (R S : Rws) (F : Flw), SR r tt nl d fd p q (sizeV S tt F (S.map (·.1))) σ → Rl H r → WgAt H U.C U.D q p tt S F → SpS H U.C p tt S r →
      H d = some (.dK (Kvs L0)) → Tups H L0 R → (R.map (·.1)).Nodup → Srd R S → (∀ x ∈ R, Fin1 tt x) → H fd = some (.dK (Kvs Lf)) → FTs H Lf F → d ≠ r → fd ≠ r → tt ≤ 6 →
      (∀ σ' H', SR r tt nl d fd p q (sizeV S tt F (S.map (·.1))) σ' → Rl H' r → Only r H H' → D.nx σ' H') → t D σ H := by
  have hu := hu_of hr
  have hgd : (XR P w K mg base T.f_w_right cdv A outer s H0 E).A.guards = some [] := hg
  have G := ok_free (P := P) (w := w) (base := base) T U
  have Gac : FnR P w K mg base CX0 4 U.mc.f (sr_across K U.C) := ok_across T U
  have G_w_pick : FnOk P w K mg base CX0 2 T.f_w_pick T.d_w_pick ["tray", "items"] (sp_w_pick K) := ok_w_pick T
  have G_w_free : FnOk P w K mg base CX0 1 T.f_w_free T.d_w_free ["rows", "interval", "follows", "moment"] (sp_w_free K) := ok_w_free T
  have hr_w_free : Room 1 _ := hr.mono (by decide)
  have hr_w_pick : Room 2 _ := hr.mono (by decide)
  refine ⟨_, (ps_for PassesOwn.never rfl (pi_range2 (by rfl) T.z_range (pa_cons (pe_un un_neg (pv 1)) (pa_cons (pe_op op_mul pe_int (pv 1)) pa_nil))) (pg_name (i := 8) sc_w_right.nd rfl (Or.inl rfl))
      (pss_cons (ps_set (i := 9) sc_w_right.nd rfl (Or.inl rfl) (pe_call G_w_free hr_w_free rfl T.m_w_free T.F_w_free.kp T.b_w_free .nil pass0 (pa_cons (pv 3) (pa_cons (pv 1) (pa_cons (pv 4) (pa_cons (pv 8) pa_nil))))))
      (pss_cons (ps_if (pt_cmpR op_ne (pe_callB (RL.cr_reprD hgd (un64 hr)) (by rfl) T.z_repr (by decide +kernel) (pa_cons (pe_listG (pgen_meth (E := GC2.noE) (pv 6) U.clD U.wf.m G (hr.mono (by decide)) U.wf.b .nil (pa_cons (pv 8) pa_nil)) passF noStopF (hr.mono (by decide)) (by rfl) T.z_list (by decide +kernel)) pa_nil)) (pe_callB (RL.cr_reprD hgd (un64 hr)) (by rfl) T.z_repr (by decide +kernel) (pa_cons (pv 9) pa_nil)) (nomark _))
      (pss_one (ps_ret pe_bl))
      pss_nil)
      (pss_cons (ps_if (pt_cmpR op_ne (pe_op op_add (pe_callB call_len_seq (by rfl) T.z_len (by decide +kernel) (pa_cons (pv 9) pa_nil)) (pe_methR (pv 5) U.cl U.mc.m Gac (hr.mono (by decide)) pass0 (pa_cons (pv 8) pa_nil))) (pv 7) (nomark _))
      (pss_one (ps_ret pe_bl))
      pss_nil)
      (pss_cons (ps_set (i := 10) sc_w_right.nd rfl (Or.inr rfl) (pe_call G_w_pick hr_w_pick rfl T.m_w_pick T.F_w_pick.kp T.b_w_pick .nil pass0 (pa_cons (pv 0) (pa_cons (pe_lst (pa_cons (pe_op op_pow pe_int pe_int) (pa_cons (pe_un un_neg (pe_op op_pow pe_int pe_int)) (pa_cons pe_int pa_nil)))) pa_nil))))
      (pss_cons (ps_setLc (i := 11) (own := [("name", 15), ("turn", 17)]) (g := gTup K 2 (gCons (gName 15) (gCons (gName 17) gNil))) rfl sc_w_right.nd rfl rfl (sw_true rfl rfl rfl (by decide +kernel)) (pi_list (pv 9)) (blkOk_by (N := NR) (sc := defScope s_w_right) (by decide +kernel)) (fun _ _ _ _ _ => (pg_tup rfl (pgs_cons (pg_name (i := 15) sc_w_right.nd rfl (Or.inl rfl)) (pgs_cons (pg_name (i := 17) sc_w_right.nd rfl (Or.inl rfl)) pgs_nil)))) (fun _ _ _ _ _ => pts_nil) (fun _ _ _ _ _ => (pe_tup (pa_cons (pv 15) (pa_cons (pe_op op_add (pv 17) (pv 10)) pa_nil)))))
      (pss_one (ps_if (pt_cmpR op_ne (pe_callB (RL.cr_reprD hgd (un64 hr)) (by rfl) T.z_repr (by decide +kernel) (pa_cons (pe_listG (pgen_meth (E := GC2.noE) (pv 6) U.clD U.wf.m G (hr.mono (by decide)) U.wf.b .nil (pa_cons (pe_op op_add (pv 8) (pe_op op_mul (pv 1) (pv 10))) pa_nil)) passF noStopF (hr.mono (by decide)) (by rfl) T.z_list (by decide +kernel)) pa_nil)) (pe_callB (RL.cr_reprD hgd (un64 hr)) (by rfl) T.z_repr (by decide +kernel) (pa_cons (pv 11) pa_nil)) (nomark _))
      (pss_one (ps_ret pe_bl))
      pss_nil)))))))), ?_⟩
  rintro D σ H r tt nl d fd p q L0 Lf R S F ⟨x8, x9, x10, x11, x12, x13, x14, x15, x16, x17, rfl⟩ R0 wg sp hd ts ndR srd fin hfd fts ndr nfr t6 k
  obtain ⟨_, fok, dx, fd', ca, L, as, h1, h2, h3, h4, h5⟩ := id wg
  have g := sp.1
  have t1 := g.t1
  refine ⟨_, rfl, _, rfl, _, rfl, _, _, rfl, rfl, .inl ⟨by omega, by omega⟩, _, _, rfl, ⟨by omega, by omega, by omega, by omega⟩, ?_⟩
  have finS : ∀ x ∈ S, Fin1 tt x := fun x hx => fin x (srd.pm.mem_iff.mp hx)
  refine for_range (n := (2 * tt - -tt).toNat) (fun j σ' H' => SR r tt nl d fd p q (sizeV S tt F (S.map (·.1))) σ' ∧ Rl H' r ∧ Only r H H') ⟨⟨_, _, _, _, _, _, _, _, _, _, rfl⟩, R0, Only.refl⟩ ?_ ?_
  · rintro j σ' Ha hj ⟨⟨y8, y9, y10, y11, y12, y13, y14, y15, y16, y17, rfl⟩, Ra, Oa⟩
    obtain ⟨i, hi⟩ : ∃ i, i = -tt + (j : Int) := ⟨_, rfl⟩
    rw [← hi]
    have wga := wg.only Oa R0
    have spa := sp.only Oa R0
    have kta := KT.only Oa R0
    have hda := Oa _ _ ndr hd
    have tsa := ts.keep kta
    have hfda := Oa _ _ nfr hfd
    have ftsa := fts.keep kta
    obtain ⟨_, _, dxa, fda, caa, La, asa, h1a, _⟩ := id wga
    obtain ⟨_, _, dxp, rdp, nmp, lvp, crp, Lp, LLp, LCp, p1a, _⟩ := id spa
    refine ⟨_, rfl, _, rfl, _, rfl, _, rfl, d, fd, L0, Lf, R, S, F, tt, i, rfl, hda, tsa, ndR, srd, g, fin, hfda, ftsa, fok, ⟨by omega, by omega⟩, fun fr xs Hb Sb hfr efr ofr => ?_⟩
    have nfrr := Ra.ne hfr
    -- free, as told
    have nmS := free_nm (t := tt) (i := i) (F := F) g
    have smS := free_small g fok finS (i := i) ⟨by omega, by omega⟩
    have lnS := free_len (i := i) g fok
    have td := (TD.out nmS (fun q hq => by have := smS q hq; omega)).tell (Nat.le_trans (Nat.mul_le_mul_left 11 lnS) (by decide)) (by decide)
    refine ⟨_, rfl, q, dxa, _, rfl, Sb _ _ h1a, rfl, _, rfl, ?_⟩
    refine ⟨q, p, tt, i, S, F, rfl, wga.same Sb, ⟨by omega, by omega⟩, fun ys Hc Sc oc => fun z hz => ?_⟩
    have A1 := Same.new (o := .lst ys) hz
    have Sd := Same.trans Sc A1
    have ez : (upd Hc z (.lst ys)) z = some (.lst ys) := upd_same
    have oz := oc.keep (KT.same A1)
    generalize upd Hc z (.lst ys) = Hd at A1 Sd ez oz ⊢
    refine ⟨z, _, rfl, .lst (SqL.of ez) (out_dss oz), td.1, td.2.1, td.2.2, ?_⟩
    refine ⟨_, rfl, fr, _, rfl, .lst (SqL.of (Sd _ _ efr)) (out_dss (ofr.keep (KT.same Sd))), td.1, td.2.1, td.2.2, ?_⟩
    refine ⟨rfl, _, rfl, ?_⟩
    rw [decide_eq_true rfl]
    refine iteF ?_
    have Se := Same.trans Sb Sd
    have efr2 := Sd _ _ efr
    have ofr2 := ofr.keep (KT.same Sd)
    clear ez oz A1 oc hz Sc Sd Sb efr ofr td
    -- the count
    refine ⟨_, rfl, fr, xs, rfl, .inl (SqL.of efr2), _, rfl, p, dxp, _, rfl, Se _ _ p1a, rfl, _, rfl, ?_⟩
    refine ⟨p, tt, i, S, r, [], rfl, spa.same Se, by simp, (fun n h => by cases h), ⟨by omega, by omega⟩, fun zs He Sf ezs => ?_⟩
    have ecnt : ((xs.length : Nat) : Int) + cnt S tt 1 (chs S [] zs) (i % tt) = sizeV S tt F (S.map (·.1)) := by
      rw [show chs S [] zs = S.map (·.1) from if_pos rfl, ofr2.len]
      exact free_across g fok
    refine ⟨_, _, rfl, rfl, _, rfl, ?_⟩
    dsimp only
    rw [ecnt]
    refine ⟨rfl, _, rfl, ?_⟩
    rw [decide_eq_true rfl]
    refine iteF ?_
    have Sg := Same.trans Se Sf
    have efr3 := Sf _ _ efr2
    have ofr3 := ofr2.keep (KT.same Sf)
    clear ezs ecnt efr2 ofr2 Sf Se
    -- far
    refine ⟨_, rfl, _, _, rfl, rfl, ⟨by decide, by decide, by decide⟩, _, _, rfl, rfl, ⟨by decide, by decide, by decide⟩, _, rfl, by show 3 ≤ sizeLine; decide, fun q0 hq0 => ?_⟩
    have A1 := Same.new (o := .lst [V.int (10 ^ (9 : Int).toNat), .int (-(10 ^ (9 : Int).toNat)), .int 1]) hq0
    have Rg := Same.rl Sg Ra
    refine ⟨r, .ref q0, _, rfl, Same.rl A1 Rg, .inl ⟨q0, rfl, Rg.ne hq0, .inl (SqL.of upd_same)⟩, by show 0 < 3; decide, by show 3 ≤ sizeLine; decide, fun v G1 hv R1 O1 => ?_⟩
    obtain ⟨k0, rfl, k1, k2⟩ : ∃ k0 : Int, v = .int k0 ∧ -1000000000 ≤ k0 ∧ k0 ≤ 1000000000 := by
      simp only [List.mem_cons, List.not_mem_nil, or_false] at hv
      rcases hv with h | h | h
      all_goals subst h; exact ⟨_, rfl, by decide, by decide⟩
    have O2 : Only r Ha G1 := fun b o n e => O1 b o n (A1 b o (Sg b o e))
    have efr4 := O1 _ _ nfrr (A1 _ _ efr3)
    have ofr4 := (ofr3.keep (KT.same A1)).keep (KT.only O1 (Same.rl A1 Rg))
    have wg1 := wga.only O2 Ra
    obtain ⟨_, _, dxb, fdb, cab, Lb, asb, h1b, _⟩ := id wg1
    clear hv O1 A1 hq0 efr3 ofr3 Rg Sg
    -- due
    refine ⟨_, rfl, fr, rfl, ⟨_, SqL.of efr4⟩, fun M hM => ?_⟩
    refine lc_list (xs := xs) (fun j2 H' => Same G1 H' ∧ ∃ ps, H' M = some (.lst ps) ∧ OutAt H' ps (((freeL tt i S F (S.map (·.1))).take j2).map fun q => (q.1, q.2 + k0))) ⟨Same.new hM, [], upd_same, .nil⟩ (fun j2 H' _ h => SqL.of (h.1 _ _ efr4)) ?_ ?_
    · rintro j2 x Hf hx ⟨Sh, ps, eM, ops⟩
      obtain ⟨n, v, a, rfl, eL, ea⟩ := ofr4.at j2 hx
      refine ⟨a, _, rfl, SqT.of (Sh _ _ ea), rfl, _, _, rfl, _, _, rfl, rfl, ?_⟩
      refine ⟨rfl, ?_⟩
      unfold tYes
      dsimp only
      rw [if_pos rfl]
      refine ⟨_, rfl, _, rfl, _, rfl, _, _, rfl, rfl, by show 2 ≤ sizeLine; decide, fun z hz => ?_⟩
      have nMz : M ≠ z := ne_of_none eM hz
      have lps := ops.len
      rw [List.length_map, List.length_take] at lps
      refine ⟨ps, (by rw [upd_ne nMz]; exact eM), by rw [sizeLine_eq]; omega, Same.at hM (Same.trans Sh (Same.new hz)), ps ++ [V.ref z], upd_same, ?_⟩
      rw [List.take_add_one, eL, List.map_append]
      have kt : KT Hf (upd (upd Hf z (.tup [V.str n, V.int (v + k0)])) M (.lst (ps ++ [V.ref z]))) := KT.trans (KT.new hz) (KT.put (u := .lst ps) (by rw [upd_ne nMz]; exact eM) (fun _ z => by cases z))
      exact (ops.keep kt).snoc (by rw [upd_ne nMz.symm, upd_same])
    · rintro Hf ⟨Sh, ps, eM, ops⟩
      rw [ofr4.len, List.take_length] at ops
      have nmD : ∀ q ∈ (freeL tt i S F (S.map (·.1))).map (fun q => (q.1, q.2 + k0)), nmC q.1 = true := fun q hq => by
        obtain ⟨q0, h0, rfl⟩ := List.mem_map.mp hq
        exact nmS q0 h0
      have smD : ∀ q ∈ (freeL tt i S F (S.map (·.1))).map (fun q => (q.1, q.2 + k0)), -999999999999 ≤ q.2 ∧ q.2 ≤ 999999999999 := fun q hq => by
        obtain ⟨q0, h0, rfl⟩ := List.mem_map.mp hq
        have := smS q0 h0
        dsimp only
        omega
      have td2 := (TD.out nmD smD).tell (Nat.le_trans (Nat.mul_le_mul_left 11 (by rw [List.length_map]; exact lnS)) (by decide)) (by decide)
      have fb6 : -6000000000 ≤ tt * k0 ∧ tt * k0 ≤ 6000000000 := by
        have a1 : tt * (-1000000000) ≤ tt * k0 := Int.mul_le_mul_of_nonneg_left k1 (by omega)
        have a2 : tt * k0 ≤ tt * 1000000000 := Int.mul_le_mul_of_nonneg_left k2 (by omega)
        omega
      refine ⟨_, rfl, q, dxb, _, rfl, Sh _ _ h1b, rfl, _, rfl, _, rfl, _, rfl, _, _, rfl, rfl, .inl ⟨by omega, by omega⟩, _, _, rfl, rfl, ?_⟩
      refine ⟨q, p, tt, i + tt * k0, S, F, rfl, wg1.same Sh, ⟨by omega, by omega⟩, fun us Hg Si og => fun z hz => ?_⟩
      rw [free_later (by omega)] at og
      have A2 := Same.new (o := .lst us) hz
      refine ⟨z, _, rfl, .lst (SqL.of upd_same) (out_dss (og.keep (KT.same A2))), td2.1, td2.2.1, td2.2.2, ?_⟩
      refine ⟨_, rfl, M, _, rfl, .lst (SqL.of (A2 _ _ (Si _ _ eM))) (out_dss ((ops.keep (KT.same Si)).keep (KT.same A2))), td2.1, td2.2.1, td2.2.2, ?_⟩
      refine ⟨rfl, _, rfl, ?_⟩
      rw [decide_eq_true rfl]
      refine iteF ?_
      have Sz := Same.trans Sh (Same.trans Si A2)
      exact ⟨⟨_, _, _, _, _, _, _, _, _, _, rfl⟩, Same.rl Sz R1, fun b o n e => Sz _ _ (O2 b o n (Oa b o n e))⟩
  · rintro σ' Ha ⟨sr, Ra, Oa⟩
    exact k _ _ sr Ra Oa
end
end K44
namespace K44
open PySem L2
open PyProof.Rows PySem.Spec
theorem CTs.ix {H : Hp} : ∀ {as : List Addr} {cs : List (List Str)} (j : Nat) {a : Addr}, CTs H as cs → as[j]? = some a → ∃ c, cs[j]? = some c ∧ H a = some (.tup (c.map V.str))
  | _, _, 0, _, .cons h _, e => by cases e; exact ⟨_, rfl, h⟩
  | _, _, j + 1, _, .cons _ t, e => CTs.ix j t e
theorem CTs.len2 {H : Hp} : ∀ {as : List Addr} {cs : List (List Str)}, CTs H as cs → as.length = cs.length
  | _, _, .nil => rfl
  | _, _, .cons _ t => congrArg (· + 1) (CTs.len2 t)
theorem in_each {t i : Int} (ht : 0 < t) {S : Rws} {n : Str} {v : Int} (nd : (S.map (·.1)).Nodup) {b e : Int} (hm : (n, b, e) ∈ S) : (n, v) ∈ eachL t i S ↔ (i - e) / t < v ∧ v ≤ (i - b) / t := by
  unfold eachL
  rw [List.mem_flatMap]
  constructor
  · rintro ⟨⟨n2, b2, e2⟩, h1, h2⟩
    unfold turnsOf at h2
    obtain ⟨s, hs, es⟩ := List.mem_map.mp h2
    have hs := List.mem_range.mp hs
    simp only [Prod.mk.injEq] at es
    obtain ⟨rfl, rfl⟩ := es
    have e3 := (spn_at nd hm).symm.trans (spn_at nd h1)
    cases e3
    rw [alv_mod ht] at hs ⊢
    dsimp only at hs ⊢
    omega
  · rintro ⟨h1, h2⟩
    refine ⟨_, hm, ?_⟩
    unfold turnsOf
    dsimp only
    rw [alv_mod ht]
    exact List.mem_map.mpr ⟨(v - (i - e) / t - 1).toNat, List.mem_range.mpr (by omega), by rw [Prod.mk.injEq]; exact ⟨rfl, by omega⟩⟩
/-- the turns behind the first names of a cycle -/
def rndS (S : Rws) (t : Int) (F : Flw) (c : List Str) (j : Nat) : Int := ((c.take j).map (rnd S t F)).sum
theorem rndS_bd {t : Int} {S : Rws} {F : Flw} (g : Good t S) (h : FOk t S F) (fin : ∀ x ∈ S, Fin1 t x) : ∀ {c : List Str}, (∀ n ∈ c, n ∈ S.map (·.1)) → -16 * (c.length : Int) ≤ (c.map (rnd S t F)).sum ∧ (c.map (rnd S t F)).sum ≤ 16 * (c.length : Int)
  | [], _ => ⟨Int.le_refl 0, Int.le_refl 0⟩
  | n :: c, hc => by
    have a := rnd_bd g h fin (hc n List.mem_cons_self)
    have b := rndS_bd g h fin (c := c) fun x hx => hc x (List.mem_cons_of_mem _ hx)
    rw [List.map_cons, List.sum_cons, List.length_cons]
    omega
theorem rndS_small {t : Int} {S : Rws} {F : Flw} (g : Good t S) (h : FOk t S F) (fin : ∀ x ∈ S, Fin1 t x) {c : List Str} (hc : ∀ n ∈ c, n ∈ S.map (·.1)) (l6 : c.length ≤ 6) (j : Nat) : -96 ≤ rndS S t F c j ∧ rndS S t F c j ≤ 96 := by
  have := rndS_bd g h fin (c := c.take j) fun n hn => hc n (List.mem_of_mem_take hn)
  have l : (c.take j).length ≤ 6 := by rw [List.length_take]; omega
  unfold rndS
  omega
theorem rndS_succ {S : Rws} {t : Int} {F : Flw} {c : List Str} {j : Nat} {n : Str} (h : c[j]? = some n) : rndS S t F c (j + 1) = rndS S t F c j + rnd S t F n := by
  unfold rndS
  rw [List.take_add_one, h, List.map_append, List.sum_append]
  simp
theorem un65 {k : Nat} {A : Around} (r : Room k A) : A.units + 65 < cLine := by
  have := r.un
  omega
section
variable {P : Program} {w : World} {K : PySem.W.Frag}
                                                      {mg : Str → Option Value} {base : Heap}
theorem loopZ (T : T K mg) (U : UX K mg) {cdv : Value} {A : Around} {outer : List Env} {s : Shared} {H0 : Hp} {E : XK} (hg : A.guards = some []) (hr : Room 12 (A.deeper (PyProof.Rows.envOfC "_law_right" (defScope s_w_right) s.heap.objs.size T.f_w_right cdv))) :
    ∃ t, PS (XR P w K mg base T.f_w_right cdv A outer s H0 E) (nthS 6 (defBody s_w_right)) t ∧ ∀ (D : Ends) (σ : L2.St) (H : Hp) (r : Addr) (tt gg : Int) (nl d fd p q : Addr) (L0 : List (Str × Addr)) (R S : Rws) (F : Flw), SR r tt nl d fd p q gg σ → WgAt H U.C U.D q p tt S F → SpS H U.C p tt S r →
      H d = some (.dK (Kvs L0)) → Tups H L0 R → Srd R S → (∀ x ∈ R, Fin1 tt x) → tt ≤ 6 →
      (∀ σ' H', SR r tt nl d fd p q gg σ' → Same H H' → D.nx σ' H') → t D σ H := by
  have hu := hu_of hr
  have hgd : (XR P w K mg base T.f_w_right cdv A outer s H0 E).A.guards = some [] := hg
  have G := ok_each (P := P) (w := w) (base := base) T U
  have Ga : FnOk P w K mg base CX0 5 U.wa.f U.wa.d ["self", "name", "turn"] (sp_after U.C U.D) := ok_after T U
  have Gc : FnOk P w K mg base CX0 1 U.pc.g U.pc.d ["self"] (getSp U.D "_cycles") := ok_get U.clD U.pc sc_Wiring_cycles U.k3 ⟨_, _, _, rfl⟩
  have Gz : FnOk P w K mg base CX0 4 U.pz.g U.pz.d ["self"] (sp_sizes K U.C U.D) := ok_sizes T U
  refine ⟨_, (ps_for PassesOwn.never rfl (RZ.pi_zipA (by rfl) T.z_zip (pa_cons (pe_prop (pv 6) U.clD U.pc.pr Gc (hr.mono (by decide)) U.pc.b .nil pass0 rfl) (pa_cons (pe_prop (pv 6) U.clD U.pz.pr Gz (hr.mono (by decide)) U.pz.b .nil pass0 rfl) pa_nil))) (pg_tup rfl (pgs_cons (pg_name (i := 12) sc_w_right.nd rfl (Or.inl rfl)) (pgs_cons (pg_name (i := 13) sc_w_right.nd rfl (Or.inl rfl)) pgs_nil)))
      (pss_cons (ps_set (i := 14) sc_w_right.nd rfl (Or.inl rfl) (pe_tup (pa_cons (pe_ix (r := rIx K) ix_seq (pv 12) pe_int (fun _ _ => rfl)) (pa_cons pe_int pa_nil))))
      (pss_cons (ps_for PassesOwn.never rfl (pi_tup (pv 12)) (pg_name (i := 15) sc_w_right.nd rfl (Or.inl rfl))
      (pss_cons (ps_if (pt_cmpR op_ne (pe_ix (r := rIx K) ix_seq (pv 14) pe_int (fun _ _ => rfl)) (pv 15) (nomark _))
      (pss_one (ps_ret pe_bl))
      pss_nil)
      (pss_cons (ps_set (i := 16) sc_w_right.nd rfl (Or.inl rfl) (pe_op op_add (pe_ix (r := rIx K) ix_seq (pe_dget (by exact hu) (pv 3) (pv 15) (fun _ _ => rfl)) pe_int (fun _ _ => rfl)) (pe_op op_mul (pv 1) (pe_ix (r := rIx K) ix_seq (pv 14) pe_int (fun _ _ => rfl)))))
      (pss_cons (ps_if (PW.pt (pw_or (pt_cmpR (op_notInD (un65 hr)) (pv 14) (pe_listG (pgen_meth (E := GC2.noE) (pv 5) U.cl U.m8.m G (hr.mono (by decide)) U.m8.b .nil (pa_cons (pv 16) pa_nil)) passF noStopF (hr.mono (by decide)) (by rfl) T.z_list (by decide +kernel)) (by with_unfolding_all rfl)) (pw_or1 (pt_cmpR (op_inD (un65 hr)) (pv 14) (pe_listG (pgen_meth (E := GC2.noE) (pv 5) U.cl U.m8.m G (hr.mono (by decide)) U.m8.b .nil (pa_cons (pe_op op_sub (pv 16) pe_int) pa_nil)) passF noStopF (hr.mono (by decide)) (by rfl) T.z_list (by decide +kernel)) (by with_unfolding_all rfl)))))
      (pss_one (ps_ret pe_bl))
      pss_nil)
      (pss_one (ps_set (i := 14) sc_w_right.nd rfl (Or.inl rfl) (pe_meth (pv 6) U.clD U.wa.m Ga (hr.mono (by decide)) U.wa.b .nil pass0 (pa_cons (pe_ix (r := rIx K) ix_seq (pv 14) pe_int (fun _ _ => rfl)) (pa_cons (pe_ix (r := rIx K) ix_seq (pv 14) pe_int (fun _ _ => rfl)) pa_nil)))))))))
      (pss_one (ps_if (pt_cmpR op_ne (pe_callB (RL.cr_reprD hgd (un64 hr)) (by rfl) T.z_repr (by decide +kernel) (pa_cons (pv 14) pa_nil)) (pe_callB (RL.cr_reprD hgd (un64 hr)) (by rfl) T.z_repr (by decide +kernel) (pa_cons (pe_tup (pa_cons (pe_ix (r := rIx K) ix_seq (pv 12) pe_int (fun _ _ => rfl)) (pa_cons (pe_op op_add pe_int (pv 13)) pa_nil))) pa_nil)) (nomark _))
      (pss_one (ps_ret pe_bl))
      pss_nil))))), ?_⟩
  rintro D σ H r tt gg nl d fd p q L0 R S F ⟨x8, x9, x10, x11, x12, x13, x14, x15, x16, x17, rfl⟩ wg sp hd ts srd fin t6 k
  obtain ⟨_, fok, dx, fd', ca, L, as, h1, h2, h3, h4, h5⟩ := id wg
  obtain ⟨_, _, dxp, rdp, nmp, lvp, crp, Lp, LLp, LCp, p1, _⟩ := id sp
  have g := sp.1
  have t1 := g.t1
  have finS : ∀ x ∈ S, Fin1 tt x := fun x hx => fin x (srd.pm.mem_iff.mp hx)
  refine ⟨_, rfl, q, dx, _, rfl, h1, q, dx, _, .ref ca, rfl, h1, rfl, _, rfl, q, dx, _, rfl, h1, q, p, tt, S, F, rfl, wg, fun za H1 S1 ez => ⟨ca, za, _, _, rfl, .inr ⟨SqT.of (S1 _ _ h4), SqT.of ez, ?_⟩⟩⟩
  refine RZ.for_zipT (xs := as.map V.ref) (ys := (szs S tt F).map V.int) (by unfold szs; rw [List.length_map, List.length_map, List.length_map, h5.len2]) (fun j σ' H' => SR r tt nl d fd p q gg σ' ∧ Same H1 H') ⟨⟨_, _, _, _, _, _, _, _, _, _, rfl⟩, Same.refl _⟩ (fun j σ' H' h => ⟨SqT.of (h.2 _ _ (S1 _ _ h4)), SqT.of (h.2 _ _ ez)⟩) ?_ ?_
  · rintro j x y T0 σ' Ha hx hy ⟨⟨y8, y9, y10, y11, y12, y13, y14, y15, y16, y17, rfl⟩, Sa⟩ hT0
    rw [List.getElem?_map] at hx hy
    obtain ⟨a, eas, rfl⟩ : ∃ a, as[j]? = some a ∧ x = V.ref a := by
      cases e : as[j]? with
      | none => rw [e] at hx; cases hx
      | some a => rw [e] at hx; cases hx; exact ⟨a, rfl, rfl⟩
    obtain ⟨c, ec, hac⟩ := h5.ix j eas
    obtain rfl : y = V.int (sizeV S tt F c) := by
      unfold szs at hy
      rw [List.getElem?_map, ec] at hy
      cases hy
      rfl
    have hcm : c ∈ cyA S F := List.mem_of_getElem? ec
    obtain ⟨⟨c0, hc0, cyc⟩, hsub, l6, l1⟩ := cyA_in g fok hcm
    have Sx : Same H (upd Ha T0 (.tup [V.ref a, V.int (sizeV S tt F c)])) := Same.trans (Same.trans S1 Sa) (Same.new hT0)
    have Sy : Same H1 (upd Ha T0 (.tup [V.ref a, V.int (sizeV S tt F c)])) := Same.trans Sa (Same.new hT0)
    have eT : (upd Ha T0 (.tup [V.ref a, V.int (sizeV S tt F c)])) T0 = some (.tup [V.ref a, V.int (sizeV S tt F c)]) := upd_same
    generalize upd Ha T0 (.tup [V.ref a, V.int (sizeV S tt F c)]) = Hb at Sx Sy eT ⊢
    refine ⟨T0, _, rfl, SqT.of eT, rfl, _, _, rfl, _, _, rfl, rfl, ?_⟩
    have hab := Sx _ _ hac
    refine ⟨_, rfl, .inr (.inl ⟨_, _, _, .str c0, rfl, rfl, SqT.of hab, atI_nat (j := 0) (by rw [List.getElem?_map, cyc.ch.hd]; rfl), by show 2 ≤ sizeLine; decide, fun v0 hv0 => ?_⟩)⟩
    have A1 := Same.new (o := .tup [V.str c0, V.int 5]) hv0
    have e0 : (upd Hb v0 (.tup [V.str c0, V.int 5])) v0 = some (.tup [V.str c0, V.int 5]) := upd_same
    have Sc := Same.trans Sx A1
    have Sc1 := Same.trans Sy A1
    generalize upd Hb v0 (.tup [V.str c0, V.int 5]) = Hc at A1 e0 Sc Sc1 ⊢
    have hac2 := Sc _ _ hac
    refine ⟨_, rfl, a, rfl, ⟨_, SqT.of hac2⟩, ?_⟩
    refine for_it (walk_tup (K := K) (a := a) (xs := c.map V.str)) (fun i σ G => Same Hc G ∧ ∃ y15 y16 m u, σ = [some (.ref r), some (.int tt), some (.ref nl), some (.ref d), some (.ref fd), some (.ref p), some (.ref q), some (.int gg), y8, y9, y10, y11, some (.ref a), some (.int (sizeV S tt F c)), some (.ref u), y15, y16, y17] ∧ G u = some (.tup [.str m, .int (5 + rndS S tt F c i)]) ∧ (∀ x, c[i]? = some x → x = m) ∧ (i = c.length → m = c0)) ⟨Same.refl _, y15, y16, c0, v0, rfl, e0, fun x hx => Option.some.inj (hx.symm.trans cyc.ch.hd), fun _ => rfl⟩ (fun i σ G _ h => SqT.of (h.1 _ _ hac2)) ?_ ?_
    · rintro i x σ Ga G hi ⟨SG, z15, z16, m, u, rfl, eu, hm, _⟩ ⟨rfl, hx⟩
      rw [List.getElem?_map] at hx
      cases en : c[i]? with
      | none => rw [en] at hx; cases hx
      | some n =>
      rw [en] at hx
      cases hx
      obtain rfl := hm n en
      have hn := hsub n (List.mem_of_getElem? en)
      have bd := rndS_small g fok finS hsub l6 i
      obtain ⟨v, hv⟩ : ∃ v, v = 5 + rndS S tt F c i := ⟨_, rfl⟩
      rw [← hv] at eu
      have SaG := Same.trans Sc SG
      obtain ⟨u1, b, e, hv1, ht1, hm1⟩ := (ts.keep (KT.same SaG)).get ((srd.pm.map (·.1)).mem_iff.mp hn)
      have hmS := srd.pm.mem_iff.mpr hm1
      have dr : DGet G d (.str n) (some (.ref u1)) := by
        have := DGet.k (k := Sum.inr n) (SaG _ _ hd)
        rw [hv1] at this
        exact this
      have f1 := fin _ hm1
      have f2 := g.sp _ hmS
      unfold Fin1 Near at f1
      unfold SpOk at f2
      simp only at f1 f2
      have tv : -1000 ≤ tt * v ∧ tt * v ≤ 1000 := by
        have a1 : tt * (-91) ≤ tt * v := Int.mul_le_mul_of_nonneg_left (by omega) (by omega)
        have a2 : tt * v ≤ tt * 101 := Int.mul_le_mul_of_nonneg_left (by omega) (by omega)
        omega
      refine ⟨_, rfl, .inr (.inl ⟨_, _, _, _, rfl, rfl, SqT.of eu, rfl, _, rfl, rfl, _, rfl, ?_⟩)⟩
      rw [decide_eq_true rfl]
      refine iteF ?_
      refine ⟨_, rfl, _, rfl, d, V.ref u1, rfl, dr, .inr (.inl ⟨_, _, _, _, rfl, rfl, SqT.of ht1, rfl, _, rfl, _, rfl, .inr (.inl ⟨_, _, _, _, rfl, rfl, SqT.of eu, rfl, _, _, rfl, rfl, .inl ⟨by omega, by omega⟩, _, _, rfl, rfl, ?_⟩)⟩)⟩
      have nmn : nmC n = true := by
        obtain ⟨x, hx, ex⟩ := List.mem_map.mp hn
        rw [← ex]
        exact g.nm x hx
      have d1 : (b + tt * v - b) / tt = v := by rw [show b + tt * v - b = tt * v by omega]; exact Int.mul_ediv_cancel_left _ (by omega)
      have d2 : (b + tt * v - e) / tt < v := by
        apply Int.ediv_lt_of_lt_mul (by omega)
        rw [Int.mul_comm]
        omega
      have in1 : (n, v) ∈ eachL tt (b + tt * v) S := (in_each (by omega) g.nd hmS).mpr ⟨d2, by omega⟩
      have in2 : ¬ (n, v) ∈ eachL tt (b + tt * v - 1) S := fun z => by
        have := ((in_each (by omega) g.nd hmS).mp z).2
        have d3 : (b + tt * v - 1 - b) / tt < v := by
          apply Int.ediv_lt_of_lt_mul (by omega)
          rw [Int.mul_comm]
          omega
        omega
      -- alive at its begin
      refine ⟨_, rfl, _, rfl, p, dxp, _, rfl, SaG _ _ p1, rfl, _, rfl, ?_⟩
      refine ⟨p, tt, b + tt * v, S, r, rfl, sp.same SaG, ⟨by omega, by omega⟩, fun ys Gc Sd oc => fun z hz => ?_⟩
      have A2 := Same.new (o := .lst ys) hz
      have Se := Same.trans Sd A2
      have ez : (upd Gc z (.lst ys)) z = some (.lst ys) := upd_same
      have oz := oc.keep (KT.same A2)
      generalize upd Gc z (.lst ys) = Gd at A2 Se ez oz ⊢
      refine ⟨qD (n, v), _, q_dp (q := (n, v)) (Se _ _ eu), .lst (SqL.of ez) (out_dpa oz), shaped_q nmn, shaped_out (each_nm g), _, rfl, ?_⟩
      rw [any_q, decide_eq_true in1]
      refine iteF ?_
      -- not before it
      refine ⟨_, rfl, _, rfl, p, dxp, _, rfl, Se _ _ (SaG _ _ p1), rfl, _, rfl, _, _, rfl, rfl, ?_⟩
      refine ⟨p, tt, b + tt * v - 1, S, r, rfl, (sp.same SaG).same Se, ⟨by omega, by omega⟩, fun ys2 Ge Sf oc2 => fun z2 hz2 => ?_⟩
      have A3 := Same.new (o := .lst ys2) hz2
      have Sg := Same.trans Sf A3
      have ez2 : (upd Ge z2 (.lst ys2)) z2 = some (.lst ys2) := upd_same
      have oz2 := oc2.keep (KT.same A3)
      generalize upd Ge z2 (.lst ys2) = Gf at A3 Sg ez2 oz2 ⊢
      have Seg := Same.trans Se Sg
      refine ⟨qD (n, v), _, q_dp (q := (n, v)) (Seg _ _ eu), .lst (SqL.of ez2) (out_dpa oz2), shaped_q nmn, shaped_out (each_nm g), _, rfl, ?_⟩
      rw [any_q, decide_eq_false in2]
      refine iteF ?_
      -- the value behind it
      have Sh := Same.trans SaG Seg
      refine ⟨_, rfl, q, dx, _, rfl, Sh _ _ h1, rfl, _, rfl, .inr (.inl ⟨_, _, _, _, rfl, rfl, SqT.of (Seg _ _ eu), rfl, _, rfl, .inr (.inl ⟨_, _, _, _, rfl, rfl, SqT.of (Seg _ _ eu), rfl, ?_⟩)⟩)⟩
      refine ⟨q, p, tt, S, F, n, v, rfl, wg.same Sh, hn, ⟨by omega, by omega⟩, fun u3 Gg Si e3 => ?_⟩
      refine ⟨Same.trans SG (Same.trans Seg Si), _, _, nxt F n, u3, rfl, ?_, fun x hx => cyc.ch.st i n x en hx, fun hl => cyc.la n ?_⟩
      · rw [rndS_succ en, ← Int.add_assoc, ← hv]
        exact e3
      · rw [List.getLast?_eq_getElem?, ← hl]
        exact en
    · rintro σ G ⟨SG, z15, z16, m, u, rfl, eu, _, hl⟩
      rw [List.length_map] at eu hl
      obtain rfl := hl rfl
      have eS : rndS S tt F c c.length = sizeV S tt F c := by
        unfold rndS
        rw [List.take_length, size_rnd g fok hsub (cyc_perm cyc)]
      rw [eS] at eu
      have sb := sz_bd g fok hcm
      have nmn : nmC m = true := by
        obtain ⟨x, hx, ex⟩ := List.mem_map.mp hc0
        rw [← ex]
        exact g.nm x hx
      have td : TD 1 (.tuple [.str m, .int (5 + sizeV S tt F c)]) (8 + 1 + (0 + 1 + 0)) := TD.tup (TLs.cons (TD.name nmn) (TLs.cons (TD.int (by omega) (by omega)) TLs.nil))
      have td2 := td.tell (by decide) (by decide)
      refine ⟨_, rfl, u, _, rfl, .tup (SqT.of eu) (.cons (.str _) (.cons (.int _) .nil)), td2.1, td2.2.1, td2.2.2, ?_⟩
      refine ⟨_, rfl, .inr (.inl ⟨_, _, _, .str m, rfl, rfl, SqT.of (SG _ _ hac2), atI_nat (j := 0) (by rw [List.getElem?_map, cyc.ch.hd]; rfl), _, rfl, _, _, rfl, rfl, by show 2 ≤ sizeLine; decide, fun w2 hw2 => ?_⟩)⟩
      refine ⟨w2, _, rfl, .tup (SqT.of upd_same) (.cons (.str _) (.cons (.int _) .nil)), td2.1, td2.2.1, td2.2.2, ?_⟩
      refine ⟨rfl, _, rfl, ?_⟩
      rw [decide_eq_true rfl]
      refine iteF ?_
      exact ⟨⟨_, _, _, _, _, _, _, _, _, _, rfl⟩, Same.trans (Same.trans Sy A1) (Same.trans SG (Same.new hw2))⟩
  · rintro σ' Ha ⟨sr, Sa⟩
    exact k _ _ sr (Same.trans S1 Sa)
end
end K44
namespace K44
open PySem L2
open PyProof.Rows PySem.Spec
theorem size_perm {t : Int} {S : Rws} {F : Flw} {a b : List Str} (p : a.Perm b) : sizeV S t F a = sizeV S t F b := by
  unfold sizeV
  rw [perm_sum (p.map (lw S F))]
theorem SpS.same' {H H' : Hp} {C p : Addr} {t : Int} {S : Rws} {r : Addr} (s : Same H H') (h : SpS H C p t S r) : SpS H' C p t S r := h.same s
section
variable {P : Program} {w : World} {K : PySem.W.Frag}
                                                      {mg : Str → Option Value} {base : Heap}
def sp_w_right (K : PySem.W.Frag) : Sp := fun vs H Q _ => ∃ r : Addr, vs = [.ref r] ∧ Rl H r ∧ ∀ H', Rl H' r → Only r H H' → Q (.bl true) H'
theorem ok_w_right (T : T K mg) (U : UX K mg) : GW.FnG P w K mg base CX0 13 T.f_w_right T.d_w_right ["tray"] (sp_w_right K) := by
  have G_w_follows : FnOk P w K mg base CX0 4 T.f_w_follows T.d_w_follows ["tray", "rows", "interval"] (sp_w_follows K) := ok_w_follows T
  have G_w_is_once : FnOk P w K mg base CX0 7 T.f_w_is_once T.d_w_is_once ["wiring", "names"] (sp_w_is_once K U.C U.D) := ok_w_is_once T U
  have G_w_names : FnOk P w K mg base CX0 3 T.f_w_names T.d_w_names ["tray", "many"] (sp_w_names K) := ok_w_names T
  have G_w_pick : FnOk P w K mg base CX0 2 T.f_w_pick T.d_w_pick ["tray", "items"] (sp_w_pick K) := ok_w_pick T
  have G_w_roll : FnOk P w K mg base CX0 1 T.f_w_roll T.d_w_roll ["tray", "total"] (sp_w_roll K) := ok_w_roll T
  have G_w_rows : FnOk P w K mg base CX0 4 T.f_w_rows T.d_w_rows ["tray", "interval", "names"] (sp_w_rows K) := ok_w_rows T (ok_w_rings T)
  have G_w_size : FnOk P w K mg base CX0 2 T.f_w_size T.d_w_size ["rows", "interval", "follows", "names"] (sp_w_size K) := ok_w_size T
  have G_w_sortedF : FnOk P w K mg base CX0 1 T.f_w_sorted T.d_w_sorted ["rows"] (sp_w_sortedF K) := ok_w_sortedF T
  have G_init : FnOk P w K mg base CX0 6 U.fI U.dI ["self", "interval", "rows"] (sp_initS K U.C) := ok_initS T U
  have G_winit : FnOk P w K mg base CX0 6 U.fJ U.dJ ["self", "spans", "follows"] (sp_winit U.C U.D) := ok_winit T U
  have Gf : FnOk P w K mg base CX0 1 U.pf.g U.pf.d ["self"] (sp_wfol U.C U.D) := ok_wfol T U
  refine GW.FunG.okG T.F_w_right sc_w_right (fun vs H Q E h => ?_) (fun cdv A outer s H vs Q E hg hr h => ?_)
  · obtain ⟨r, rfl, _⟩ := h
    rfl
  · obtain ⟨r, rfl, R0, k⟩ := h
    have hu := hu_of hr
    have hr_w_follows : Room 4 _ := hr.mono (by decide)
    have hr_w_is_once : Room 7 _ := hr.mono (by decide)
    have hr_w_names : Room 3 _ := hr.mono (by decide)
    have hr_w_pick : Room 2 _ := hr.mono (by decide)
    have hr_w_roll : Room 1 _ := hr.mono (by decide)
    have hr_w_rows : Room 4 _ := hr.mono (by decide)
    have hr_w_size : Room 2 _ := hr.mono (by decide)
    have hr_w_sorted : Room 1 _ := hr.mono (by decide)
    have hgd : (XR P w K mg base T.f_w_right cdv A outer s H E).A.guards = some [] := hg
    obtain ⟨tM, hM, qM⟩ := loopM (P := P) (w := w) (base := base) (outer := outer) (H0 := H) (E := E) T U hg hr
    obtain ⟨tZ, hZ, qZ⟩ := loopZ (P := P) (w := w) (base := base) (outer := outer) (H0 := H) (E := E) T U hg hr
    refine ⟨_, (pss_cons (ps_set (i := 1) sc_w_right.nd rfl (Or.inl rfl) (pe_call G_w_pick hr_w_pick rfl T.m_w_pick T.F_w_pick.kp T.b_w_pick .nil pass0 (pa_cons (pv 0) (pa_cons (pe_lst (pa_cons pe_int (pa_cons pe_int (pa_cons pe_int (pa_cons pe_int (pa_cons pe_int (pa_cons pe_int pa_nil))))))) pa_nil))))
      (pss_cons (ps_set (i := 2) sc_w_right.nd rfl (Or.inl rfl) (pe_call G_w_names hr_w_names rfl T.m_w_names T.F_w_names.kp T.b_w_names .nil pass0 (pa_cons (pv 0) (pa_cons (pe_op op_add pe_int (pe_call G_w_roll hr_w_roll rfl T.m_w_roll T.F_w_roll.kp T.b_w_roll .nil pass0 (pa_cons (pv 0) (pa_cons pe_int pa_nil)))) pa_nil))))
      (pss_cons (ps_set (i := 3) sc_w_right.nd rfl (Or.inl rfl) (pe_call G_w_rows hr_w_rows rfl T.m_w_rows T.F_w_rows.kp T.b_w_rows .nil pass0 (pa_cons (pv 0) (pa_cons (pv 1) (pa_cons (pv 2) pa_nil)))))
      (pss_cons (ps_par (i := 4) (j := 5) (by rfl) sc_w_right.nd rfl rfl (by decide) rfl rfl (pa_cons (pe_call G_w_follows hr_w_follows rfl T.m_w_follows T.F_w_follows.kp T.b_w_follows .nil pass0 (pa_cons (pv 0) (pa_cons (pv 3) (pa_cons (pv 1) pa_nil)))) (pa_cons (pe_make U.mkI G_init (hr.mono (by decide)) rfl U.mC U.bI .nil pass0 (pa_cons (pv 1) (pa_cons (pv 3) pa_nil))) pa_nil)) (by rfl))
      (pss_cons (ps_par (i := 6) (j := 7) (by rfl) sc_w_right.nd rfl rfl (by decide) rfl rfl (pa_cons (pe_make U.mkJ G_winit (hr.mono (by decide)) rfl U.mD U.bJ .nil pass0 (pa_cons (pv 5) (pa_cons (pv 4) pa_nil))) (pa_cons (pe_call G_w_size hr_w_size rfl T.m_w_size T.F_w_size.kp T.b_w_size .nil pass0 (pa_cons (pv 3) (pa_cons (pv 1) (pa_cons (pv 4) (pa_cons (pv 3) pa_nil))))) pa_nil)) (by rfl))
      (pss_cons hM (pss_cons hZ
      (pss_one (ps_ret (pe_and (pe_call G_w_is_once hr_w_is_once rfl T.m_w_is_once T.F_w_is_once.kp T.b_w_is_once .nil pass0 (pa_cons (pv 6) (pa_cons (pv 2) pa_nil))) (pe_one (pe_cmpR op_eq (pe_callB (RL.cr_reprD hgd (un64 hr)) (by rfl) T.z_repr (by decide +kernel) (pa_cons (pe_prop (pv 6) U.clD U.pf.pr Gf (hr.mono (by decide)) U.pf.b .nil pass0 rfl) pa_nil)) (pe_callB (RL.cr_reprD hgd (un64 hr)) (by rfl) T.z_repr (by decide +kernel) (pa_cons (pe_call G_w_sortedF hr_w_sorted rfl T.m_w_sorted T.F_w_sorted.kp T.b_w_sorted .nil pass0 (pa_cons (pv 4) pa_nil)) pa_nil)) (nomark _))))))))))))), ?_⟩
    -- interval
    refine ⟨_, rfl, by show 6 ≤ sizeLine; decide, fun q0 hq0 => ?_⟩
    have A0 := Same.new (o := .lst [V.int 1, .int 2, .int 3, .int 4, .int 5, .int 6]) hq0
    have e0 : (upd H q0 (.lst [V.int 1, .int 2, .int 3, .int 4, .int 5, .int 6])) q0 = some (.lst [V.int 1, .int 2, .int 3, .int 4, .int 5, .int 6]) := upd_same
    generalize upd H q0 (.lst [V.int 1, .int 2, .int 3, .int 4, .int 5, .int 6]) = Ha at A0 e0 ⊢
    refine ⟨r, .ref q0, _, rfl, Same.rl A0 R0, .inl ⟨q0, rfl, R0.ne hq0, .inl (SqL.of e0)⟩, by decide, by show 6 ≤ sizeLine; decide, fun v H1 hv R1 O1 => ?_⟩
    obtain ⟨t, rfl, t1, t6⟩ : ∃ t : Int, v = .int t ∧ 1 ≤ t ∧ t ≤ 6 := by
      simp only [List.mem_cons, List.not_mem_nil, or_false] at hv
      rcases hv with h | h | h | h | h | h
      all_goals subst h; exact ⟨_, rfl, by decide, by decide⟩
    have P1 : Only r H H1 := fun b o n e => O1 b o n (A0 b o e)
    clear hv e0 A0 O1 hq0
    -- names
    refine ⟨_, rfl, _, rfl, r, 6, rfl, R1, by decide, by decide +kernel, fun u H2 u0 u1 R2 O2 => ⟨_, _, rfl, rfl, ?_⟩⟩
    obtain ⟨many, em, m1, m6⟩ : ∃ many : Nat, (1 : Int) + u = (many : Int) ∧ 1 ≤ many ∧ many ≤ 6 := ⟨(1 + u).toNat, by omega, by omega, by omega⟩
    dsimp only
    rw [em]
    refine ⟨r, many, rfl, R2, m1, by omega, fun nl ns H3 R3 O3 hnl enl nd lns nmn => ?_⟩
    have P3 : Only r H H3 := fun b o n e => O3 b o n (O2 b o n (P1 b o n e))
    have nnl := R2.ne hnl
    clear O2 O3 P1 R2 R1 hnl
    -- rows
    refine ⟨_, rfl, _, rfl, _, rfl, r, nl, t, ns, rfl, R3, nnl, SqL.of enl, t1, by omega, nd, by omega, nmn, fun rd L0 R H4 R4 O4 hrd erd ts pmR fin => ?_⟩
    have gR := good_rows pmR nd (by omega) (by omega) nmn t1 (by omega) fin
    obtain ⟨S, srd⟩ := srd_ex gR.nd
    have gS := gR.perm srd.pm
    have lR : R.length = many := by rw [← List.length_map (f := (·.1)) (as := R), pmR.length_eq, lns]
    have P4 : Only r H H4 := fun b o n e => O4 b o n (P3 b o n e)
    have enl4 := O4 _ _ nnl enl
    have nrd := R3.ne hrd
    clear O4 P3 R3 enl
    -- follows, spans
    refine ⟨_, rfl, _, rfl, _, rfl, r, rd, t, L0, R, S, rfl, R4, erd, ts, gR, fun x hx => (fin x hx).2, by omega, srd, fun fd Lf F H5 R5 O5 hfd efd fts fok w3 => ?_⟩
    have P5 : Only r H H5 := fun b o n e => O5 b o n (P4 b o n e)
    have enl5 := O5 _ _ nnl enl4
    have erd5 := O5 _ _ nrd erd
    have ts5 := ts.keep (KT.only O5 R4)
    have nfd := R4.ne hfd
    clear O5 P4 enl4 erd ts hrd hfd
    refine ⟨_, rfl, _, rfl, fun p dxp hp hdxp ndp => ?_⟩
    have An : Same H5 (upd (upd H5 dxp (.own p)) p (.ins U.C dxp [])) := Same.trans (Same.new hdxp) (Same.new (by rw [upd_ne ndp.symm]; exact hp))
    refine ⟨p, rd, dxp, t, L0, R, rfl, upd_same, An _ _ erd5, ts5.keep (KT.same An), gR, fun S' H6 B6 spA srd' => ⟨rfl, ?_⟩⟩
    obtain rfl : S' = S := Srd.eq gR.nd srd' srd
    have S56 := mk_same hp hdxp ndp B6
    have R6 := Same.rl S56 R5
    have sp6 := spA r (by obtain ⟨x, y, z, e⟩ := Same.rl An R5; rw [e]; exact fun z => by cases z)
    have P6 : Only r H H6 := fun b o n e => S56 _ _ (P5 b o n e)
    have enl6 := S56 _ _ enl5
    have erd6 := S56 _ _ erd5
    have ts6 := ts5.keep (KT.same S56)
    have efd6 := S56 _ _ efd
    have fts6 := fts.keep (KT.same S56)
    clear An B6 spA S56 P5 R5 R4 enl5 erd5 ts5 efd fts hdxp ndp
    -- wiring, registers
    refine ⟨_, _, rfl, ?_⟩
    refine ⟨_, rfl, _, rfl, fun q dxq hq hdxq ndq => ?_⟩
    have Aq : Same H6 (upd (upd H6 dxq (.own q)) q (.ins U.D dxq [])) := Same.trans (Same.new hdxq) (Same.new (by rw [upd_ne ndq.symm]; exact hq))
    refine ⟨q, p, fd, dxq, t, S', Lf, F, rfl, upd_same, sp6.weak.same Aq, Aq _ _ efd6, fts6.keep (KT.same Aq), fok, fun H7 B7 wg7 st => ⟨rfl, ?_⟩⟩
    have S67 := mk_same hq hdxq ndq B7
    refine ⟨_, rfl, _, rfl, _, rfl, _, rfl, rd, fd, t, R, S', L0, Lf, F, rfl, S67 _ _ erd6, ts6.keep (KT.same S67), srd, gS, S67 _ _ efd6, fts6.keep (KT.same S67), fok, fun H8 S78 => ?_⟩
    refine ⟨_, _, rfl, ?_⟩
    have es : sizeV S' t F (R.map (·.1)) = sizeV S' t F (S'.map (·.1)) := size_perm (srd.pm.map (·.1)).symm
    rw [es]
    have S68 := Same.trans S67 S78
    have kt8 := KT.same S68
    have finR : ∀ x ∈ R, Fin1 t x := fun x hx => (fin x hx).2
    have finS : ∀ x ∈ S', Fin1 t x := fun x hx => finR x (srd.pm.mem_iff.mp hx)
    have pns : ns.Perm (S'.map (·.1)) := pmR.symm.trans (srd.pm.map (·.1)).symm
    have R8 := Same.rl S68 R6
    have P8 : Only r H H8 := fun b o n e => S68 _ _ (P6 b o n e)
    have enl8 := S68 _ _ enl6
    have erd8 := S68 _ _ erd6
    have efd8 := S68 _ _ efd6
    have ts8 := ts6.keep kt8
    have fts8 := fts6.keep kt8
    have wg8 := wg7.same S78
    have sp8 := sp6.same S68
    clear Aq st B7 wg7 S67 S78 enl6 erd6 ts6 efd6 fts6 sp6 R6 P6 hq hdxq ndq kt8 S68
    -- the moments
    refine qM _ _ _ r t nl rd fd p q L0 Lf R S' F ⟨_, _, _, _, _, _, _, _, _, _, rfl⟩ R8 wg8 sp8 erd8 ts8 gR.nd srd finR efd8 fts8 nrd nfd t6 fun σ9 H9 sr9 R9 O9 => ?_
    have P9 : Only r H H9 := fun b o n e => O9 b o n (P8 b o n e)
    have enl9 := O9 _ _ nnl enl8
    have erd9 := O9 _ _ nrd erd8
    have efd9 := O9 _ _ nfd efd8
    have kt9 := KT.only O9 R8
    have ts9 := ts8.keep kt9
    have fts9 := fts8.keep kt9
    have wg9 := wg8.only O9 R8
    have sp9 := sp8.only O9 R8
    clear O9 P8 enl8 erd8 efd8 ts8 fts8 wg8 sp8 R8 kt9
    -- the cycles
    refine qZ _ _ _ r t _ nl rd fd p q L0 R S' F sr9 wg9 sp9 erd9 ts9 srd finR t6 fun σ10 H10 sr10 S10 => ?_
    obtain ⟨y8, y9, y10, y11, y12, y13, y14, y15, y16, y17, rfl⟩ := sr10
    have wg10 := wg9.same S10
    have fts10 := fts9.keep (KT.same S10)
    refine ⟨_, rfl, _, rfl, q, p, nl, t, S', F, ns, rfl, wg10, finS, S10 _ _ enl9, pns, fun H11 S11 => ?_⟩
    refine ⟨true, rfl, iteT ?_⟩
    have wg11 := wg10.same S11
    obtain ⟨_, _, dxa, fda, caa, La, asa, h1a, _⟩ := id wg11
    have tt := (td_flows gS fok).tell (by omega) (by decide)
    refine ⟨_, rfl, q, dxa, _, rfl, h1a, q, p, t, S', F, rfl, wg11, fun a1 L1 ha1 f1 => ?_⟩
    have B1 := Same.new (o := .dK (Kvs L1)) ha1
    have ds1 : RL.DS K (upd H11 a1 (.dK (Kvs L1))) (.ref a1) (flowsD (ordF S' F)) := FTs.ds (f1.keep (KT.same B1)) upd_same
    refine ⟨a1, _, rfl, ds1, tt.1, tt.2.1, tt.2.2, ?_⟩
    refine ⟨_, rfl, fd, t, S', Lf, F, rfl, gS, srd.so, B1 _ _ (S11 _ _ (S10 _ _ efd9)), (fts10.keep (KT.same S11)).keep (KT.same B1), fok, fun a2 L2 H12 S12 ha2 e2 f2 => ?_⟩
    refine ⟨a2, _, rfl, FTs.ds f2 e2, tt.1, tt.2.1, tt.2.2, ?_⟩
    refine ⟨rfl, ?_⟩
    have Sz := Same.trans (Same.trans S10 S11) (Same.trans B1 S12)
    exact bl_to (decide_eq_true rfl) (k _ (Same.rl Sz R9) fun b o n e => Sz _ _ (P9 b o n e))
end
end K44
namespace K44
open PySem L2
open PyProof.Rows PySem.Spec
/-- the written rows and follows of the law -/
def wR : Rws := [("a", 0, 1)]
def wF : Flw := [("a", "a", 8)]
theorem wR_good : Good 3 wR := by
  refine ⟨by decide +kernel, by decide, by decide, fun x hx => ?_, fun x hx => ?_, fun x hx => ?_, by decide, by decide⟩
  all_goals
    simp only [wR, List.mem_cons, List.not_mem_nil, or_false] at hx
    subst hx
  · decide +kernel
  · unfold SpOk; decide +kernel
  · unfold Near; decide +kernel
theorem wR_sorted : sortedS (wR.map (·.1)) = true := by decide +kernel
theorem wF_ok : FOk 3 wR wF := by
  refine ⟨by decide +kernel, by decide +kernel, fun x hx => ?_, fun x hx => ?_, by decide⟩
  all_goals
    simp only [wF, List.mem_cons, List.not_mem_nil, or_false] at hx
    subst hx
    decide +kernel
theorem w_cyc : Cyc (nxt wF) (wR.map (·.1)) "a" ["a"] := by
  refine ⟨⟨rfl, fun i x y h1 h2 => ?_, by decide +kernel, by decide +kernel⟩, fun l h => ?_⟩
  · match i, h1, h2 with
    | 0, h1, h2 => cases h2
    | i + 1, h1, h2 => cases h2
  · cases h
    decide +kernel
theorem wR_names : wR.map (·.1) = (["a"] : List Str) := rfl
open Classical in
theorem w_cyA : cyA wR wF = ([["a"]] : List (List Str)) := by
  unfold cyA cycs
  have ia : isMin (nxt wF) (wR.map (·.1)) "a" := by
    unfold isMin
    rw [cy_of w_cyc]
    decide +kernel
  have e : (wR.map (·.1)).filter (fun n => decide (isMin (nxt wF) (wR.map (·.1)) n)) = (["a"] : List Str) := by
    conv => lhs; arg 2; rw [wR_names]
    rw [List.filter_cons_of_pos (by exact decide_eq_true ia)]
    rfl
  rw [e]
  show [cy _ _ "a"] = _
  rw [cy_of w_cyc]
theorem w_sum : (szs wR 3 wF).sum = 3 := by
  unfold szs
  rw [w_cyA]
  decide +kernel
def w1L : List (Str × Int) := [("a", -2), ("a", -1), ("a", 0)]
def w2L : List (Str × Int) := [("a", -4), ("a", -3), ("a", -2)]
theorem w_f1 : freeL 3 1 wR wF (wR.map (·.1)) = w1L := by decide +kernel
theorem w_f3 : freeL 3 3 wR wF (wR.map (·.1)) = w1L := by decide +kernel
theorem w_f5 : freeL 3 (-5) wR wF (wR.map (·.1)) = w2L := by decide +kernel
def wD : PyData := .list [.int 3, outD w1L, outD w1L, outD w2L]
theorem w_tell : wD.showable = true ∧ wD.shown.length ≤ sizeLine ∧ wD.depth ≤ 60 := by
  refine ⟨by decide +kernel, ?_, by decide +kernel⟩
  have : wD.shown.length ≤ 1000 := by decide +kernel
  rw [sizeLine_eq]
  omega
theorem w1_out {K : PySem.W.Frag} {H : Hp} {a b c l : Addr} (ha : H a = some (.tup [.str "a", .int (-2)])) (hb : H b = some (.tup [.str "a", .int (-1)])) (hc : H c = some (.tup [.str "a", .int 0])) (hl : H l = some (.lst [.ref a, .ref b, .ref c])) : RL.DS K H (.ref l) (outD w1L) :=
  .lst (SqL.of hl) (out_dss (.cons ⟨a, rfl, ha⟩ (.cons ⟨b, rfl, hb⟩ (.cons ⟨c, rfl, hc⟩ .nil))))
theorem w2_out {K : PySem.W.Frag} {H : Hp} {a b c l : Addr} (ha : H a = some (.tup [.str "a", .int (-4)])) (hb : H b = some (.tup [.str "a", .int (-3)])) (hc : H c = some (.tup [.str "a", .int (-2)])) (hl : H l = some (.lst [.ref a, .ref b, .ref c])) : RL.DS K H (.ref l) (outD w2L) :=
  .lst (SqL.of hl) (out_dss (.cons ⟨a, rfl, ha⟩ (.cons ⟨b, rfl, hb⟩ (.cons ⟨c, rfl, hc⟩ .nil))))
section
variable {P : Program} {w : World} {K : PySem.W.Frag}
                                                      {mg : Str → Option Value} {base : Heap}
def sp_law (K : PySem.W.Frag) : Sp := fun vs H Q _ => ∃ (a : Addr) (ns : List Int), vs = [.ref a] ∧ SqL K H a (ns.map V.int) ∧ ns.length ≤ 63 ∧ ∀ H', Q (.bl true) H'
theorem ok_law (T : T K mg) (U : UX K mg) : GW.FnG P w K mg base CX0 15 T.f_law T.d_law ["script"] (sp_law K) := by
  have G_w_right : GW.FnG P w K mg base CX0 13 T.f_w_right T.d_w_right ["tray"] (sp_w_right K) := ok_w_right T U
  have G_w_tray : FnOk P w K mg base CX0 1 T.f_w_tray T.d_w_tray ["script", "spot"] (sp_w_tray K) := ok_w_tray T
  have G_init : FnOk P w K mg base CX0 6 U.fI U.dI ["self", "interval", "rows"] (sp_init K U.C) := ok_init T U
  have G_winit : FnOk P w K mg base CX0 6 U.fJ U.dJ ["self", "spans", "follows"] (sp_winit U.C U.D) := ok_winit T U
  have Gr : FnOk P w K mg base CX0 6 U.pr.g U.pr.d ["self"] (sp_regs K U.C U.D) := ok_regs T U
  have G := ok_free (P := P) (w := w) (base := base) T U
  refine GW.FunG.okG T.F_law sc_law (fun vs H Q E h => ?_) (fun cdv A outer s H vs Q E hg hr h => ?_)
  · obtain ⟨a, ns, rfl, _⟩ := h
    rfl
  · obtain ⟨a, ns, rfl, hS, hl, k⟩ := h
    have hu := hu_of hr
    have hgd : (cxOf CX0 P w K mg base ["script", "spot", "one", "told", "due"] "law" (defScope s_law) T.f_law cdv A outer s H E).nox.A.guards = some [] := hg
    have hr_w_right : Room 13 _ := hr.mono (by decide)
    have hr_w_tray : Room 1 _ := hr.mono (by decide)
    refine ⟨_, (pss_cons (ps_for PassesOwn.never rfl (pi_range1 (by rfl) T.z_range (pa_cons (pe_callB (call_max2 rfl) (by rfl) T.z_max (by decide +kernel) (pa_cons pe_int (pa_cons (pe_callB (call_min2 rfl) (by rfl) T.z_min (by decide +kernel) (pa_cons pe_int (pa_cons (pe_callB call_len (by rfl) T.z_len (by decide +kernel) (pa_cons (pv 0) pa_nil)) pa_nil))) pa_nil))) pa_nil)) (pg_name (i := 1) sc_law.nd rfl (Or.inl rfl))
      (pss_one (ps_if (pt_not (pt_val (GW.pe_callG G_w_right hgd hr_w_right rfl T.m_w_right T.F_w_right.kp T.b_w_right .nil pass0 (pa_cons (pe_call G_w_tray hr_w_tray rfl T.m_w_tray T.F_w_tray.kp T.b_w_tray .nil pass0 (pa_cons (pv 0) (pa_cons (pv 1) pa_nil))) pa_nil))))
      (pss_one (ps_ret pe_bl))
      pss_nil)))
      (pss_cons (ps_set (i := 2) sc_law.nd rfl (Or.inl rfl) (pe_make U.mkJ G_winit (hr.mono (by decide)) rfl U.mD U.bJ .nil pass0 (pa_cons (pe_make U.mkI G_init (hr.mono (by decide)) rfl U.mC U.bI .nil pass0 (pa_cons pe_int (pa_cons (pe_disp (pps_cons pe_str (pe_tup (pa_cons pe_int (pa_cons pe_int pa_nil))) pps_nil) rfl rfl (by decide) (by decide)) pa_nil))) (pa_cons (pe_disp (pps_cons pe_str (pe_tup (pa_cons pe_str (pa_cons pe_int pa_nil))) pps_nil) rfl rfl (by decide) (by decide)) pa_nil))))
      (pss_cons (ps_set (i := 3) sc_law.nd rfl (Or.inl rfl) (pe_lst (pa_cons (pe_prop (pv 2) U.clD U.pr.pr Gr (hr.mono (by decide)) U.pr.b .nil pass0 rfl) (pa_cons (pe_listG (pgen_meth (E := GC2.noE) (pv 2) U.clD U.wf.m G (hr.mono (by decide)) U.wf.b .nil (pa_cons pe_int pa_nil)) passF noStopF (hr.mono (by decide)) (by rfl) T.z_list (by decide +kernel)) (pa_cons (pe_listG (pgen_meth (E := GC2.noE) (pv 2) U.clD U.wf.m G (hr.mono (by decide)) U.wf.b .nil (pa_cons pe_int pa_nil)) passF noStopF (hr.mono (by decide)) (by rfl) T.z_list (by decide +kernel)) (pa_cons (pe_listG (pgen_meth (E := GC2.noE) (pv 2) U.clD U.wf.m G (hr.mono (by decide)) U.wf.b .nil (pa_cons (pe_un un_neg pe_int) pa_nil)) passF noStopF (hr.mono (by decide)) (by rfl) T.z_list (by decide +kernel)) pa_nil))))))
      (pss_cons (ps_set (i := 4) sc_law.nd rfl (Or.inl rfl) (pe_lst (pa_cons (pe_tup (pa_cons pe_str (pa_cons (pe_un un_neg pe_int) pa_nil))) (pa_cons (pe_tup (pa_cons pe_str (pa_cons (pe_un un_neg pe_int) pa_nil))) (pa_cons (pe_tup (pa_cons pe_str (pa_cons pe_int pa_nil))) pa_nil)))))
      (pss_one (ps_ret (pe_cmpR op_eq (pe_callB (RL.cr_reprD hgd (un64 hr)) (by rfl) T.z_repr (by decide +kernel) (pa_cons (pv 3) pa_nil)) (pe_callB (RL.cr_reprD hgd (un64 hr)) (by rfl) T.z_repr (by decide +kernel) (pa_cons (pe_lst (pa_cons pe_int (pa_cons (pv 4) (pa_cons (pv 4) (pa_cons (pe_lst (pa_cons (pe_tup (pa_cons pe_str (pa_cons (pe_un un_neg pe_int) pa_nil))) (pa_cons (pe_tup (pa_cons pe_str (pa_cons (pe_un un_neg pe_int) pa_nil))) (pa_cons (pe_tup (pa_cons pe_str (pa_cons (pe_un un_neg pe_int) pa_nil))) pa_nil)))) pa_nil))))) pa_nil)) (nomark _)))))))), ?_⟩
    refine ⟨_, rfl, _, _, rfl, .inl ⟨_, hS, rfl⟩, _, _, rfl, _, _, rfl, ?_⟩
    have hb := cells_n (ns.map V.int).length 7
    refine ⟨_, rfl, Int.le_trans (by decide) hb.2, Int.lt_of_le_of_lt hb.1 (by decide), ?_⟩
    refine for_range (fun i σ H' => ∃ v, σ = [some (.ref a), v, none, none, none] ∧ SqL K H' a (ns.map V.int)) ⟨none, rfl, hS⟩ ?_ ?_
    · rintro i σ H' hi ⟨v, rfl, hS'⟩
      refine ⟨_, rfl, _, rfl, a, ns, i, congrArg (fun z => [V.ref a, V.int z]) (Int.zero_add _), hS', fun p x y z hp => ?_⟩
      refine ⟨p, rfl, ⟨x, y, z, upd_same⟩, fun H2 _ O2 => ⟨_, rfl, iteF ?_⟩⟩
      refine ⟨_, rfl, ?_⟩
      rcases hS' with (h | ⟨u, h⟩) | h
      · exact .inl (.inl (O2 _ _ (ne_of_none h hp) ((upd_ne (ne_of_none h hp)).trans h)))
      · exact .inl (.inr ⟨u, O2 _ _ (ne_of_none h hp) ((upd_ne (ne_of_none h hp)).trans h)⟩)
      · exact .inr h
    · rintro σ H0 ⟨v, rfl, hS'⟩
      refine fun pd hpd => ?_
      have C0 := Same.new (o := .dK []) hpd
      have e0 : (upd H0 pd (.dK [])) pd = some (.dK []) := upd_same
      generalize upd H0 pd (.dK []) = H1 at C0 e0 ⊢
      refine ⟨by show 2 ≤ sizeLine; decide, fun a1 ha1 => ?_⟩
      have C1 := Same.new (o := .tup [V.int 0, .int 1]) ha1
      have x1 : (upd H1 a1 (.tup [V.int 0, .int 1])) a1 = some (.tup [V.int 0, .int 1]) := upd_same
      have e3 := C1 _ _ e0
      generalize upd H1 a1 (.tup [V.int 0, .int 1]) = H4 at C1 x1 e3 ⊢
      refine ⟨e3, Kvs [("a", a1)], rfl, by show 1 ≤ 15; decide, ?_⟩
      have mk : mergeK [] (Kvs [(Str.ofString "a", a1)]) = Kvs [(Str.ofString "a", a1)] := mergeK_kvs [(Str.ofString "a", a1)] [] (by show [Str.ofString "a"].Nodup; decide +kernel)
      rw [mk]
      have kt5 : KT H4 (upd H4 pd (.dK (Kvs [(Str.ofString "a", a1)]))) := KT.put e3 (fun _ z => by cases z)
      have ep5 : (upd H4 pd (.dK (Kvs [(Str.ofString "a", a1)]))) pd = some (.dK (Kvs [(Str.ofString "a", a1)])) := upd_same
      have tp5 : Tups (upd H4 pd (.dK (Kvs [(Str.ofString "a", a1)]))) [(Str.ofString "a", a1)] wR := .cons (kt5 _ _ x1) .nil
      generalize upd H4 pd (.dK (Kvs [(Str.ofString "a", a1)])) = H5 at ep5 tp5 ⊢
      clear C0 C1 e0 e3 x1 mk kt5 ha1 hpd
      refine fun p dxp hp hdxp ndp => ?_
      have An : Same H5 (upd (upd H5 dxp (.own p)) p (.ins U.C dxp [])) := Same.trans (Same.new hdxp) (Same.new (by rw [upd_ne ndp.symm]; exact hp))
      refine ⟨p, pd, dxp, 3, _, wR, rfl, upd_same, An _ _ ep5, tp5.keep (KT.same An), wR_good, fun S' H6 B6 sp6 srd' _ => ⟨rfl, ?_⟩⟩
      obtain rfl : S' = wR := Srd.eq wR_good.nd srd' ⟨List.Perm.refl _, wR_sorted⟩
      clear An B6 ep5 tp5 hp hdxp ndp srd'
      -- wiring
      refine fun fd hfd => ?_
      have C0 := Same.new (o := .dK []) hfd
      have e0 : (upd H6 fd (.dK [])) fd = some (.dK []) := upd_same
      generalize upd H6 fd (.dK []) = H7 at C0 e0 ⊢
      refine ⟨by show 2 ≤ sizeLine; decide, fun b1 hb1 => ?_⟩
      have C1 := Same.new (o := .tup [V.str "a", V.int 8]) hb1
      have x1 : (upd H7 b1 (.tup [V.str "a", V.int 8])) b1 = some (.tup [V.str "a", V.int 8]) := upd_same
      have e3 := C1 _ _ e0
      generalize upd H7 b1 (.tup [V.str "a", V.int 8]) = H10 at C1 x1 e3 ⊢
      refine ⟨e3, Kvs [(Str.ofString "a", b1)], rfl, by show 1 ≤ 15; decide, ?_⟩
      have mk : mergeK [] (Kvs [(Str.ofString "a", b1)]) = Kvs [(Str.ofString "a", b1)] := mergeK_kvs [(Str.ofString "a", b1)] [] (by show [Str.ofString "a"].Nodup; decide +kernel)
      rw [mk]
      have kt5 : KT H10 (upd H10 fd (.dK (Kvs [(Str.ofString "a", b1)]))) := KT.put e3 (fun _ z => by cases z)
      have ep5 : (upd H10 fd (.dK (Kvs [(Str.ofString "a", b1)]))) fd = some (.dK (Kvs [(Str.ofString "a", b1)])) := upd_same
      have tp5 : FTs (upd H10 fd (.dK (Kvs [(Str.ofString "a", b1)]))) [(Str.ofString "a", b1)] wF := .cons (kt5 _ _ x1) .nil
      have S611 : Same H6 (upd H10 fd (.dK (Kvs [(Str.ofString "a", b1)]))) := Same.at hfd (Same.trans C0 C1)
      have sp11 := sp6.same S611
      generalize upd H10 fd (.dK (Kvs [(Str.ofString "a", b1)])) = H11 at ep5 tp5 S611 sp11 ⊢
      clear C0 C1 e0 e3 x1 mk kt5 hb1 hfd sp6 S611
      refine fun q dxq hq hdxq ndq => ?_
      have An : Same H11 (upd (upd H11 dxq (.own q)) q (.ins U.D dxq [])) := Same.trans (Same.new hdxq) (Same.new (by rw [upd_ne ndq.symm]; exact hq))
      refine ⟨q, p, fd, dxq, 3, wR, _, wF, rfl, upd_same, sp11.same An, An _ _ ep5, tp5.keep (KT.same An), wF_ok, fun H12 B12 wg _ => ⟨rfl, ?_⟩⟩
      clear An B12 ep5 tp5 hq hdxq ndq sp11
      -- told
      obtain ⟨_, _, dx, fdw, ca, Lw, asw, w1, _⟩ := id wg
      refine ⟨_, rfl, q, dx, _, rfl, w1, q, p, 3, wR, wF, rfl, wg, fun H13 S13 => ?_⟩
      rw [w_sum]
      refine ⟨_, rfl, q, dx, _, rfl, S13 _ _ w1, rfl, q, p, 3, 1, wR, wF, rfl, wg.same S13, by decide, fun y1 H14 S14 o1 => fun l1 hl1 => ?_⟩
      rw [w_f1] at o1
      have T14 := Same.trans (Same.trans S13 S14) (Same.new (o := .lst y1) hl1)
      have o1 := o1.keep (KT.same (Same.new (o := .lst y1) hl1))
      have f1 : (upd H14 l1 (.lst y1)) l1 = some (.lst y1) := upd_same
      generalize upd H14 l1 (.lst y1) = H15 at T14 o1 f1 ⊢
      refine ⟨_, rfl, q, dx, _, rfl, T14 _ _ w1, rfl, q, p, 3, 3, wR, wF, rfl, wg.same T14, by decide, fun y2 H16 S16 o2 => fun l2 hl2 => ?_⟩
      rw [w_f3] at o2
      have B2 := Same.trans S16 (Same.new (o := .lst y2) hl2)
      have o2 := o2.keep (KT.same (Same.new (o := .lst y2) hl2))
      have f2 : (upd H16 l2 (.lst y2)) l2 = some (.lst y2) := upd_same
      generalize upd H16 l2 (.lst y2) = H17 at B2 o2 f2 ⊢
      have T17 := Same.trans T14 B2
      refine ⟨_, rfl, q, dx, _, rfl, T17 _ _ w1, rfl, _, rfl, q, p, 3, -5, wR, wF, rfl, wg.same T17, by decide, fun y3 H18 S18 o3 => fun l3 hl3 => ?_⟩
      rw [w_f5] at o3
      have B3 := Same.trans S18 (Same.new (o := .lst y3) hl3)
      have o3 := o3.keep (KT.same (Same.new (o := .lst y3) hl3))
      have f3 : (upd H18 l3 (.lst y3)) l3 = some (.lst y3) := upd_same
      generalize upd H18 l3 (.lst y3) = H19 at B3 o3 f3 ⊢
      refine ⟨by show 4 ≤ sizeLine; decide, fun td htd => ?_⟩
      have B4 := Same.new (o := .lst [.int 3, .ref l1, .ref l2, .ref l3]) htd
      have f4 : (upd H19 td (.lst [.int 3, .ref l1, .ref l2, .ref l3])) td = some (.lst [.int 3, .ref l1, .ref l2, .ref l3]) := upd_same
      generalize upd H19 td (.lst [.int 3, .ref l1, .ref l2, .ref l3]) = H20 at B4 f4 ⊢
      -- due
      refine ⟨_, rfl, by show 2 ≤ sizeLine; decide, fun c1 hc1 => ?_⟩
      have Dc1 := Same.new (o := .tup [V.str "a", V.int (-2)]) hc1
      have gc1 : (upd H20 c1 (.tup [V.str "a", V.int (-2)])) c1 = some (.tup [V.str "a", V.int (-2)]) := upd_same
      generalize upd H20 c1 (.tup [V.str "a", V.int (-2)]) = H21 at Dc1 gc1 ⊢
      refine ⟨_, rfl, by show 2 ≤ sizeLine; decide, fun c2 hc2 => ?_⟩
      have Dc2 := Same.new (o := .tup [V.str "a", V.int (-1)]) hc2
      have gc2 : (upd H21 c2 (.tup [V.str "a", V.int (-1)])) c2 = some (.tup [V.str "a", V.int (-1)]) := upd_same
      generalize upd H21 c2 (.tup [V.str "a", V.int (-1)]) = H22 at Dc2 gc2 ⊢
      refine ⟨by show 2 ≤ sizeLine; decide, fun c3 hc3 => ?_⟩
      have Dc3 := Same.new (o := .tup [V.str "a", V.int 0]) hc3
      have gc3 : (upd H22 c3 (.tup [V.str "a", V.int 0])) c3 = some (.tup [V.str "a", V.int 0]) := upd_same
      generalize upd H22 c3 (.tup [V.str "a", V.int 0]) = H23 at Dc3 gc3 ⊢
      refine ⟨by show 3 ≤ sizeLine; decide, fun dl hdl => ?_⟩
      have Ddl := Same.new (o := .lst [.ref c1, .ref c2, .ref c3]) hdl
      have gdl : (upd H23 dl (.lst [.ref c1, .ref c2, .ref c3])) dl = some (.lst [.ref c1, .ref c2, .ref c3]) := upd_same
      generalize upd H23 dl (.lst [.ref c1, .ref c2, .ref c3]) = H24 at Ddl gdl ⊢
      have DD := Same.trans Dc1 (Same.trans Dc2 (Same.trans Dc3 Ddl))
      have B24 := Same.trans B4 DD
      have d1 : RL.DS K H24 (.ref l1) (outD w1L) := .lst (SqL.of (B24 _ _ (B3 _ _ (B2 _ _ f1)))) (out_dss (((o1.keep (KT.same B2)).keep (KT.same B3)).keep (KT.same B24)))
      have d2 : RL.DS K H24 (.ref l2) (outD w1L) := .lst (SqL.of (B24 _ _ (B3 _ _ f2))) (out_dss ((o2.keep (KT.same B3)).keep (KT.same B24)))
      have d3 : RL.DS K H24 (.ref l3) (outD w2L) := .lst (SqL.of (B24 _ _ f3)) (out_dss (o3.keep (KT.same B24)))
      have dT : RL.DS K H24 (.ref td) wD := .lst (SqL.of (DD _ _ f4)) (.cons (.int 3) (.cons d1 (.cons d2 (.cons d3 .nil))))
      have m1 := Ddl _ _ (Dc3 _ _ (Dc2 _ _ gc1))
      have m2 := Ddl _ _ (Dc3 _ _ gc2)
      have m3 := Ddl _ _ gc3
      clear d1 d2 d3 f1 f2 f3 f4 o1 o2 o3 B2 B3 B4 B24 T14 T17 S13 S14 S16 S18 hl1 hl2 hl3 htd wg w1 DD Dc1 Dc2 Dc3 Ddl hc1 hc2 hc3 hdl gc1 gc2 gc3
      refine ⟨_, rfl, td, wD, rfl, dT, w_tell.1, w_tell.2.1, w_tell.2.2, ?_⟩
      -- wanted
      refine ⟨_, rfl, _, rfl, ?_⟩
      refine ⟨_, rfl, by show 2 ≤ sizeLine; decide, fun b1 hb1 => ?_⟩
      have Db1 := Same.new (o := .tup [V.str "a", V.int (-4)]) hb1
      have gb1 : (upd H24 b1 (.tup [V.str "a", V.int (-4)])) b1 = some (.tup [V.str "a", V.int (-4)]) := upd_same
      generalize upd H24 b1 (.tup [V.str "a", V.int (-4)]) = H25 at Db1 gb1 ⊢
      refine ⟨_, rfl, by show 2 ≤ sizeLine; decide, fun b2 hb2 => ?_⟩
      have Db2 := Same.new (o := .tup [V.str "a", V.int (-3)]) hb2
      have gb2 : (upd H25 b2 (.tup [V.str "a", V.int (-3)])) b2 = some (.tup [V.str "a", V.int (-3)]) := upd_same
      generalize upd H25 b2 (.tup [V.str "a", V.int (-3)]) = H26 at Db2 gb2 ⊢
      refine ⟨_, rfl, by show 2 ≤ sizeLine; decide, fun b3 hb3 => ?_⟩
      have Db3 := Same.new (o := .tup [V.str "a", V.int (-2)]) hb3
      have gb3 : (upd H26 b3 (.tup [V.str "a", V.int (-2)])) b3 = some (.tup [V.str "a", V.int (-2)]) := upd_same
      generalize upd H26 b3 (.tup [V.str "a", V.int (-2)]) = H27 at Db3 gb3 ⊢
      refine ⟨by show 3 ≤ sizeLine; decide, fun bl hbl => ?_⟩
      have Dbl := Same.new (o := .lst [.ref b1, .ref b2, .ref b3]) hbl
      have gbl : (upd H27 bl (.lst [.ref b1, .ref b2, .ref b3])) bl = some (.lst [.ref b1, .ref b2, .ref b3]) := upd_same
      generalize upd H27 bl (.lst [.ref b1, .ref b2, .ref b3]) = H28 at Dbl gbl ⊢
      refine ⟨by show 4 ≤ sizeLine; decide, fun wl hwl => ?_⟩
      have Dwl := Same.new (o := .lst [.int 3, .ref dl, .ref dl, .ref bl]) hwl
      have gwl : (upd H28 wl (.lst [.int 3, .ref dl, .ref dl, .ref bl])) wl = some (.lst [.int 3, .ref dl, .ref dl, .ref bl]) := upd_same
      generalize upd H28 wl (.lst [.int 3, .ref dl, .ref dl, .ref bl]) = H29 at Dwl gwl ⊢
      have E1 := Same.trans Db1 (Same.trans Db2 (Same.trans Db3 (Same.trans Dbl Dwl)))
      have n1 : RL.DS K H29 (.ref dl) (outD w1L) := w1_out (E1 _ _ m1) (E1 _ _ m2) (E1 _ _ m3) (E1 _ _ gdl)
      have n2 : RL.DS K H29 (.ref bl) (outD w2L) := w2_out (Dwl _ _ (Dbl _ _ (Db3 _ _ (Db2 _ _ gb1)))) (Dwl _ _ (Dbl _ _ (Db3 _ _ gb2))) (Dwl _ _ (Dbl _ _ gb3)) (Dwl _ _ gbl)
      refine ⟨wl, wD, rfl, .lst (SqL.of gwl) (.cons (.int 3) (.cons n1 (.cons n1 (.cons n2 .nil)))), w_tell.1, w_tell.2.1, w_tell.2.2, ?_⟩
      refine ⟨rfl, ?_⟩
      exact bl_to (decide_eq_true rfl) (k _)
end
end K44
namespace K44
open PySem L2
theorem mk_U {K : PySem.W.Frag} {h : Heap} {mg : Str → Option Value} (X : K.In h) (G : h.Ns mainGlobals mg)
    {C D fI fJ : Addr} {ocIC kVIC dcIC pmIC cdIC ctIC : Value} {odIC anIC : Option Addr} {slIC : Array (Option Value)} {pP1a fP1 : Addr} {restP1 : List Value} {ocP1 kVP1 dcP1 pmP1 cdP1 ctP1 : Value} {odP1 anP1 : Option Addr} {slP1 : Array (Option Value)} {pP3a fP3 : Addr} {restP3 : List Value} {ocP3 kVP3 dcP3 pmP3 cdP3 ctP3 : Value} {odP3 anP3 : Option Addr} {slP3 : Array (Option Value)} {fG : Addr} {ocG kVG dcG pmG cdG ctG : Value} {odG anG : Option Addr} {slG : Array (Option Value)} {fH : Addr} {ocH kVH dcH pmH cdH ctH : Value} {odH anH : Option Addr} {slH : Array (Option Value)} {fE : Addr} {ocE kVE dcE pmE cdE ctE : Value} {odE anE : Option Addr} {slE : Array (Option Value)} {fA : Addr} {ocA kVA dcA pmA cdA ctA : Value} {odA anA : Option Addr} {slA : Array (Option Value)} {ocID kVID dcID pmID cdID ctID : Value} {odID anID : Option Addr} {slID : Array (Option Value)} {pW1a fW1 : Addr} {restW1 : List Value} {ocW1 kVW1 dcW1 pmW1 cdW1 ctW1 : Value} {odW1 anW1 : Option Addr} {slW1 : Array (Option Value)} {pW2a fW2 : Addr} {restW2 : List Value} {ocW2 kVW2 dcW2 pmW2 cdW2 ctW2 : Value} {odW2 anW2 : Option Addr} {slW2 : Array (Option Value)} {pW3a fW3 : Addr} {restW3 : List Value} {ocW3 kVW3 dcW3 pmW3 cdW3 ctW3 : Value} {odW3 anW3 : Option Addr} {slW3 : Array (Option Value)} {pW4a fW4 : Addr} {restW4 : List Value} {ocW4 kVW4 dcW4 pmW4 cdW4 ctW4 : Value} {odW4 anW4 : Option Addr} {slW4 : Array (Option Value)} {pW5a fW5 : Addr} {restW5 : List Value} {ocW5 kVW5 dcW5 pmW5 cdW5 ctW5 : Value} {odW5 anW5 : Option Addr} {slW5 : Array (Option Value)} {fX1 : Addr} {ocX1 kVX1 dcX1 pmX1 cdX1 ctX1 : Value} {odX1 anX1 : Option Addr} {slX1 : Array (Option Value)} {fX2 : Addr} {ocX2 kVX2 dcX2 pmX2 cdX2 ctX2 : Value} {odX2 anX2 : Option Addr} {slX2 : Array (Option Value)} {fX3 : Addr} {ocX3 kVX3 dcX3 pmX3 cdX3 ctX3 : Value} {odX3 anX3 : Option Addr} {slX3 : Array (Option Value)}
    (aC : PySem.W.nsIn K mainGlobals "Spans" = some (some (.ref C)))
    (c1C : PySem.W.plainGet K C Str.empty = true)
    (c2C : PySem.W.hasDictIn K C = true)
    (c3C : PySem.W.plainOver K C = true)
    (c4C : PySem.W.findIn K (.ref C) "__setattr__" = some (some (.builtin "object.__setattr__")))
    (c5C : PySem.W.makesIn K C = true)
    (c6C : PySem.W.findIn K (.ref C) "__init__" = some (some (.ref fI)))
    (c7C : PySem.W.isFn K (.ref fI) = true)
    (c8C : PySem.W.keepIn K (.ref C) = true)
    (lIC : K.lookup fI = some ⟨ocIC, odIC, .func (PySem.W.fnOf "__init__" "Spans.__init__" (defArgs s_Spans_init) (defBody s_Spans_init) (defScope s_Spans_init) .none kVIC dcIC pmIC anIC cdIC ctIC), slIC⟩)
    (kIC : PySem.W.codeIn K cdIC "Spans.__init__" = true)
    (pIC : PySem.W.keepIn K (.ref fI) = true)
    (n1C : PySem.W.findIn K (.ref C) "_interval" = some none)
    (n2C : PySem.W.findIn K (.ref C) "_rows" = some none)
    (n3C : PySem.W.findIn K (.ref C) "_names" = some none)
    (n4C : PySem.W.findIn K (.ref C) "_living" = some none)
    (n5C : PySem.W.findIn K (.ref C) "_crossing" = some none)
    (moC : PySem.W.mroIn K C (.type "object") = some true)
    (neC : PySem.W.findIn K (.ref C) "__ne__" = some (some (.builtin "object.__ne__")))
    (caC : PySem.W.findIn K (.ref C) "__class__" = some (some (.builtin "object.__class__")))
    (gCC : PySem.W.isClsIn K C = true)
    (tCC : PySem.W.typeIn K (.ref C) = some (.type "type"))
    (aP1 : PySem.W.findIn K (.ref C) "interval" = some (some (.ref pP1a)))
    (bP1 : PySem.W.specialIn K (.ref pP1a) "__get__" = some (some (.builtin "property.__get__")))
    (tP1 : PySem.W.takesIn K (.ref pP1a) = some true)
    (rP1 : PySem.W.recIn K pP1a "property" = some (.ref fP1 :: restP1))
    (lP1 : K.lookup fP1 = some ⟨ocP1, odP1, .func (PySem.W.fnOf "interval" "Spans.interval" (defArgs s_Spans_interval) (defBody s_Spans_interval) (defScope s_Spans_interval) .none kVP1 dcP1 pmP1 anP1 cdP1 ctP1), slP1⟩)
    (kP1 : PySem.W.codeIn K cdP1 "Spans.interval" = true)
    (pP1 : PySem.W.keepIn K (.ref fP1) = true)
    (aP3 : PySem.W.findIn K (.ref C) "names" = some (some (.ref pP3a)))
    (bP3 : PySem.W.specialIn K (.ref pP3a) "__get__" = some (some (.builtin "property.__get__")))
    (tP3 : PySem.W.takesIn K (.ref pP3a) = some true)
    (rP3 : PySem.W.recIn K pP3a "property" = some (.ref fP3 :: restP3))
    (lP3 : K.lookup fP3 = some ⟨ocP3, odP3, .func (PySem.W.fnOf "names" "Spans.names" (defArgs s_Spans_names) (defBody s_Spans_names) (defScope s_Spans_names) .none kVP3 dcP3 pmP3 anP3 cdP3 ctP3), slP3⟩)
    (kP3 : PySem.W.codeIn K cdP3 "Spans.names" = true)
    (pP3 : PySem.W.keepIn K (.ref fP3) = true)
    (iG : PySem.W.findIn K (.ref C) "__getitem__" = some (some (.ref fG)))
    (yG : PySem.W.isFn K (.ref fG) = true)
    (lG : K.lookup fG = some ⟨ocG, odG, .func (PySem.W.fnOf "__getitem__" "Spans.__getitem__" (defArgs s_Spans_getitem) (defBody s_Spans_getitem) (defScope s_Spans_getitem) .none kVG dcG pmG anG cdG ctG), slG⟩)
    (kG : PySem.W.codeIn K cdG "Spans.__getitem__" = true)
    (pG : PySem.W.keepIn K (.ref fG) = true)
    (iH : PySem.W.findIn K (.ref C) "_chosen" = some (some (.ref fH)))
    (yH : PySem.W.isFn K (.ref fH) = true)
    (lH : K.lookup fH = some ⟨ocH, odH, .func (PySem.W.fnOf "_chosen" "Spans._chosen" (defArgs s_Spans_chosen) (defBody s_Spans_chosen) (defScope s_Spans_chosen) .none kVH dcH pmH anH cdH ctH), slH⟩)
    (kH : PySem.W.codeIn K cdH "Spans._chosen" = true)
    (pH : PySem.W.keepIn K (.ref fH) = true)
    (iE : PySem.W.findIn K (.ref C) "each_alive" = some (some (.ref fE)))
    (yE : PySem.W.isFn K (.ref fE) = true)
    (lE : K.lookup fE = some ⟨ocE, odE, .func (PySem.W.fnOf "each_alive" "Spans.each_alive" (defArgs s_Spans_each_alive) (defBody s_Spans_each_alive) (defScope s_Spans_each_alive) .none kVE dcE pmE anE cdE ctE), slE⟩)
    (kE : PySem.W.codeIn K cdE "Spans.each_alive" = true)
    (pE : PySem.W.keepIn K (.ref fE) = true)
    (iA : PySem.W.findIn K (.ref C) "across" = some (some (.ref fA)))
    (yA : PySem.W.isFn K (.ref fA) = true)
    (lA : K.lookup fA = some ⟨ocA, odA, .func (PySem.W.fnOf "across" "Spans.across" (defArgs s_Spans_across) (defBody s_Spans_across) (defScope s_Spans_across) .none kVA dcA pmA anA cdA ctA), slA⟩)
    (kA : PySem.W.codeIn K cdA "Spans.across" = true)
    (pA : PySem.W.keepIn K (.ref fA) = true)
    (cg : PySem.W.specialIn K (.builtin "object.__class__") "__get__" = some (some (.builtin "getset_descriptor.__get__")))
    (ct : PySem.W.takesIn K (.builtin "object.__class__") = some true)
    (fnG : PySem.W.fnIn K fG = true)
    (sf : PySem.W.selfFirst K C = true)
    (aD : PySem.W.nsIn K mainGlobals "Wiring" = some (some (.ref D)))
    (c1D : PySem.W.plainGet K D Str.empty = true)
    (c2D : PySem.W.hasDictIn K D = true)
    (c3D : PySem.W.plainOver K D = true)
    (c4D : PySem.W.findIn K (.ref D) "__setattr__" = some (some (.builtin "object.__setattr__")))
    (c5D : PySem.W.makesIn K D = true)
    (c6D : PySem.W.findIn K (.ref D) "__init__" = some (some (.ref fJ)))
    (c7D : PySem.W.isFn K (.ref fJ) = true)
    (c8D : PySem.W.keepIn K (.ref D) = true)
    (lID : K.lookup fJ = some ⟨ocID, odID, .func (PySem.W.fnOf "__init__" "Wiring.__init__" (defArgs s_Wiring_init) (defBody s_Wiring_init) (defScope s_Wiring_init) .none kVID dcID pmID anID cdID ctID), slID⟩)
    (kID : PySem.W.codeIn K cdID "Wiring.__init__" = true)
    (pID : PySem.W.keepIn K (.ref fJ) = true)
    (n1D : PySem.W.findIn K (.ref D) "_spans" = some none)
    (n2D : PySem.W.findIn K (.ref D) "_follows" = some none)
    (n3D : PySem.W.findIn K (.ref D) "_cycles" = some none)
    (moD : PySem.W.mroIn K D (.type "object") = some true)
    (neD : PySem.W.findIn K (.ref D) "__ne__" = some (some (.builtin "object.__ne__")))
    (caD : PySem.W.findIn K (.ref D) "__class__" = some (some (.builtin "object.__class__")))
    (gCD : PySem.W.isClsIn K D = true)
    (tCD : PySem.W.typeIn K (.ref D) = some (.type "type"))
    (aW1 : PySem.W.findIn K (.ref D) "spans" = some (some (.ref pW1a)))
    (bW1 : PySem.W.specialIn K (.ref pW1a) "__get__" = some (some (.builtin "property.__get__")))
    (tW1 : PySem.W.takesIn K (.ref pW1a) = some true)
    (rW1 : PySem.W.recIn K pW1a "property" = some (.ref fW1 :: restW1))
    (lW1 : K.lookup fW1 = some ⟨ocW1, odW1, .func (PySem.W.fnOf "spans" "Wiring.spans" (defArgs s_Wiring_spans) (defBody s_Wiring_spans) (defScope s_Wiring_spans) .none kVW1 dcW1 pmW1 anW1 cdW1 ctW1), slW1⟩)
    (kW1 : PySem.W.codeIn K cdW1 "Wiring.spans" = true)
    (pW1 : PySem.W.keepIn K (.ref fW1) = true)
    (aW2 : PySem.W.findIn K (.ref D) "follows" = some (some (.ref pW2a)))
    (bW2 : PySem.W.specialIn K (.ref pW2a) "__get__" = some (some (.builtin "property.__get__")))
    (tW2 : PySem.W.takesIn K (.ref pW2a) = some true)
    (rW2 : PySem.W.recIn K pW2a "property" = some (.ref fW2 :: restW2))
    (lW2 : K.lookup fW2 = some ⟨ocW2, odW2, .func (PySem.W.fnOf "follows" "Wiring.follows" (defArgs s_Wiring_follows) (defBody s_Wiring_follows) (defScope s_Wiring_follows) .none kVW2 dcW2 pmW2 anW2 cdW2 ctW2), slW2⟩)
    (kW2 : PySem.W.codeIn K cdW2 "Wiring.follows" = true)
    (pW2 : PySem.W.keepIn K (.ref fW2) = true)
    (aW3 : PySem.W.findIn K (.ref D) "registers" = some (some (.ref pW3a)))
    (bW3 : PySem.W.specialIn K (.ref pW3a) "__get__" = some (some (.builtin "property.__get__")))
    (tW3 : PySem.W.takesIn K (.ref pW3a) = some true)
    (rW3 : PySem.W.recIn K pW3a "property" = some (.ref fW3 :: restW3))
    (lW3 : K.lookup fW3 = some ⟨ocW3, odW3, .func (PySem.W.fnOf "registers" "Wiring.registers" (defArgs s_Wiring_registers) (defBody s_Wiring_registers) (defScope s_Wiring_registers) .none kVW3 dcW3 pmW3 anW3 cdW3 ctW3), slW3⟩)
    (kW3 : PySem.W.codeIn K cdW3 "Wiring.registers" = true)
    (pW3 : PySem.W.keepIn K (.ref fW3) = true)
    (aW4 : PySem.W.findIn K (.ref D) "cycles" = some (some (.ref pW4a)))
    (bW4 : PySem.W.specialIn K (.ref pW4a) "__get__" = some (some (.builtin "property.__get__")))
    (tW4 : PySem.W.takesIn K (.ref pW4a) = some true)
    (rW4 : PySem.W.recIn K pW4a "property" = some (.ref fW4 :: restW4))
    (lW4 : K.lookup fW4 = some ⟨ocW4, odW4, .func (PySem.W.fnOf "cycles" "Wiring.cycles" (defArgs s_Wiring_cycles) (defBody s_Wiring_cycles) (defScope s_Wiring_cycles) .none kVW4 dcW4 pmW4 anW4 cdW4 ctW4), slW4⟩)
    (kW4 : PySem.W.codeIn K cdW4 "Wiring.cycles" = true)
    (pW4 : PySem.W.keepIn K (.ref fW4) = true)
    (aW5 : PySem.W.findIn K (.ref D) "sizes" = some (some (.ref pW5a)))
    (bW5 : PySem.W.specialIn K (.ref pW5a) "__get__" = some (some (.builtin "property.__get__")))
    (tW5 : PySem.W.takesIn K (.ref pW5a) = some true)
    (rW5 : PySem.W.recIn K pW5a "property" = some (.ref fW5 :: restW5))
    (lW5 : K.lookup fW5 = some ⟨ocW5, odW5, .func (PySem.W.fnOf "sizes" "Wiring.sizes" (defArgs s_Wiring_sizes) (defBody s_Wiring_sizes) (defScope s_Wiring_sizes) .none kVW5 dcW5 pmW5 anW5 cdW5 ctW5), slW5⟩)
    (kW5 : PySem.W.codeIn K cdW5 "Wiring.sizes" = true)
    (pW5 : PySem.W.keepIn K (.ref fW5) = true)
    (iX1 : PySem.W.findIn K (.ref D) "after" = some (some (.ref fX1)))
    (yX1 : PySem.W.isFn K (.ref fX1) = true)
    (lX1 : K.lookup fX1 = some ⟨ocX1, odX1, .func (PySem.W.fnOf "after" "Wiring.after" (defArgs s_Wiring_after) (defBody s_Wiring_after) (defScope s_Wiring_after) .none kVX1 dcX1 pmX1 anX1 cdX1 ctX1), slX1⟩)
    (kX1 : PySem.W.codeIn K cdX1 "Wiring.after" = true)
    (pX1 : PySem.W.keepIn K (.ref fX1) = true)
    (iX2 : PySem.W.findIn K (.ref D) "__getitem__" = some (some (.ref fX2)))
    (yX2 : PySem.W.isFn K (.ref fX2) = true)
    (lX2 : K.lookup fX2 = some ⟨ocX2, odX2, .func (PySem.W.fnOf "__getitem__" "Wiring.__getitem__" (defArgs s_Wiring_getitem) (defBody s_Wiring_getitem) (defScope s_Wiring_getitem) .none kVX2 dcX2 pmX2 anX2 cdX2 ctX2), slX2⟩)
    (kX2 : PySem.W.codeIn K cdX2 "Wiring.__getitem__" = true)
    (pX2 : PySem.W.keepIn K (.ref fX2) = true)
    (iX3 : PySem.W.findIn K (.ref D) "each_free" = some (some (.ref fX3)))
    (yX3 : PySem.W.isFn K (.ref fX3) = true)
    (lX3 : K.lookup fX3 = some ⟨ocX3, odX3, .func (PySem.W.fnOf "each_free" "Wiring.each_free" (defArgs s_Wiring_each_free) (defBody s_Wiring_each_free) (defScope s_Wiring_each_free) .none kVX3 dcX3 pmX3 anX3 cdX3 ctX3), slX3⟩)
    (kX3 : PySem.W.codeIn K cdX3 "Wiring.each_free" = true)
    (pX3 : PySem.W.keepIn K (.ref fX3) = true)
    (fnW : PySem.W.fnIn K fX2 = true)
    : Nonempty (UX K mg) := by
  exact ⟨⟨C, PySem.W.mg_of X G aC, ⟨c1C, c2C, c3C, c4C⟩, moC, neC, fI, _, ⟨⟨_, _, _, _, _, _, _, _, _, _, rfl, lIC, kIC, .inl ⟨rfl, rfl⟩, .inl rfl⟩, pIC⟩, ⟨c5C, c6C, c7C, c8C⟩, .all fun us hl => match us, hl with | [_, _, _], _ => rfl, n1C, n2C, n3C, n4C, n5C, ⟨pP1a, fP1, _, ⟨⟨_, _, _, _, _, _, _, _, _, _, rfl, lP1, kP1, .inl ⟨rfl, rfl⟩, .inl rfl⟩, pP1⟩, ⟨aP1, bP1, tP1, ⟨_, rP1⟩⟩, .all fun us hl => match us, hl with | [_], _ => rfl⟩, ⟨pP3a, fP3, _, ⟨⟨_, _, _, _, _, _, _, _, _, _, rfl, lP3, kP3, .inl ⟨rfl, rfl⟩, .inl rfl⟩, pP3⟩, ⟨aP3, bP3, tP3, ⟨_, rP3⟩⟩, .all fun us hl => match us, hl with | [_], _ => rfl⟩, ⟨fG, _, ⟨⟨_, _, _, _, _, _, _, _, _, _, rfl, lG, kG, .inl ⟨rfl, rfl⟩, .inl rfl⟩, pG⟩, ⟨iG, yG, pG⟩, .all fun us hl => match us, hl with | [_, _], _ => rfl⟩, ⟨fH, _, ⟨⟨_, _, _, _, _, _, _, _, _, _, rfl, lH, kH, .inl ⟨rfl, rfl⟩, .inl rfl⟩, pH⟩, ⟨iH, yH, pH⟩, .all fun us hl => match us, hl with | [_, _], _ => rfl⟩, ⟨fE, _, ⟨⟨_, _, _, _, _, _, _, _, _, _, rfl, lE, kE, .inl ⟨rfl, rfl⟩, .inl rfl⟩, pE⟩, ⟨iE, yE, pE⟩, .all fun us hl => match us, hl with | [_, _], _ => rfl⟩, ⟨fA, _, fun_mk lA kA pA, ⟨iA, yA, pA⟩⟩, caC, cg, ct, fnG, sf,
    D, PySem.W.mg_of X G aD, ⟨c1D, c2D, c3D, c4D⟩, moD, neD, fJ, _, ⟨⟨_, _, _, _, _, _, _, _, _, _, rfl, lID, kID, .inl ⟨rfl, rfl⟩, .inl rfl⟩, pID⟩, ⟨c5D, c6D, c7D, c8D⟩, .all fun us hl => match us, hl with | [_, _, _], _ => rfl, n1D, n2D, n3D, ⟨pW1a, fW1, _, ⟨⟨_, _, _, _, _, _, _, _, _, _, rfl, lW1, kW1, .inl ⟨rfl, rfl⟩, .inl rfl⟩, pW1⟩, ⟨aW1, bW1, tW1, ⟨_, rW1⟩⟩, .all fun us hl => match us, hl with | [_], _ => rfl⟩, ⟨pW2a, fW2, _, ⟨⟨_, _, _, _, _, _, _, _, _, _, rfl, lW2, kW2, .inl ⟨rfl, rfl⟩, .inl rfl⟩, pW2⟩, ⟨aW2, bW2, tW2, ⟨_, rW2⟩⟩, .all fun us hl => match us, hl with | [_], _ => rfl⟩, ⟨pW3a, fW3, _, ⟨⟨_, _, _, _, _, _, _, _, _, _, rfl, lW3, kW3, .inl ⟨rfl, rfl⟩, .inl rfl⟩, pW3⟩, ⟨aW3, bW3, tW3, ⟨_, rW3⟩⟩, .all fun us hl => match us, hl with | [_], _ => rfl⟩, ⟨pW4a, fW4, _, ⟨⟨_, _, _, _, _, _, _, _, _, _, rfl, lW4, kW4, .inl ⟨rfl, rfl⟩, .inl rfl⟩, pW4⟩, ⟨aW4, bW4, tW4, ⟨_, rW4⟩⟩, .all fun us hl => match us, hl with | [_], _ => rfl⟩, ⟨pW5a, fW5, _, ⟨⟨_, _, _, _, _, _, _, _, _, _, rfl, lW5, kW5, .inl ⟨rfl, rfl⟩, .inl rfl⟩, pW5⟩, ⟨aW5, bW5, tW5, ⟨_, rW5⟩⟩, .all fun us hl => match us, hl with | [_], _ => rfl⟩, ⟨fX1, _, ⟨⟨_, _, _, _, _, _, _, _, _, _, rfl, lX1, kX1, .inl ⟨rfl, rfl⟩, .inl rfl⟩, pX1⟩, ⟨iX1, yX1, pX1⟩, .all fun us hl => match us, hl with | [_, _, _], _ => rfl⟩, ⟨fX2, _, ⟨⟨_, _, _, _, _, _, _, _, _, _, rfl, lX2, kX2, .inl ⟨rfl, rfl⟩, .inl rfl⟩, pX2⟩, ⟨iX2, yX2, pX2⟩, .all fun us hl => match us, hl with | [_, _], _ => rfl⟩, ⟨fX3, _, ⟨⟨_, _, _, _, _, _, _, _, _, _, rfl, lX3, kX3, .inl ⟨rfl, rfl⟩, .inl rfl⟩, pX3⟩, ⟨iX3, yX3, pX3⟩, .all fun us hl => match us, hl with | [_, _], _ => rfl⟩, fnW⟩⟩
theorem all_mk {l : PySem.W.OpenLaw} {w : World} {K : PySem.W.Frag} {h : Heap} {mg : Str → Option Value} {fa f_wall f_is_name f_is_integer f_is_between f_check_integer f_check_between f_check_interval f_times_alive f_ascends f_is_span f_are_rows f_check_spans f_is_follow f_are_follows f_size_of f_is_wiring f_cycles_of f_w_tray f_w_roll f_w_pick f_w_few f_w_names f_w_rings f_w_rows f_w_sorted f_w_alive f_w_places f_w_swept f_w_drawn f_w_follows f_w_size f_w_free f_w_is_once f_w_right f_law : Addr} (X : K.In h) (G : h.Ns mainGlobals mg) (hfa : mg "law" = some (.ref fa))
    {od_wall an_wall od_is_name an_is_name od_is_integer an_is_integer od_is_between an_is_between od_check_integer an_check_integer od_check_between an_check_between od_check_interval an_check_interval od_times_alive an_times_alive od_ascends an_ascends od_is_span an_is_span od_are_rows an_are_rows od_check_spans an_check_spans od_is_follow an_is_follow od_are_follows an_are_follows od_size_of an_size_of od_is_wiring an_is_wiring od_cycles_of an_cycles_of od_w_tray an_w_tray od_w_roll an_w_roll od_w_pick an_w_pick od_w_few an_w_few od_w_names an_w_names od_w_rings an_w_rings od_w_rows an_w_rows od_w_sorted an_w_sorted od_w_alive an_w_alive od_w_places an_w_places od_w_swept an_w_swept od_w_drawn an_w_drawn od_w_follows an_w_follows od_w_size an_w_size od_w_free an_w_free od_w_is_once an_w_is_once od_w_right an_w_right od_law an_law : Option Addr} {sl_wall sl_is_name sl_is_integer sl_is_between sl_check_integer sl_check_between sl_check_interval sl_times_alive sl_ascends sl_is_span sl_are_rows sl_check_spans sl_is_follow sl_are_follows sl_size_of sl_is_wiring sl_cycles_of sl_w_tray sl_w_roll sl_w_pick sl_w_few sl_w_names sl_w_rings sl_w_rows sl_w_sorted sl_w_alive sl_w_places sl_w_swept sl_w_drawn sl_w_follows sl_w_size sl_w_free sl_w_is_once sl_w_right sl_law : Array (Option Value)} {oc_wall kV_wall dc_wall pm_wall cd_wall ct_wall oc_is_name kV_is_name dc_is_name pm_is_name cd_is_name ct_is_name oc_is_integer kV_is_integer dc_is_integer pm_is_integer cd_is_integer ct_is_integer oc_is_between kV_is_between dc_is_between pm_is_between cd_is_between ct_is_between oc_check_integer kV_check_integer dc_check_integer pm_check_integer cd_check_integer ct_check_integer oc_check_between kV_check_between dc_check_between pm_check_between cd_check_between ct_check_between oc_check_interval kV_check_interval dc_check_interval pm_check_interval cd_check_interval ct_check_interval oc_times_alive kV_times_alive dc_times_alive pm_times_alive cd_times_alive ct_times_alive oc_ascends kV_ascends dc_ascends pm_ascends cd_ascends ct_ascends oc_is_span kV_is_span dc_is_span pm_is_span cd_is_span ct_is_span oc_are_rows kV_are_rows dc_are_rows pm_are_rows cd_are_rows ct_are_rows oc_check_spans kV_check_spans dc_check_spans pm_check_spans cd_check_spans ct_check_spans oc_is_follow kV_is_follow dc_is_follow pm_is_follow cd_is_follow ct_is_follow oc_are_follows kV_are_follows dc_are_follows pm_are_follows cd_are_follows ct_are_follows oc_size_of kV_size_of dc_size_of pm_size_of cd_size_of ct_size_of oc_is_wiring kV_is_wiring dc_is_wiring pm_is_wiring cd_is_wiring ct_is_wiring oc_cycles_of kV_cycles_of dc_cycles_of pm_cycles_of cd_cycles_of ct_cycles_of oc_w_tray kV_w_tray dc_w_tray pm_w_tray cd_w_tray ct_w_tray oc_w_roll kV_w_roll dc_w_roll pm_w_roll cd_w_roll ct_w_roll oc_w_pick kV_w_pick dc_w_pick pm_w_pick cd_w_pick ct_w_pick oc_w_few kV_w_few dc_w_few pm_w_few cd_w_few ct_w_few oc_w_names kV_w_names dc_w_names pm_w_names cd_w_names ct_w_names oc_w_rings kV_w_rings dc_w_rings pm_w_rings cd_w_rings ct_w_rings oc_w_rows kV_w_rows dc_w_rows pm_w_rows cd_w_rows ct_w_rows oc_w_sorted kV_w_sorted dc_w_sorted pm_w_sorted cd_w_sorted ct_w_sorted oc_w_alive kV_w_alive dc_w_alive pm_w_alive cd_w_alive ct_w_alive oc_w_places kV_w_places dc_w_places pm_w_places cd_w_places ct_w_places oc_w_swept kV_w_swept dc_w_swept pm_w_swept cd_w_swept ct_w_swept oc_w_drawn kV_w_drawn dc_w_drawn pm_w_drawn cd_w_drawn ct_w_drawn oc_w_follows kV_w_follows dc_w_follows pm_w_follows cd_w_follows ct_w_follows oc_w_size kV_w_size dc_w_size pm_w_size cd_w_size ct_w_size oc_w_free kV_w_free dc_w_free pm_w_free cd_w_free ct_w_free oc_w_is_once kV_w_is_once dc_w_is_once pm_w_is_once cd_w_is_once ct_w_is_once oc_w_right kV_w_right dc_w_right pm_w_right cd_w_right ct_w_right oc_law kV_law dc_law pm_law cd_law ct_law : Value} {t_MAX_INTERVAL t_MAX_LETTERS t_MAX_VALUES t_MAX_LIFE t_MAX_WIRED : Tok}
    (a_wall : PySem.W.nsIn K mainGlobals "_wall" = some (some (.ref f_wall))) (l_wall : K.lookup f_wall = some ⟨oc_wall, od_wall, .func (PySem.W.fnOf "_wall" "_wall" (defArgs s_wall) (defBody s_wall) (defScope s_wall) .none kV_wall dc_wall pm_wall an_wall cd_wall ct_wall), sl_wall⟩) (k_wall : PySem.W.codeIn K cd_wall "_wall" = true) (p_wall : PySem.W.keepIn K (.ref f_wall) = true)
    (a_is_name : PySem.W.nsIn K mainGlobals "is_name" = some (some (.ref f_is_name))) (l_is_name : K.lookup f_is_name = some ⟨oc_is_name, od_is_name, .func (PySem.W.fnOf "is_name" "is_name" (defArgs s_is_name) (defBody s_is_name) (defScope s_is_name) .none kV_is_name dc_is_name pm_is_name an_is_name cd_is_name ct_is_name), sl_is_name⟩) (k_is_name : PySem.W.codeIn K cd_is_name "is_name" = true) (p_is_name : PySem.W.keepIn K (.ref f_is_name) = true)
    (a_is_integer : PySem.W.nsIn K mainGlobals "is_integer" = some (some (.ref f_is_integer))) (l_is_integer : K.lookup f_is_integer = some ⟨oc_is_integer, od_is_integer, .func (PySem.W.fnOf "is_integer" "is_integer" (defArgs s_is_integer) (defBody s_is_integer) (defScope s_is_integer) .none kV_is_integer dc_is_integer pm_is_integer an_is_integer cd_is_integer ct_is_integer), sl_is_integer⟩) (k_is_integer : PySem.W.codeIn K cd_is_integer "is_integer" = true) (p_is_integer : PySem.W.keepIn K (.ref f_is_integer) = true)
    (a_is_between : PySem.W.nsIn K mainGlobals "is_between" = some (some (.ref f_is_between))) (l_is_between : K.lookup f_is_between = some ⟨oc_is_between, od_is_between, .func (PySem.W.fnOf "is_between" "is_between" (defArgs s_is_between) (defBody s_is_between) (defScope s_is_between) .none kV_is_between dc_is_between pm_is_between an_is_between cd_is_between ct_is_between), sl_is_between⟩) (k_is_between : PySem.W.codeIn K cd_is_between "is_between" = true) (p_is_between : PySem.W.keepIn K (.ref f_is_between) = true)
    (a_check_integer : PySem.W.nsIn K mainGlobals "check_integer" = some (some (.ref f_check_integer))) (l_check_integer : K.lookup f_check_integer = some ⟨oc_check_integer, od_check_integer, .func (PySem.W.fnOf "check_integer" "check_integer" (defArgs s_check_integer) (defBody s_check_integer) (defScope s_check_integer) .none kV_check_integer dc_check_integer pm_check_integer an_check_integer cd_check_integer ct_check_integer), sl_check_integer⟩) (k_check_integer : PySem.W.codeIn K cd_check_integer "check_integer" = true) (p_check_integer : PySem.W.keepIn K (.ref f_check_integer) = true)
    (a_check_between : PySem.W.nsIn K mainGlobals "check_between" = some (some (.ref f_check_between))) (l_check_between : K.lookup f_check_between = some ⟨oc_check_between, od_check_between, .func (PySem.W.fnOf "check_between" "check_between" (defArgs s_check_between) (defBody s_check_between) (defScope s_check_between) .none kV_check_between dc_check_between pm_check_between an_check_between cd_check_between ct_check_between), sl_check_between⟩) (k_check_between : PySem.W.codeIn K cd_check_between "check_between" = true) (p_check_between : PySem.W.keepIn K (.ref f_check_between) = true)
    (a_check_interval : PySem.W.nsIn K mainGlobals "check_interval" = some (some (.ref f_check_interval))) (l_check_interval : K.lookup f_check_interval = some ⟨oc_check_interval, od_check_interval, .func (PySem.W.fnOf "check_interval" "check_interval" (defArgs s_check_interval) (defBody s_check_interval) (defScope s_check_interval) .none kV_check_interval dc_check_interval pm_check_interval an_check_interval cd_check_interval ct_check_interval), sl_check_interval⟩) (k_check_interval : PySem.W.codeIn K cd_check_interval "check_interval" = true) (p_check_interval : PySem.W.keepIn K (.ref f_check_interval) = true)
    (a_times_alive : PySem.W.nsIn K mainGlobals "times_alive" = some (some (.ref f_times_alive))) (l_times_alive : K.lookup f_times_alive = some ⟨oc_times_alive, od_times_alive, .func (PySem.W.fnOf "times_alive" "times_alive" (defArgs s_times_alive) (defBody s_times_alive) (defScope s_times_alive) .none kV_times_alive dc_times_alive pm_times_alive an_times_alive cd_times_alive ct_times_alive), sl_times_alive⟩) (k_times_alive : PySem.W.codeIn K cd_times_alive "times_alive" = true) (p_times_alive : PySem.W.keepIn K (.ref f_times_alive) = true)
    (a_ascends : PySem.W.nsIn K mainGlobals "ascends" = some (some (.ref f_ascends))) (l_ascends : K.lookup f_ascends = some ⟨oc_ascends, od_ascends, .func (PySem.W.fnOf "ascends" "ascends" (defArgs s_ascends) (defBody s_ascends) (defScope s_ascends) .none kV_ascends dc_ascends pm_ascends an_ascends cd_ascends ct_ascends), sl_ascends⟩) (k_ascends : PySem.W.codeIn K cd_ascends "ascends" = true) (p_ascends : PySem.W.keepIn K (.ref f_ascends) = true)
    (a_is_span : PySem.W.nsIn K mainGlobals "_is_span" = some (some (.ref f_is_span))) (l_is_span : K.lookup f_is_span = some ⟨oc_is_span, od_is_span, .func (PySem.W.fnOf "_is_span" "_is_span" (defArgs s_is_span) (defBody s_is_span) (defScope s_is_span) .none kV_is_span dc_is_span pm_is_span an_is_span cd_is_span ct_is_span), sl_is_span⟩) (k_is_span : PySem.W.codeIn K cd_is_span "_is_span" = true) (p_is_span : PySem.W.keepIn K (.ref f_is_span) = true)
    (a_are_rows : PySem.W.nsIn K mainGlobals "_are_rows" = some (some (.ref f_are_rows))) (l_are_rows : K.lookup f_are_rows = some ⟨oc_are_rows, od_are_rows, .func (PySem.W.fnOf "_are_rows" "_are_rows" (defArgs s_are_rows) (defBody s_are_rows) (defScope s_are_rows) .none kV_are_rows dc_are_rows pm_are_rows an_are_rows cd_are_rows ct_are_rows), sl_are_rows⟩) (k_are_rows : PySem.W.codeIn K cd_are_rows "_are_rows" = true) (p_are_rows : PySem.W.keepIn K (.ref f_are_rows) = true)
    (a_check_spans : PySem.W.nsIn K mainGlobals "check_spans" = some (some (.ref f_check_spans))) (l_check_spans : K.lookup f_check_spans = some ⟨oc_check_spans, od_check_spans, .func (PySem.W.fnOf "check_spans" "check_spans" (defArgs s_check_spans) (defBody s_check_spans) (defScope s_check_spans) .none kV_check_spans dc_check_spans pm_check_spans an_check_spans cd_check_spans ct_check_spans), sl_check_spans⟩) (k_check_spans : PySem.W.codeIn K cd_check_spans "check_spans" = true) (p_check_spans : PySem.W.keepIn K (.ref f_check_spans) = true)
    (a_is_follow : PySem.W.nsIn K mainGlobals "_is_follow" = some (some (.ref f_is_follow))) (l_is_follow : K.lookup f_is_follow = some ⟨oc_is_follow, od_is_follow, .func (PySem.W.fnOf "_is_follow" "_is_follow" (defArgs s_is_follow) (defBody s_is_follow) (defScope s_is_follow) .none kV_is_follow dc_is_follow pm_is_follow an_is_follow cd_is_follow ct_is_follow), sl_is_follow⟩) (k_is_follow : PySem.W.codeIn K cd_is_follow "_is_follow" = true) (p_is_follow : PySem.W.keepIn K (.ref f_is_follow) = true)
    (a_are_follows : PySem.W.nsIn K mainGlobals "_are_follows" = some (some (.ref f_are_follows))) (l_are_follows : K.lookup f_are_follows = some ⟨oc_are_follows, od_are_follows, .func (PySem.W.fnOf "_are_follows" "_are_follows" (defArgs s_are_follows) (defBody s_are_follows) (defScope s_are_follows) .none kV_are_follows dc_are_follows pm_are_follows an_are_follows cd_are_follows ct_are_follows), sl_are_follows⟩) (k_are_follows : PySem.W.codeIn K cd_are_follows "_are_follows" = true) (p_are_follows : PySem.W.keepIn K (.ref f_are_follows) = true)
    (a_size_of : PySem.W.nsIn K mainGlobals "_size_of" = some (some (.ref f_size_of))) (l_size_of : K.lookup f_size_of = some ⟨oc_size_of, od_size_of, .func (PySem.W.fnOf "_size_of" "_size_of" (defArgs s_size_of) (defBody s_size_of) (defScope s_size_of) .none kV_size_of dc_size_of pm_size_of an_size_of cd_size_of ct_size_of), sl_size_of⟩) (k_size_of : PySem.W.codeIn K cd_size_of "_size_of" = true) (p_size_of : PySem.W.keepIn K (.ref f_size_of) = true)
    (a_is_wiring : PySem.W.nsIn K mainGlobals "is_wiring" = some (some (.ref f_is_wiring))) (l_is_wiring : K.lookup f_is_wiring = some ⟨oc_is_wiring, od_is_wiring, .func (PySem.W.fnOf "is_wiring" "is_wiring" (defArgs s_is_wiring) (defBody s_is_wiring) (defScope s_is_wiring) .none kV_is_wiring dc_is_wiring pm_is_wiring an_is_wiring cd_is_wiring ct_is_wiring), sl_is_wiring⟩) (k_is_wiring : PySem.W.codeIn K cd_is_wiring "is_wiring" = true) (p_is_wiring : PySem.W.keepIn K (.ref f_is_wiring) = true)
    (a_cycles_of : PySem.W.nsIn K mainGlobals "_cycles_of" = some (some (.ref f_cycles_of))) (l_cycles_of : K.lookup f_cycles_of = some ⟨oc_cycles_of, od_cycles_of, .func (PySem.W.fnOf "_cycles_of" "_cycles_of" (defArgs s_cycles_of) (defBody s_cycles_of) (defScope s_cycles_of) .none kV_cycles_of dc_cycles_of pm_cycles_of an_cycles_of cd_cycles_of ct_cycles_of), sl_cycles_of⟩) (k_cycles_of : PySem.W.codeIn K cd_cycles_of "_cycles_of" = true) (p_cycles_of : PySem.W.keepIn K (.ref f_cycles_of) = true)
    (a_w_tray : PySem.W.nsIn K mainGlobals "_law_tray" = some (some (.ref f_w_tray))) (l_w_tray : K.lookup f_w_tray = some ⟨oc_w_tray, od_w_tray, .func (PySem.W.fnOf "_law_tray" "_law_tray" (defArgs s_w_tray) (defBody s_w_tray) (defScope s_w_tray) .none kV_w_tray dc_w_tray pm_w_tray an_w_tray cd_w_tray ct_w_tray), sl_w_tray⟩) (k_w_tray : PySem.W.codeIn K cd_w_tray "_law_tray" = true) (p_w_tray : PySem.W.keepIn K (.ref f_w_tray) = true)
    (a_w_roll : PySem.W.nsIn K mainGlobals "_law_roll" = some (some (.ref f_w_roll))) (l_w_roll : K.lookup f_w_roll = some ⟨oc_w_roll, od_w_roll, .func (PySem.W.fnOf "_law_roll" "_law_roll" (defArgs s_w_roll) (defBody s_w_roll) (defScope s_w_roll) .none kV_w_roll dc_w_roll pm_w_roll an_w_roll cd_w_roll ct_w_roll), sl_w_roll⟩) (k_w_roll : PySem.W.codeIn K cd_w_roll "_law_roll" = true) (p_w_roll : PySem.W.keepIn K (.ref f_w_roll) = true)
    (a_w_pick : PySem.W.nsIn K mainGlobals "_law_pick" = some (some (.ref f_w_pick))) (l_w_pick : K.lookup f_w_pick = some ⟨oc_w_pick, od_w_pick, .func (PySem.W.fnOf "_law_pick" "_law_pick" (defArgs s_w_pick) (defBody s_w_pick) (defScope s_w_pick) .none kV_w_pick dc_w_pick pm_w_pick an_w_pick cd_w_pick ct_w_pick), sl_w_pick⟩) (k_w_pick : PySem.W.codeIn K cd_w_pick "_law_pick" = true) (p_w_pick : PySem.W.keepIn K (.ref f_w_pick) = true)
    (a_w_few : PySem.W.nsIn K mainGlobals "_law_few" = some (some (.ref f_w_few))) (l_w_few : K.lookup f_w_few = some ⟨oc_w_few, od_w_few, .func (PySem.W.fnOf "_law_few" "_law_few" (defArgs s_w_few) (defBody s_w_few) (defScope s_w_few) .none kV_w_few dc_w_few pm_w_few an_w_few cd_w_few ct_w_few), sl_w_few⟩) (k_w_few : PySem.W.codeIn K cd_w_few "_law_few" = true) (p_w_few : PySem.W.keepIn K (.ref f_w_few) = true)
    (a_w_names : PySem.W.nsIn K mainGlobals "_law_names" = some (some (.ref f_w_names))) (l_w_names : K.lookup f_w_names = some ⟨oc_w_names, od_w_names, .func (PySem.W.fnOf "_law_names" "_law_names" (defArgs s_w_names) (defBody s_w_names) (defScope s_w_names) .none kV_w_names dc_w_names pm_w_names an_w_names cd_w_names ct_w_names), sl_w_names⟩) (k_w_names : PySem.W.codeIn K cd_w_names "_law_names" = true) (p_w_names : PySem.W.keepIn K (.ref f_w_names) = true)
    (a_w_rings : PySem.W.nsIn K mainGlobals "_law_rings" = some (some (.ref f_w_rings))) (l_w_rings : K.lookup f_w_rings = some ⟨oc_w_rings, od_w_rings, .func (PySem.W.fnOf "_law_rings" "_law_rings" (defArgs s_w_rings) (defBody s_w_rings) (defScope s_w_rings) .none kV_w_rings dc_w_rings pm_w_rings an_w_rings cd_w_rings ct_w_rings), sl_w_rings⟩) (k_w_rings : PySem.W.codeIn K cd_w_rings "_law_rings" = true) (p_w_rings : PySem.W.keepIn K (.ref f_w_rings) = true)
    (a_w_rows : PySem.W.nsIn K mainGlobals "_law_rows" = some (some (.ref f_w_rows))) (l_w_rows : K.lookup f_w_rows = some ⟨oc_w_rows, od_w_rows, .func (PySem.W.fnOf "_law_rows" "_law_rows" (defArgs s_w_rows) (defBody s_w_rows) (defScope s_w_rows) .none kV_w_rows dc_w_rows pm_w_rows an_w_rows cd_w_rows ct_w_rows), sl_w_rows⟩) (k_w_rows : PySem.W.codeIn K cd_w_rows "_law_rows" = true) (p_w_rows : PySem.W.keepIn K (.ref f_w_rows) = true)
    (a_w_sorted : PySem.W.nsIn K mainGlobals "_law_sorted" = some (some (.ref f_w_sorted))) (l_w_sorted : K.lookup f_w_sorted = some ⟨oc_w_sorted, od_w_sorted, .func (PySem.W.fnOf "_law_sorted" "_law_sorted" (defArgs s_w_sorted) (defBody s_w_sorted) (defScope s_w_sorted) .none kV_w_sorted dc_w_sorted pm_w_sorted an_w_sorted cd_w_sorted ct_w_sorted), sl_w_sorted⟩) (k_w_sorted : PySem.W.codeIn K cd_w_sorted "_law_sorted" = true) (p_w_sorted : PySem.W.keepIn K (.ref f_w_sorted) = true)
    (a_w_alive : PySem.W.nsIn K mainGlobals "_law_alive" = some (some (.ref f_w_alive))) (l_w_alive : K.lookup f_w_alive = some ⟨oc_w_alive, od_w_alive, .func (PySem.W.fnOf "_law_alive" "_law_alive" (defArgs s_w_alive) (defBody s_w_alive) (defScope s_w_alive) .none kV_w_alive dc_w_alive pm_w_alive an_w_alive cd_w_alive ct_w_alive), sl_w_alive⟩) (k_w_alive : PySem.W.codeIn K cd_w_alive "_law_alive" = true) (p_w_alive : PySem.W.keepIn K (.ref f_w_alive) = true)
    (a_w_places : PySem.W.nsIn K mainGlobals "_law_places" = some (some (.ref f_w_places))) (l_w_places : K.lookup f_w_places = some ⟨oc_w_places, od_w_places, .func (PySem.W.fnOf "_law_places" "_law_places" (defArgs s_w_places) (defBody s_w_places) (defScope s_w_places) .none kV_w_places dc_w_places pm_w_places an_w_places cd_w_places ct_w_places), sl_w_places⟩) (k_w_places : PySem.W.codeIn K cd_w_places "_law_places" = true) (p_w_places : PySem.W.keepIn K (.ref f_w_places) = true)
    (a_w_swept : PySem.W.nsIn K mainGlobals "_law_swept" = some (some (.ref f_w_swept))) (l_w_swept : K.lookup f_w_swept = some ⟨oc_w_swept, od_w_swept, .func (PySem.W.fnOf "_law_swept" "_law_swept" (defArgs s_w_swept) (defBody s_w_swept) (defScope s_w_swept) .none kV_w_swept dc_w_swept pm_w_swept an_w_swept cd_w_swept ct_w_swept), sl_w_swept⟩) (k_w_swept : PySem.W.codeIn K cd_w_swept "_law_swept" = true) (p_w_swept : PySem.W.keepIn K (.ref f_w_swept) = true)
    (a_w_drawn : PySem.W.nsIn K mainGlobals "_law_drawn" = some (some (.ref f_w_drawn))) (l_w_drawn : K.lookup f_w_drawn = some ⟨oc_w_drawn, od_w_drawn, .func (PySem.W.fnOf "_law_drawn" "_law_drawn" (defArgs s_w_drawn) (defBody s_w_drawn) (defScope s_w_drawn) .none kV_w_drawn dc_w_drawn pm_w_drawn an_w_drawn cd_w_drawn ct_w_drawn), sl_w_drawn⟩) (k_w_drawn : PySem.W.codeIn K cd_w_drawn "_law_drawn" = true) (p_w_drawn : PySem.W.keepIn K (.ref f_w_drawn) = true)
    (a_w_follows : PySem.W.nsIn K mainGlobals "_law_follows" = some (some (.ref f_w_follows))) (l_w_follows : K.lookup f_w_follows = some ⟨oc_w_follows, od_w_follows, .func (PySem.W.fnOf "_law_follows" "_law_follows" (defArgs s_w_follows) (defBody s_w_follows) (defScope s_w_follows) .none kV_w_follows dc_w_follows pm_w_follows an_w_follows cd_w_follows ct_w_follows), sl_w_follows⟩) (k_w_follows : PySem.W.codeIn K cd_w_follows "_law_follows" = true) (p_w_follows : PySem.W.keepIn K (.ref f_w_follows) = true)
    (a_w_size : PySem.W.nsIn K mainGlobals "_law_size" = some (some (.ref f_w_size))) (l_w_size : K.lookup f_w_size = some ⟨oc_w_size, od_w_size, .func (PySem.W.fnOf "_law_size" "_law_size" (defArgs s_w_size) (defBody s_w_size) (defScope s_w_size) .none kV_w_size dc_w_size pm_w_size an_w_size cd_w_size ct_w_size), sl_w_size⟩) (k_w_size : PySem.W.codeIn K cd_w_size "_law_size" = true) (p_w_size : PySem.W.keepIn K (.ref f_w_size) = true)
    (a_w_free : PySem.W.nsIn K mainGlobals "_law_free" = some (some (.ref f_w_free))) (l_w_free : K.lookup f_w_free = some ⟨oc_w_free, od_w_free, .func (PySem.W.fnOf "_law_free" "_law_free" (defArgs s_w_free) (defBody s_w_free) (defScope s_w_free) .none kV_w_free dc_w_free pm_w_free an_w_free cd_w_free ct_w_free), sl_w_free⟩) (k_w_free : PySem.W.codeIn K cd_w_free "_law_free" = true) (p_w_free : PySem.W.keepIn K (.ref f_w_free) = true)
    (a_w_is_once : PySem.W.nsIn K mainGlobals "_law_is_once" = some (some (.ref f_w_is_once))) (l_w_is_once : K.lookup f_w_is_once = some ⟨oc_w_is_once, od_w_is_once, .func (PySem.W.fnOf "_law_is_once" "_law_is_once" (defArgs s_w_is_once) (defBody s_w_is_once) (defScope s_w_is_once) .none kV_w_is_once dc_w_is_once pm_w_is_once an_w_is_once cd_w_is_once ct_w_is_once), sl_w_is_once⟩) (k_w_is_once : PySem.W.codeIn K cd_w_is_once "_law_is_once" = true) (p_w_is_once : PySem.W.keepIn K (.ref f_w_is_once) = true)
    (a_w_right : PySem.W.nsIn K mainGlobals "_law_right" = some (some (.ref f_w_right))) (l_w_right : K.lookup f_w_right = some ⟨oc_w_right, od_w_right, .func (PySem.W.fnOf "_law_right" "_law_right" (defArgs s_w_right) (defBody s_w_right) (defScope s_w_right) .none kV_w_right dc_w_right pm_w_right an_w_right cd_w_right ct_w_right), sl_w_right⟩) (k_w_right : PySem.W.codeIn K cd_w_right "_law_right" = true) (p_w_right : PySem.W.keepIn K (.ref f_w_right) = true)
    (a_law : PySem.W.nsIn K mainGlobals "law" = some (some (.ref f_law))) (l_law : K.lookup f_law = some ⟨oc_law, od_law, .func (PySem.W.fnOf "law" "law" (defArgs s_law) (defBody s_law) (defScope s_law) .none kV_law dc_law pm_law an_law cd_law ct_law), sl_law⟩) (k_law : PySem.W.codeIn K cd_law "law" = true) (p_law : PySem.W.keepIn K (.ref f_law) = true)
    (e_MAX_INTERVAL : PySem.W.nsIn K mainGlobals "MAX_INTERVAL" = some (some (.int 32 t_MAX_INTERVAL)))
    (e_MAX_LETTERS : PySem.W.nsIn K mainGlobals "MAX_LETTERS" = some (some (.int 8 t_MAX_LETTERS)))
    (e_MAX_VALUES : PySem.W.nsIn K mainGlobals "MAX_VALUES" = some (some (.int 8 t_MAX_VALUES)))
    (e_MAX_LIFE : PySem.W.nsIn K mainGlobals "MAX_LIFE" = some (some (.int 8 t_MAX_LIFE)))
    (e_MAX_WIRED : PySem.W.nsIn K mainGlobals "MAX_WIRED" = some (some (.int 72 t_MAX_WIRED)))
    (y_int : PySem.W.nsIn K mainGlobals "int" = some none)
    (y_abs : PySem.W.nsIn K mainGlobals "abs" = some none)
    (y_len : PySem.W.nsIn K mainGlobals "len" = some none)
    (y_max : PySem.W.nsIn K mainGlobals "max" = some none)
    (y_min : PySem.W.nsIn K mainGlobals "min" = some none)
    (y_range : PySem.W.nsIn K mainGlobals "range" = some none)
    (y_sum : PySem.W.nsIn K mainGlobals "sum" = some none)
    (y_isinstance : PySem.W.nsIn K mainGlobals "isinstance" = some none)
    (y_repr : PySem.W.nsIn K mainGlobals "repr" = some none)
    (y_str : PySem.W.nsIn K mainGlobals "str" = some none)
    (y_all : PySem.W.nsIn K mainGlobals "all" = some none)
    (y_any : PySem.W.nsIn K mainGlobals "any" = some none)
    (y_sorted : PySem.W.nsIn K mainGlobals "sorted" = some none)
    (y_tuple : PySem.W.nsIn K mainGlobals "tuple" = some none)
    (y_list : PySem.W.nsIn K mainGlobals "list" = some none)
    (y_dict : PySem.W.nsIn K mainGlobals "dict" = some none)
    (y_set : PySem.W.nsIn K mainGlobals "set" = some none)
    (y_bool : PySem.W.nsIn K mainGlobals "bool" = some none)
    (y_zip : PySem.W.nsIn K mainGlobals "zip" = some none)
    (uu : Nonempty (UX K mg))
    : ∃ fd : FuncData, (∀ (s : Shared) (v : Value), BindsTo s fd ⟨[v], []⟩ [("script", v)]) ∧ ∀ base : Heap, K.In base → base.Ns mainGlobals mg → GW.FnG l.prog w K mg base CX0 15 fa fd ["script"] (sp_law K) := by
  have e := hfa.symm.trans (PySem.W.mg_of X G a_law)
  cases e
  have F_wall := fun_mk (st := s_wall) l_wall k_wall p_wall
  have b_wall := F_wall.binds (ps := ["k"]) fun _ _ _ _ _ _ us hl => match us, hl with | [_], _ => rfl
  have F_is_name := fun_mk (st := s_is_name) l_is_name k_is_name p_is_name
  have b_is_name := F_is_name.binds (ps := ["value"]) fun _ _ _ _ _ _ us hl => match us, hl with | [_], _ => rfl
  have F_is_integer := fun_mk (st := s_is_integer) l_is_integer k_is_integer p_is_integer
  have b_is_integer := F_is_integer.binds (ps := ["value"]) fun _ _ _ _ _ _ us hl => match us, hl with | [_], _ => rfl
  have F_is_between := fun_mk (st := s_is_between) l_is_between k_is_between p_is_between
  have b_is_between := F_is_between.binds (ps := ["value", "low", "high"]) fun _ _ _ _ _ _ us hl => match us, hl with | [_, _, _], _ => rfl
  have F_check_integer := fun_mk (st := s_check_integer) l_check_integer k_check_integer p_check_integer
  have b_check_integer := F_check_integer.binds (ps := ["value"]) fun _ _ _ _ _ _ us hl => match us, hl with | [_], _ => rfl
  have F_check_between := fun_mk (st := s_check_between) l_check_between k_check_between p_check_between
  have b_check_between := F_check_between.binds (ps := ["value", "low", "high"]) fun _ _ _ _ _ _ us hl => match us, hl with | [_, _, _], _ => rfl
  have F_check_interval := fun_mk (st := s_check_interval) l_check_interval k_check_interval p_check_interval
  have b_check_interval := F_check_interval.binds (ps := ["value"]) fun _ _ _ _ _ _ us hl => match us, hl with | [_], _ => rfl
  have F_times_alive := fun_mk (st := s_times_alive) l_times_alive k_times_alive p_times_alive
  have b_times_alive := F_times_alive.binds (ps := ["begin", "end", "tick", "interval"]) fun _ _ _ _ _ _ us hl => match us, hl with | [_, _, _, _], _ => rfl
  have F_ascends := fun_mk (st := s_ascends) l_ascends k_ascends p_ascends
  have b_ascends := F_ascends.binds (ps := ["row"]) fun _ _ _ _ _ _ us hl => match us, hl with | [_], _ => rfl
  have F_is_span := fun_mk (st := s_is_span) l_is_span k_is_span p_is_span
  have b_is_span := F_is_span.binds (ps := ["interval", "value"]) fun _ _ _ _ _ _ us hl => match us, hl with | [_, _], _ => rfl
  have F_are_rows := fun_mk (st := s_are_rows) l_are_rows k_are_rows p_are_rows
  have b_are_rows := F_are_rows.binds (ps := ["interval", "value"]) fun _ _ _ _ _ _ us hl => match us, hl with | [_, _], _ => rfl
  have F_check_spans := fun_mk (st := s_check_spans) l_check_spans k_check_spans p_check_spans
  have b_check_spans := F_check_spans.binds (ps := ["value"]) fun _ _ _ _ _ _ us hl => match us, hl with | [_], _ => rfl
  have F_is_follow := fun_mk (st := s_is_follow) l_is_follow k_is_follow p_is_follow
  have b_is_follow := F_is_follow.binds (ps := ["spans", "name", "value"]) fun _ _ _ _ _ _ us hl => match us, hl with | [_, _, _], _ => rfl
  have F_are_follows := fun_mk (st := s_are_follows) l_are_follows k_are_follows p_are_follows
  have b_are_follows := F_are_follows.binds (ps := ["spans", "value"]) fun _ _ _ _ _ _ us hl => match us, hl with | [_, _], _ => rfl
  have F_size_of := fun_mk (st := s_size_of) l_size_of k_size_of p_size_of
  have b_size_of := F_size_of.binds (ps := ["spans", "follows", "names"]) fun _ _ _ _ _ _ us hl => match us, hl with | [_, _, _], _ => rfl
  have F_is_wiring := fun_mk (st := s_is_wiring) l_is_wiring k_is_wiring p_is_wiring
  have b_is_wiring := F_is_wiring.binds (ps := ["spans", "value"]) fun _ _ _ _ _ _ us hl => match us, hl with | [_, _], _ => rfl
  have F_cycles_of := fun_mk (st := s_cycles_of) l_cycles_of k_cycles_of p_cycles_of
  have b_cycles_of := F_cycles_of.binds (ps := ["follows"]) fun _ _ _ _ _ _ us hl => match us, hl with | [_], _ => rfl
  have F_w_tray := fun_mk (st := s_w_tray) l_w_tray k_w_tray p_w_tray
  have b_w_tray := F_w_tray.binds (ps := ["script", "spot"]) fun _ _ _ _ _ _ us hl => match us, hl with | [_, _], _ => rfl
  have F_w_roll := fun_mk (st := s_w_roll) l_w_roll k_w_roll p_w_roll
  have b_w_roll := F_w_roll.binds (ps := ["tray", "total"]) fun _ _ _ _ _ _ us hl => match us, hl with | [_, _], _ => rfl
  have F_w_pick := fun_mk (st := s_w_pick) l_w_pick k_w_pick p_w_pick
  have b_w_pick := F_w_pick.binds (ps := ["tray", "items"]) fun _ _ _ _ _ _ us hl => match us, hl with | [_, _], _ => rfl
  have F_w_few := fun_mk (st := s_w_few) l_w_few k_w_few p_w_few
  have b_w_few := F_w_few.binds (ps := ["tray", "items", "many"]) fun _ _ _ _ _ _ us hl => match us, hl with | [_, _, _], _ => rfl
  have F_w_names := fun_mk (st := s_w_names) l_w_names k_w_names p_w_names
  have b_w_names := F_w_names.binds (ps := ["tray", "many"]) fun _ _ _ _ _ _ us hl => match us, hl with | [_, _], _ => rfl
  have F_w_rings := fun_mk (st := s_w_rings) l_w_rings k_w_rings p_w_rings
  have b_w_rings := F_w_rings.binds (ps := ["tray", "interval", "names"]) fun _ _ _ _ _ _ us hl => match us, hl with | [_, _, _], _ => rfl
  have F_w_rows := fun_mk (st := s_w_rows) l_w_rows k_w_rows p_w_rows
  have b_w_rows := F_w_rows.binds (ps := ["tray", "interval", "names"]) fun _ _ _ _ _ _ us hl => match us, hl with | [_, _, _], _ => rfl
  have F_w_sorted := fun_mk (st := s_w_sorted) l_w_sorted k_w_sorted p_w_sorted
  have b_w_sorted := F_w_sorted.binds (ps := ["rows"]) fun _ _ _ _ _ _ us hl => match us, hl with | [_], _ => rfl
  have F_w_alive := fun_mk (st := s_w_alive) l_w_alive k_w_alive p_w_alive
  have b_w_alive := F_w_alive.binds (ps := ["rows", "interval", "tick"]) fun _ _ _ _ _ _ us hl => match us, hl with | [_, _, _], _ => rfl
  have F_w_places := fun_mk (st := s_w_places) l_w_places k_w_places p_w_places
  have b_w_places := F_w_places.binds (ps := ["rows", "interval", "index"]) fun _ _ _ _ _ _ us hl => match us, hl with | [_, _, _], _ => rfl
  have F_w_swept := fun_mk (st := s_w_swept) l_w_swept k_w_swept p_w_swept
  have b_w_swept := F_w_swept.binds (ps := ["tray", "rows", "interval"]) fun _ _ _ _ _ _ us hl => match us, hl with | [_, _, _], _ => rfl
  have F_w_drawn := fun_mk (st := s_w_drawn) l_w_drawn k_w_drawn p_w_drawn
  have b_w_drawn := F_w_drawn.binds (ps := ["tray", "rows", "interval"]) fun _ _ _ _ _ _ us hl => match us, hl with | [_, _, _], _ => rfl
  have F_w_follows := fun_mk (st := s_w_follows) l_w_follows k_w_follows p_w_follows
  have b_w_follows := F_w_follows.binds (ps := ["tray", "rows", "interval"]) fun _ _ _ _ _ _ us hl => match us, hl with | [_, _, _], _ => rfl
  have F_w_size := fun_mk (st := s_w_size) l_w_size k_w_size p_w_size
  have b_w_size := F_w_size.binds (ps := ["rows", "interval", "follows", "names"]) fun _ _ _ _ _ _ us hl => match us, hl with | [_, _, _, _], _ => rfl
  have F_w_free := fun_mk (st := s_w_free) l_w_free k_w_free p_w_free
  have b_w_free := F_w_free.binds (ps := ["rows", "interval", "follows", "moment"]) fun _ _ _ _ _ _ us hl => match us, hl with | [_, _, _, _], _ => rfl
  have F_w_is_once := fun_mk (st := s_w_is_once) l_w_is_once k_w_is_once p_w_is_once
  have b_w_is_once := F_w_is_once.binds (ps := ["wiring", "names"]) fun _ _ _ _ _ _ us hl => match us, hl with | [_, _], _ => rfl
  have F_w_right := fun_mk (st := s_w_right) l_w_right k_w_right p_w_right
  have b_w_right := F_w_right.binds (ps := ["tray"]) fun _ _ _ _ _ _ us hl => match us, hl with | [_], _ => rfl
  have F_law := fun_mk (st := s_law) l_law k_law p_law
  have b_law := F_law.binds (ps := ["script"]) fun _ _ _ _ _ _ us hl => match us, hl with | [_], _ => rfl
  obtain ⟨U⟩ := uu
  exact ⟨PySem.W.fnOf "law" "law" (defArgs s_law) (defBody s_law) (defScope s_law) .none kV_law dc_law pm_law an_law cd_law ct_law, fun s v => .of_eq rfl, fun base _ _ => ok_law (⟨_, _, F_wall, PySem.W.mg_of X G a_wall, b_wall, _, _, F_is_name, PySem.W.mg_of X G a_is_name, b_is_name, _, _, F_is_integer, PySem.W.mg_of X G a_is_integer, b_is_integer, _, _, F_is_between, PySem.W.mg_of X G a_is_between, b_is_between, _, _, F_check_integer, PySem.W.mg_of X G a_check_integer, b_check_integer, _, _, F_check_between, PySem.W.mg_of X G a_check_between, b_check_between, _, _, F_check_interval, PySem.W.mg_of X G a_check_interval, b_check_interval, _, _, F_times_alive, PySem.W.mg_of X G a_times_alive, b_times_alive, _, _, F_ascends, PySem.W.mg_of X G a_ascends, b_ascends, _, _, F_is_span, PySem.W.mg_of X G a_is_span, b_is_span, _, _, F_are_rows, PySem.W.mg_of X G a_are_rows, b_are_rows, _, _, F_check_spans, PySem.W.mg_of X G a_check_spans, b_check_spans, _, _, F_is_follow, PySem.W.mg_of X G a_is_follow, b_is_follow, _, _, F_are_follows, PySem.W.mg_of X G a_are_follows, b_are_follows, _, _, F_size_of, PySem.W.mg_of X G a_size_of, b_size_of, _, _, F_is_wiring, PySem.W.mg_of X G a_is_wiring, b_is_wiring, _, _, F_cycles_of, PySem.W.mg_of X G a_cycles_of, b_cycles_of, _, _, F_w_tray, PySem.W.mg_of X G a_w_tray, b_w_tray, _, _, F_w_roll, PySem.W.mg_of X G a_w_roll, b_w_roll, _, _, F_w_pick, PySem.W.mg_of X G a_w_pick, b_w_pick, _, _, F_w_few, PySem.W.mg_of X G a_w_few, b_w_few, _, _, F_w_names, PySem.W.mg_of X G a_w_names, b_w_names, _, _, F_w_rings, PySem.W.mg_of X G a_w_rings, b_w_rings, _, _, F_w_rows, PySem.W.mg_of X G a_w_rows, b_w_rows, _, _, F_w_sorted, PySem.W.mg_of X G a_w_sorted, b_w_sorted, _, _, F_w_alive, PySem.W.mg_of X G a_w_alive, b_w_alive, _, _, F_w_places, PySem.W.mg_of X G a_w_places, b_w_places, _, _, F_w_swept, PySem.W.mg_of X G a_w_swept, b_w_swept, _, _, F_w_drawn, PySem.W.mg_of X G a_w_drawn, b_w_drawn, _, _, F_w_follows, PySem.W.mg_of X G a_w_follows, b_w_follows, _, _, F_w_size, PySem.W.mg_of X G a_w_size, b_w_size, _, _, F_w_free, PySem.W.mg_of X G a_w_free, b_w_free, _, _, F_w_is_once, PySem.W.mg_of X G a_w_is_once, b_w_is_once, _, _, F_w_right, PySem.W.mg_of X G a_w_right, b_w_right, _, _, F_law, PySem.W.mg_of X G a_law, b_law, ⟨t_MAX_INTERVAL, PySem.W.mg_of X G e_MAX_INTERVAL⟩, ⟨t_MAX_LETTERS, PySem.W.mg_of X G e_MAX_LETTERS⟩, ⟨t_MAX_VALUES, PySem.W.mg_of X G e_MAX_VALUES⟩, ⟨t_MAX_LIFE, PySem.W.mg_of X G e_MAX_LIFE⟩, ⟨t_MAX_WIRED, PySem.W.mg_of X G e_MAX_WIRED⟩, PySem.W.mg_none_of X G y_int, PySem.W.mg_none_of X G y_abs, PySem.W.mg_none_of X G y_len, PySem.W.mg_none_of X G y_max, PySem.W.mg_none_of X G y_min, PySem.W.mg_none_of X G y_range, PySem.W.mg_none_of X G y_sum, PySem.W.mg_none_of X G y_isinstance, PySem.W.mg_none_of X G y_repr, PySem.W.mg_none_of X G y_str, PySem.W.mg_none_of X G y_all, PySem.W.mg_none_of X G y_any, PySem.W.mg_none_of X G y_sorted, PySem.W.mg_none_of X G y_tuple, PySem.W.mg_none_of X G y_list, PySem.W.mg_none_of X G y_dict, PySem.W.mg_none_of X G y_set, PySem.W.mg_none_of X G y_bool, PySem.W.mg_none_of X G y_zip⟩ : T K mg) U⟩
theorem walk {l : PySem.W.OpenLaw} {q : Program} {loose : List Str} {XP : (Str → Option Value) → Heap → Prop}
                                                                                                              {YP : World → Heap → Prop} {d : DefRec} {K : Params → PySem.W.Frag} (hn : l.most = some 63) (hdf : d.params.defaults = [])
    (hY : ∀ (w : World) (h : Heap), YP w h → (K w.params).In h)
    (F : ∀ (w : World) (mg : Str → Option Value) (fa : Addr) (h : Heap),
                                                                         (K w.params).In h → h.Ns mainGlobals mg → mg d.name = some (.ref fa) →
      ∃ fd : FuncData, (∀ (s : Shared) (u : Value), BindsTo s fd ⟨[u], []⟩ [("script", u)]) ∧ ∀ base : Heap, (K w.params).In base → base.Ns mainGlobals mg → GW.FnG l.prog w (K w.params) mg base CX0 15 fa fd ["script"] (sp_law (K w.params))) :
    PySem.W.WalkO q loose XP YP l.row.toRowW d []
                                                  (fun f vs => PySem.call f vs) :=
  GW.walkG (n := 63) (k := 15) (x := "script") hn (by decide) hdf ⟨rfl, by decide, by decide⟩ hY fun w mg fa h _ KX G hmg => by
    obtain ⟨fd, hb, hF⟩ := F w mg fa h KX G hmg
    exact ⟨fd, [], sp_law _, (fun _ h => by cases h), (fun _ h => by cases h), (fun _ h => by cases h), hb, (fun H a ns hl _ hS => ⟨a, ns, rfl, hS, hl, fun _ => rfl⟩), fun base kin hns _ => hF base kin hns⟩
end K44
open PySem PySem.W PyProof.Rows
set_option maxRecDepth 100000 in
set_option maxHeartbeats 0 in
theorem PySem.Challenge.cw_overrounds_k44_whole_free_registers_holds : PySem.Challenge.rw_overrounds_k44_whole_free_registers.Holds := by
  w_on; o_law; k_head; (case hw => w_witness2)
  k_fill
  refine K44.walk (l := PySem.Challenge.rw_overrounds_k44_whole_free_registers) rfl rfl (fun w h Y => PySem.W.kIn_of Y) ?F
  case F =>
    intro w mg fa h KX G hmg
    refine' K44.all_mk KX G hmg ?a_wall ?l_wall ?k_wall ?p_wall ?a_is_name ?l_is_name ?k_is_name ?p_is_name ?a_is_integer ?l_is_integer ?k_is_integer ?p_is_integer ?a_is_between ?l_is_between ?k_is_between ?p_is_between ?a_check_integer ?l_check_integer ?k_check_integer ?p_check_integer ?a_check_between ?l_check_between ?k_check_between ?p_check_between ?a_check_interval ?l_check_interval ?k_check_interval ?p_check_interval ?a_times_alive ?l_times_alive ?k_times_alive ?p_times_alive ?a_ascends ?l_ascends ?k_ascends ?p_ascends ?a_is_span ?l_is_span ?k_is_span ?p_is_span ?a_are_rows ?l_are_rows ?k_are_rows ?p_are_rows ?a_check_spans ?l_check_spans ?k_check_spans ?p_check_spans ?a_is_follow ?l_is_follow ?k_is_follow ?p_is_follow ?a_are_follows ?l_are_follows ?k_are_follows ?p_are_follows ?a_size_of ?l_size_of ?k_size_of ?p_size_of ?a_is_wiring ?l_is_wiring ?k_is_wiring ?p_is_wiring ?a_cycles_of ?l_cycles_of ?k_cycles_of ?p_cycles_of ?a_w_tray ?l_w_tray ?k_w_tray ?p_w_tray ?a_w_roll ?l_w_roll ?k_w_roll ?p_w_roll ?a_w_pick ?l_w_pick ?k_w_pick ?p_w_pick ?a_w_few ?l_w_few ?k_w_few ?p_w_few ?a_w_names ?l_w_names ?k_w_names ?p_w_names ?a_w_rings ?l_w_rings ?k_w_rings ?p_w_rings ?a_w_rows ?l_w_rows ?k_w_rows ?p_w_rows ?a_w_sorted ?l_w_sorted ?k_w_sorted ?p_w_sorted ?a_w_alive ?l_w_alive ?k_w_alive ?p_w_alive ?a_w_places ?l_w_places ?k_w_places ?p_w_places ?a_w_swept ?l_w_swept ?k_w_swept ?p_w_swept ?a_w_drawn ?l_w_drawn ?k_w_drawn ?p_w_drawn ?a_w_follows ?l_w_follows ?k_w_follows ?p_w_follows ?a_w_size ?l_w_size ?k_w_size ?p_w_size ?a_w_free ?l_w_free ?k_w_free ?p_w_free ?a_w_is_once ?l_w_is_once ?k_w_is_once ?p_w_is_once ?a_w_right ?l_w_right ?k_w_right ?p_w_right ?a_law ?l_law ?k_law ?p_law ?e_MAX_INTERVAL ?e_MAX_LETTERS ?e_MAX_VALUES ?e_MAX_LIFE ?e_MAX_WIRED ?y_int ?y_abs ?y_len ?y_max ?y_min ?y_range ?y_sum ?y_isinstance ?y_repr ?y_str ?y_all ?y_any ?y_sorted ?y_tuple ?y_list ?y_dict ?y_set ?y_bool ?y_zip ?uu
    (case a_wall => k_is)
    (case l_wall => k_is)
    (case k_wall => k_is)
    (case p_wall => k_is)
    (case a_is_name => k_is)
    (case l_is_name => k_is)
    (case k_is_name => k_is)
    (case p_is_name => k_is)
    (case a_is_integer => k_is)
    (case l_is_integer => k_is)
    (case k_is_integer => k_is)
    (case p_is_integer => k_is)
    (case a_is_between => k_is)
    (case l_is_between => k_is)
    (case k_is_between => k_is)
    (case p_is_between => k_is)
    (case a_check_integer => k_is)
    (case l_check_integer => k_is)
    (case k_check_integer => k_is)
    (case p_check_integer => k_is)
    (case a_check_between => k_is)
    (case l_check_between => k_is)
    (case k_check_between => k_is)
    (case p_check_between => k_is)
    (case a_check_interval => k_is)
    (case l_check_interval => k_is)
    (case k_check_interval => k_is)
    (case p_check_interval => k_is)
    (case a_times_alive => k_is)
    (case l_times_alive => k_is)
    (case k_times_alive => k_is)
    (case p_times_alive => k_is)
    (case a_ascends => k_is)
    (case l_ascends => k_is)
    (case k_ascends => k_is)
    (case p_ascends => k_is)
    (case a_is_span => k_is)
    (case l_is_span => k_is)
    (case k_is_span => k_is)
    (case p_is_span => k_is)
    (case a_are_rows => k_is)
    (case l_are_rows => k_is)
    (case k_are_rows => k_is)
    (case p_are_rows => k_is)
    (case a_check_spans => k_is)
    (case l_check_spans => k_is)
    (case k_check_spans => k_is)
    (case p_check_spans => k_is)
    (case a_is_follow => k_is)
    (case l_is_follow => k_is)
    (case k_is_follow => k_is)
    (case p_is_follow => k_is)
    (case a_are_follows => k_is)
    (case l_are_follows => k_is)
    (case k_are_follows => k_is)
    (case p_are_follows => k_is)
    (case a_size_of => k_is)
    (case l_size_of => k_is)
    (case k_size_of => k_is)
    (case p_size_of => k_is)
    (case a_is_wiring => k_is)
    (case l_is_wiring => k_is)
    (case k_is_wiring => k_is)
    (case p_is_wiring => k_is)
    (case a_cycles_of => k_is)
    (case l_cycles_of => k_is)
    (case k_cycles_of => k_is)
    (case p_cycles_of => k_is)
    (case a_w_tray => k_is)
    (case l_w_tray => k_is)
    (case k_w_tray => k_is)
    (case p_w_tray => k_is)
    (case a_w_roll => k_is)
    (case l_w_roll => k_is)
    (case k_w_roll => k_is)
    (case p_w_roll => k_is)
    (case a_w_pick => k_is)
    (case l_w_pick => k_is)
    (case k_w_pick => k_is)
    (case p_w_pick => k_is)
    (case a_w_few => k_is)
    (case l_w_few => k_is)
    (case k_w_few => k_is)
    (case p_w_few => k_is)
    (case a_w_names => k_is)
    (case l_w_names => k_is)
    (case k_w_names => k_is)
    (case p_w_names => k_is)
    (case a_w_rings => k_is)
    (case l_w_rings => k_is)
    (case k_w_rings => k_is)
    (case p_w_rings => k_is)
    (case a_w_rows => k_is)
    (case l_w_rows => k_is)
    (case k_w_rows => k_is)
    (case p_w_rows => k_is)
    (case a_w_sorted => k_is)
    (case l_w_sorted => k_is)
    (case k_w_sorted => k_is)
    (case p_w_sorted => k_is)
    (case a_w_alive => k_is)
    (case l_w_alive => k_is)
    (case k_w_alive => k_is)
    (case p_w_alive => k_is)
    (case a_w_places => k_is)
    (case l_w_places => k_is)
    (case k_w_places => k_is)
    (case p_w_places => k_is)
    (case a_w_swept => k_is)
    (case l_w_swept => k_is)
    (case k_w_swept => k_is)
    (case p_w_swept => k_is)
    (case a_w_drawn => k_is)
    (case l_w_drawn => k_is)
    (case k_w_drawn => k_is)
    (case p_w_drawn => k_is)
    (case a_w_follows => k_is)
    (case l_w_follows => k_is)
    (case k_w_follows => k_is)
    (case p_w_follows => k_is)
    (case a_w_size => k_is)
    (case l_w_size => k_is)
    (case k_w_size => k_is)
    (case p_w_size => k_is)
    (case a_w_free => k_is)
    (case l_w_free => k_is)
    (case k_w_free => k_is)
    (case p_w_free => k_is)
    (case a_w_is_once => k_is)
    (case l_w_is_once => k_is)
    (case k_w_is_once => k_is)
    (case p_w_is_once => k_is)
    (case a_w_right => k_is)
    (case l_w_right => k_is)
    (case k_w_right => k_is)
    (case p_w_right => k_is)
    (case a_law => k_is)
    (case l_law => k_is)
    (case k_law => k_is)
    (case p_law => k_is)
    (case e_MAX_INTERVAL => k_is)
    (case e_MAX_LETTERS => k_is)
    (case e_MAX_VALUES => k_is)
    (case e_MAX_LIFE => k_is)
    (case e_MAX_WIRED => k_is)
    (case y_int => k_is)
    (case y_abs => k_is)
    (case y_len => k_is)
    (case y_max => k_is)
    (case y_min => k_is)
    (case y_range => k_is)
    (case y_sum => k_is)
    (case y_isinstance => k_is)
    (case y_repr => k_is)
    (case y_str => k_is)
    (case y_all => k_is)
    (case y_any => k_is)
    (case y_sorted => k_is)
    (case y_tuple => k_is)
    (case y_list => k_is)
    (case y_dict => k_is)
    (case y_set => k_is)
    (case y_bool => k_is)
    (case y_zip => k_is)
    case uu =>
      refine' K44.mk_U KX G ?aC ?c1C ?c2C ?c3C ?c4C ?c5C ?c6C ?c7C ?c8C ?lIC ?kIC ?pIC ?n1C ?n2C ?n3C ?n4C ?n5C ?moC ?neC ?caC ?gCC ?tCC ?aP1 ?bP1 ?tP1 ?rP1 ?lP1 ?kP1 ?pP1 ?aP3 ?bP3 ?tP3 ?rP3 ?lP3 ?kP3 ?pP3 ?iG ?yG ?lG ?kG ?pG ?iH ?yH ?lH ?kH ?pH ?iE ?yE ?lE ?kE ?pE ?iA ?yA ?lA ?kA ?pA ?cg ?ct ?fnG ?sf ?aD ?c1D ?c2D ?c3D ?c4D ?c5D ?c6D ?c7D ?c8D ?lID ?kID ?pID ?n1D ?n2D ?n3D ?moD ?neD ?caD ?gCD ?tCD ?aW1 ?bW1 ?tW1 ?rW1 ?lW1 ?kW1 ?pW1 ?aW2 ?bW2 ?tW2 ?rW2 ?lW2 ?kW2 ?pW2 ?aW3 ?bW3 ?tW3 ?rW3 ?lW3 ?kW3 ?pW3 ?aW4 ?bW4 ?tW4 ?rW4 ?lW4 ?kW4 ?pW4 ?aW5 ?bW5 ?tW5 ?rW5 ?lW5 ?kW5 ?pW5 ?iX1 ?yX1 ?lX1 ?kX1 ?pX1 ?iX2 ?yX2 ?lX2 ?kX2 ?pX2 ?iX3 ?yX3 ?lX3 ?kX3 ?pX3 ?fnW
      (case aC => k_is)
      (case c1C => k_is)
      (case c2C => k_is)
      (case c3C => k_is)
      (case c4C => k_is)
      (case c5C => k_is)
      (case c6C => k_is)
      (case c7C => k_is)
      (case c8C => k_is)
      (case lIC => k_is)
      (case kIC => k_is)
      (case pIC => k_is)
      (case n1C => k_is)
      (case n2C => k_is)
      (case n3C => k_is)
      (case n4C => k_is)
      (case n5C => k_is)
      (case moC => k_is)
      (case neC => k_is)
      (case caC => k_is)
      (case gCC => k_is)
      (case tCC => k_is)
      (case aP1 => k_is)
      (case bP1 => k_is)
      (case tP1 => k_is)
      (case rP1 => k_is)
      (case lP1 => k_is)
      (case kP1 => k_is)
      (case pP1 => k_is)
      (case aP3 => k_is)
      (case bP3 => k_is)
      (case tP3 => k_is)
      (case rP3 => k_is)
      (case lP3 => k_is)
      (case kP3 => k_is)
      (case pP3 => k_is)
      (case iG => k_is)
      (case yG => k_is)
      (case lG => k_is)
      (case kG => k_is)
      (case pG => k_is)
      (case iH => k_is)
      (case yH => k_is)
      (case lH => k_is)
      (case kH => k_is)
      (case pH => k_is)
      (case iE => k_is)
      (case yE => k_is)
      (case lE => k_is)
      (case kE => k_is)
      (case pE => k_is)
      (case iA => k_is)
      (case yA => k_is)
      (case lA => k_is)
      (case kA => k_is)
      (case pA => k_is)
      (case cg => k_is)
      (case ct => k_is)
      (case fnG => k_is)
      (case sf => k_is)
      (case aD => k_is)
      (case c1D => k_is)
      (case c2D => k_is)
      (case c3D => k_is)
      (case c4D => k_is)
      (case c5D => k_is)
      (case c6D => k_is)
      (case c7D => k_is)
      (case c8D => k_is)
      (case lID => k_is)
      (case kID => k_is)
      (case pID => k_is)
      (case n1D => k_is)
      (case n2D => k_is)
      (case n3D => k_is)
      (case moD => k_is)
      (case neD => k_is)
      (case caD => k_is)
      (case gCD => k_is)
      (case tCD => k_is)
      (case aW1 => k_is)
      (case bW1 => k_is)
      (case tW1 => k_is)
      (case rW1 => k_is)
      (case lW1 => k_is)
      (case kW1 => k_is)
      (case pW1 => k_is)
      (case aW2 => k_is)
      (case bW2 => k_is)
      (case tW2 => k_is)
      (case rW2 => k_is)
      (case lW2 => k_is)
      (case kW2 => k_is)
      (case pW2 => k_is)
      (case aW3 => k_is)
      (case bW3 => k_is)
      (case tW3 => k_is)
      (case rW3 => k_is)
      (case lW3 => k_is)
      (case kW3 => k_is)
      (case pW3 => k_is)
      (case aW4 => k_is)
      (case bW4 => k_is)
      (case tW4 => k_is)
      (case rW4 => k_is)
      (case lW4 => k_is)
      (case kW4 => k_is)
      (case pW4 => k_is)
      (case aW5 => k_is)
      (case bW5 => k_is)
      (case tW5 => k_is)
      (case rW5 => k_is)
      (case lW5 => k_is)
      (case kW5 => k_is)
      (case pW5 => k_is)
      (case iX1 => k_is)
      (case yX1 => k_is)
      (case lX1 => k_is)
      (case kX1 => k_is)
      (case pX1 => k_is)
      (case iX2 => k_is)
      (case yX2 => k_is)
      (case lX2 => k_is)
      (case kX2 => k_is)
      (case pX2 => k_is)
      (case iX3 => k_is)
      (case yX3 => k_is)
      (case lX3 => k_is)
      (case kX3 => k_is)
      (case pX3 => k_is)
      (case fnW => k_is)
