import PyProof.Rows.All
import Wide.All
import OpenK.AllK
import Wide.FinOn
import HandS.ForMost
import HandS.Wide
import HandS.IsInst
import HandS.Walk
import HandS.Style
import HandS.ForExc
import HandS.ExcInit
import HandS.Lambda
import HandS.Defaults
import HandS.MakeKwOnly
import HandS.TryMany
import KE.DataCmp
import HandS.EndTab
import HandS.DictComp
import HandS.DeepEq
import HandS.Property
import HandS.FStr
import HandS.Iter
import HandS.Finally
import HandS.ListItems
import KE.KNestM
import PyProof.ReprRoads
import PyProof.ListStr
import PyProof.StrBlock2
import HandS.Conv
import HandS.WordsDict
import HandS.List
import KE.KFmtOwn
import HandS.OwnEq
import HandS.More
import HandS.RaiseMore
import PyProof.InstNe
import OpenK.KMeth
import OpenK.KOps
import PyProof.EqKinds
import KE.DataEq
import KE.KDictList
import KE.KTupSum
import KE.KMathG
import HandS.Gcd
import KE.DataMinMax
import KE.SortData
import HandS.Zip
import KE.KOpsOwn
import HandS.BoundDict
import HandS.ClsMeth
import KE.RegKIsAll
import PySem.Challenge.RW_overrounds_k43_wirings_told
set_option Elab.async false
set_option linter.all false
set_option maxRecDepth 100000
set_option maxHeartbeats 2000000
namespace K43
open PySem L2
def top (i : Nat) : Stmt := PySem.Challenge.pw_overrounds_k43_wirings_told.main.body.getD i (.Pass ⟨0, 0, 0, 0⟩)
abbrev s_wall : Stmt := top 1
abbrev s_is_name : Stmt := top 12
abbrev s_is_integer : Stmt := top 13
abbrev s_is_between : Stmt := top 14
abbrev s_check_integer : Stmt := top 15
abbrev s_check_between : Stmt := top 16
abbrev s_check_interval : Stmt := top 17
abbrev s_times_alive : Stmt := top 18
abbrev s_ascends : Stmt := top 20
abbrev s_is_span : Stmt := top 24
abbrev s_are_rows : Stmt := top 25
abbrev s_check_spans : Stmt := top 27
abbrev s_is_follow : Stmt := top 30
abbrev s_are_follows : Stmt := top 31
abbrev s_size_of : Stmt := top 32
abbrev s_is_wiring : Stmt := top 33
abbrev s_cycles_of : Stmt := top 34
abbrev s_w_tray : Stmt := top 37
abbrev s_w_roll : Stmt := top 38
abbrev s_w_pick : Stmt := top 39
abbrev s_w_few : Stmt := top 40
abbrev s_w_names : Stmt := top 41
abbrev s_w_rings : Stmt := top 42
abbrev s_w_rows : Stmt := top 43
abbrev s_w_sorted : Stmt := top 44
abbrev s_w_alive : Stmt := top 45
abbrev s_w_places : Stmt := top 46
abbrev s_w_swept : Stmt := top 47
abbrev s_w_drawn : Stmt := top 48
abbrev s_w_follows : Stmt := top 49
abbrev s_w_cycles : Stmt := top 50
abbrev s_w_size : Stmt := top 51
abbrev s_w_multiple : Stmt := top 52
abbrev s_w_is_told : Stmt := top 53
abbrev s_w_right : Stmt := top 54
abbrev s_law : Stmt := top 55
abbrev s_RoundError_init : Stmt := inClass (top 3) 0
abbrev s_UnknownName_init : Stmt := inClass (top 7) 0
abbrev s_InvalidNumber_init : Stmt := inClass (top 8) 0
abbrev s_Spans_init : Stmt := inClass (top 26) 0
abbrev s_Spans_interval : Stmt := inClass (top 26) 1
abbrev s_Spans_rows : Stmt := inClass (top 26) 2
abbrev s_Spans_names : Stmt := inClass (top 26) 3
abbrev s_Spans_most : Stmt := inClass (top 26) 4
abbrev s_Spans_peaks : Stmt := inClass (top 26) 5
abbrev s_Spans_total : Stmt := inClass (top 26) 6
abbrev s_Spans_pieces : Stmt := inClass (top 26) 7
abbrev s_Spans_normal : Stmt := inClass (top 26) 8
abbrev s_Spans_sums : Stmt := inClass (top 26) 9
abbrev s_Spans_chosen : Stmt := inClass (top 26) 10
abbrev s_Spans_alive : Stmt := inClass (top 26) 11
abbrev s_Spans_across : Stmt := inClass (top 26) 12
abbrev s_Spans_is_full : Stmt := inClass (top 26) 13
abbrev s_Spans_most_of : Stmt := inClass (top 26) 14
abbrev s_Spans_full_slots : Stmt := inClass (top 26) 15
abbrev s_Spans_is_apart : Stmt := inClass (top 26) 16
abbrev s_Spans_linked : Stmt := inClass (top 26) 17
abbrev s_Spans_has_free : Stmt := inClass (top 26) 18
abbrev s_Spans_each_alive : Stmt := inClass (top 26) 19
abbrev s_Spans_getitem : Stmt := inClass (top 26) 20
abbrev s_Spans_contains : Stmt := inClass (top 26) 21
abbrev s_Spans_len : Stmt := inClass (top 26) 22
abbrev s_Spans_iter : Stmt := inClass (top 26) 23
abbrev s_Spans_later : Stmt := inClass (top 26) 24
abbrev s_Spans_add : Stmt := inClass (top 26) 25
abbrev s_Spans_or : Stmt := inClass (top 26) 26
abbrev s_Spans_and : Stmt := inClass (top 26) 27
abbrev s_Spans_eq : Stmt := inClass (top 26) 28
abbrev s_Spans_str : Stmt := inClass (top 26) 29
abbrev s_Wiring_init : Stmt := inClass (top 35) 0
abbrev s_Wiring_spans : Stmt := inClass (top 35) 1
abbrev s_Wiring_follows : Stmt := inClass (top 35) 2
abbrev s_Wiring_registers : Stmt := inClass (top 35) 3
abbrev s_Wiring_cycles : Stmt := inClass (top 35) 4
abbrev s_Wiring_sizes : Stmt := inClass (top 35) 5
abbrev s_Wiring_copies : Stmt := inClass (top 35) 6
abbrev s_Wiring_after : Stmt := inClass (top 35) 7
abbrev s_Wiring_each_free : Stmt := inClass (top 35) 8
abbrev s_Wiring_is_free : Stmt := inClass (top 35) 9
abbrev s_Wiring_exchanged : Stmt := inClass (top 35) 10
abbrev s_Wiring_going_on : Stmt := inClass (top 35) 11
abbrev s_Wiring_end_of : Stmt := inClass (top 35) 12
abbrev s_Wiring_getitem : Stmt := inClass (top 35) 13
abbrev s_Wiring_iter : Stmt := inClass (top 35) 14
abbrev s_Wiring_len : Stmt := inClass (top 35) 15
abbrev s_Wiring_eq : Stmt := inClass (top 35) 16
abbrev s_Wiring_str : Stmt := inClass (top 35) 17
theorem sc_RoundError_init : FnScope ["self", "told"] ["self", "told"] (defScope s_RoundError_init) := ⟨rfl, rfl, rfl, by decide +kernel, rfl, by decide +kernel, by decide +kernel⟩
theorem sc_UnknownName_init : FnScope ["self", "wanted"] ["self", "wanted"] (defScope s_UnknownName_init) := ⟨rfl, rfl, rfl, by decide +kernel, rfl, by decide +kernel, by decide +kernel⟩
theorem sc_InvalidNumber_init : FnScope ["self", "value"] ["self", "value"] (defScope s_InvalidNumber_init) := ⟨rfl, rfl, rfl, by decide +kernel, rfl, by decide +kernel, by decide +kernel⟩
theorem sc_Spans_init : FnScope ["self", "interval", "rows", "name", "begin", "end", "slot"] ["self", "interval", "rows"] (defScope s_Spans_init) := ⟨rfl, rfl, rfl, by decide +kernel, rfl, by decide +kernel, by decide +kernel⟩
theorem sc_Spans_interval : FnScope ["self"] ["self"] (defScope s_Spans_interval) := ⟨rfl, rfl, rfl, by decide +kernel, rfl, by decide +kernel, by decide +kernel⟩
theorem sc_Spans_rows : FnScope ["self"] ["self"] (defScope s_Spans_rows) := ⟨rfl, rfl, rfl, by decide +kernel, rfl, by decide +kernel, by decide +kernel⟩
theorem sc_Spans_names : FnScope ["self"] ["self"] (defScope s_Spans_names) := ⟨rfl, rfl, rfl, by decide +kernel, rfl, by decide +kernel, by decide +kernel⟩
theorem sc_Spans_most : FnScope ["self"] ["self"] (defScope s_Spans_most) := ⟨rfl, rfl, rfl, by decide +kernel, rfl, by decide +kernel, by decide +kernel⟩
theorem sc_Spans_peaks : FnScope ["self"] ["self"] (defScope s_Spans_peaks) := ⟨rfl, rfl, rfl, by decide +kernel, rfl, by decide +kernel, by decide +kernel⟩
theorem sc_Spans_total : FnScope ["self", "begin", "end"] ["self"] (defScope s_Spans_total) := ⟨rfl, rfl, rfl, by decide +kernel, rfl, by decide +kernel, by decide +kernel⟩
theorem sc_Spans_pieces : FnScope ["self"] ["self"] (defScope s_Spans_pieces) := ⟨rfl, rfl, rfl, by decide +kernel, rfl, by decide +kernel, by decide +kernel⟩
theorem sc_Spans_normal : FnScope ["self"] ["self"] (defScope s_Spans_normal) := ⟨rfl, rfl, rfl, by decide +kernel, rfl, by decide +kernel, by decide +kernel⟩
theorem sc_Spans_sums : FnScope ["self", "counts", "names", "slot", "name"] ["self", "counts", "names"] (defScope s_Spans_sums) := ⟨rfl, rfl, rfl, by decide +kernel, rfl, by decide +kernel, by decide +kernel⟩
theorem sc_Spans_chosen : FnScope ["self", "names", "name"] ["self", "names"] (defScope s_Spans_chosen) := ⟨rfl, rfl, rfl, by decide +kernel, rfl, by decide +kernel, by decide +kernel⟩
theorem sc_Spans_alive : FnScope ["self", "tick", "names", "chosen", "name"] ["self", "tick", "names"] (defScope s_Spans_alive) := ⟨rfl, rfl, rfl, by decide +kernel, rfl, by decide +kernel, by decide +kernel⟩
theorem sc_Spans_across : FnScope ["self", "moment", "names"] ["self", "moment", "names"] (defScope s_Spans_across) := ⟨rfl, rfl, rfl, by decide +kernel, rfl, by decide +kernel, by decide +kernel⟩
theorem sc_Spans_is_full : FnScope ["self", "moment", "names"] ["self", "moment", "names"] (defScope s_Spans_is_full) := ⟨rfl, rfl, rfl, by decide +kernel, rfl, by decide +kernel, by decide +kernel⟩
theorem sc_Spans_most_of : FnScope ["self", "names"] ["self", "names"] (defScope s_Spans_most_of) := ⟨rfl, rfl, rfl, by decide +kernel, rfl, by decide +kernel, by decide +kernel⟩
theorem sc_Spans_full_slots : FnScope ["self", "names"] ["self", "names"] (defScope s_Spans_full_slots) := ⟨rfl, rfl, rfl, by decide +kernel, rfl, by decide +kernel, by decide +kernel⟩
theorem sc_Spans_is_apart : FnScope ["self", "names"] ["self", "names"] (defScope s_Spans_is_apart) := ⟨rfl, rfl, rfl, by decide +kernel, rfl, by decide +kernel, by decide +kernel⟩
theorem sc_Spans_linked : FnScope ["self", "peak"] ["self", "peak"] (defScope s_Spans_linked) := ⟨rfl, rfl, rfl, by decide +kernel, rfl, by decide +kernel, by decide +kernel⟩
theorem sc_Spans_has_free : FnScope ["self", "names", "peak", "slot"] ["self", "names", "peak", "slot"] (defScope s_Spans_has_free) := ⟨rfl, rfl, rfl, by decide +kernel, rfl, by decide +kernel, by decide +kernel⟩
theorem sc_Spans_each_alive : FnScope ["self", "tick"] ["self", "tick"] (defScope s_Spans_each_alive) := ⟨rfl, rfl, rfl, by decide +kernel, rfl, by decide +kernel, by decide +kernel⟩
theorem sc_Spans_getitem : FnScope ["self", "name"] ["self", "name"] (defScope s_Spans_getitem) := ⟨rfl, rfl, rfl, by decide +kernel, rfl, by decide +kernel, by decide +kernel⟩
theorem sc_Spans_contains : FnScope ["self", "value"] ["self", "value"] (defScope s_Spans_contains) := ⟨rfl, rfl, rfl, by decide +kernel, rfl, by decide +kernel, by decide +kernel⟩
theorem sc_Spans_len : FnScope ["self"] ["self"] (defScope s_Spans_len) := ⟨rfl, rfl, rfl, by decide +kernel, rfl, by decide +kernel, by decide +kernel⟩
theorem sc_Spans_iter : FnScope ["self"] ["self"] (defScope s_Spans_iter) := ⟨rfl, rfl, rfl, by decide +kernel, rfl, by decide +kernel, by decide +kernel⟩
theorem sc_Spans_later : FnScope ["self", "ticks", "name", "begin", "end"] ["self", "ticks"] (defScope s_Spans_later) := ⟨rfl, rfl, rfl, by decide +kernel, rfl, by decide +kernel, by decide +kernel⟩
theorem sc_Spans_add : FnScope ["self", "other"] ["self", "other"] (defScope s_Spans_add) := ⟨rfl, rfl, rfl, by decide +kernel, rfl, by decide +kernel, by decide +kernel⟩
theorem sc_Spans_or : FnScope ["self", "other", "rows", "name"] ["self", "other"] (defScope s_Spans_or) := ⟨rfl, rfl, rfl, by decide +kernel, rfl, by decide +kernel, by decide +kernel⟩
theorem sc_Spans_and : FnScope ["self", "other", "name"] ["self", "other"] (defScope s_Spans_and) := ⟨rfl, rfl, rfl, by decide +kernel, rfl, by decide +kernel, by decide +kernel⟩
theorem sc_Spans_eq : FnScope ["self", "other"] ["self", "other"] (defScope s_Spans_eq) := ⟨rfl, rfl, rfl, by decide +kernel, rfl, by decide +kernel, by decide +kernel⟩
theorem sc_Spans_str : FnScope ["self"] ["self"] (defScope s_Spans_str) := ⟨rfl, rfl, rfl, by decide +kernel, rfl, by decide +kernel, by decide +kernel⟩
theorem sc_Wiring_init : FnScope ["self", "spans", "follows", "name"] ["self", "spans", "follows"] (defScope s_Wiring_init) := ⟨rfl, rfl, rfl, by decide +kernel, rfl, by decide +kernel, by decide +kernel⟩
theorem sc_Wiring_spans : FnScope ["self"] ["self"] (defScope s_Wiring_spans) := ⟨rfl, rfl, rfl, by decide +kernel, rfl, by decide +kernel, by decide +kernel⟩
theorem sc_Wiring_follows : FnScope ["self"] ["self"] (defScope s_Wiring_follows) := ⟨rfl, rfl, rfl, by decide +kernel, rfl, by decide +kernel, by decide +kernel⟩
theorem sc_Wiring_registers : FnScope ["self"] ["self"] (defScope s_Wiring_registers) := ⟨rfl, rfl, rfl, by decide +kernel, rfl, by decide +kernel, by decide +kernel⟩
theorem sc_Wiring_cycles : FnScope ["self"] ["self"] (defScope s_Wiring_cycles) := ⟨rfl, rfl, rfl, by decide +kernel, rfl, by decide +kernel, by decide +kernel⟩
theorem sc_Wiring_sizes : FnScope ["self", "cycle"] ["self"] (defScope s_Wiring_sizes) := ⟨rfl, rfl, rfl, by decide +kernel, rfl, by decide +kernel, by decide +kernel⟩
theorem sc_Wiring_copies : FnScope ["self", "multiple", "size"] ["self"] (defScope s_Wiring_copies) := ⟨rfl, rfl, rfl, by decide +kernel, rfl, by decide +kernel, by decide +kernel⟩
theorem sc_Wiring_after : FnScope ["self", "name", "turn", "follower", "wait", "ticks"] ["self", "name", "turn"] (defScope s_Wiring_after) := ⟨rfl, rfl, rfl, by decide +kernel, rfl, by decide +kernel, by decide +kernel⟩
theorem sc_Wiring_each_free : FnScope ["self", "moment"] ["self", "moment"] (defScope s_Wiring_each_free) := ⟨rfl, rfl, rfl, by decide +kernel, rfl, by decide +kernel, by decide +kernel⟩
theorem sc_Wiring_is_free : FnScope ["self", "moment", "value"] ["self", "moment", "value"] (defScope s_Wiring_is_free) := ⟨rfl, rfl, rfl, by decide +kernel, rfl, by decide +kernel, by decide +kernel⟩
theorem sc_Wiring_exchanged : FnScope ["self", "moment", "one", "other"] ["self", "moment", "one", "other"] (defScope s_Wiring_exchanged) := ⟨rfl, rfl, rfl, by decide +kernel, rfl, by decide +kernel, by decide +kernel⟩
theorem sc_Wiring_going_on : FnScope ["self", "value", "other"] ["self", "value", "other"] (defScope s_Wiring_going_on) := ⟨rfl, rfl, rfl, by decide +kernel, rfl, by decide +kernel, by decide +kernel⟩
theorem sc_Wiring_end_of : FnScope ["self", "value"] ["self", "value"] (defScope s_Wiring_end_of) := ⟨rfl, rfl, rfl, by decide +kernel, rfl, by decide +kernel, by decide +kernel⟩
theorem sc_Wiring_getitem : FnScope ["self", "name"] ["self", "name"] (defScope s_Wiring_getitem) := ⟨rfl, rfl, rfl, by decide +kernel, rfl, by decide +kernel, by decide +kernel⟩
theorem sc_Wiring_iter : FnScope ["self"] ["self"] (defScope s_Wiring_iter) := ⟨rfl, rfl, rfl, by decide +kernel, rfl, by decide +kernel, by decide +kernel⟩
theorem sc_Wiring_len : FnScope ["self"] ["self"] (defScope s_Wiring_len) := ⟨rfl, rfl, rfl, by decide +kernel, rfl, by decide +kernel, by decide +kernel⟩
theorem sc_Wiring_eq : FnScope ["self", "other"] ["self", "other"] (defScope s_Wiring_eq) := ⟨rfl, rfl, rfl, by decide +kernel, rfl, by decide +kernel, by decide +kernel⟩
theorem sc_Wiring_str : FnScope ["self"] ["self"] (defScope s_Wiring_str) := ⟨rfl, rfl, rfl, by decide +kernel, rfl, by decide +kernel, by decide +kernel⟩
theorem sc_wall : FnScope ["k"] ["k"] (defScope s_wall) := ⟨rfl, rfl, rfl, by decide +kernel, rfl, by decide +kernel, by decide +kernel⟩
theorem sc_is_name : FnScope ["value", "letter"] ["value"] (defScope s_is_name) := ⟨rfl, rfl, rfl, by decide +kernel, rfl, by decide +kernel, by decide +kernel⟩
theorem sc_is_integer : FnScope ["value"] ["value"] (defScope s_is_integer) := ⟨rfl, rfl, rfl, by decide +kernel, rfl, by decide +kernel, by decide +kernel⟩
theorem sc_is_between : FnScope ["value", "low", "high"] ["value", "low", "high"] (defScope s_is_between) := ⟨rfl, rfl, rfl, by decide +kernel, rfl, by decide +kernel, by decide +kernel⟩
theorem sc_check_integer : FnScope ["value"] ["value"] (defScope s_check_integer) := ⟨rfl, rfl, rfl, by decide +kernel, rfl, by decide +kernel, by decide +kernel⟩
theorem sc_check_between : FnScope ["value", "low", "high"] ["value", "low", "high"] (defScope s_check_between) := ⟨rfl, rfl, rfl, by decide +kernel, rfl, by decide +kernel, by decide +kernel⟩
theorem sc_check_interval : FnScope ["value"] ["value"] (defScope s_check_interval) := ⟨rfl, rfl, rfl, by decide +kernel, rfl, by decide +kernel, by decide +kernel⟩
theorem sc_times_alive : FnScope ["begin", "end", "tick", "interval"] ["begin", "end", "tick", "interval"] (defScope s_times_alive) := ⟨rfl, rfl, rfl, by decide +kernel, rfl, by decide +kernel, by decide +kernel⟩
theorem sc_ascends : FnScope ["row", "at"] ["row"] (defScope s_ascends) := ⟨rfl, rfl, rfl, by decide +kernel, rfl, by decide +kernel, by decide +kernel⟩
theorem sc_is_span : FnScope ["interval", "value"] ["interval", "value"] (defScope s_is_span) := ⟨rfl, rfl, rfl, by decide +kernel, rfl, by decide +kernel, by decide +kernel⟩
theorem sc_are_rows : FnScope ["interval", "value", "name"] ["interval", "value"] (defScope s_are_rows) := ⟨rfl, rfl, rfl, by decide +kernel, rfl, by decide +kernel, by decide +kernel⟩
theorem sc_check_spans : FnScope ["value"] ["value"] (defScope s_check_spans) := ⟨rfl, rfl, rfl, by decide +kernel, rfl, by decide +kernel, by decide +kernel⟩
theorem sc_is_follow : FnScope ["spans", "name", "value"] ["spans", "name", "value"] (defScope s_is_follow) := ⟨rfl, rfl, rfl, by decide +kernel, rfl, by decide +kernel, by decide +kernel⟩
theorem sc_are_follows : FnScope ["spans", "value", "name"] ["spans", "value"] (defScope s_are_follows) := ⟨rfl, rfl, rfl, by decide +kernel, rfl, by decide +kernel, by decide +kernel⟩
theorem sc_size_of : FnScope ["spans", "follows", "names", "name"] ["spans", "follows", "names"] (defScope s_size_of) := ⟨rfl, rfl, rfl, by decide +kernel, rfl, by decide +kernel, by decide +kernel⟩
theorem sc_is_wiring : FnScope ["spans", "value"] ["spans", "value"] (defScope s_is_wiring) := ⟨rfl, rfl, rfl, by decide +kernel, rfl, by decide +kernel, by decide +kernel⟩
theorem sc_cycles_of : FnScope ["follows", "cycles", "left", "cycle", "name"] ["follows"] (defScope s_cycles_of) := ⟨rfl, rfl, rfl, by decide +kernel, rfl, by decide +kernel, by decide +kernel⟩
theorem sc_w_tray : FnScope ["script", "spot", "cell", "great", "begin"] ["script", "spot"] (defScope s_w_tray) := ⟨rfl, rfl, rfl, by decide +kernel, rfl, by decide +kernel, by decide +kernel⟩
theorem sc_w_roll : FnScope ["tray", "total", "found", "one", "two"] ["tray", "total"] (defScope s_w_roll) := ⟨rfl, rfl, rfl, by decide +kernel, rfl, by decide +kernel, by decide +kernel⟩
theorem sc_w_pick : FnScope ["tray", "items"] ["tray", "items"] (defScope s_w_pick) := ⟨rfl, rfl, rfl, by decide +kernel, rfl, by decide +kernel, by decide +kernel⟩
theorem sc_w_few : FnScope ["tray", "items", "many", "left", "found", "turn"] ["tray", "items", "many"] (defScope s_w_few) := ⟨rfl, rfl, rfl, by decide +kernel, rfl, by decide +kernel, by decide +kernel⟩
theorem sc_w_names : FnScope ["tray", "many", "letters", "stem", "found", "letter", "turn", "size"] ["tray", "many"] (defScope s_w_names) := ⟨rfl, rfl, rfl, by decide +kernel, rfl, by decide +kernel, by decide +kernel⟩
theorem sc_w_rings : FnScope ["tray", "interval", "names", "rows", "left", "some", "first", "begin", "name", "last"] ["tray", "interval", "names"] (defScope s_w_rings) := ⟨rfl, rfl, rfl, by decide +kernel, rfl, by decide +kernel, by decide +kernel⟩
theorem sc_w_rows : FnScope ["tray", "interval", "names", "rows", "name", "begin", "size"] ["tray", "interval", "names"] (defScope s_w_rows) := ⟨rfl, rfl, rfl, by decide +kernel, rfl, by decide +kernel, by decide +kernel⟩
theorem sc_w_sorted : FnScope ["rows", "name"] ["rows"] (defScope s_w_sorted) := ⟨rfl, rfl, rfl, by decide +kernel, rfl, by decide +kernel, by decide +kernel⟩
theorem sc_w_alive : FnScope ["rows", "interval", "tick", "found", "name", "begin", "end", "turn"] ["rows", "interval", "tick"] (defScope s_w_alive) := ⟨rfl, rfl, rfl, by decide +kernel, rfl, by decide +kernel, by decide +kernel⟩
theorem sc_w_places : FnScope ["rows", "interval", "index", "sizes", "cut", "tick", "name"] ["rows", "interval", "index"] (defScope s_w_places) := ⟨rfl, rfl, rfl, by decide +kernel, rfl, by decide +kernel, by decide +kernel⟩
theorem sc_w_swept : FnScope ["tray", "rows", "interval", "begins", "ends", "found", "place", "name", "free", "one", "other"] ["tray", "rows", "interval"] (defScope s_w_swept) := ⟨rfl, rfl, rfl, by decide +kernel, rfl, by decide +kernel, by decide +kernel⟩
theorem sc_w_drawn : FnScope ["tray", "rows", "interval", "found", "names", "one", "other", "wait"] ["tray", "rows", "interval"] (defScope s_w_drawn) := ⟨rfl, rfl, rfl, by decide +kernel, rfl, by decide +kernel, by decide +kernel⟩
theorem sc_w_follows : FnScope ["tray", "rows", "interval"] ["tray", "rows", "interval"] (defScope s_w_follows) := ⟨rfl, rfl, rfl, by decide +kernel, rfl, by decide +kernel, by decide +kernel⟩
theorem sc_w_cycles : FnScope ["follows", "found", "name", "cycle"] ["follows"] (defScope s_w_cycles) := ⟨rfl, rfl, rfl, by decide +kernel, rfl, by decide +kernel, by decide +kernel⟩
theorem sc_w_size : FnScope ["rows", "interval", "follows", "names", "name"] ["rows", "interval", "follows", "names"] (defScope s_w_size) := ⟨rfl, rfl, rfl, by decide +kernel, rfl, by decide +kernel, by decide +kernel⟩
theorem sc_w_multiple : FnScope ["numbers", "found", "number", "step"] ["numbers"] (defScope s_w_multiple) := ⟨rfl, rfl, rfl, by decide +kernel, rfl, by decide +kernel, by decide +kernel⟩
theorem sc_w_is_told : FnScope ["wiring", "rows", "interval", "follows", "due", "cycles", "sizes", "told", "wanted", "more", "text", "cycle", "name"] ["wiring", "rows", "interval", "follows"] (defScope s_w_is_told) := ⟨rfl, rfl, rfl, by decide +kernel, rfl, by decide +kernel, by decide +kernel⟩
theorem sc_w_right : FnScope ["tray", "interval", "names", "rows", "follows", "spans", "passed", "wiring", "like", "name", "turn", "other", "wait", "rounds", "far", "moved", "longer", "more"] ["tray"] (defScope s_w_right) := ⟨rfl, rfl, rfl, by decide +kernel, rfl, by decide +kernel, by decide +kernel⟩
theorem sc_law : FnScope ["script", "spot", "spans", "wiring", "told", "due"] ["script"] (defScope s_law) := ⟨rfl, rfl, rfl, by decide +kernel, rfl, by decide +kernel, by decide +kernel⟩
/-- where the defs stand, and what the names hold -/
structure T (K : PySem.W.Frag) (mg : Str → Option Value) where
  f_wall : Addr
  d_wall : FuncData
  F_wall : Fun K "_wall" "_wall" s_wall f_wall d_wall
  m_wall : mg "_wall" = some (.ref f_wall)
  b_wall : Binds K d_wall ["k"] []
  f_is_name : Addr
  d_is_name : FuncData
  F_is_name : Fun K "is_name" "is_name" s_is_name f_is_name d_is_name
  m_is_name : mg "is_name" = some (.ref f_is_name)
  b_is_name : Binds K d_is_name ["value"] []
  f_is_integer : Addr
  d_is_integer : FuncData
  F_is_integer : Fun K "is_integer" "is_integer" s_is_integer f_is_integer d_is_integer
  m_is_integer : mg "is_integer" = some (.ref f_is_integer)
  b_is_integer : Binds K d_is_integer ["value"] []
  f_is_between : Addr
  d_is_between : FuncData
  F_is_between : Fun K "is_between" "is_between" s_is_between f_is_between d_is_between
  m_is_between : mg "is_between" = some (.ref f_is_between)
  b_is_between : Binds K d_is_between ["value", "low", "high"] []
  f_check_integer : Addr
  d_check_integer : FuncData
  F_check_integer : Fun K "check_integer" "check_integer" s_check_integer f_check_integer d_check_integer
  m_check_integer : mg "check_integer" = some (.ref f_check_integer)
  b_check_integer : Binds K d_check_integer ["value"] []
  f_check_between : Addr
  d_check_between : FuncData
  F_check_between : Fun K "check_between" "check_between" s_check_between f_check_between d_check_between
  m_check_between : mg "check_between" = some (.ref f_check_between)
  b_check_between : Binds K d_check_between ["value", "low", "high"] []
  f_check_interval : Addr
  d_check_interval : FuncData
  F_check_interval : Fun K "check_interval" "check_interval" s_check_interval f_check_interval d_check_interval
  m_check_interval : mg "check_interval" = some (.ref f_check_interval)
  b_check_interval : Binds K d_check_interval ["value"] []
  f_times_alive : Addr
  d_times_alive : FuncData
  F_times_alive : Fun K "times_alive" "times_alive" s_times_alive f_times_alive d_times_alive
  m_times_alive : mg "times_alive" = some (.ref f_times_alive)
  b_times_alive : Binds K d_times_alive ["begin", "end", "tick", "interval"] []
  f_ascends : Addr
  d_ascends : FuncData
  F_ascends : Fun K "ascends" "ascends" s_ascends f_ascends d_ascends
  m_ascends : mg "ascends" = some (.ref f_ascends)
  b_ascends : Binds K d_ascends ["row"] []
  f_is_span : Addr
  d_is_span : FuncData
  F_is_span : Fun K "_is_span" "_is_span" s_is_span f_is_span d_is_span
  m_is_span : mg "_is_span" = some (.ref f_is_span)
  b_is_span : Binds K d_is_span ["interval", "value"] []
  f_are_rows : Addr
  d_are_rows : FuncData
  F_are_rows : Fun K "_are_rows" "_are_rows" s_are_rows f_are_rows d_are_rows
  m_are_rows : mg "_are_rows" = some (.ref f_are_rows)
  b_are_rows : Binds K d_are_rows ["interval", "value"] []
  f_check_spans : Addr
  d_check_spans : FuncData
  F_check_spans : Fun K "check_spans" "check_spans" s_check_spans f_check_spans d_check_spans
  m_check_spans : mg "check_spans" = some (.ref f_check_spans)
  b_check_spans : Binds K d_check_spans ["value"] []
  f_is_follow : Addr
  d_is_follow : FuncData
  F_is_follow : Fun K "_is_follow" "_is_follow" s_is_follow f_is_follow d_is_follow
  m_is_follow : mg "_is_follow" = some (.ref f_is_follow)
  b_is_follow : Binds K d_is_follow ["spans", "name", "value"] []
  f_are_follows : Addr
  d_are_follows : FuncData
  F_are_follows : Fun K "_are_follows" "_are_follows" s_are_follows f_are_follows d_are_follows
  m_are_follows : mg "_are_follows" = some (.ref f_are_follows)
  b_are_follows : Binds K d_are_follows ["spans", "value"] []
  f_size_of : Addr
  d_size_of : FuncData
  F_size_of : Fun K "_size_of" "_size_of" s_size_of f_size_of d_size_of
  m_size_of : mg "_size_of" = some (.ref f_size_of)
  b_size_of : Binds K d_size_of ["spans", "follows", "names"] []
  f_is_wiring : Addr
  d_is_wiring : FuncData
  F_is_wiring : Fun K "is_wiring" "is_wiring" s_is_wiring f_is_wiring d_is_wiring
  m_is_wiring : mg "is_wiring" = some (.ref f_is_wiring)
  b_is_wiring : Binds K d_is_wiring ["spans", "value"] []
  f_cycles_of : Addr
  d_cycles_of : FuncData
  F_cycles_of : Fun K "_cycles_of" "_cycles_of" s_cycles_of f_cycles_of d_cycles_of
  m_cycles_of : mg "_cycles_of" = some (.ref f_cycles_of)
  b_cycles_of : Binds K d_cycles_of ["follows"] []
  f_w_tray : Addr
  d_w_tray : FuncData
  F_w_tray : Fun K "_law_tray" "_law_tray" s_w_tray f_w_tray d_w_tray
  m_w_tray : mg "_law_tray" = some (.ref f_w_tray)
  b_w_tray : Binds K d_w_tray ["script", "spot"] []
  f_w_roll : Addr
  d_w_roll : FuncData
  F_w_roll : Fun K "_law_roll" "_law_roll" s_w_roll f_w_roll d_w_roll
  m_w_roll : mg "_law_roll" = some (.ref f_w_roll)
  b_w_roll : Binds K d_w_roll ["tray", "total"] []
  f_w_pick : Addr
  d_w_pick : FuncData
  F_w_pick : Fun K "_law_pick" "_law_pick" s_w_pick f_w_pick d_w_pick
  m_w_pick : mg "_law_pick" = some (.ref f_w_pick)
  b_w_pick : Binds K d_w_pick ["tray", "items"] []
  f_w_few : Addr
  d_w_few : FuncData
  F_w_few : Fun K "_law_few" "_law_few" s_w_few f_w_few d_w_few
  m_w_few : mg "_law_few" = some (.ref f_w_few)
  b_w_few : Binds K d_w_few ["tray", "items", "many"] []
  f_w_names : Addr
  d_w_names : FuncData
  F_w_names : Fun K "_law_names" "_law_names" s_w_names f_w_names d_w_names
  m_w_names : mg "_law_names" = some (.ref f_w_names)
  b_w_names : Binds K d_w_names ["tray", "many"] []
  f_w_rings : Addr
  d_w_rings : FuncData
  F_w_rings : Fun K "_law_rings" "_law_rings" s_w_rings f_w_rings d_w_rings
  m_w_rings : mg "_law_rings" = some (.ref f_w_rings)
  b_w_rings : Binds K d_w_rings ["tray", "interval", "names"] []
  f_w_rows : Addr
  d_w_rows : FuncData
  F_w_rows : Fun K "_law_rows" "_law_rows" s_w_rows f_w_rows d_w_rows
  m_w_rows : mg "_law_rows" = some (.ref f_w_rows)
  b_w_rows : Binds K d_w_rows ["tray", "interval", "names"] []
  f_w_sorted : Addr
  d_w_sorted : FuncData
  F_w_sorted : Fun K "_law_sorted" "_law_sorted" s_w_sorted f_w_sorted d_w_sorted
  m_w_sorted : mg "_law_sorted" = some (.ref f_w_sorted)
  b_w_sorted : Binds K d_w_sorted ["rows"] []
  f_w_alive : Addr
  d_w_alive : FuncData
  F_w_alive : Fun K "_law_alive" "_law_alive" s_w_alive f_w_alive d_w_alive
  m_w_alive : mg "_law_alive" = some (.ref f_w_alive)
  b_w_alive : Binds K d_w_alive ["rows", "interval", "tick"] []
  f_w_places : Addr
  d_w_places : FuncData
  F_w_places : Fun K "_law_places" "_law_places" s_w_places f_w_places d_w_places
  m_w_places : mg "_law_places" = some (.ref f_w_places)
  b_w_places : Binds K d_w_places ["rows", "interval", "index"] []
  f_w_swept : Addr
  d_w_swept : FuncData
  F_w_swept : Fun K "_law_swept" "_law_swept" s_w_swept f_w_swept d_w_swept
  m_w_swept : mg "_law_swept" = some (.ref f_w_swept)
  b_w_swept : Binds K d_w_swept ["tray", "rows", "interval"] []
  f_w_drawn : Addr
  d_w_drawn : FuncData
  F_w_drawn : Fun K "_law_drawn" "_law_drawn" s_w_drawn f_w_drawn d_w_drawn
  m_w_drawn : mg "_law_drawn" = some (.ref f_w_drawn)
  b_w_drawn : Binds K d_w_drawn ["tray", "rows", "interval"] []
  f_w_follows : Addr
  d_w_follows : FuncData
  F_w_follows : Fun K "_law_follows" "_law_follows" s_w_follows f_w_follows d_w_follows
  m_w_follows : mg "_law_follows" = some (.ref f_w_follows)
  b_w_follows : Binds K d_w_follows ["tray", "rows", "interval"] []
  f_w_cycles : Addr
  d_w_cycles : FuncData
  F_w_cycles : Fun K "_law_cycles" "_law_cycles" s_w_cycles f_w_cycles d_w_cycles
  m_w_cycles : mg "_law_cycles" = some (.ref f_w_cycles)
  b_w_cycles : Binds K d_w_cycles ["follows"] []
  f_w_size : Addr
  d_w_size : FuncData
  F_w_size : Fun K "_law_size" "_law_size" s_w_size f_w_size d_w_size
  m_w_size : mg "_law_size" = some (.ref f_w_size)
  b_w_size : Binds K d_w_size ["rows", "interval", "follows", "names"] []
  f_w_multiple : Addr
  d_w_multiple : FuncData
  F_w_multiple : Fun K "_law_multiple" "_law_multiple" s_w_multiple f_w_multiple d_w_multiple
  m_w_multiple : mg "_law_multiple" = some (.ref f_w_multiple)
  b_w_multiple : Binds K d_w_multiple ["numbers"] []
  f_w_is_told : Addr
  d_w_is_told : FuncData
  F_w_is_told : Fun K "_law_is_told" "_law_is_told" s_w_is_told f_w_is_told d_w_is_told
  m_w_is_told : mg "_law_is_told" = some (.ref f_w_is_told)
  b_w_is_told : Binds K d_w_is_told ["wiring", "rows", "interval", "follows"] []
  f_w_right : Addr
  d_w_right : FuncData
  F_w_right : Fun K "_law_right" "_law_right" s_w_right f_w_right d_w_right
  m_w_right : mg "_law_right" = some (.ref f_w_right)
  b_w_right : Binds K d_w_right ["tray"] []
  f_law : Addr
  d_law : FuncData
  F_law : Fun K "law" "law" s_law f_law d_law
  m_law : mg "law" = some (.ref f_law)
  b_law : Binds K d_law ["script"] []
  c_MAX_INTERVAL : ∃ t, mg "MAX_INTERVAL" = some (.int 32 t)
  c_MAX_LETTERS : ∃ t, mg "MAX_LETTERS" = some (.int 8 t)
  c_MAX_VALUES : ∃ t, mg "MAX_VALUES" = some (.int 8 t)
  c_MAX_LIFE : ∃ t, mg "MAX_LIFE" = some (.int 8 t)
  c_MAX_WIRED : ∃ t, mg "MAX_WIRED" = some (.int 72 t)
  x_lcm : mg "lcm" = some (.builtin "math.lcm")
  z_int : mg "int" = none
  z_abs : mg "abs" = none
  z_len : mg "len" = none
  z_max : mg "max" = none
  z_min : mg "min" = none
  z_range : mg "range" = none
  z_sum : mg "sum" = none
  z_isinstance : mg "isinstance" = none
  z_repr : mg "repr" = none
  z_str : mg "str" = none
  z_all : mg "all" = none
  z_any : mg "any" = none
  z_sorted : mg "sorted" = none
  z_tuple : mg "tuple" = none
  z_list : mg "list" = none
  z_dict : mg "dict" = none
  z_set : mg "set" = none
  z_bool : mg "bool" = none
  z_zip : mg "zip" = none
/-- a list of three ints stands at r -/
def Rl (H : Hp) (r : Addr) : Prop := ∃ a b c : Int, H r = some (.lst [.int a, .int b, .int c])
/-- what the heap held, but for what stands at r -/
def Only (r : Addr) (H H' : Hp) : Prop := ∀ b o, b ≠ r → H b = some o → H' b = some o
theorem Only.refl {r : Addr} {H : Hp} : Only r H H := fun _ _ _ e => e
theorem Only.trans {r : Addr} {H H1 H2 : Hp} (a : Only r H H1) (b : Only r H1 H2) : Only r H H2 := fun c o n e => b c o n (a c o n e)
theorem Only.upd {r : Addr} {H : Hp} {o : HO} : Only r H (upd H r o) := fun b _ n e => by rw [upd_ne n]; exact e
theorem Only.new {r p : Addr} {H : Hp} {o : HO} (n : H p = none) : Only r H (L2.upd H p o) := fun b _ _ e => by rw [upd_ne (ne_of_none e n)]; exact e
theorem Rl.new {r p : Addr} {H : Hp} {o : HO} (h : Rl H r) (n : H p = none) : Rl (upd H p o) r := by
  obtain ⟨a, b, c, e⟩ := h
  exact ⟨a, b, c, by rw [upd_ne (ne_of_none e n)]; exact e⟩
theorem Rl.ne {r p : Addr} {H : Hp} (h : Rl H r) (n : H p = none) : p ≠ r := by
  obtain ⟨a, b, c, e⟩ := h
  exact (ne_of_none e n).symm
theorem Only.seqL {K : PySem.W.Frag} {r l : Addr} {H H' : Hp} {xs : List V} (o : Only r H H') (n : l ≠ r) (h : SqL K H l xs) : SqL K H' l xs := by
  rcases h with (h | ⟨u, h⟩) | h
  · exact .inl (.inl (o _ _ n h))
  · exact .inl (.inr ⟨u, o _ _ n h⟩)
  · exact .inr h
theorem Only.seqT {K : PySem.W.Frag} {r l : Addr} {H H' : Hp} {xs : List V} (o : Only r H H') (n : l ≠ r) (h : SqT K H l xs) : SqT K H' l xs := by
  rcases h with (h | ⟨u, h⟩) | h
  · exact .inl (.inl (o _ _ n h))
  · exact .inl (.inr ⟨u, o _ _ n h⟩)
  · exact .inr h
theorem ix_at {α : Type} {xs : List α} {i : Int} (h0 : 0 ≤ i) (h1 : i < xs.length) : ∃ v, v ∈ xs ∧ atI xs i = some v := by
  have h2 : i.toNat < xs.length := by omega
  refine ⟨xs[i.toNat], List.getElem_mem h2, ?_⟩
  have h3 : ((i.toNat : Nat) : Int) = i := Int.toNat_of_nonneg h0
  have := atI_nat (xs := xs) (j := i.toNat) (List.getElem?_eq_getElem h2)
  rw [h3] at this
  exact this
/-- what a draw is made from: a list, a tuple, a text -/
def SeqV (K : PySem.W.Frag) (H : Hp) (r : Addr) (x : V) (xs : List V) : Prop :=
  (∃ l, x = .ref l ∧ l ≠ r ∧ (SqL K H l xs ∨ SqT K H l xs)) ∨ (∃ z : Str, x = .str z ∧ z.length ≤ sizeLine ∧ xs = z.cps.toList.map fun c => V.str ⟨#[c]⟩)
theorem lg {i : Int} {b : Nat} (h0 : 0 ≤ i) (h : i < 2 ^ b) (hb : 0 < b) : i.natAbs.log2 < b := by
  refine PySem.Flt.log2_lt_of hb ?_
  have : (i.natAbs : Int) = i := Int.natAbs_of_nonneg h0
  have h2 : ((i.natAbs : Nat) : Int) < ((2 ^ b : Nat) : Int) := by rw [this, Int.natCast_pow]; exact h
  exact Int.ofNat_lt.mp h2
section
variable {X : Cx}
theorem op_powW : OpR X (binaryOp .Pow) (rI (fun i j => 0 ≤ j ∧ (Builtin.Int.intBits i : Int) * j ≤ 2 ^ 27) fun i j => .int (i ^ j.toNat)) := opI fun _ _ _ _ _ _ _ hc q => PyProof.Rows.pow_int hc.1 hc.2 q
end
theorem ite_join {c : Bool} {ta tb : TE} {σ : St} {H : Hp} {Q : VK} (R : V → Hp → Prop) (ha : c = true → ∀ Q' : VK, (∀ v H', R v H' → Q' v H') → ta σ H Q') (hb : c = false → ∀ Q' : VK, (∀ v H', R v H' → Q' v H') → tb σ H Q')
    (h : ∀ v H', R v H' → Q v H') : if c = true then ta σ H Q else tb σ H Q := by
  cases c with
  | true => exact iteT (ha rfl Q h)
  | false => exact iteF (hb rfl Q h)
theorem at_ns {ns : List Int} {i : Nat} (h : i < ns.length) : ∃ z, atI (ns.map V.int) (i : Int) = some (.int z) :=
  ⟨ns[i], atI_nat (by rw [List.getElem?_map, List.getElem?_eq_getElem h]; rfl)⟩
theorem bl_t {Q : VK} {b : Bool} {H : Hp} (e : b = true) (k : Q (.bl true) H) : Q (.bl b) H := e ▸ k
theorem int_to {Q : VK} {i j : Int} {H : Hp} (e : i = j) (k : Q (.int j) H) : Q (.int i) H := e ▸ k
theorem if_ne {x y : V} {A B : Prop} (h : x ≠ y) (a : A) : if (!decide (x = y)) = true then A else B := by
  rw [decide_eq_false h]
  exact iteT a
theorem if_dec_t {x y : V} {A B : Prop} (h : x = y) (a : A) : if decide (x = y) = true then A else B := by
  rw [decide_eq_true h]
  exact iteT a
theorem if_dec_f {x y : V} {A B : Prop} (h : x ≠ y) (b : B) : if decide (x = y) = true then A else B := by
  rw [decide_eq_false h]
  exact iteF b
theorem dp_all {K : PySem.W.Frag} {H : Hp} : ∀ ns : List Int, DpAll K H (ns.map V.int) (ns.map PyData.int)
  | [] => .nil
  | n :: r => .cons (.int n) (dp_all r)
theorem dp_ints {K : PySem.W.Frag} {H : Hp} {a : Addr} (ns : List Int) (h : SqL K H a (ns.map V.int)) : Dp K H (.ref a) (.list (ns.map PyData.int)) := .lst h (dp_all ns)
theorem cells_n (n m : Nat) : ((if (if ((n : Nat) : Int) < (m : Int) then ((n : Nat) : Int) else (m : Int)) > 1 then (if ((n : Nat) : Int) < (m : Int) then ((n : Nat) : Int) else (m : Int)) else 1) : Int) ≤ (m : Int) + 1 ∧ 1 ≤ ((if (if ((n : Nat) : Int) < (m : Int) then ((n : Nat) : Int) else (m : Int)) > 1 then (if ((n : Nat) : Int) < (m : Int) then ((n : Nat) : Int) else (m : Int)) else 1) : Int) := by
  split <;> split <;> omega
def nmC (z : Str) : Bool := decide (1 ≤ z.length ∧ z.length ≤ 8) && z.cps.toList.all fun c => decide (97 ≤ c) && decide (c ≤ 122)
def nmD : PyData → Bool
  | .str z => nmC z
  | _ => false
def inD (lo hi : Int) : PyData → Bool
  | .int n => (decide (-1000000000000 < n) && decide (n < 1000000000000)) && (decide (lo ≤ n) && decide (n ≤ hi))
  | _ => false
def isInD : PyData → Bool
  | .int n => decide (-1000000000000 < n) && decide (n < 1000000000000)
  | _ => false
def prD (hi : Int) : PyData → Bool
  | .tuple [a, b] => nmD a && inD 0 hi b
  | _ => false
def rwD (most : Nat) (hi : Int) : PyData → Bool
  | .tuple ds => decide (ds.length ≤ most) && ds.all (prD hi)
  | _ => false
/-- every text in it is short -/
def okD (d : PyData) : Prop := d.weight ≤ 1000000
/-- a value that is the datum d, or a dict -/
def DD (K : PySem.W.Frag) (H : Hp) (x : V) (d : PyData) : Prop := Dp K H x d ∨ ∃ a kvs, x = .ref a ∧ H a = some (.dK kvs) ∧ d = .dict []
theorem Same.seqT {K : PySem.W.Frag} {H H' : Hp} {a : Addr} {xs : List V} (e : Same H H') (h : SqT K H a xs) : SqT K H' a xs := by
  rcases h with (h | ⟨o, h⟩) | h
  · exact .inl (.inl (e _ _ h))
  · exact .inl (.inr ⟨o, e _ _ h⟩)
  · exact .inr h
mutual
theorem dp_same {K : PySem.W.Frag} {H H' : Hp} (s : Same H H') : ∀ (d : PyData) (x : V), Dp K H x d → Dp K H' x d
  | .none, _, h => by cases h; exact .non
  | .bool b, _, h => by cases h; exact .bl b
  | .int i, _, h => by cases h; exact .int i
  | .str z, _, h => by cases h; exact .str z
  | .list ds, _, h => by
    cases h with
    | lst h1 h2 => exact .lst (Same.seq s h1) (dpa_same s ds _ h2)
  | .tuple ds, _, h => by
    cases h with
    | tup h1 h2 => exact .tup (Same.seqT s h1) (dpa_same s ds _ h2)
  | .dict _, _, h => by cases h
theorem dpa_same {K : PySem.W.Frag} {H H' : Hp} (s : Same H H') : ∀ (ds : List PyData) (xs : List V), DpAll K H xs ds → DpAll K H' xs ds
  | [], _, h => by cases h; exact .nil
  | d :: ds, _, h => by
    cases h with
    | cons h1 h2 => exact .cons (dp_same s d _ h1) (dpa_same s ds _ h2)
end
theorem DD.same {K : PySem.W.Frag} {H H' : Hp} {x : V} {d : PyData} (s : Same H H') (h : DD K H x d) : DD K H' x d := by
  rcases h with h | ⟨a, kvs, e1, e2, e3⟩
  · exact .inl (dp_same s d x h)
  · exact .inr ⟨a, kvs, e1, s _ _ e2, e3⟩
theorem dpa_len {K : PySem.W.Frag} {H : Hp} : ∀ {ds : List PyData} {xs : List V}, DpAll K H xs ds → ds.length = xs.length
  | [], _, h => by cases h; rfl
  | d :: ds, _, h => by
    cases h with
    | cons h1 h2 => rw [List.length_cons, List.length_cons, dpa_len h2]
theorem dpa_get {K : PySem.W.Frag} {H : Hp} : ∀ {ds : List PyData} {xs : List V} {i : Nat} {x : V}, DpAll K H xs ds → xs[i]? = some x → ∃ d, ds[i]? = some d ∧ Dp K H x d
  | [], _, i, x, h, e => by cases h; simp at e
  | d :: ds, _, 0, x, h, e => by
    cases h with
    | cons h1 h2 =>
      obtain rfl := Option.some.inj e
      exact ⟨d, rfl, h1⟩
  | d :: ds, _, i + 1, x, h, e => by
    cases h with
    | cons h1 h2 => exact dpa_get (i := i) h2 e
def tyD : PyData → String
  | .none => "NoneType" | .bool _ => "bool" | .int _ => "int" | .str _ => "str" | .list _ => "list" | .tuple _ => "tuple" | .dict _ => "dict"
theorem DD.ty {K : PySem.W.Frag} {H : Hp} {x : V} {d : PyData} (h : DD K H x d) : TyX K H x (.type (tyD d)) := by
  rcases h with h | ⟨a, kvs, rfl, e, rfl⟩
  · cases h with
    | non => exact .base .non
    | bl b => exact .base (.bl b)
    | int i => exact .base (.int i)
    | str z => exact .base (.str z)
    | lst h1 h2 =>
      rcases h1 with (h | ⟨o, h⟩) | ⟨o, its, n, e1, e2, _⟩
      · exact .base (.lst h)
      · exact .base (.frz h)
      · exact .kList e1 e2
    | tup h1 h2 =>
      rcases h1 with (h | ⟨o, h⟩) | ⟨o, its, n, e1, e2, _⟩
      · exact .base (.tup h)
      · exact .fTuple h
      · exact .kTuple e1 e2
  · exact .base (.dK e)
theorem weight_mem : ∀ {ds : List PyData} {d : PyData}, d ∈ ds → d.weight ≤ PyData.weightAll ds
  | a :: r, d, h => by
    rw [PyData.weightAll]
    rcases List.mem_cons.mp h with rfl | h
    · omega
    · have := weight_mem h
      omega
theorem okD_tup {ds : List PyData} (h : okD (.tuple ds)) {d : PyData} (hd : d ∈ ds) : okD d := by
  have h1 := weight_mem hd
  have h2 : PyData.weightAll ds ≤ 1000000 := by
    have h3 : (PyData.tuple ds).weight ≤ 1000000 := h
    rw [PyData.weight] at h3
    exact h3
  exact Nat.le_trans h1 h2
theorem okD_str {z : Str} (h : okD (.str z)) : z.length ≤ 1000000 := by
  have h3 : (PyData.str z).weight ≤ 1000000 := h
  rw [PyData.weight] at h3
  exact h3
theorem bl_to {Q : VK} {b c : Bool} {H : Hp} (e : b = c) (k : Q (.bl c) H) : Q (.bl b) H := e ▸ k
theorem Same.rl {H H' : Hp} {r : Addr} (s : Same H H') (h : Rl H r) : Rl H' r := by
  obtain ⟨a, b, c, e⟩ := h
  exact ⟨a, b, c, s _ _ e⟩
theorem Same.only {H H' : Hp} {r : Addr} (s : Same H H') : Only r H H' := fun b o _ e => s b o e
theorem Same.new {H : Hp} {p : Addr} {o : HO} (n : H p = none) : Same H (upd H p o) := fun b u e => by rw [upd_ne (ne_of_none e n)]; exact e
theorem Same.at {H0 H : Hp} {D : Addr} {o : HO} (n : H0 D = none) (s : Same H0 H) : Same H0 (upd H D o) := fun b u e => by rw [upd_ne (ne_of_none e n)]; exact s b u e
theorem lt_sign (c d : Nat) : (([c] : List Nat) < [d]) ↔ c < d := by
  constructor
  · intro h
    rcases List.cons_lt_cons_iff.mp h with h | ⟨_, h⟩
    · exact h
    · exact absurd h (by simp)
  · intro h
    exact List.cons_lt_cons_iff.mpr (.inl h)
theorem tk_succ {z : Str} {i c : Nat} (h : z.cps[i]? = some c) : z.cps.toList.take (i + 1) = z.cps.toList.take i ++ [c] := by
  have h2 : z.cps.toList[i]? = some c := by rw [Array.getElem?_toList]; exact h
  rw [List.take_add_one, h2]
  rfl
theorem tk_all (z : Str) : z.cps.toList.take z.cps.size = z.cps.toList := List.take_of_length_le (by rw [Array.length_toList]; exact Nat.le_refl _)
theorem not_str {d : PyData} (h : ∀ z, d ≠ .str z) : kitB (tyD d) "str" = some false ∧ nmD d = false := by
  cases d with
  | str z => exact absurd rfl (h z)
  | _ => exact ⟨by simp only [tyD]; decide +kernel, rfl⟩
theorem not_int {d : PyData} (h1 : ∀ n, d ≠ .int n) (h2 : ∀ b, d ≠ .bool b) : kitB (tyD d) "int" = some false ∧ isInD d = false := by
  cases d with
  | int n => exact absurd rfl (h1 n)
  | bool b => exact absurd rfl (h2 b)
  | _ => exact ⟨by simp only [tyD]; decide +kernel, rfl⟩
theorem not_tup {d : PyData} (h : ∀ ds, d ≠ .tuple ds) : kitB (tyD d) "tuple" = some false := by
  cases d with
  | tuple z => exact absurd rfl (h z)
  | _ => simp only [tyD]; decide +kernel
/-- its items ascend -/
def ascD (ds : List PyData) : Bool := (List.range (ds.length - 1)).all fun i => PySem.W.dataLt (ds.getD i .none) (ds.getD (i + 1) .none)
theorem depth_in {hi : Int} {d : PyData} (h : prD hi d = true) : ∃ z n, d = .tuple [.str z, .int n] := by
  unfold prD at h
  split at h
  · rename_i a b
    have h1 := (Bool.and_eq_true_iff.mp h).1
    have h2 := (Bool.and_eq_true_iff.mp h).2
    cases a with
    | str z =>
      cases b with
      | int n => exact ⟨z, n, rfl⟩
      | _ => cases h2
    | _ => cases h1
  · cases h
section
variable {X : Cx}
def rLtD (K : PySem.W.Frag) : R2 := fun x y H Q => ∃ d e, Dp K H x d ∧ Dp K H y e ∧ PySem.W.alike d e = true ∧ d ≠ .none ∧ d.depth ≤ 60 ∧ Q (.bl (PySem.W.dataLt d e)) H
theorem op_ltD (hu : X.A.units + 64 < cLine) : OpR X (compareOp .Lt) (rLtD X.K) := by
  intro pins s σ H x y v u Q I rx ry h
  obtain ⟨d, e, h1, h2, h3, h4, h5, q⟩ := h
  obtain ⟨as, r1⟩ := Dp.reads I d x v h1 rx
  obtain ⟨bs, r2⟩ := Dp.reads I e y u h2 ry
  exact PySem.W.lt_data r1 r2 h3 h4 (by have := Nat.min_le_left d.depth e.depth; omega) ⟨.bl _, H, I, rfl, q⟩
end

section
variable {P : Program} {w : World} {K : PySem.W.Frag}
                                                      {mg : Str → Option Value} {base : Heap}
def sp_w_tray (K : PySem.W.Frag) : Sp := fun vs H Q _ => ∃ (s : Addr) (ns : List Int) (i : Nat), vs = [.ref s, .int (i : Int)] ∧ SqL K H s (ns.map V.int) ∧ ∀ p a b c, H p = none → Q (.ref p) (upd H p (.lst [.int a, .int b, .int c]))
theorem ok_w_tray (T : T K mg) : FnOk P w K mg base CX0 1 T.f_w_tray T.d_w_tray ["script", "spot"] (sp_w_tray K) := by
  refine T.F_w_tray.ok sc_w_tray (fun vs H Q E h => ?_) (fun cdv A outer s H vs Q E hr h => ?_)
  · obtain ⟨s, ns, i, rfl, _⟩ := h
    rfl
  · obtain ⟨s, ns, i, rfl, hS, k⟩ := h
    have hu := hu_of hr
    refine ⟨_, (pss_cons (ps_set (i := 2) sc_w_tray.nd rfl (Or.inl rfl) (pe_ifExp (pt_cmpR op_lt (pv 1) (pe_callB call_len (by rfl) T.z_len (by decide +kernel) (pa_cons (pv 0) pa_nil)) (nomark _)) (pe_ix ix_seq (pv 0) (pv 1) (fun _ _ => rfl)) (pe_op op_add (pe_op op_mul pe_int (pv 1)) pe_int)))
      (pss_cons (ps_set (i := 3) sc_w_tray.nd rfl (Or.inl rfl) (pe_op op_mod (pe_callTy call_int1 (by rfl) T.z_int (by decide +kernel) (pa_cons (pe_callB call_abs (by rfl) T.z_abs (by decide +kernel) (pa_cons (pv 2) pa_nil)) pa_nil)) (pe_op op_powW (pe_op op_pow pe_int pe_int) pe_int)))
      (pss_cons (ps_set (i := 4) sc_w_tray.nd rfl (Or.inl rfl) (pe_op op_add (pe_op op_add (pe_op op_add (pe_op op_mul (pv 3) pe_int) (pe_op op_mul pe_int (pv 1))) (pe_op op_mul pe_int (pe_callTy call_int1 (by rfl) T.z_int (by decide +kernel) (pa_cons (pe_cmpR op_lt (pv 2) pe_int (nomark _)) pa_nil)))) pe_int))
      (pss_one (ps_ret (pe_lst (pa_cons (pe_callB (call_max2 rfl) (by rfl) T.z_max (by decide +kernel) (pa_cons pe_int (pa_cons (pe_op op_sub (pv 3) (pe_op op_pow pe_int pe_int)) pa_nil))) (pa_cons (pe_op op_mod (pe_callTy call_int1 (by rfl) T.z_int (by decide +kernel) (pa_cons (pv 4) pa_nil)) pe_int) (pa_cons pe_int pa_nil))))))))), ?_⟩
    refine ⟨_, rfl, _, rfl, _, _, rfl, .inl ⟨_, hS, rfl⟩, _, _, rfl, rfl, _, rfl, ?_⟩
    refine ite_join (fun v H' => H' = H ∧ ∃ z, v = .int z) (fun c Q' q => ?_) (fun c Q' q => ?_) ?_
    · have hi := of_decide_eq_true c
      rw [List.length_map] at hi
      obtain ⟨z, hz⟩ := at_ns (ns := ns) (i := i) (by omega)
      exact ⟨_, rfl, _, rfl, .inl ⟨_, _, _, _, rfl, rfl, hS, hz, q _ _ ⟨rfl, z, rfl⟩⟩⟩
    · exact ⟨_, rfl, _, _, rfl, rfl, .inl ⟨by decide, by decide⟩, _, _, rfl, rfl, q _ _ ⟨rfl, _, rfl⟩⟩
    rintro v H' ⟨rfl, z, rfl⟩
    refine ⟨_, rfl, _, rfl, .inl ⟨_, rfl, ?_⟩⟩
    refine ⟨_, _, rfl, rfl, ⟨by decide, by decide, by decide⟩, _, _, rfl, rfl, ⟨by decide, by decide +kernel⟩, _, _, rfl, rfl, (by show (0 : Int) < _; decide +kernel), ?_⟩
    refine ⟨_, rfl, _, _, rfl, rfl, .inr ⟨by decide, by decide⟩, ?_⟩
    refine ⟨_, rfl, _, _, rfl, rfl, .inl ⟨by decide, by decide⟩, _, _, rfl, rfl, ?_⟩
    refine ⟨_, rfl, _, _, rfl, rfl, .inr ⟨_, rfl, ?_⟩⟩
    refine ⟨_, _, rfl, rfl, .inl ⟨by decide, by decide⟩, _, _, rfl, rfl, _, _, rfl, rfl, ?_⟩
    refine ⟨_, rfl, _, _, rfl, rfl, ⟨by decide, by decide, by decide⟩, _, _, rfl, rfl, _, _, rfl, _, rfl, .inl ⟨_, rfl, ?_⟩⟩
    refine ⟨_, _, rfl, rfl, (by show (0 : Int) < _; decide), (by show 3 ≤ sizeLine; decide), fun p hp => ?_⟩
    exact k p _ _ _ hp
def sp_w_roll (K : PySem.W.Frag) : Sp := fun vs H Q _ => ∃ (r : Addr) (n : Int), vs = [.ref r, .int n] ∧ Rl H r ∧ 0 < n ∧ n.natAbs.log2 < 9000 ∧ ∀ v H', 0 ≤ v → v < n → Rl H' r → Only r H H' → Q (.int v) H'
theorem ok_w_roll (T : T K mg) : FnOk P w K mg base CX0 1 T.f_w_roll T.d_w_roll ["tray", "total"] (sp_w_roll K) := by
  refine T.F_w_roll.ok sc_w_roll (fun vs H Q E h => ?_) (fun cdv A outer s H vs Q E hr h => ?_)
  · obtain ⟨r, n, rfl, _⟩ := h
    rfl
  · obtain ⟨r, n, rfl, ⟨a, b, c, e⟩, h0, h9, k⟩ := h
    have hu := hu_of hr
    refine ⟨_, (pss_cons (ps_if (pt_cmpR op_gt (pe_ix ix_seq (pv 0) pe_int (fun _ _ => rfl)) pe_int (nomark _))
      (pss_cons (ps_set (i := 2) sc_w_roll.nd rfl (Or.inl rfl) (pe_op op_mod (pe_callTy call_int1 (by rfl) T.z_int (by decide +kernel) (pa_cons (pe_ix ix_seq (pv 0) pe_int (fun _ _ => rfl)) pa_nil)) (pv 1)))
      (pss_cons (ps_asg (pe_op op_fdivW (pe_ix ix_seq (pv 0) pe_int (fun _ _ => rfl)) (pv 1)) (pg_sub (pv 0) pe_int set_list))
      (pss_one (ps_ret (pv 2)))))
      pss_nil)
      (pss_cons (ps_asg (pe_op op_add (pe_ix ix_seq (pv 0) pe_int (fun _ _ => rfl)) pe_int) (pg_sub (pv 0) pe_int set_list))
      (pss_cons (ps_set (i := 3) sc_w_roll.nd rfl (Or.inl rfl) (pe_op op_mod (pe_callTy call_int1 (by rfl) T.z_int (by decide +kernel) (pa_cons (pe_op op_add (pe_ix ix_seq (pv 0) pe_int (fun _ _ => rfl)) (pe_op op_mul pe_int (pe_ix ix_seq (pv 0) pe_int (fun _ _ => rfl)))) pa_nil)) pe_int))
      (pss_cons (ps_set (i := 4) sc_w_roll.nd rfl (Or.inl rfl) (pe_op op_add (pe_op op_mul (pe_op op_mod (pe_callTy call_int1 (by rfl) T.z_int (by decide +kernel) (pa_cons (pe_op op_mul (pv 3) (pv 3)) pa_nil)) pe_int) (pv 3)) (pe_op op_mul pe_int (pe_ix ix_seq (pv 0) pe_int (fun _ _ => rfl)))))
      (pss_one (ps_ret (pe_op op_mod (pe_callTy call_int1 (by rfl) T.z_int (by decide +kernel) (pa_cons (pe_op op_fdivW (pe_op op_mod (pe_callTy call_int1 (by rfl) T.z_int (by decide +kernel) (pa_cons (pe_op op_add (pv 4) (pe_ix ix_seq (pv 0) pe_int (fun _ _ => rfl))) pa_nil)) pe_int) pe_int) pa_nil)) (pv 1)))))))), ?_⟩
    have u3 : ∀ {x y z : V} {G : Hp}, G r = some (.lst [x, y, z]) → SqL K G r [x, y, z] := fun g => SqL.of g
    refine ⟨_, rfl, .inl ⟨_, _, _, _, rfl, rfl, u3 e, rfl, ?_⟩⟩
    refine ⟨_, _, rfl, rfl, _, rfl, ?_⟩
    refine ite2 (fun c1 => ?_) (fun c1 => ?_)
    · refine ⟨_, rfl, .inl ⟨_, _, _, _, rfl, rfl, u3 e, rfl, .inl ⟨_, rfl, ?_⟩⟩⟩
      refine ⟨_, rfl, _, _, rfl, rfl, h0, ?_⟩
      refine ⟨_, rfl, .inl ⟨_, _, _, _, rfl, rfl, u3 e, rfl, ?_⟩⟩
      refine ⟨_, rfl, _, _, rfl, rfl, ⟨h0, h9⟩, _, rfl, _, _, _, 0, rfl, rfl, e, rfl, ?_⟩
      refine ⟨_, rfl, ?_⟩
      exact k _ _ (Int.emod_nonneg _ (by omega)) (Int.emod_lt_of_pos _ h0) ⟨_, _, _, upd_same⟩ Only.upd
    · refine ⟨_, rfl, .inl ⟨_, _, _, _, rfl, rfl, u3 e, rfl, ?_⟩⟩
      refine ⟨_, _, rfl, rfl, _, rfl, _, _, _, 2, rfl, rfl, e, rfl, ?_⟩
      have e2 : (upd H r (.lst [.int a, .int b, .int (c + 1)])) r = some (.lst [.int a, .int b, .int (c + 1)]) := upd_same
      refine ⟨_, rfl, .inl ⟨_, _, _, _, rfl, rfl, u3 e2, rfl, ?_⟩⟩
      refine ⟨_, rfl, .inl ⟨_, _, _, _, rfl, rfl, u3 e2, rfl, ?_⟩⟩
      refine ⟨_, _, rfl, rfl, .inl ⟨by decide, by decide⟩, _, _, rfl, rfl, .inl ⟨_, rfl, ?_⟩⟩
      refine ⟨_, _, rfl, rfl, (by show (0 : Int) < _; decide), ?_⟩
      have o1 : -(2 ^ 64) < (b + 922337203 * (c + 1)) % 2305843009213693951 ∧ (b + 922337203 * (c + 1)) % 2305843009213693951 < 2 ^ 64 := by omega
      refine ⟨_, rfl, _, rfl, _, _, rfl, rfl, .inl o1, .inl ⟨_, rfl, ?_⟩⟩
      refine ⟨_, _, rfl, rfl, (by show (0 : Int) < _; decide), _, rfl, _, _, rfl, rfl, .inr o1, ?_⟩
      refine ⟨_, rfl, .inl ⟨_, _, _, _, rfl, rfl, u3 e2, rfl, ?_⟩⟩
      refine ⟨_, _, rfl, rfl, .inl ⟨by decide, by decide⟩, _, _, rfl, rfl, ?_⟩
      refine ⟨_, rfl, _, rfl, .inl ⟨_, _, _, _, rfl, rfl, u3 e2, rfl, ?_⟩⟩
      refine ⟨_, _, rfl, rfl, .inl ⟨_, rfl, ?_⟩⟩
      refine ⟨_, _, rfl, rfl, (by show (0 : Int) < _; decide), ?_⟩
      refine ⟨_, _, rfl, rfl, ⟨by decide, by decide⟩, .inl ⟨_, rfl, ?_⟩⟩
      refine ⟨_, rfl, _, _, rfl, rfl, h0, ?_⟩
      exact k _ _ (Int.emod_nonneg _ (by omega)) (Int.emod_lt_of_pos _ h0) ⟨_, _, _, e2⟩ Only.upd
def sp_w_pick (K : PySem.W.Frag) : Sp := fun vs H Q _ => ∃ (r : Addr) (x : V) (xs : List V), vs = [.ref r, x] ∧ Rl H r ∧ SeqV K H r x xs ∧ 0 < xs.length ∧ xs.length ≤ sizeLine ∧ ∀ v H', v ∈ xs → Rl H' r → Only r H H' → Q v H'
theorem ok_w_pick (T : T K mg) : FnOk P w K mg base CX0 2 T.f_w_pick T.d_w_pick ["tray", "items"] (sp_w_pick K) := by
  have G_w_roll : FnOk P w K mg base CX0 1 T.f_w_roll T.d_w_roll ["tray", "total"] (sp_w_roll K) := ok_w_roll T
  refine T.F_w_pick.ok sc_w_pick (fun vs H Q E h => ?_) (fun cdv A outer s H vs Q E hr h => ?_)
  · obtain ⟨r, x, xs, rfl, _⟩ := h
    rfl
  · obtain ⟨r, x, xs, rfl, hR, hx, h0, h1, k⟩ := h
    have hu := hu_of hr
    have hr_w_roll : Room 1 _ := hr.mono (by decide)
    refine ⟨_, (pss_one (ps_ret (pe_ix ix_seq (pv 1) (pe_call G_w_roll hr_w_roll rfl T.m_w_roll T.F_w_roll.kp T.b_w_roll .nil pass0 (pa_cons (pv 0) (pa_cons (pe_callB call_len (by rfl) T.z_len (by decide +kernel) (pa_cons (pv 1) pa_nil)) pa_nil))) (fun _ _ => rfl)))), ?_⟩
    have hl : (xs.length : Int).natAbs.log2 < 9000 := by
      have : xs.length < 2 ^ 63 := Nat.lt_of_le_of_lt h1 (by decide)
      exact Nat.lt_trans (lg (b := 63) (by omega) (by omega) (by decide)) (by decide)
    refine ⟨_, rfl, _, rfl, _, rfl, x, xs.length, rfl, ?_, ?_⟩
    · rcases hx with ⟨l, rfl, hn, h | h⟩ | ⟨z, rfl, hz, rfl⟩
      · exact .inl ⟨_, h, rfl⟩
      · exact .inr ⟨_, h, rfl⟩
      · exact ⟨hz, by rw [List.length_map]; rfl⟩
    refine ⟨r, _, rfl, hR, by omega, hl, fun v H' v0 v1 R' O' => ?_⟩
    obtain ⟨y, hy, ha⟩ := ix_at v0 v1
    rcases hx with ⟨l, rfl, hn, h | h⟩ | ⟨z, rfl, hz, rfl⟩
    · exact .inl ⟨_, _, _, _, rfl, rfl, O'.seqL hn h, ha, k _ _ hy R' O'⟩
    · exact .inr (.inl ⟨_, _, _, _, rfl, rfl, O'.seqT hn h, ha, k _ _ hy R' O'⟩)
    · obtain ⟨i, hi⟩ : ∃ c, atI z.cps.toList v = some c := by
        unfold atI at ha ⊢
        rw [List.length_map] at ha
        cases e : ixN z.cps.toList.length v with
        | none => rw [e] at ha; cases ha
        | some j =>
          rw [e] at ha
          simp only [Option.bind_some] at ha ⊢
          rw [List.getElem?_map] at ha
          cases e2 : z.cps.toList[j]? with
          | none => rw [e2] at ha; cases ha
          | some c => exact ⟨c, rfl⟩
      have hc : i ∈ z.cps.toList := by
        unfold atI at hi
        cases e : ixN z.cps.toList.length v with
        | none => rw [e] at hi; cases hi
        | some j => rw [e] at hi; exact List.mem_of_getElem? hi
      exact .inr (.inr ⟨_, _, _, rfl, rfl, hz, hi, k _ _ (List.mem_map.mpr ⟨i, hc, rfl⟩) R' O'⟩)
def sp_is_name (K : PySem.W.Frag) : Sp := fun vs H Q _ => ∃ (x : V) (d : PyData), vs = [x] ∧ DD K H x d ∧ okD d ∧ ∀ H', Same H H' → Q (.bl (nmD d)) H'
theorem ok_is_name (T : T K mg) : FnOk P w K mg base CX0 1 T.f_is_name T.d_is_name ["value"] (sp_is_name K) := by
  refine T.F_is_name.ok sc_is_name (fun vs H Q E h => ?_) (fun cdv A outer s H vs Q E hr h => ?_)
  · obtain ⟨x, d, rfl, _⟩ := h
    rfl
  · obtain ⟨x, d, rfl, hx, hw, k⟩ := h
    have hu := hu_of hr
    obtain ⟨_, c_MAX_LETTERS⟩ := T.c_MAX_LETTERS
    refine ⟨_, (pss_cons (ps_if (PW.pt (pw_or (pt_not (pt_val (pe_callB call_isi (by rfl) T.z_isinstance (by decide +kernel) (pa_cons (pv 0) (pa_cons (pe_bltn (v := V.ty "str") (u := Value.type "str") (by rfl) T.z_str (by decide +kernel) rfl) pa_nil))))) (pw_or1 (pt_not (pt_chain op_le op_le pe_int (pe_callB call_len (by rfl) T.z_len (by decide +kernel) (pa_cons (pv 0) pa_nil)) (pe_glob (v := V.int 8) rfl c_MAX_LETTERS ⟨_, rfl⟩))))))
      (pss_one (ps_ret pe_bl))
      pss_nil)
      (pss_one (ps_ret (pe_callB (cr_all rfl) (by rfl) T.z_all (by decide +kernel) (pa_cons (pe_lc (own := [("letter", 1)]) (g := gName 1) rfl sc_is_name.nd (pi_str (pv 0)) (blkOk_by (N := ["value", "letter"]) (sc := defScope s_is_name) (by decide +kernel)) (fun _ _ _ _ _ => (pg_name (i := 1) sc_is_name.nd rfl (Or.inl rfl))) (fun _ _ _ _ _ => pts_nil) (fun _ _ _ _ _ => (pe_chain op_le_str op_le_str pe_str (pv 1) pe_str))) pa_nil))))), ?_⟩
    by_cases hs : ∃ z, d = .str z
    · obtain ⟨z, rfl⟩ := hs
      have hz := okD_str hw
      obtain rfl : x = .str z := by
        rcases hx with h | ⟨_, _, _, _, h⟩
        · cases h
          rfl
        · cases h
      refine ⟨_, rfl, _, _, _, _, true, rfl, .ty _, .base (.str _), kit_ty (by decide +kernel), _, rfl, iteF ?_⟩
      refine ⟨_, rfl, _, _, rfl, ⟨Nat.le_trans hz (by decide), rfl⟩, _, _, rfl, rfl, _, rfl, ?_⟩
      refine ite2 (fun c1 => ?_) (fun c1 => ?_)
      · have h1 := of_decide_eq_true c1
        refine ⟨_, _, rfl, rfl, _, rfl, ?_⟩
        by_cases h2 : (z.length : Int) ≤ 8
        · rw [decide_eq_true h2]
          refine iteF ?_
          refine ⟨_, rfl, _, rfl, fun D hD => ?_⟩
          refine lc_it walk_str (fun i H' => H' D = some (.lst (((z.cps.toList.take i).map fun c => decide (97 ≤ c) && decide (c ≤ 122)).map V.bl)) ∧ Same H H') ⟨upd_same, Same.new hD⟩ (fun _ _ _ _ => trivial) ?_ ?_
          · rintro i y H1 H2 hi ⟨eD, S⟩ ⟨rfl, c, hc, rfl⟩
            refine ⟨rfl, ?_⟩
            unfold tYes
            dsimp only
            rw [if_pos rfl]
            refine ⟨_, rfl, _, _, rfl, rfl, _, rfl, ?_⟩
            have done : ∀ b : Bool, b = (decide (97 ≤ c) && decide (c ≤ 122)) → ∃ acc, H2 D = some (.lst acc) ∧ acc.length < sizeLine ∧ (upd H2 D (.lst (acc ++ [V.bl b]))) D = some (.lst (((z.cps.toList.take (i + 1)).map fun c => decide (97 ≤ c) && decide (c ≤ 122)).map V.bl)) ∧ Same H (upd H2 D (.lst (acc ++ [V.bl b]))) := by
              rintro b rfl
              refine ⟨_, eD, ?_, ?_, Same.at hD S⟩
              · rw [List.length_map, List.length_map, List.length_take]
                have : z.cps.toList.length = z.length := by simp [Str.length]
                exact Nat.lt_of_le_of_lt (Nat.le_trans (Nat.min_le_right _ _) (by omega : z.cps.toList.length ≤ 100)) (by decide)
              · rw [upd_same, tk_succ hc, List.map_append, List.map_append]
                rfl
            refine ite2 (fun c2 => ?_) (fun c2 => ?_)
            · have h3 : 97 ≤ c := by
                rw [Bool.not_eq_true', decide_eq_false_iff_not] at c2
                have c3 : ¬ (([c] : List Nat) < [97]) := c2
                rw [lt_sign] at c3
                omega
              refine ⟨_, _, rfl, rfl, done _ ?_⟩
              rw [decide_eq_true h3, Bool.true_and]
              by_cases h4 : c ≤ 122
              · rw [decide_eq_true h4]
                show (!decide (([122] : List Nat) < [c])) = true
                rw [decide_eq_false (by rw [lt_sign]; omega)]
                rfl
              · rw [decide_eq_false h4]
                show (!decide (([122] : List Nat) < [c])) = false
                rw [decide_eq_true (by rw [lt_sign]; omega)]
                rfl
            · have h3 : ¬ 97 ≤ c := by
                rw [Bool.not_eq_true', decide_eq_false_iff_not] at c2
                have c3 := Classical.not_not.mp c2
                have c4 : ([c] : List Nat) < [97] := c3
                rw [lt_sign] at c4
                omega
              refine done _ ?_
              rw [decide_eq_false h3, Bool.false_and]
          · rintro H9 ⟨eD, S⟩
            refine ⟨_, _, rfl, SqL.of eD, ?_⟩
            refine bl_to ?_ (k _ S)
            rw [tk_all]
            show _ = (decide (1 ≤ z.length ∧ z.length ≤ 8) && _)
            rw [decide_eq_true (show 1 ≤ z.length ∧ z.length ≤ 8 by omega), Bool.true_and, List.all_map]
            rfl
        · rw [decide_eq_false h2]
          refine iteT ?_
          refine bl_to ?_ (k _ (Same.refl _))
          show false = (decide (1 ≤ z.length ∧ z.length ≤ 8) && _)
          rw [decide_eq_false (show ¬ (1 ≤ z.length ∧ z.length ≤ 8) by omega), Bool.false_and]
      · have h1 : ¬ (1 : Int) ≤ (z.length : Int) := fun q => c1 (decide_eq_true q)
        refine ⟨_, rfl, iteT ?_⟩
        refine bl_to ?_ (k _ (Same.refl _))
        show false = (decide (1 ≤ z.length ∧ z.length ≤ 8) && _)
        rw [decide_eq_false (show ¬ (1 ≤ z.length ∧ z.length ≤ 8) by omega), Bool.false_and]
    · have hn := not_str fun z e => hs ⟨z, e⟩
      refine ⟨_, rfl, _, _, _, _, false, rfl, .ty _, hx.ty, kit_ty hn.1, _, rfl, iteT ?_⟩
      exact iteT (bl_to hn.2.symm (k _ (Same.refl _)))
def sp_is_integer (K : PySem.W.Frag) : Sp := fun vs H Q _ => ∃ (x : V) (d : PyData), vs = [x] ∧ DD K H x d ∧ Q (.bl (isInD d)) H
theorem ok_is_integer (T : T K mg) : FnOk P w K mg base CX0 1 T.f_is_integer T.d_is_integer ["value"] (sp_is_integer K) := by
  refine T.F_is_integer.ok sc_is_integer (fun vs H Q E h => ?_) (fun cdv A outer s H vs Q E hr h => ?_)
  · obtain ⟨x, d, rfl, _⟩ := h
    rfl
  · obtain ⟨x, d, rfl, hx, k⟩ := h
    have hu := hu_of hr
    refine ⟨_, (pss_cons (ps_if (PW.pt (pw_or (pt_not (pt_val (pe_callB call_isi (by rfl) T.z_isinstance (by decide +kernel) (pa_cons (pv 0) (pa_cons (pe_bltn (v := V.ty "int") (u := Value.type "int") (by rfl) T.z_int (by decide +kernel) rfl) pa_nil))))) (pw_or1 (pt_val (pe_callB call_isi (by rfl) T.z_isinstance (by decide +kernel) (pa_cons (pv 0) (pa_cons (pe_bltn (v := V.ty "bool") (u := Value.type "bool") (by rfl) T.z_bool (by decide +kernel) rfl) pa_nil)))))))
      (pss_one (ps_ret pe_bl))
      pss_nil)
      (pss_one (ps_ret (pe_chain op_lt op_lt (pe_un un_neg (pe_op op_pow pe_int pe_int)) (pv 0) (pe_op op_pow pe_int pe_int))))), ?_⟩
    by_cases h1 : ∃ n, d = .int n
    · obtain ⟨n, rfl⟩ := h1
      obtain rfl : x = .int n := by
        rcases hx with h | ⟨_, _, _, _, h⟩
        · cases h
          rfl
        · cases h
      refine ⟨_, rfl, _, _, _, _, true, rfl, .ty _, .base (.int _), kit_ty (by decide +kernel), _, rfl, iteF ?_⟩
      refine ⟨_, rfl, _, _, _, _, false, rfl, .ty _, .base (.int _), kit_ty (by decide +kernel), _, rfl, iteF ?_⟩
      refine ⟨_, _, rfl, rfl, ⟨by decide, by decide, by decide⟩, _, rfl, _, rfl, _, _, rfl, rfl, _, rfl, ?_⟩
      have e1 : decide (-(10 ^ Int.toNat 12) < n) = decide (-1000000000000 < n) := rfl
      refine ite2 (fun c => ?_) (fun c => ?_)
      · refine ⟨_, _, rfl, rfl, ⟨by decide, by decide, by decide⟩, _, _, rfl, rfl, ?_⟩
        refine bl_to ?_ k
        show _ = (decide (-1000000000000 < n) && decide (n < 1000000000000))
        rw [← e1, c, Bool.true_and]
        rfl
      · refine bl_to ?_ k
        show _ = (decide (-1000000000000 < n) && decide (n < 1000000000000))
        rw [← e1, Bool.eq_false_iff.mpr c, Bool.false_and]
    · by_cases h2 : ∃ b, d = .bool b
      · obtain ⟨b, rfl⟩ := h2
        refine ⟨_, rfl, _, _, _, _, true, rfl, .ty _, hx.ty, kit_ty (a := "bool") (b := "int") (by decide +kernel), _, rfl, iteF ?_⟩
        refine ⟨_, rfl, _, _, _, _, true, rfl, .ty _, hx.ty, kit_ty (a := "bool") (b := "bool") (by decide +kernel), _, rfl, iteT ?_⟩
        exact k
      · have hn := not_int (fun n e => h1 ⟨n, e⟩) fun b e => h2 ⟨b, e⟩
        refine ⟨_, rfl, _, _, _, _, false, rfl, .ty _, hx.ty, kit_ty hn.1, _, rfl, iteT ?_⟩
        exact iteT (bl_to hn.2.symm k)
def sp_is_between (K : PySem.W.Frag) : Sp := fun vs H Q _ => ∃ (x : V) (d : PyData) (lo hi : Int), vs = [x, .int lo, .int hi] ∧ DD K H x d ∧ Q (.bl (inD lo hi d)) H
theorem ok_is_between (T : T K mg) : FnOk P w K mg base CX0 2 T.f_is_between T.d_is_between ["value", "low", "high"] (sp_is_between K) := by
  have G_is_integer : FnOk P w K mg base CX0 1 T.f_is_integer T.d_is_integer ["value"] (sp_is_integer K) := ok_is_integer T
  refine T.F_is_between.ok sc_is_between (fun vs H Q E h => ?_) (fun cdv A outer s H vs Q E hr h => ?_)
  · obtain ⟨x, d, lo, hi, rfl, _⟩ := h
    rfl
  · obtain ⟨x, d, lo, hi, rfl, hx, k⟩ := h
    have hu := hu_of hr
    have hr_is_integer : Room 1 _ := hr.mono (by decide)
    refine ⟨_, (pss_one (ps_ret (pe_and (pe_call G_is_integer hr_is_integer rfl T.m_is_integer T.F_is_integer.kp T.b_is_integer .nil pass0 (pa_cons (pv 0) pa_nil)) (pe_one (pe_chain op_le op_le (pv 1) (pv 0) (pv 2)))))), ?_⟩
    refine ⟨_, rfl, x, d, rfl, hx, _, rfl, ?_⟩
    by_cases h : isInD d = true
    · rw [h]
      refine iteT ?_
      obtain ⟨n, rfl⟩ : ∃ n, d = .int n := by
        cases d with
        | int n => exact ⟨n, rfl⟩
        | _ => cases h
      obtain rfl : x = .int n := by
        rcases hx with h | ⟨_, _, _, _, h⟩
        · cases h
          rfl
        · cases h
      have hi2 : (decide (-1000000000000 < n) && decide (n < 1000000000000)) = true := h
      have k2 : Q (.bl (decide (lo ≤ n) && decide (n ≤ hi))) H := bl_to (by show _ = ((decide (-1000000000000 < n) && decide (n < 1000000000000)) && _); rw [hi2, Bool.true_and]) k
      refine ⟨_, rfl, _, rfl, _, _, rfl, rfl, _, rfl, ?_⟩
      refine ite2 (fun c => ?_) (fun c => ?_)
      · exact ⟨_, rfl, _, _, rfl, rfl, bl_to (by rw [c, Bool.true_and]) k2⟩
      · exact bl_to (by rw [Bool.eq_false_iff.mpr c, Bool.false_and]) k2
    · rw [Bool.eq_false_iff.mpr h]
      refine iteF (bl_to ?_ k)
      cases d with
      | int n =>
        show false = ((decide (-1000000000000 < n) && decide (n < 1000000000000)) && _)
        have h3 : ¬ (decide (-1000000000000 < n) && decide (n < 1000000000000)) = true := h
        rw [Bool.eq_false_iff.mpr h3, Bool.false_and]
      | _ => rfl
def sp_check_integer (K : PySem.W.Frag) : Sp := fun vs H Q _ => ∃ (n : Int), vs = [.int n] ∧ (-1000000000000 < n ∧ n < 1000000000000) ∧ Q .non H
theorem ok_check_integer (T : T K mg) : FnOk P w K mg base CX0 2 T.f_check_integer T.d_check_integer ["value"] (sp_check_integer K) := by
  have G_is_integer : FnOk P w K mg base CX0 1 T.f_is_integer T.d_is_integer ["value"] (sp_is_integer K) := ok_is_integer T
  refine T.F_check_integer.ok sc_check_integer (fun vs H Q E h => ?_) (fun cdv A outer s H vs Q E hr h => ?_)
  · obtain ⟨n, rfl, _⟩ := h
    rfl
  · obtain ⟨n, rfl, hn, k⟩ := h
    have hu := hu_of hr
    have hr_is_integer : Room 1 _ := hr.mono (by decide)
    refine ⟨_, (pss_one (ps_if (pt_not (pt_val (pe_call G_is_integer hr_is_integer rfl T.m_is_integer T.F_is_integer.kp T.b_is_integer .nil pass0 (pa_cons (pv 0) pa_nil))))
      (pss_one ps_never)
      pss_nil)), ?_⟩
    refine ⟨_, rfl, _, .int n, rfl, .inl (.int n), _, rfl, ?_⟩
    rw [show isInD (.int n) = true from by show (decide (-1000000000000 < n) && decide (n < 1000000000000)) = true; rw [decide_eq_true hn.1, decide_eq_true hn.2]; rfl]
    exact iteF k
def sp_check_between (K : PySem.W.Frag) : Sp := fun vs H Q _ => ∃ (n lo hi : Int), vs = [.int n, .int lo, .int hi] ∧ (-1000000000000 < n ∧ n < 1000000000000) ∧ lo ≤ n ∧ n ≤ hi ∧ Q .non H
theorem ok_check_between (T : T K mg) : FnOk P w K mg base CX0 3 T.f_check_between T.d_check_between ["value", "low", "high"] (sp_check_between K) := by
  have G_is_between : FnOk P w K mg base CX0 2 T.f_is_between T.d_is_between ["value", "low", "high"] (sp_is_between K) := ok_is_between T
  refine T.F_check_between.ok sc_check_between (fun vs H Q E h => ?_) (fun cdv A outer s H vs Q E hr h => ?_)
  · obtain ⟨n, lo, hi, rfl, _⟩ := h
    rfl
  · obtain ⟨n, lo, hi, rfl, hn, h1, h2, k⟩ := h
    have hu := hu_of hr
    have hr_is_between : Room 2 _ := hr.mono (by decide)
    refine ⟨_, (pss_one (ps_if (pt_not (pt_val (pe_call G_is_between hr_is_between rfl T.m_is_between T.F_is_between.kp T.b_is_between .nil pass0 (pa_cons (pv 0) (pa_cons (pv 1) (pa_cons (pv 2) pa_nil))))))
      (pss_one ps_never)
      pss_nil)), ?_⟩
    refine ⟨_, rfl, _, rfl, _, rfl, _, .int n, lo, hi, rfl, .inl (.int n), _, rfl, ?_⟩
    rw [show inD lo hi (.int n) = true from by show ((decide (-1000000000000 < n) && decide (n < 1000000000000)) && (decide (lo ≤ n) && decide (n ≤ hi))) = true; rw [decide_eq_true hn.1, decide_eq_true hn.2, decide_eq_true h1, decide_eq_true h2]; rfl]
    exact iteF k
def sp_check_interval (K : PySem.W.Frag) : Sp := fun vs H Q _ => ∃ (n : Int), vs = [.int n] ∧ 1 ≤ n ∧ n ≤ 32 ∧ Q .non H
theorem ok_check_interval (T : T K mg) : FnOk P w K mg base CX0 4 T.f_check_interval T.d_check_interval ["value"] (sp_check_interval K) := by
  have G_check_between : FnOk P w K mg base CX0 3 T.f_check_between T.d_check_between ["value", "low", "high"] (sp_check_between K) := ok_check_between T
  refine T.F_check_interval.ok sc_check_interval (fun vs H Q E h => ?_) (fun cdv A outer s H vs Q E hr h => ?_)
  · obtain ⟨n, rfl, _⟩ := h
    rfl
  · obtain ⟨n, rfl, h1, h2, k⟩ := h
    have hu := hu_of hr
    have hr_check_between : Room 3 _ := hr.mono (by decide)
    obtain ⟨_, c_MAX_INTERVAL⟩ := T.c_MAX_INTERVAL
    refine ⟨_, (pss_one (ps_expr (pe_call G_check_between hr_check_between rfl T.m_check_between T.F_check_between.kp T.b_check_between .nil pass0 (pa_cons (pv 0) (pa_cons pe_int (pa_cons (pe_glob (v := V.int 32) rfl c_MAX_INTERVAL ⟨_, rfl⟩) pa_nil)))))), ?_⟩
    refine ⟨_, rfl, n, 1, 32, rfl, ⟨by omega, by omega⟩, h1, h2, ?_⟩
    exact k
def sp_times_alive (K : PySem.W.Frag) : Sp := fun vs H Q _ => ∃ (b e t n : Int), vs = [.int b, .int e, .int t, .int n] ∧ (-1000000000000 < b ∧ b ≤ e ∧ e < 1000000000000) ∧ (-1000000000000 < t ∧ t < 1000000000000) ∧ 1 ≤ n ∧ n ≤ 32 ∧ Q (.int ((t - b) / n - (t - e) / n)) H
theorem ok_times_alive (T : T K mg) : FnOk P w K mg base CX0 5 T.f_times_alive T.d_times_alive ["begin", "end", "tick", "interval"] (sp_times_alive K) := by
  have G_check_integer : FnOk P w K mg base CX0 2 T.f_check_integer T.d_check_integer ["value"] (sp_check_integer K) := ok_check_integer T
  have G_check_interval : FnOk P w K mg base CX0 4 T.f_check_interval T.d_check_interval ["value"] (sp_check_interval K) := ok_check_interval T
  refine T.F_times_alive.ok sc_times_alive (fun vs H Q E h => ?_) (fun cdv A outer s H vs Q E hr h => ?_)
  · obtain ⟨b, e, t, n, rfl, _⟩ := h
    rfl
  · obtain ⟨b, e, t, n, rfl, hb, ht, h1, h2, k⟩ := h
    have hu := hu_of hr
    have hr_check_integer : Room 2 _ := hr.mono (by decide)
    have hr_check_interval : Room 4 _ := hr.mono (by decide)
    refine ⟨_, (pss_cons (ps_expr (pe_call G_check_integer hr_check_integer rfl T.m_check_integer T.F_check_integer.kp T.b_check_integer .nil pass0 (pa_cons (pv 0) pa_nil)))
      (pss_cons (ps_expr (pe_call G_check_integer hr_check_integer rfl T.m_check_integer T.F_check_integer.kp T.b_check_integer .nil pass0 (pa_cons (pv 1) pa_nil)))
      (pss_cons (ps_if (pt_cmpR op_lt (pv 1) (pv 0) (nomark _))
      (pss_one ps_never)
      pss_nil)
      (pss_cons (ps_expr (pe_call G_check_integer hr_check_integer rfl T.m_check_integer T.F_check_integer.kp T.b_check_integer .nil pass0 (pa_cons (pv 2) pa_nil)))
      (pss_cons (ps_expr (pe_call G_check_interval hr_check_interval rfl T.m_check_interval T.F_check_interval.kp T.b_check_interval .nil pass0 (pa_cons (pv 3) pa_nil)))
      (pss_one (ps_ret (pe_op op_sub (pe_op op_fdivW (pe_op op_sub (pv 2) (pv 0)) (pv 3)) (pe_op op_fdivW (pe_op op_sub (pv 2) (pv 1)) (pv 3)))))))))), ?_⟩
    refine ⟨_, rfl, b, rfl, ⟨by omega, by omega⟩, ?_⟩
    refine ⟨_, rfl, e, rfl, ⟨by omega, by omega⟩, ?_⟩
    refine ⟨_, rfl, _, rfl, _, _, rfl, rfl, _, rfl, ?_⟩
    rw [decide_eq_false (show ¬ e < b by omega)]
    refine iteF ?_
    refine ⟨_, rfl, t, rfl, ⟨by omega, by omega⟩, ?_⟩
    refine ⟨_, rfl, n, rfl, h1, h2, ?_⟩
    have hl : n.natAbs.log2 < 9000 := Nat.lt_trans (lg (b := 6) (by omega) (by omega) (by decide)) (by decide)
    refine ⟨_, rfl, _, rfl, _, _, rfl, rfl, _, rfl, _, _, rfl, rfl, ⟨by omega, hl⟩, ?_⟩
    refine ⟨_, rfl, _, rfl, _, _, rfl, rfl, _, rfl, _, _, rfl, rfl, ⟨by omega, hl⟩, ?_⟩
    exact ⟨_, _, rfl, rfl, k⟩
end
end K43
namespace K43
open PySem L2
section
variable {P : Program} {w : World} {K : PySem.W.Frag}
                                                      {mg : Str → Option Value} {base : Heap}
/-- draws without putting back: some of the items, in some order -/
def sp_w_few (K : PySem.W.Frag) : Sp := fun vs H Q _ => ∃ (r l : Addr) (xs : List V) (many : Int), vs = [.ref r, .ref l, .int many] ∧ Rl H r ∧ (SqL K H l xs ∨ SqT K H l xs) ∧ xs.length ≤ 100 ∧ 0 ≤ many ∧ many ≤ 100 ∧
  ∀ l' ys rest H', Rl H' r → Only r H H' → H l' = none → H' l' = some (.lst ys) → xs.Perm (ys ++ rest) → (ys.length : Int) = (if (xs.length : Int) < many then (xs.length : Int) else many) → Q (.ref l') H'
theorem er_perm {α : Type} : ∀ {l : List α} {k : Nat} (h : k < l.length), (l[k] :: l.eraseIdx k).Perm l
  | [], k, h => absurd h (Nat.not_lt_zero k)
  | x :: l, 0, _ => .refl _
  | x :: l, k + 1, h => by
    have hk : k < l.length := Nat.lt_of_succ_lt_succ h
    have ih := er_perm hk
    exact (List.Perm.swap x l[k] _).trans (ih.cons x)
theorem perm_take {xs ys rest : List V} {k : Nat} {y : V} (h : xs.Perm (ys ++ rest)) (e : rest[k]? = some y) : xs.Perm ((ys ++ [y]) ++ rest.eraseIdx k) := by
  obtain ⟨hk, rfl⟩ := List.getElem?_eq_some_iff.mp e
  refine h.trans ?_
  rw [List.append_assoc]
  refine List.Perm.append_left ys ?_
  exact (er_perm hk).symm
theorem ok_w_few (T : T K mg) : FnOk P w K mg base CX0 2 T.f_w_few T.d_w_few ["tray", "items", "many"] (sp_w_few K) := by
  have G_w_roll : FnOk P w K mg base CX0 1 T.f_w_roll T.d_w_roll ["tray", "total"] (sp_w_roll K) := ok_w_roll T
  refine T.F_w_few.ok sc_w_few (fun vs H Q E h => ?_) (fun cdv A outer s H vs Q E hr h => ?_)
  · obtain ⟨r, l, xs, many, rfl, _⟩ := h
    rfl
  · obtain ⟨r, l, xs, many, rfl, hR, hl, h100, m0, m1, k⟩ := h
    have hu := hu_of hr
    have hr_w_roll : Room 1 _ := hr.mono (by decide)
    refine ⟨_, (pss_cons (ps_par (i := 3) (j := 4) (by rfl) sc_w_few.nd rfl rfl (by decide) rfl rfl (pa_cons (pe_callTy call_list_of (by rfl) T.z_list (by decide +kernel) (pa_cons (pv 1) pa_nil)) (pa_cons (pe_lst pa_nil) pa_nil)) (by rfl))
      (pss_cons (ps_for PassesOwn.never rfl (pi_range1 (by rfl) T.z_range (pa_cons (pe_callB (call_min2 rfl) (by rfl) T.z_min (by decide +kernel) (pa_cons (pv 2) (pa_cons (pe_callB call_len (by rfl) T.z_len (by decide +kernel) (pa_cons (pv 3) pa_nil)) pa_nil))) pa_nil)) (pg_name (i := 5) sc_w_few.nd rfl (Or.inl rfl))
      (pss_one (ps_expr (pe_bm PySem.F.plainAttrs_list PySem.F.slot_list_append PySem.F.type_list_append mt_append (pv 4) (pa_cons (pe_bm PySem.F.plainAttrs_list PySem.F.slot_list_pop PySem.F.type_list_pop mt_popAt (pv 3) (pa_cons (pe_call G_w_roll hr_w_roll rfl T.m_w_roll T.F_w_roll.kp T.b_w_roll .nil pass0 (pa_cons (pv 0) (pa_cons (pe_callB call_len (by rfl) T.z_len (by decide +kernel) (pa_cons (pv 3) pa_nil)) pa_nil))) pa_nil)) pa_nil)))))
      (pss_one (ps_ret (pv 4))))), ?_⟩
    refine ⟨_, rfl, l, xs, rfl, hl, fun a ha => ?_⟩
    refine ⟨by show 0 ≤ sizeLine; decide, fun b hb => ?_⟩
    refine ⟨_, _, rfl, ?_⟩
    have nab : b ≠ a := fun z => by rw [z, upd_same] at hb; cases hb
    have hb0 : H b = none := by
      rw [upd_ne nab] at hb
      exact hb
    have nra : r ≠ a := fun z => by obtain ⟨x, y, z', q⟩ := hR; rw [z, ha] at q; cases q
    have nrb : r ≠ b := fun z => by obtain ⟨x, y, z', q⟩ := hR; rw [z, hb0] at q; cases q
    have S2 : Same H (upd (upd H a (.lst xs)) b (.lst [])) := fun c o e => by
      rw [upd_ne (ne_of_none e hb0), upd_ne (ne_of_none e ha)]
      exact e
    have eA0 : (upd (upd H a (.lst xs)) b (.lst [])) a = some (.lst xs) := by rw [upd_ne nab.symm, upd_same]
    refine ⟨_, rfl, _, rfl, _, _, rfl, .inl ⟨_, SqL.of eA0, rfl⟩, _, _, rfl, _, rfl, by split <;> omega, by split <;> omega, ?_⟩
    refine for_range (n := (if (xs.length : Int) < many then (xs.length : Int) else many).toNat) (fun i σ H' => ∃ v, σ = [some (.ref r), some (.ref l), some (.int many), some (.ref a), some (.ref b), v] ∧ Rl H' r ∧ Only r H H' ∧ ∃ ys rest, H' a = some (.lst rest) ∧ H' b = some (.lst ys) ∧ xs.Perm (ys ++ rest) ∧ ys.length = i)
      ⟨none, rfl, Same.rl S2 hR, Same.only S2, [], xs, eA0, upd_same, .refl _, rfl⟩ ?_ ?_
    · rintro i σ H' hi ⟨v, rfl, R', O', ys, rest, eA, eB, pm, ly⟩
      have hpl := pm.length_eq
      rw [List.length_append] at hpl
      have hi2 : (i : Int) < (if (xs.length : Int) < many then (xs.length : Int) else many) := by omega
      have hrl : 0 < rest.length := by
        split at hi2 <;> omega
      refine ⟨_, rfl, .inl ⟨rfl, _, SqL.of eB⟩, ?_⟩
      refine ⟨_, rfl, .inl ⟨rfl, _, SqL.of eA⟩, ?_⟩
      refine ⟨_, rfl, _, rfl, _, _, rfl, .inl ⟨_, SqL.of eA, rfl⟩, r, _, rfl, R', by omega, ?_, fun v G4 v0 v1 R4 O4 => ?_⟩
      · exact Nat.lt_trans (lg (b := 63) (by omega) (by omega) (by decide)) (by decide)
      have eA4 : G4 a = some (.lst rest) := O4 _ _ nra.symm eA
      have eB4 : G4 b = some (.lst ys) := O4 _ _ nrb.symm eB
      have hv : v.toNat < rest.length := by omega
      have ey : rest[v.toNat]? = some rest[v.toNat] := List.getElem?_eq_getElem hv
      generalize rest[v.toNat] = y at ey
      refine ⟨a, rest, v, v.toNat, y, rfl, rfl, eA4, by omega, by omega, PySem.StrLaws.seqIndex_nonneg v0 (by omega), ey, ?_⟩
      have eB5 : (upd G4 a (.lst (rest.eraseIdx v.toNat))) b = some (.lst ys) := by rw [upd_ne nab]; exact eB4
      refine ⟨b, ys, y, rfl, rfl, eB5, by rw [sizeLine_eq]; omega, ?_⟩
      refine ⟨_, rfl, ?_, ?_, ys ++ [y], rest.eraseIdx v.toNat, ?_, upd_same, perm_take pm ey, ?_⟩
      · obtain ⟨x1, x2, x3, q⟩ := R4
        exact ⟨x1, x2, x3, by rw [upd_ne nrb, upd_ne nra]; exact q⟩
      · intro c o nc e
        rw [upd_ne (ne_of_none e hb0), upd_ne (ne_of_none e ha)]
        exact O4 _ _ nc (O' _ _ nc e)
      · rw [upd_ne nab.symm, upd_same]
      · rw [List.length_append, ly]
        rfl
    · rintro σ H' ⟨v, rfl, R', O', ys, rest, eA, eB, pm, ly⟩
      refine ⟨_, rfl, k b ys rest H' R' O' hb0 eB pm ?_⟩
      rw [ly]
      split <;> omega
end
end K43
/-! data with dicts: what they read as, repr; list(text), text * int -/
namespace RL
open PySem PySem.Spec PyProof.Rows L2
/-- a key as a datum -/
def keyD : Key → PyData
  | .inl i => .int i
  | .inr z => .str z
mutual
/-- a value that is a datum, dicts with int and text keys too -/
inductive DS (K : PySem.W.Frag) (H : Hp) : V → PyData → Prop
  | non : DS K H .non .none
  | bl (b : Bool) : DS K H (.bl b) (.bool b)
  | int (i : Int) : DS K H (.int i) (.int i)
  | str (x : Str) : DS K H (.str x) (.str x)
  | lst {a : Addr} {xs : List V} {ds : List PyData} : SqL K H a xs → DSs K H xs ds → DS K H (.ref a) (.list ds)
  | tup {a : Addr} {xs : List V} {ds : List PyData} : SqT K H a xs → DSs K H xs ds → DS K H (.ref a) (.tuple ds)
  | dic {a : Addr} {kvs : List (Key × V)} {es : List (PyData × PyData)} : H a = some (.dK kvs) → DSk K H kvs es → DS K H (.ref a) (.dict es)
inductive DSs (K : PySem.W.Frag) (H : Hp) : List V → List PyData → Prop
  | nil : DSs K H [] []
  | cons {v : V} {vs : List V} {d : PyData} {ds : List PyData} : DS K H v d → DSs K H vs ds → DSs K H (v :: vs) (d :: ds)
inductive DSk (K : PySem.W.Frag) (H : Hp) : List (Key × V) → List (PyData × PyData) → Prop
  | nil : DSk K H [] []
  | cons {k : Key} {v : V} {kvs : List (Key × V)} {d : PyData} {es : List (PyData × PyData)} : DS K H v d → DSk K H kvs es → DSk K H ((k, v) :: kvs) ((keyD k, d) :: es)
end
section
variable {X : Cx} {pins : List (Addr × Obj)}
                                             {σ : L2.St} {H : Hp} {s : Shared}
theorem pairs_rel {prog : Program} {w : World} : ∀ {es : List DictEntry} {vs : List (Key × Value)}, Pairs (mixKind prog w) es vs → ∀ {kvs : List (Key × V)}, KV kvs vs → Vals (kvs.map (·.2)) (es.map (·.val)) ∧ Vals (kvs.map fun kv => kV kv.1) (es.map (·.key))
  | _, _, .nil, _, h => by
    unfold KV at h
    cases h
    exact ⟨.nil, .nil⟩
  | _, _, .cons hk hv hr, _, h => by
    unfold KV at h
    cases h with
    | cons h1 h2 =>
      obtain ⟨e1, e2⟩ := h1
      have ih := pairs_rel hr h2
      refine ⟨.cons (by dsimp only; rw [hv]; exact e2) ih.1, .cons ?_ ih.2⟩
      dsimp only
      rw [e1]
      exact keyIs_rel hk
mutual
theorem DS.reads (I : Inv X pins σ H s) : ∀ (d : PyData) (v : V) (u : Value), DS X.K H v d → RelV v u → ∃ as, Reads s.heap u d as
  | .none, _, _, h, r => by
    cases h
    cases r
    exact ⟨_, Reads.none⟩
  | .bool b, _, _, h, r => by
    cases h
    cases r
    exact ⟨_, Reads.bool b⟩
  | .int i, _, _, h, r => by
    cases h
    obtain ⟨t, rfl⟩ := r
    exact ⟨_, Reads.int i t⟩
  | .str x, _, _, h, r => by
    cases h
    obtain ⟨t, rfl⟩ := r
    exact ⟨_, Reads.str x t⟩
  | .list ds, _, _, h, r => by
    cases h with
    | lst hs ha =>
      cases r
      obtain ⟨its, rv, ⟨o, n, ho, hc, _, hd⟩, _⟩ := I.list hs
      obtain ⟨as, hr⟩ := DSs.reads I ds _ its ha rv
      exact ⟨_, Reads.list ho hc hd hr⟩
  | .tuple ds, _, _, h, r => by
    cases h with
    | tup hs ha =>
      cases r
      obtain ⟨its, rv, ⟨o, ho, hc, n, hd⟩, _⟩ := I.tuple hs
      obtain ⟨as, hr⟩ := DSs.reads I ds _ its ha rv
      exact ⟨_, Reads.tuple ho hc hd hr⟩
  | .dict es, _, _, h, r => by
    cases h with
    | dic ha hk =>
      cases r
      obtain ⟨_, _, vs, kv, o, ee, ep, h1, h2, h3, _, hp, _⟩ := dk_of I.hok ha
      obtain ⟨r1, r2⟩ := pairs_rel hp kv
      obtain ⟨as, a1⟩ := DSk.readsK I es _ (ee.toList.map (·.key)) hk r2
      obtain ⟨bs, a2⟩ := DSk.readsV I es _ (ee.toList.map (·.val)) hk r1
      exact ⟨_, Reads.dict h1 h2.1 h3 a1 a2⟩
theorem DSs.reads (I : Inv X pins σ H s) : ∀ (ds : List PyData) (vs : List V) (us : List Value), DSs X.K H vs ds → Vals vs us → ∃ as, ReadsAll s.heap us ds as
  | [], _, _, h, r => by
    cases h
    cases r
    exact ⟨_, ReadsAll.nil⟩
  | d :: ds, _, _, h, r => by
    cases h with
    | cons h1 h2 =>
      cases r with
      | cons r1 r2 =>
        obtain ⟨as, a1⟩ := DS.reads I d _ _ h1 r1
        obtain ⟨bs, a2⟩ := DSs.reads I ds _ _ h2 r2
        exact ⟨_, ReadsAll.cons a1 a2⟩
theorem DSk.readsV (I : Inv X pins σ H s) : ∀ (es : List (PyData × PyData)) (kvs : List (Key × V)) (us : List Value), DSk X.K H kvs es → Vals (kvs.map (·.2)) us → ∃ as, ReadsAll s.heap us (es.map (·.2)) as
  | [], _, _, h, r => by
    cases h
    cases r
    exact ⟨_, ReadsAll.nil⟩
  | (kd, d) :: es, _, _, h, r => by
    cases h with
    | cons h1 h2 =>
      cases r with
      | cons r1 r2 =>
        obtain ⟨as, a1⟩ := DS.reads I d _ _ h1 r1
        obtain ⟨bs, a2⟩ := DSk.readsV I es _ _ h2 r2
        exact ⟨_, ReadsAll.cons a1 a2⟩
theorem DSk.readsK (I : Inv X pins σ H s) : ∀ (es : List (PyData × PyData)) (kvs : List (Key × V)) (us : List Value), DSk X.K H kvs es → Vals (kvs.map fun kv => kV kv.1) us → ∃ as, ReadsAll s.heap us (es.map (·.1)) as
  | [], _, _, h, r => by
    cases h
    cases r
    exact ⟨_, ReadsAll.nil⟩
  | (kd, d) :: es, _, _, h, r => by
    cases h with
    | @cons k _ _ _ _ h1 h2 =>
      cases r with
      | cons r1 r2 =>
        obtain ⟨bs, a2⟩ := DSk.readsK I es _ _ h2 r2
        cases k with
        | inl i =>
          obtain ⟨t, rfl⟩ := r1
          exact ⟨_, ReadsAll.cons (Reads.int i t) a2⟩
        | inr z =>
          obtain ⟨t, rfl⟩ := r1
          exact ⟨_, ReadsAll.cons (Reads.str z t) a2⟩
end
/-! ### what it shows -/
mutual
theorem DS.show (I : Inv X pins σ H s) : ∀ (d : PyData) (v : V) (u : Value), DS X.K H v d → RelV v u → d.showable = true → d.shown.length ≤ sizeLine → ∃ bs, ReadAtMost s.heap d.depth bs ∧ ReprK X.prog X.w bs s.heap d.depth u d.shown
  | .none, _, _, h, r, _, _ => by
    cases h
    cases r
    exact ⟨[], (fun _ h => nomatch h), by simp only [PyData.shown]; exact .of_is ReprIs.none _ _ _⟩
  | .bool b, _, _, h, r, _, _ => by
    cases h
    cases r
    exact ⟨[], (fun _ h => nomatch h), by simp only [PyData.shown]; exact .of_is (ReprIs.bool b) _ _ _⟩
  | .int i, _, _, h, r, hs, _ => by
    cases h
    obtain ⟨t, rfl⟩ := r
    exact ⟨[], (fun _ h => nomatch h), by simp only [PyData.shown]; exact .of_is (ReprIs.int t (by simpa [PyData.showable] using hs)) _ _ _⟩
  | .str x, _, _, h, r, _, hz => by
    cases h
    obtain ⟨t, rfl⟩ := r
    exact ⟨[], (fun _ h => nomatch h), by simp only [PyData.shown]; exact .of_is (ReprIs.str x t (by simpa only [PyData.shown] using hz)) _ _ _⟩
  | .list ds, _, _, h, r, hs, hz => by
    obtain ⟨as, rd⟩ := DS.reads I _ _ _ h r
    cases h with
    | lst hq ha =>
      cases r
      have hz' : (listText (PyData.shownAll ds)).length ≤ sizeLine := by simpa only [PyData.shown] using hz
      obtain ⟨its, rv, ⟨o, n, h1, h2, _, h3⟩, _⟩ := I.list hq
      obtain ⟨bs, hb, hk⟩ := DSs.show I ds _ its ha rv (by simpa [PyData.showable] using hs) (fun t ht => Nat.le_trans (listText_mem_le ht) hz')
      have hna := not_mem_of_deeper rd (by simp only [PyData.depth]; omega) hb
      refine ⟨_ :: bs, ReadAtMost.cons rd (by simp only [PyData.depth]; omega) hb, ?_⟩
      simp only [PyData.depth, PyData.shown]
      cases its with
      | nil =>
        cases rv
        cases ha
        simp only [PyData.shownAll, listText_nil]
        exact ReprK.listEmpty h1 h2 h3
      | cons x l => exact ReprK.list h1 h2 h3 hna
                                                  (by simpa using hk.length_eq) (fun i y e => hk.item i y (by simpa using e))
  | .tuple ds, _, _, h, r, hs, hz => by
    obtain ⟨as, rd⟩ := DS.reads I _ _ _ h r
    cases h with
    | tup hq ha =>
      cases r
      have hz' : (tupleText (PyData.shownAll ds)).length ≤ sizeLine := by simpa only [PyData.shown] using hz
      obtain ⟨its, rv, ⟨o, h1, h2, n, h3⟩, _⟩ := I.tuple hq
      obtain ⟨bs, hb, hk⟩ := DSs.show I ds _ its ha rv (by simpa [PyData.showable] using hs) (fun t ht => Nat.le_trans (tupleText_mem_le ht) hz')
      have hna := not_mem_of_deeper rd (by simp only [PyData.depth]; omega) hb
      refine ⟨_ :: bs, ReadAtMost.cons rd (by simp only [PyData.depth]; omega) hb, ?_⟩
      simp only [PyData.depth, PyData.shown]
      exact ReprK.tuple h1 h2 h3 hna (by simpa using hk)
  | .dict es, _, _, h, r, hs, hz => by
    obtain ⟨as, rd⟩ := DS.reads I _ _ _ h r
    cases h with
    | dic ha hk =>
      cases r
      have hz' : (dictText (PyData.shownKv es)).length ≤ sizeLine := by simpa only [PyData.shown] using hz
      obtain ⟨_, hsys, vs, kv, o, ee, ep, h1, h2, h3, _, hp, _⟩ := dk_of I.hok ha
      obtain ⟨r1, r2⟩ := pairs_rel hp kv
      obtain ⟨hs1, hs2⟩ := PyData.showableKv_split es (by simpa [PyData.showable] using hs)
      obtain ⟨b1, hb1, k1⟩ := DSk.showK I es _ (ee.toList.map (·.key)) hk r2 hs1 (fun t ht => let ⟨p, hp, hl⟩ := PyData.shownKv_key_le es t ht; Nat.le_trans hl (Nat.le_trans (dictText_mem_le hp) hz'))
      obtain ⟨b2, hb2, k2⟩ := DSk.showV I es _ (ee.toList.map (·.val)) hk r1 hs2 (fun t ht => let ⟨p, hp, hl⟩ := PyData.shownKv_val_le es t ht; Nat.le_trans hl (Nat.le_trans (dictText_mem_le hp) hz'))
      have hb : ReadAtMost s.heap (PyData.depthKv es) (b1 ++ b2) := (hb1.mono (PyData.depthAll_keys_le es)).append (hb2.mono (PyData.depthAll_vals_le es))
      have hna := not_mem_of_deeper rd (by simp only [PyData.depth]; omega) hb
      refine ⟨_ :: (b1 ++ b2), ReadAtMost.cons rd (by simp only [PyData.depth]; omega) hb, ?_⟩
      simp only [PyData.depth, PyData.shown, PyData.shownKv_eq]
      exact ReprK.dict h1 h2.1 h3 hsys hna (ReprEntriesK.of_two ee.toList _ _
        (k1.more_le (fun b hb => List.mem_append_left _ hb) (PyData.depthAll_keys_le es)) (k2.more_le (fun b hb => List.mem_append_right _ hb) (PyData.depthAll_vals_le es)))
theorem DSs.show (I : Inv X pins σ H s) : ∀ (ds : List PyData) (vs : List V) (us : List Value), DSs X.K H vs ds → Vals vs us → PyData.showableAll ds = true → (∀ t ∈ PyData.shownAll ds, t.length ≤ sizeLine) → ∃ bs, ReadAtMost s.heap (PyData.depthAll ds) bs ∧ ReprAllK X.prog X.w bs s.heap (PyData.depthAll ds) us (PyData.shownAll ds)
  | [], _, _, h, r, _, _ => by
    cases h
    cases r
    exact ⟨[], (fun _ h => nomatch h), by simp only [PyData.shownAll]; exact .nil⟩
  | d :: ds, _, _, h, r, hs, hz => by
    cases h with
    | cons h1 h2 =>
      cases r with
      | cons r1 r2 =>
        have hs' : d.showable = true ∧ PyData.showableAll ds = true := by simpa [PyData.showableAll] using hs
        obtain ⟨b1, hb1, k1⟩ := DS.show I d _ _ h1 r1 hs'.1 (hz _ (by simp only [PyData.shownAll]; exact List.mem_cons_self ..))
        obtain ⟨b2, hb2, k2⟩ := DSs.show I ds _ _ h2 r2 hs'.2 (fun t ht => hz t (by simp only [PyData.shownAll]; exact List.mem_cons_of_mem _ ht))
        refine ⟨b1 ++ b2, ?_, ?_⟩
        · simp only [PyData.depthAll]
          exact (hb1.mono (Nat.le_max_left _ _)).append (hb2.mono (Nat.le_max_right _ _))
        · simp only [PyData.depthAll, PyData.shownAll]
          exact .cons ((k1.more fun b hb => List.mem_append_left _ hb).level_le
                                                                                (Nat.le_max_left _ _)) (k2.more_le (fun b hb => List.mem_append_right _ hb) (Nat.le_max_right _ _))
theorem DSk.showV (I : Inv X pins σ H s) : ∀ (es : List (PyData × PyData)) (kvs : List (Key × V)) (us : List Value), DSk X.K H kvs es → Vals (kvs.map (·.2)) us → PyData.showableAll (es.map (·.2)) = true → (∀ t ∈ PyData.shownAll (es.map (·.2)), t.length ≤ sizeLine) →
    ∃ bs, ReadAtMost s.heap (PyData.depthAll (es.map (·.2))) bs ∧ ReprAllK X.prog X.w bs s.heap (PyData.depthAll (es.map (·.2))) us (PyData.shownAll (es.map (·.2)))
  | [], _, _, h, r, _, _ => by
    cases h
    cases r
    exact ⟨[], (fun _ h => nomatch h), by simp only [List.map_nil, PyData.shownAll]; exact .nil⟩
  | (kd, d) :: es, _, _, h, r, hs, hz => by
    cases h with
    | cons h1 h2 =>
      cases r with
      | cons r1 r2 =>
        have hs' : d.showable = true ∧ PyData.showableAll (es.map (·.2)) = true := by simpa [PyData.showableAll] using hs
        obtain ⟨b1, hb1, k1⟩ := DS.show I d _ _ h1 r1 hs'.1 (hz _ (by simp only [List.map_cons, PyData.shownAll]; exact List.mem_cons_self ..))
        obtain ⟨b2, hb2, k2⟩ := DSk.showV I es _ _ h2 r2 hs'.2 (fun t ht => hz t (by simp only [List.map_cons, PyData.shownAll]; exact List.mem_cons_of_mem _ ht))
        refine ⟨b1 ++ b2, ?_, ?_⟩
        · simp only [List.map_cons, PyData.depthAll]
          exact (hb1.mono (Nat.le_max_left _ _)).append (hb2.mono (Nat.le_max_right _ _))
        · simp only [List.map_cons, PyData.depthAll, PyData.shownAll]
          exact .cons ((k1.more fun b hb => List.mem_append_left _ hb).level_le
                                                                                (Nat.le_max_left _ _)) (k2.more_le (fun b hb => List.mem_append_right _ hb) (Nat.le_max_right _ _))
theorem DSk.showK (I : Inv X pins σ H s) : ∀ (es : List (PyData × PyData)) (kvs : List (Key × V)) (us : List Value), DSk X.K H kvs es → Vals (kvs.map fun kv => kV kv.1) us → PyData.showableAll (es.map (·.1)) = true → (∀ t ∈ PyData.shownAll (es.map (·.1)), t.length ≤ sizeLine) →
    ∃ bs, ReadAtMost s.heap (PyData.depthAll (es.map (·.1))) bs ∧ ReprAllK X.prog X.w bs s.heap (PyData.depthAll (es.map (·.1))) us (PyData.shownAll (es.map (·.1)))
  | [], _, _, h, r, _, _ => by
    cases h
    cases r
    exact ⟨[], (fun _ h => nomatch h), by simp only [List.map_nil, PyData.shownAll]; exact .nil⟩
  | (kd, d) :: es, _, _, h, r, hs, hz => by
    cases h with
    | @cons k _ _ _ _ h1 h2 =>
      cases r with
      | cons r1 r2 =>
        have hs' : (keyD k).showable = true ∧ PyData.showableAll (es.map (·.1)) = true := by simpa [PyData.showableAll] using hs
        have hz1 : (keyD k).shown.length ≤ sizeLine := hz _ (by simp only [List.map_cons, PyData.shownAll]; exact List.mem_cons_self ..)
        obtain ⟨b2, hb2, k2⟩ := DSk.showK I es _ _ h2 r2 hs'.2 (fun t ht => hz t (by simp only [List.map_cons, PyData.shownAll]; exact List.mem_cons_of_mem _ ht))
        refine ⟨b2, ?_, ?_⟩
        · simp only [List.map_cons, PyData.depthAll]
          exact hb2.mono (Nat.le_max_right _ _)
        · simp only [List.map_cons, PyData.depthAll, PyData.shownAll]
          refine .cons ?_ (k2.more_le (fun b hb => hb) (Nat.le_max_right _ _))
          cases k with
          | inl i =>
            obtain ⟨t, rfl⟩ := r1
            simp only [keyD, PyData.shown]
            exact .of_is (ReprIs.int t (by simpa [keyD, PyData.showable] using hs'.1)) _ _ _
          | inr z =>
            obtain ⟨t, rfl⟩ := r1
            simp only [keyD, PyData.shown] at hz1 ⊢
            exact .of_is (ReprIs.str z t hz1) _ _ _
end
end
/-! ### repr -/
section
variable {X : Cx}
def rReprD (K : PySem.W.Frag) : List V → Hp → VK → Prop := fun xs H Q => ∃ (a : Addr) (d : PyData), xs = [.ref a] ∧ DS K H (.ref a) d ∧ d.showable = true ∧ d.shown.length ≤ sizeLine ∧ d.depth ≤ 60 ∧ Q (.str d.shown) H
theorem cr_reprD (hgd : X.A.guards = some []) (hu : X.A.units + 64 < cLine) : CallR X (.builtin "repr") (rReprD X.K) := by
  intro pins s σ H xs us Q I r h
  obtain ⟨a, d, rfl, hd, h1, h2, h3, q⟩ := h
  obtain ⟨u, rfl, ru⟩ := vals1 r
  obtain rfl : u = Value.ref a := ru
  have fin : ∀ h' u tk, (∀ b o, s.heap.get? b = some o → h'.get? b = some o) → EP X pins σ Q (.str d.shown u) { s with heap := h', toks := tk } := fun h' u tk k => ⟨.str _, H, I.kept (t' := tk) k, ⟨_, rfl⟩, q⟩
  obtain ⟨as, rd⟩ := DS.reads I _ _ _ hd rfl
  obtain ⟨bs, hb, hk⟩ := DS.show I _ _ _ hd rfl h1 h2
  cases hd with
  | @lst _ xs ds hq ha =>
    have hz' : (listText (PyData.shownAll ds)).length ≤ sizeLine := by simpa only [PyData.shown] using h2
    obtain ⟨its, rv, ⟨o, n, e1, e2, _, e3⟩, _⟩ := I.list hq
    obtain ⟨bs, hb, hk⟩ := DSs.show I ds _ its ha rv (by simpa [PyData.showable] using h1) (fun t ht => Nat.le_trans (listText_mem_le ht) hz')
    have hna := not_mem_of_deeper rd (by simp only [PyData.depth]; omega) hb
    simp only [PyData.depth] at h3
    simp only [PyData.shown] at fin
    refine PySem.call_repr_slot (by omega) ⟨o, e1, e2⟩ PySem.F.slot_list_repr.toG ?_
    cases its with
    | nil =>
      cases rv
      cases ha
      simp only [PyData.shownAll, listText_nil] at fin
      exact call_list_repr_empty ⟨o, e1, e2⟩ e1 e3 ⟨_, _, rfl, fin s.heap _ _ fun _ _ e => e⟩
    | cons x l =>
      exact call_list_reprK e1 e2 e3 hna (by simpa using hk.length_eq) (fun i y e => hk.item i y (by simpa using e)) hgd (fun b _ => Clear.nil b) (by show X.A.units + 1 + _ < cLine; omega) (fun _ _ e => e) (fun h' u tk k => ⟨_, _, rfl, fin h' u tk k⟩) hz'
  | @tup _ xs ds hq ha =>
    have hz' : (tupleText (PyData.shownAll ds)).length ≤ sizeLine := by simpa only [PyData.shown] using h2
    obtain ⟨its, rv, ⟨o, e1, e2, n, e3⟩, _⟩ := I.tuple hq
    obtain ⟨bs, hb, hk⟩ := DSs.show I ds _ its ha rv (by simpa [PyData.showable] using h1) (fun t ht => Nat.le_trans (tupleText_mem_le ht) hz')
    have hna := not_mem_of_deeper rd (by simp only [PyData.depth]; omega) hb
    simp only [PyData.depth] at h3
    simp only [PyData.shown] at fin
    refine PySem.call_repr_slot (by omega) ⟨o, e1, e2⟩ PySem.F.slot_tuple_repr ?_
    exact call_tuple_reprK e1 e2 e3 hna (by simpa using hk) hgd (fun b _ => Clear.nil b) (by show X.A.units + 1 + _ < cLine; omega) (fun _ _ e => e) (fun h' u tk k => ⟨_, _, rfl, fin h' u tk k⟩) hz'
  | @dic _ kvs es ha hkv =>
    have hz' : (dictText (PyData.shownKv es)).length ≤ sizeLine := by simpa only [PyData.shown] using h2
    obtain ⟨_, hsys, vs, kv, o, ee, ep, e1, e2, e3, _, hp, _⟩ := dk_of I.hok ha
    obtain ⟨r1, r2⟩ := pairs_rel hp kv
    obtain ⟨hs1, hs2⟩ := PyData.showableKv_split es (by simpa [PyData.showable] using h1)
    obtain ⟨b1, hb1, k1⟩ := DSk.showK I es _ (ee.toList.map (·.key)) hkv r2 hs1 (fun t ht => let ⟨p, hp, hl⟩ := PyData.shownKv_key_le es t ht; Nat.le_trans hl (Nat.le_trans (dictText_mem_le hp) hz'))
    obtain ⟨b2, hb2, k2⟩ := DSk.showV I es _ (ee.toList.map (·.val)) hkv r1 hs2 (fun t ht => let ⟨p, hp, hl⟩ := PyData.shownKv_val_le es t ht; Nat.le_trans hl (Nat.le_trans (dictText_mem_le hp) hz'))
    have hb : ReadAtMost s.heap (PyData.depthKv es) (b1 ++ b2) := (hb1.mono (PyData.depthAll_keys_le es)).append (hb2.mono (PyData.depthAll_vals_le es))
    have hna := not_mem_of_deeper rd (by simp only [PyData.depth]; omega) hb
    simp only [PyData.depth] at h3
    simp only [PyData.shown, PyData.shownKv_eq] at fin
    refine PySem.call_repr_slot (by omega) ⟨o, e1, e2.1⟩ PySem.F.slot_dict_repr ?_
    exact call_dict_reprK e1 e2.1 e3 hsys hna (ReprEntriesK.of_two ee.toList _ _
      (k1.more_le (fun b hb => List.mem_append_left _ hb) (PyData.depthAll_keys_le es)) (k2.more_le (fun b hb => List.mem_append_right _ hb) (PyData.depthAll_vals_le es))) hgd (fun b _ => Clear.nil b) (by show X.A.units + 1 + _ < cLine; omega) (fun _ _ e => e) (fun h' u tk k => ⟨_, _, rfl, fin h' u tk k⟩) (by rw [← PyData.shownKv_eq]; exact hz')
/-! ### list(text) -/
def rListStr : List V → Hp → VK → Prop := fun xs H Q => ∃ z : Str, xs = [.str z] ∧ z.length ≤ sizeLine ∧ ∀ l, H l = none → Q (.ref l) (upd H l (.lst (z.cps.toList.map fun c => V.str ⟨#[c]⟩)))
theorem cr_listStr (hc : X.calm = true) : CallR X (.type "list") rListStr := by
  intro pins s σ H xs us Q I r h
  obtain ⟨z, rfl, hz, q⟩ := h
  obtain ⟨u, rfl, ru⟩ := vals1 r
  obtain ⟨t, rfl⟩ := ru
  refine call_list_str (I.ok.hd hc) z t (fun h' tk acc' c' kp hS hacc => ?_) hz
  refine ⟨.ref s.heap.objs.size, upd H s.heap.objs.size (.lst (z.cps.toList.map fun c => V.str ⟨#[c]⟩)), I.laid kp (Nat.le_refl _) (show ObjOk X.prog X.w _ _ _ (.lst _) from ⟨?_, acc'.toList, c', ?_, ?_⟩), rfl, q _ (I.hok.fresh (Nat.le_refl _))⟩
  · rw [List.length_map, Array.length_toList]; exact hz
  · refine vals_of_at (by rw [List.length_map, Array.length_toList, Array.length_toList, hacc.1]) fun j x w h1 h2 => ?_
    obtain ⟨c, u, hk, rfl⟩ := hacc.2 j w (by rw [← Array.getElem?_toList]; exact h2)
    rw [List.getElem?_map, Array.getElem?_toList, hk] at h1
    cases h1
    exact ⟨u, rfl⟩
  · rw [Array.toArray_toList]; exact hS
/-! ### text * int -/
def rMulS : R2 := fun x y H Q => ∃ (z : Str) (n : Int), x = .str z ∧ y = .int n ∧ MulOk z n ∧ Q (.str (Txt.mul z n)) H
theorem op_mulS : OpR X (binaryOp .Mult) rMulS := by
  intro pins s σ H x y v u Q I rx ry h
  obtain ⟨z, n, rfl, rfl, ok, q⟩ := h
  obtain ⟨t, rfl⟩ := rx
  obtain ⟨t', rfl⟩ := ry
  exact SB.mul ok fun t k => ⟨.str _, H, I.tok _, ⟨_, rfl⟩, q⟩
end
end RL
namespace K43
open PySem L2
open PyProof.Rows PySem.Spec
/-- names with their begins and ends -/
abbrev Rws := List (Str × Int × Int)
def Kvs (L : List (Str × Addr)) : List (Key × V) := L.map fun p => (Sum.inr p.1, V.ref p.2)
def TupAt (H : Hp) (t : Addr) (b e : Int) : Prop := H t = some (.tup [.int b, .int e])
inductive Tups (H : Hp) : List (Str × Addr) → Rws → Prop
  | nil : Tups H [] []
  | cons {n : Str} {t : Addr} {b e : Int} {L : List (Str × Addr)} {R : Rws} : TupAt H t b e → Tups H L R → Tups H ((n, t) :: L) ((n, b, e) :: R)
/-- what keeps tuples -/
def KT (H H' : Hp) : Prop := ∀ t xs, H t = some (.tup xs) → H' t = some (.tup xs)
theorem KT.refl {H : Hp} : KT H H := fun _ _ e => e
theorem KT.trans {H H1 H2 : Hp} (a : KT H H1) (b : KT H1 H2) : KT H H2 := fun t xs e => b t xs (a t xs e)
theorem KT.same {H H' : Hp} (s : Same H H') : KT H H' := fun t xs e => s t _ e
theorem KT.only {H H' : Hp} {r : Addr} (o : Only r H H') (h : Rl H r) : KT H H' := fun t xs e => o t _ (fun w => by obtain ⟨x, y, z, q⟩ := h; rw [w, q] at e; cases e) e
theorem KT.put {H : Hp} {d : Addr} {o u : HO} (h : H d = some u) (n : ∀ xs, u ≠ .tup xs) : KT H (upd H d o) := fun t xs e => by
  rw [upd_ne (fun w => n xs (by rw [w, h] at e; exact Option.some.inj e))]
  exact e
theorem KT.new {H : Hp} {d : Addr} {o : HO} (h : H d = none) : KT H (upd H d o) := fun t xs e => by rw [upd_ne (ne_of_none e h)]; exact e
theorem Tups.keep {H H' : Hp} (k : KT H H') : ∀ {L : List (Str × Addr)} {R : Rws}, Tups H L R → Tups H' L R
  | _, _, .nil => .nil
  | _, _, .cons h t => .cons (k _ _ h) (Tups.keep k t)
theorem Tups.names {H : Hp} : ∀ {L : List (Str × Addr)} {R : Rws}, Tups H L R → L.map (·.1) = R.map (·.1)
  | _, _, .nil => rfl
  | _, _, .cons _ t => by rw [List.map_cons, List.map_cons, Tups.names t]
theorem Tups.len {H : Hp} {L : List (Str × Addr)} {R : Rws} (h : Tups H L R) : L.length = R.length := by
  rw [← List.length_map (f := (·.1)) (as := L), h.names, List.length_map]
theorem Tups.snoc {H : Hp} {n : Str} {t : Addr} {b e : Int} : ∀ {L : List (Str × Addr)} {R : Rws}, Tups H L R → TupAt H t b e → Tups H (L ++ [(n, t)]) (R ++ [(n, b, e)])
  | _, _, .nil, q => .cons q .nil
  | _, _, .cons h t, q => .cons h (Tups.snoc t q)
theorem Tups.get {H : Hp} {n : Str} : ∀ {L : List (Str × Addr)} {R : Rws}, Tups H L R → n ∈ R.map (·.1) → ∃ t b e, valV (Kvs L) (.inr n) = some (.ref t) ∧ TupAt H t b e ∧ (n, b, e) ∈ R
  | _, _, .nil, h => by cases h
  | _, _, .cons (n := m) (t := t) (b := b) (e := e) (L := L) (R := R) h ts, hn => by
    by_cases c : m = n
    · subst c
      exact ⟨t, b, e, valV_pos (p := ((Sum.inr m : Key), V.ref t)) rfl, h, List.mem_cons_self⟩
    · rcases List.mem_cons.mp hn with q | q
      · exact absurd q.symm c
      · obtain ⟨t', b', e', h1, h2, h3⟩ := Tups.get ts q
        exact ⟨t', b', e', (valV_neg (p := ((Sum.inr m : Key), V.ref t)) (fun z => c (Sum.inr.inj z))).trans h1, h2, List.mem_cons_of_mem _ h3⟩
theorem nodup_uniq : ∀ {R : Rws} {n : Str} {p q : Int × Int}, (R.map (·.1)).Nodup → (n, p) ∈ R → (n, q) ∈ R → p = q
  | [], _, _, _, _, h, _ => by cases h
  | (m, u) :: R, n, p, q, nd, h1, h2 => by
    rw [List.map_cons, List.nodup_cons] at nd
    rcases List.mem_cons.mp h1 with e1 | e1
    · rcases List.mem_cons.mp h2 with e2 | e2
      · cases e1; cases e2; rfl
      · cases e1
        exact absurd (List.mem_map.mpr ⟨_, e2, rfl⟩) nd.1
    · rcases List.mem_cons.mp h2 with e2 | e2
      · cases e2
        exact absurd (List.mem_map.mpr ⟨_, e1, rfl⟩) nd.1
      · exact nodup_uniq nd.2 e1 e2
theorem Tups.at {H : Hp} {L : List (Str × Addr)} {R : Rws} (h : Tups H L R) (nd : (R.map (·.1)).Nodup) {n : Str} {b e : Int} (m : (n, b, e) ∈ R) : ∃ t, valV (Kvs L) (.inr n) = some (.ref t) ∧ TupAt H t b e := by
  obtain ⟨t, b', e', h1, h2, h3⟩ := h.get (n := n) (List.mem_map.mpr ⟨_, m, rfl⟩)
  have := nodup_uniq nd m h3
  cases this
  exact ⟨t, h1, h2⟩
theorem valV_none {L : List (Str × Addr)} {n : Str} (h : n ∉ L.map (·.1)) : valV (Kvs L) (.inr n) = none := by
  cases e : valV (Kvs L) (.inr n) with
  | none => rfl
  | some v =>
    refine absurd ?_ h
    have := valV_in e
    unfold Kvs at this
    rw [List.map_map] at this
    obtain ⟨p, hp, q⟩ := List.mem_map.mp this
    exact List.mem_map.mpr ⟨p, hp, Sum.inr.inj q⟩
theorem kvs_snoc (L : List (Str × Addr)) (n : Str) (t : Addr) : Kvs (L ++ [(n, t)]) = Kvs L ++ [(Sum.inr n, V.ref t)] := by
  unfold Kvs
  rw [List.map_append]
  rfl
theorem putK_kvs {L : List (Str × Addr)} {n : Str} {t : Addr} (h : n ∉ L.map (·.1)) : putK (Kvs L) (.inr n) (.ref t) = Kvs (L ++ [(n, t)]) := by
  rw [putK_new _ (valV_none h), kvs_snoc]
theorem kvs_len (L : List (Str × Addr)) : (Kvs L).length = L.length := List.length_map ..
theorem kvs_keys (L : List (Str × Addr)) : (Kvs L).map (·.1) = (L.map (·.1)).map Sum.inr := by
  unfold Kvs
  rw [List.map_map, List.map_map]
  rfl
theorem mergeK_kvs : ∀ (M L : List (Str × Addr)), ((L ++ M).map (·.1)).Nodup → mergeK (Kvs L) (Kvs M) = Kvs (L ++ M)
  | [], L, _ => by rw [List.append_nil]; rfl
  | (n, t) :: M, L, nd => by
    have hn : n ∉ L.map (·.1) := fun h => by
      rw [List.map_append, List.map_cons] at nd
      have := (List.nodup_append.mp nd).2.2 n h n List.mem_cons_self
      exact this rfl
    have e : mergeK (Kvs L) (Kvs ((n, t) :: M)) = mergeK (putK (Kvs L) (.inr n) (.ref t)) (Kvs M) := rfl
    rw [e, putK_kvs hn, mergeK_kvs M (L ++ [(n, t)]) (by rw [List.append_assoc]; exact nd), List.append_assoc]
    rfl
/-- such a dict as a datum -/
def rowD (r : Str × Int × Int) : PyData × PyData := (.str r.1, .tuple [.int r.2.1, .int r.2.2])
def rowsD (R : Rws) : PyData := .dict (R.map rowD)
theorem tupAt_ds {K : PySem.W.Frag} {H : Hp} {t : Addr} {b e : Int} (h : TupAt H t b e) : RL.DS K H (.ref t) (.tuple [.int b, .int e]) := .tup (SqT.of h) (.cons (.int _) (.cons (.int _) .nil))
theorem Tups.dsk {K : PySem.W.Frag} {H : Hp} : ∀ {L : List (Str × Addr)} {R : Rws}, Tups H L R → RL.DSk K H (Kvs L) (R.map rowD)
  | _, _, .nil => .nil
  | _, _, .cons h t => .cons (k := Sum.inr _) (tupAt_ds h) (Tups.dsk t)
theorem rows_ds {K : PySem.W.Frag} {H : Hp} {a : Addr} {L : List (Str × Addr)} {R : Rws} (ha : H a = some (.dK (Kvs L))) (h : Tups H L R) : RL.DS K H (.ref a) (rowsD R) := .dic ha h.dsk
/-! ### sorting -/
theorem risingS_pw : ∀ (p : Str) (l : List Str), risingS p l = true → (∀ y ∈ l, ltCps y.cps.toList p.cps.toList = false) ∧ l.Pairwise (fun a b => ltCps b.cps.toList a.cps.toList = false)
  | p, [], _ => ⟨(fun _ h => by cases h), List.Pairwise.nil⟩
  | p, x :: r, h => by
    have h' : (!ltCps x.cps.toList p.cps.toList && risingS x r) = true := h
    rw [Bool.and_eq_true] at h'
    obtain ⟨h1, h2⟩ := h'
    obtain ⟨i1, i2⟩ := risingS_pw x r h2
    have hx : ltCps x.cps.toList p.cps.toList = false := by simpa using h1
    refine ⟨fun y hy => ?_, List.pairwise_cons.mpr ⟨i1, i2⟩⟩
    rcases List.mem_cons.mp hy with rfl | hy
    · exact hx
    · have hy2 := i1 y hy
      rw [ltCps_eq] at hx hy2 ⊢
      rw [decide_eq_false_iff_not] at hx hy2 ⊢
      exact List.not_lt.mpr (List.le_trans (List.not_lt.mp hx) (List.not_lt.mp hy2))
theorem sortedS_pw {l : List Str} (h : sortedS l = true) : l.Pairwise (fun a b => ltCps b.cps.toList a.cps.toList = false) := by
  cases l with
  | nil => exact List.Pairwise.nil
  | cons x r =>
    obtain ⟨a, b⟩ := risingS_pw x r h
    exact List.pairwise_cons.mpr ⟨a, b⟩
theorem str_ext {a b : Str} (h : a.cps.toList = b.cps.toList) : a = b := by
  obtain ⟨⟨a⟩⟩ := a
  obtain ⟨⟨b⟩⟩ := b
  simp only at h
  rw [h]
theorem sorted_eq {xs ys zs : List Str} (p1 : ys.Perm xs) (p2 : zs.Perm xs) (s1 : sortedS ys = true) (s2 : sortedS zs = true) : ys = zs := by
  refine List.Perm.eq_of_pairwise (le := fun a b => ltCps b.cps.toList a.cps.toList = false) (fun a b _ _ h1 h2 => ?_) (sortedS_pw s1) (sortedS_pw s2) (p1.trans p2.symm)
  rw [ltCps_eq, decide_eq_false_iff_not] at h1 h2
  exact str_ext (List.le_antisymm (List.not_lt.mp h1) (List.not_lt.mp h2))
/-- the rows in the order of their names -/
structure Srd (R S : Rws) : Prop where
  pm : S.Perm R
  so : sortedS (S.map (·.1)) = true
theorem Srd.eq {R S S' : Rws} (nd : (R.map (·.1)).Nodup) (a : Srd R S) (b : Srd R S') : S = S' := by
  have e := sorted_eq (a.pm.map (·.1)) (b.pm.map (·.1)) a.so b.so
  have key : ∀ {X Y : Rws}, X.map (·.1) = Y.map (·.1) → (∀ x ∈ X, x ∈ R) → (∀ y ∈ Y, y ∈ R) → X = Y := by
    intro X
    induction X with
    | nil =>
      intro Y h _ _
      cases Y with
      | nil => rfl
      | cons _ _ => cases h
    | cons x X ih =>
      intro Y h h1 h2
      cases Y with
      | nil => cases h
      | cons y Y =>
        obtain ⟨xn, xp⟩ := x
        obtain ⟨yn, yp⟩ := y
        obtain ⟨e1, e2⟩ := List.cons.inj h
        obtain rfl : xn = yn := e1
        have : xp = yp := nodup_uniq nd (h1 _ List.mem_cons_self) (h2 _ List.mem_cons_self)
        rw [this, ih e2 (fun x hx => h1 x (List.mem_cons_of_mem _ hx)) (fun x hx => h2 x (List.mem_cons_of_mem _ hx))]
  exact key e (fun x hx => a.pm.mem_iff.mp hx) (fun x hx => b.pm.mem_iff.mp hx)
theorem Srd.nodup {R S : Rws} (nd : (R.map (·.1)).Nodup) (a : Srd R S) : (S.map (·.1)).Nodup := (a.pm.map (·.1)).nodup_iff.mpr nd
/-- a span of an interval -/
def SpOk (T : Int) (r : Str × Int × Int) : Prop := 1 ≤ r.2.2 - r.2.1 ∧ r.2.2 - r.2.1 ≤ 8 * T
def Near (c : Int) (r : Str × Int × Int) : Prop := -c ≤ r.2.1 ∧ r.2.2 ≤ c
def Fin1 (t : Int) (r : Str × Int × Int) : Prop := Near 1000 r ∧ -t ≤ r.2.1 ∧ r.2.2 ≤ 11 * t
end K43
namespace K43
open PySem L2
open PyProof.Rows PySem.Spec
abbrev tx (cs : List Nat) : Str := ⟨cs.toArray⟩
abbrev chV (c : Nat) : V := V.str ⟨#[c]⟩
def LETC : List Nat := [97, 98, 99, 100, 101, 102, 103, 104, 105, 106, 107, 108, 109, 110, 111, 112, 113, 114, 115, 116, 117, 118, 119, 120, 121, 122]
def low (cs : List Nat) : Prop := ∀ c ∈ cs, 97 ≤ c ∧ c ≤ 122
theorem low_letc : low LETC := by
  show ∀ c ∈ LETC, 97 ≤ c ∧ c ≤ 122
  decide
theorem nd_letc : LETC.Nodup := by decide
theorem letters_eq : ((Str.ofString "abcdefghijklmnopqrstuvwxyz").cps.toList.map fun c => V.str ⟨#[c]⟩) = LETC.map chV := by rfl
theorem tx_inj {a b : List Nat} (h : tx a = tx b) : a = b := by
  have : a.toArray = b.toArray := congrArg Str.cps h
  exact congrArg Array.toList this
theorem ch_inj {a b : Nat} (h : chV a = chV b) : a = b := by
  have h1 : (⟨#[a]⟩ : Str) = ⟨#[b]⟩ := V.str.inj h
  have h2 : (#[a] : Array Nat) = #[b] := congrArg Str.cps h1
  simpa using h2
theorem join_ones : ∀ cs : List Nat, Txt.join (Str.ofString "") (cs.map fun c => (⟨#[c]⟩ : Str)) = tx cs := by
  have e0 : Str.ofString "" = Str.empty := by rfl
  have key : ∀ cs : List Nat, Str.join Str.empty (cs.map fun c => (⟨#[c]⟩ : Str)) = tx cs := by
    intro cs
    induction cs with
    | nil => rfl
    | cons c cs ih =>
      cases cs with
      | nil => rfl
      | cons d cs =>
        show (⟨#[c]⟩ : Str) ++ Str.empty ++ Str.join Str.empty ((d :: cs).map fun c => (⟨#[c]⟩ : Str)) = _
        rw [ih]
        show (⟨(#[c] ++ (#[] : Array Nat)) ++ (d :: cs).toArray⟩ : Str) = ⟨(c :: d :: cs).toArray⟩
        simp
  intro cs
  rw [TL.join_eq, e0, key]
theorem nmC_tx {cs : List Nat} (h1 : 1 ≤ cs.length) (h2 : cs.length ≤ 8) (h : low cs) : nmC (tx cs) = true := by
  unfold nmC
  have e : (tx cs).length = cs.length := by show (cs.toArray).size = _; simp
  rw [e, decide_eq_true ⟨h1, h2⟩, Bool.true_and, List.all_eq_true]
  intro c hc
  have hc' : c ∈ cs := by simpa using hc
  rw [decide_eq_true (h c hc').1, decide_eq_true (h c hc').2]
  rfl
theorem sub_map {α : Type} {f : α → V} {xs : List α} : ∀ {ys : List V}, (∀ y ∈ ys, y ∈ xs.map f) → ∃ cs : List α, ys = cs.map f ∧ ∀ c ∈ cs, c ∈ xs
  | [], _ => ⟨[], rfl, fun _ h => by cases h⟩
  | y :: ys, h => by
    obtain ⟨cs, e, m⟩ := sub_map (ys := ys) fun z hz => h z (List.mem_cons_of_mem _ hz)
    obtain ⟨c, hc, e2⟩ := List.mem_map.mp (h y List.mem_cons_self)
    refine ⟨c :: cs, by rw [List.map_cons, e, e2], fun d hd => ?_⟩
    rcases List.mem_cons.mp hd with rfl | hd
    · exact hc
    · exact m d hd
theorem nd_of_map {α β : Type} {f : α → β} {cs : List α} (h : (cs.map f).Nodup) : cs.Nodup := by
  unfold List.Nodup at h ⊢
  rw [List.pairwise_map] at h
  exact h.imp fun hab e => hab (by rw [e])
theorem nd_map {α β : Type} {f : α → β} {cs : List α} (inj : ∀ a ∈ cs, ∀ b ∈ cs, f a = f b → a = b) (h : cs.Nodup) : (cs.map f).Nodup := by
  induction cs with
  | nil => exact List.nodup_nil
  | cons c cs ih =>
    rw [List.nodup_cons] at h
    rw [List.map_cons, List.nodup_cons]
    refine ⟨fun hm => ?_, ih (fun a ha b hb => inj a (List.mem_cons_of_mem _ ha) b (List.mem_cons_of_mem _ hb)) h.2⟩
    obtain ⟨d, hd, e⟩ := List.mem_map.mp hm
    have := inj d (List.mem_cons_of_mem _ hd) c List.mem_cons_self e
    exact h.1 (this ▸ hd)
theorem few_of {α : Type} {f : α → V} {xs : List α} (inj : ∀ a ∈ xs, ∀ b ∈ xs, f a = f b → a = b) (nd : xs.Nodup) {ys rest : List V} (pm : (xs.map f).Perm (ys ++ rest)) : ∃ cs : List α, ys = cs.map f ∧ (∀ c ∈ cs, c ∈ xs) ∧ cs.Nodup := by
  obtain ⟨cs, rfl, m⟩ := sub_map (f := f) (xs := xs) (ys := ys) fun y hy => pm.mem_iff.mpr (List.mem_append_left _ hy)
  exact ⟨cs, rfl, m, nd_of_map (List.nodup_append.mp (pm.nodup_iff.mp (nd_map inj nd))).1⟩
theorem few_letters {ys rest : List V} (pm : (LETC.map chV).Perm (ys ++ rest)) : ∃ cs : List Nat, ys = cs.map chV ∧ low cs ∧ cs.Nodup := by
  obtain ⟨cs, e, m, nd⟩ := few_of (fun a _ b _ h => ch_inj h) nd_letc pm
  exact ⟨cs, e, fun c hc => low_letc c (m c hc), nd⟩
theorem chs_map (cs : List Nat) : cs.map chV = (cs.map fun c => (⟨#[c]⟩ : Str)).map V.str := by
  rw [List.map_map]
  rfl
theorem ones_len (cs : List Nat) : ((cs.map fun c => (⟨#[c]⟩ : Str)).map (·.length)).sum = cs.length := by
  induction cs with
  | nil => rfl
  | cons c cs ih =>
    rw [List.map_cons, List.map_cons, List.sum_cons, ih, List.length_cons]
    show 1 + cs.length = cs.length + 1
    omega
theorem cut_tx (cs : List Nat) (k : Nat) : cutS (tx cs) none (some (k : Int)) = tx (cs.take k) := by
  unfold cutS
  rw [HT.sIx_none, HT.sIx_nat]
  have e : (tx cs).length = cs.length := by show (cs.toArray).size = _; simp
  rw [e]
  show (⟨((cs.toArray.toList.drop 0).take (min k cs.length - 0)).toArray⟩ : Str) = _
  simp only [List.drop_zero, Nat.sub_zero]
  congr 2
  show cs.take (min k cs.length) = cs.take k
  rcases Nat.le_total k cs.length with h | h
  · rw [Nat.min_eq_left h]
  · rw [Nat.min_eq_right h, List.take_length, List.take_of_length_le h]
section
variable {P : Program} {w : World} {K : PySem.W.Frag}
                                                      {mg : Str → Option Value} {base : Heap}
/-- the names: different, each a name -/
def sp_w_names (K : PySem.W.Frag) : Sp := fun vs H Q _ => ∃ (r : Addr) (many : Nat), vs = [.ref r, .int (many : Int)] ∧ Rl H r ∧ 1 ≤ many ∧ many ≤ 8 ∧
  ∀ l (ns : List Str) H', Rl H' r → Only r H H' → H l = none → H' l = some (.lst (ns.map V.str)) → ns.Nodup → ns.length = many → (∀ n ∈ ns, nmC n = true) → Q (.ref l) H'
theorem ok_w_names (T : T K mg) : FnOk P w K mg base CX0 3 T.f_w_names T.d_w_names ["tray", "many"] (sp_w_names K) := by
  have G_w_few : FnOk P w K mg base CX0 2 T.f_w_few T.d_w_few ["tray", "items", "many"] (sp_w_few K) := ok_w_few T
  have G_w_pick : FnOk P w K mg base CX0 2 T.f_w_pick T.d_w_pick ["tray", "items"] (sp_w_pick K) := ok_w_pick T
  have G_w_roll : FnOk P w K mg base CX0 1 T.f_w_roll T.d_w_roll ["tray", "total"] (sp_w_roll K) := ok_w_roll T
  refine T.F_w_names.ok sc_w_names (fun vs H Q E h => ?_) (fun cdv A outer s H vs Q E hr h => ?_)
  · obtain ⟨r, many, rfl, _⟩ := h
    rfl
  · obtain ⟨r, many, rfl, hR, m1, m8, k⟩ := h
    have hu := hu_of hr
    have hr_w_few : Room 2 _ := hr.mono (by decide)
    have hr_w_pick : Room 2 _ := hr.mono (by decide)
    have hr_w_roll : Room 1 _ := hr.mono (by decide)
    refine ⟨_, (pss_cons (ps_set (i := 2) sc_w_names.nd rfl (Or.inr rfl) (pe_callTy (RL.cr_listStr rfl) (by rfl) T.z_list (by decide +kernel) (pa_cons pe_str pa_nil)))
      (pss_cons (ps_if (pt_cmpR op_eq (pe_call G_w_roll hr_w_roll rfl T.m_w_roll T.F_w_roll.kp T.b_w_roll .nil pass0 (pa_cons (pv 0) (pa_cons pe_int pa_nil))) pe_int (nomark _))
      (pss_cons (ps_set (i := 3) sc_w_names.nd rfl (Or.inr rfl) (pe_join pe_str (pe_lc (own := [("turn", 6)]) (g := gName 6) rfl sc_w_names.nd (pi_range1 (by rfl) T.z_range (pa_cons pe_int pa_nil)) (blkOk_by (N := ["tray", "many", "letters", "stem", "found", "letter", "turn", "size"]) (sc := defScope s_w_names) (by decide +kernel)) (fun _ _ _ _ _ => (pg_name (i := 6) sc_w_names.nd rfl (Or.inl rfl))) (fun _ _ _ _ _ => pts_nil) (fun _ _ _ _ _ => (pe_call G_w_pick hr_w_pick rfl T.m_w_pick T.F_w_pick.kp T.b_w_pick .nil pass0 (pa_cons (pv 0) (pa_cons (pv 2) pa_nil)))))))
      (pss_one (ps_ret (pe_lc (own := [("size", 7)]) (g := gName 7) rfl sc_w_names.nd (pi_list (pe_call G_w_few hr_w_few rfl T.m_w_few T.F_w_few.kp T.b_w_few .nil pass0 (pa_cons (pv 0) (pa_cons (pe_lst (pa_cons pe_int (pa_cons pe_int (pa_cons pe_int (pa_cons pe_int (pa_cons pe_int (pa_cons pe_int (pa_cons pe_int (pa_cons pe_int pa_nil))))))))) (pa_cons (pv 1) pa_nil))))) (blkOk_by (N := ["tray", "many", "letters", "stem", "found", "letter", "turn", "size"]) (sc := defScope s_w_names) (by decide +kernel)) (fun _ _ _ _ _ => (pg_name (i := 7) sc_w_names.nd rfl (Or.inl rfl))) (fun _ _ _ _ _ => pts_nil) (fun _ _ _ _ _ => (pe_slice sl_str (pv 3) po_none (po_some (pv 7))))))))
      pss_nil)
      (pss_cons (ps_asg (pe_tup (pa_cons (pe_join pe_str (pe_call G_w_few hr_w_few rfl T.m_w_few T.F_w_few.kp T.b_w_few .nil pass0 (pa_cons (pv 0) (pa_cons (pv 2) (pa_cons (pe_call G_w_roll hr_w_roll rfl T.m_w_roll T.F_w_roll.kp T.b_w_roll .nil pass0 (pa_cons (pv 0) (pa_cons pe_int pa_nil))) pa_nil))))) (pa_cons (pe_lst pa_nil) pa_nil))) (pg_tup rfl (pgs_cons (pg_name (i := 3) sc_w_names.nd rfl (Or.inr rfl)) (pgs_cons (pg_name (i := 4) sc_w_names.nd rfl (Or.inl rfl)) pgs_nil))))
      (pss_cons (ps_for PassesOwn.never rfl (pi_list (pe_call G_w_few hr_w_few rfl T.m_w_few T.F_w_few.kp T.b_w_few .nil pass0 (pa_cons (pv 0) (pa_cons (pv 2) (pa_cons (pv 1) pa_nil))))) (pg_name (i := 5) sc_w_names.nd rfl (Or.inl rfl))
      (pss_one (ps_expr (pe_bm PySem.F.plainAttrs_list PySem.F.slot_list_append PySem.F.type_list_append mt_append (pv 4) (pa_cons (pe_op op_add_str (pe_op op_add_str (pv 3) (pv 5)) (pe_join pe_str (pe_call G_w_few hr_w_few rfl T.m_w_few T.F_w_few.kp T.b_w_few .nil pass0 (pa_cons (pv 0) (pa_cons (pv 2) (pa_cons (pe_call G_w_pick hr_w_pick rfl T.m_w_pick T.F_w_pick.kp T.b_w_pick .nil pass0 (pa_cons (pv 0) (pa_cons (pe_lst (pa_cons pe_int (pa_cons pe_int (pa_cons pe_int (pa_cons pe_int (pa_cons pe_int pa_nil)))))) pa_nil))) pa_nil)))))) pa_nil)))))
      (pss_one (ps_ret (pv 4))))))), ?_⟩
    refine ⟨_, rfl, by show 26 ≤ sizeLine; decide, fun la hla => ?_⟩
    have S0 : Same H (upd H la (.lst (LETC.map chV))) := Same.new hla
    have e0 : (upd H la (.lst (LETC.map chV))) la = some (.lst (LETC.map chV)) := upd_same
    have R0 := Same.rl S0 hR
    have nla : la ≠ r := hR.ne hla
    rw [letters_eq]
    generalize upd H la (.lst (LETC.map chV)) = H0 at S0 e0 R0 ⊢
    refine ⟨_, rfl, r, 4, rfl, R0, by decide, by decide +kernel, fun v H1 v0 v1 R1 O1 => ⟨rfl, _, rfl, ?_⟩⟩
    have e1 := O1 _ _ nla e0
    refine ite2 (fun c => ?_) (fun c => ?_)
    · clear c
      refine ⟨⟨_, rfl⟩, ?_⟩
      refine ⟨_, rfl, by decide, by decide, fun D hD => ?_⟩
      have nDr : D ≠ r := R1.ne hD
      have nDa : la ≠ D := ne_of_none e1 hD
      refine lc_range (n := 8) (fun i H' => ∃ cs : List Nat, cs.length = i ∧ low cs ∧ H' D = some (.lst (cs.map chV)) ∧ Rl H' r ∧ Only r H1 H') ⟨[], rfl, (fun _ h => by cases h), upd_same, R1.new hD, Only.new hD⟩ ?_ ?_
      · rintro i H2 hi ⟨cs, lc, lw, eD, R2, O2⟩
        refine ⟨rfl, ?_⟩
        unfold tYes
        dsimp only
        rw [if_pos rfl]
        refine ⟨_, rfl, _, rfl, r, _, LETC.map chV, rfl, R2, .inl ⟨la, rfl, nla, .inl (SqL.of (O2 _ _ nla e1))⟩, by decide, by decide, fun u H3 hu3 R3 O3 => ?_⟩
        obtain ⟨c, hc, rfl⟩ := List.mem_map.mp hu3
        refine ⟨_, O3 _ _ nDr eD, by rw [List.length_map, lc, sizeLine_eq]; omega, cs ++ [c], by rw [List.length_append, lc]; rfl, ?_, by rw [upd_same, List.map_append]; rfl, ?_, ?_⟩
        · intro d hd
          rcases List.mem_append.mp hd with hd | hd
          · exact lw d hd
          · rw [List.mem_singleton.mp hd]
            exact low_letc c hc
        · obtain ⟨x1, x2, x3, q⟩ := R3
          exact ⟨x1, x2, x3, by rw [upd_ne nDr.symm]; exact q⟩
        · intro b o nb e
          rw [upd_ne (ne_of_none e hD)]
          exact O3 _ _ nb (O2 _ _ nb e)
      · rintro H2 ⟨cs, lc, lw, eD, R2, O2⟩
        refine ⟨_, D, cs.map fun c => (⟨#[c]⟩ : Str), rfl, rfl, .inl (SqL.of (by rw [eD, chs_map])), by rw [ones_len, lc, List.length_map, lc]; decide, ?_⟩
        rw [join_ones]
        refine ⟨_, rfl, by show 8 ≤ sizeLine; decide, fun l8 hl8 => ?_⟩
        have n8 : l8 ≠ r := R2.ne hl8
        refine ⟨_, rfl, r, l8, _, many, rfl, R2.new hl8, .inl (SqL.of upd_same), by decide, by omega, by omega, fun l' ys rest H3 R3 O3 hl' el' pm ly => ?_⟩
        have O23 : Only r H2 H3 := Only.trans (Only.new hl8) O3
        have O13 : Only r H1 H3 := Only.trans O2 O23
        have nl'r : l' ≠ r := by
          have := R2.new (o := .lst [V.int 1, .int 2, .int 3, .int 4, .int 5, .int 6, .int 7, .int 8]) hl8
          exact this.ne hl'
        obtain ⟨ks, rfl, mk, ndk⟩ := few_of (f := fun n : Nat => V.int (n : Int)) (xs := [1, 2, 3, 4, 5, 6, 7, 8]) (fun a _ b _ h => by have := V.int.inj h; omega) (by decide) pm
        rw [List.length_map] at ly
        have lk : ks.length = many := by
          have h8 : (if ((([V.int 1, .int 2, .int 3, .int 4, .int 5, .int 6, .int 7, .int 8] : List V).length : Nat) : Int) < (many : Int) then ((([V.int 1, .int 2, .int 3, .int 4, .int 5, .int 6, .int 7, .int 8] : List V).length : Nat) : Int) else (many : Int)) = many := by
            show (if ((8 : Nat) : Int) < (many : Int) then _ else _) = _
            rw [if_neg (by omega)]
          have := ly.trans h8
          omega
        refine ⟨l', rfl, ⟨_, SqL.of el'⟩, fun F hF => ?_⟩
        have nFl : l' ≠ F := ne_of_none el' hF
        refine lc_list (xs := ks.map fun n : Nat => V.int (n : Int)) (fun i H' => H' F = some (.lst ((ks.take i).map fun n => V.str (tx (cs.take n)))) ∧ Same H3 H') ⟨upd_same, Same.new hF⟩ (fun i H' _ h => SqL.of (h.2 _ _ el')) ?_ ?_
        · rintro i x H4 hx ⟨eF, S4⟩
          refine ⟨rfl, ?_⟩
          unfold tYes
          dsimp only
          rw [if_pos rfl]
          rw [List.getElem?_map] at hx
          cases e2 : ks[i]? with
          | none => rw [e2] at hx; cases hx
          | some n =>
            rw [e2] at hx
            cases hx
            refine ⟨_, rfl, _, rfl, _, rfl, _, rfl, by show (cs.toArray).size ≤ sizeLine; rw [List.size_toArray, lc]; decide, ?_⟩
            rw [cut_tx]
            have li : i < ks.length := (List.getElem?_eq_some_iff.mp e2).1
            refine ⟨_, eF, by rw [List.length_map, List.length_take, sizeLine_eq]; omega, ?_, Same.at hF S4⟩
            rw [upd_same, List.take_add_one, e2, List.map_append]
            rfl
        · rintro H4 ⟨eF, S4⟩
          rw [List.length_map, List.take_length] at eF
          refine k F (ks.map fun n => tx (cs.take n)) H4 (Same.rl S4 R3) ?_ ?_ (by rw [eF, List.map_map]; rfl) ?_ (by rw [List.length_map, lk]) ?_
          · exact Only.trans (Only.trans (Same.only S0) (Only.trans O1 O13)) (Same.only S4)
          · cases e5 : H F with
            | none => rfl
            | some o =>
              have nFr : F ≠ r := fun z => by rw [z] at hF; obtain ⟨_, _, _, q⟩ := R3; rw [q] at hF; cases hF
              have := O13 _ _ nFr (O1 _ _ nFr (S0 _ _ e5))
              rw [this] at hF
              cases hF
          · refine nd_map (fun a ha b hb e => ?_) ndk
            have ha' := mk a ha
            have hb' := mk b hb
            have e6 := congrArg List.length (tx_inj e)
            rw [List.length_take, List.length_take, lc] at e6
            simp only [List.mem_cons, List.not_mem_nil, or_false] at ha' hb'
            omega
          · intro n hn
            obtain ⟨m, hm, rfl⟩ := List.mem_map.mp hn
            have hm' := mk m hm
            simp only [List.mem_cons, List.not_mem_nil, or_false] at hm'
            refine nmC_tx ?_ ?_ fun c hc => lw c (List.mem_of_mem_take hc)
            · rw [List.length_take, lc]; omega
            · rw [List.length_take, lc]; omega
    · clear c
      refine ⟨⟨_, rfl⟩, ?_⟩
      refine ⟨_, rfl, _, rfl, _, rfl, r, 4, rfl, R1, by decide, by decide +kernel, fun u H2 u0 u1 R2 O2 => ?_⟩
      have e2 := O2 _ _ nla e1
      refine ⟨r, la, _, u, rfl, R2, .inl (SqL.of e2), by decide, u0, by omega, fun l' ys rest H3 R3 O3 hl' el' pm ly => ?_⟩
      obtain ⟨ss, rfl, ls, _⟩ := few_letters pm
      have lss : ss.length ≤ 3 := by
        rw [List.length_map] at ly
        have e26 : (LETC.map chV).length = 26 := rfl
        rw [e26, if_neg (by omega)] at ly
        omega
      refine ⟨_, l', ss.map fun c => (⟨#[c]⟩ : Str), rfl, rfl, .inl (SqL.of (by rw [el', chs_map])), by rw [ones_len, List.length_map]; show ss.length + ss.length * 0 ≤ _; omega, ?_⟩
      rw [join_ones]
      have e3 := O3 _ _ nla e2
      refine ⟨by show 0 ≤ sizeLine; decide, fun f hf => ⟨by show 2 ≤ sizeLine; decide, fun t ht => ?_⟩⟩
      have nfr : f ≠ r := R3.ne hf
      have nfa : la ≠ f := ne_of_none e3 hf
      have nft : f ≠ t := ne_of_none (upd_same (a := f) (H := H3) (o := .lst [])) ht
      have htu := ht
      rw [upd_ne nft.symm] at ht
      have S3 : Same H3 (upd (upd H3 f (.lst [])) t (.tup [V.str (tx ss), V.ref f])) := fun b o e => by
        rw [upd_ne (ne_of_none e ht), upd_ne (ne_of_none e hf)]
        exact e
      have ef : (upd (upd H3 f (.lst [])) t (.tup [V.str (tx ss), V.ref f])) f = some (.lst []) := by rw [upd_ne nft, upd_same]
      refine ⟨t, _, rfl, SqT.of upd_same, rfl, _, _, rfl, ?_⟩
      have R4 := Same.rl S3 R3
      have e4 := S3 _ _ e3
      have O14 : Only r H1 (upd (upd H3 f (.lst [])) t (.tup [V.str (tx ss), V.ref f])) := Only.trans (Only.trans O2 O3) (Same.only S3)
      have hf1 : H f = none := by
        cases e5 : H f with
        | none => rfl
        | some o =>
          have := O3 _ _ nfr (O2 _ _ nfr (O1 _ _ nfr (S0 _ _ e5)))
          rw [this] at hf
          cases hf
      generalize upd (upd H3 f (.lst [])) t (.tup [V.str (tx ss), V.ref f]) = H4 at S3 ef R4 e4 O14 ⊢
      refine ⟨_, _, rfl, rfl, ?_⟩
      refine ⟨_, rfl, _, rfl, _, rfl, r, la, _, many, rfl, R4, .inl (SqL.of e4), by decide, by omega, by omega, fun lm ys rest H5 R5 O5 hlm elm pm ly => ?_⟩
      obtain ⟨cs, rfl, lc, ndc⟩ := few_letters pm
      have lcm : cs.length = many := by
        rw [List.length_map] at ly
        have e26 : (LETC.map chV).length = 26 := rfl
        rw [e26, if_neg (by omega)] at ly
        omega
      have ef5 := O5 _ _ nfr ef
      have e5 := O5 _ _ nla e4
      have nlm : lm ≠ r := R4.ne hlm
      have nlf : lm ≠ f := fun z => by rw [z, ef] at hlm; cases hlm
      refine ⟨lm, rfl, ⟨_, SqL.of elm⟩, for_list (xs := cs.map chV) (fun i σ H' => (∃ v, σ = [some (.ref r), some (.int many), some (.ref la), some (.str (tx ss)), some (.ref f), v, none, none]) ∧ Rl H' r ∧ (∀ b o, b ≠ r → b ≠ f → H5 b = some o → H' b = some o) ∧
        ∃ ps : List (Nat × List Nat), ps.map (·.1) = cs.take i ∧ H' f = some (.lst (ps.map fun p => V.str (tx (ss ++ p.1 :: p.2)))) ∧ ∀ p ∈ ps, low p.2 ∧ p.2.length ≤ 4)
        ⟨⟨none, rfl⟩, R5, (fun b o _ _ e => e), [], rfl, ef5, fun _ h => by cases h⟩ (fun i σ H' _ h => SqL.of (h.2.2.1 _ _ nlm nlf elm)) ?_ ?_⟩
      · rintro i x σ' H6 hx ⟨⟨v', rfl⟩, R6, O6, ps, ep, ef6, hps⟩
        rw [List.getElem?_map] at hx
        cases ec : cs[i]? with
        | none => rw [ec] at hx; cases hx
        | some c =>
          rw [ec] at hx
          cases hx
          have li : i < cs.length := (List.getElem?_eq_some_iff.mp ec).1
          have hc : 97 ≤ c ∧ c ≤ 122 := lc c (List.mem_of_getElem? ec)
          refine ⟨_, rfl, .inl ⟨rfl, _, SqL.of ef6⟩, ?_⟩
          have l1 : (tx ss).length = ss.length := by show (ss.toArray).size = _; simp
          refine ⟨_, rfl, _, rfl, _, _, rfl, rfl, by rw [l1, sizeLine_eq]; show ss.length + 1 ≤ _; omega, ?_⟩
          refine ⟨⟨_, rfl⟩, _, rfl, _, rfl, _, rfl, by show 5 ≤ sizeLine; decide, fun l5 hl5 => ?_⟩
          have R7 : Rl (upd H6 l5 (.lst [V.int 0, .int 0, .int 1, .int 2, .int 4])) r := R6.new hl5
          refine ⟨r, _, [V.int 0, .int 0, .int 1, .int 2, .int 4], rfl, R7, .inl ⟨l5, rfl, R6.ne hl5, .inl (SqL.of upd_same)⟩, by decide, by show 5 ≤ sizeLine; decide, fun pv' H7 hpv R8 O8 => ?_⟩
          have eL : H6 la = some (.lst (LETC.map chV)) := O6 _ _ nla nfa e5
          obtain ⟨n4, rfl, h0, h4⟩ : ∃ n : Int, pv' = .int n ∧ 0 ≤ n ∧ n ≤ 4 := by
            simp only [List.mem_cons, List.not_mem_nil, or_false] at hpv
            rcases hpv with rfl | rfl | rfl | rfl | rfl
            · exact ⟨0, rfl, by decide, by decide⟩
            · exact ⟨0, rfl, by decide, by decide⟩
            · exact ⟨1, rfl, by decide, by decide⟩
            · exact ⟨2, rfl, by decide, by decide⟩
            · exact ⟨4, rfl, by decide, by decide⟩
          have O67 : Only r H6 H7 := Only.trans (Only.new hl5) O8
          refine ⟨r, la, _, n4, rfl, R8, .inl (SqL.of (O67 _ _ nla eL)), by decide, h0, by omega, fun lt ys rest H8 R9 O9 hlt elt pm ly => ?_⟩
          obtain ⟨ts, rfl, lt4, _⟩ := few_letters pm
          have ltl : ts.length ≤ 4 := by
            rw [List.length_map] at ly
            have e26 : (LETC.map chV).length = 26 := rfl
            rw [e26, if_neg (by omega)] at ly
            omega
          refine ⟨_, lt, ts.map fun c => (⟨#[c]⟩ : Str), rfl, rfl, .inl (SqL.of (by rw [elt, chs_map])), by rw [ones_len, List.length_map]; show ts.length + ts.length * 0 ≤ _; omega, ?_⟩
          rw [join_ones]
          have l2 : (tx ts).length = ts.length := by show (ts.toArray).size = _; simp
          refine ⟨_, _, rfl, rfl, ?_, ?_⟩
          · show ((ss.toArray ++ #[c]).size + ts.toArray.size) ≤ sizeLine
            simp only [Array.size_append, List.size_toArray, sizeLine_eq]
            show ss.length + 1 + ts.length ≤ _
            omega
          have ecat : (tx ss ++ (⟨#[c]⟩ : Str)) ++ tx ts = tx (ss ++ c :: ts) := by
            show (⟨(ss.toArray ++ #[c]) ++ ts.toArray⟩ : Str) = ⟨(ss ++ c :: ts).toArray⟩
            simp
          rw [ecat]
          have O68 : Only r H6 H8 := Only.trans O67 O9
          refine ⟨f, _, _, rfl, rfl, O68 _ _ nfr ef6, ?_, ⟨_, rfl⟩, ?_, ?_, ps ++ [(c, ts)], ?_, ?_, ?_⟩
          · rw [List.length_map, sizeLine_eq]
            have := congrArg List.length ep
            rw [List.length_map, List.length_take] at this
            omega
          · obtain ⟨x1, x2, x3, q⟩ := R9
            exact ⟨x1, x2, x3, by rw [upd_ne nfr.symm]; exact q⟩
          · intro b o nb nbf e
            rw [upd_ne nbf]
            exact O68 _ _ nb (O6 _ _ nb nbf e)
          · rw [List.map_append, ep, List.take_add_one, ec]
            rfl
          · rw [upd_same, List.map_append]
            rfl
          · intro p hp
            rcases List.mem_append.mp hp with hp | hp
            · exact hps p hp
            · rw [List.mem_singleton.mp hp]
              exact ⟨lt4, ltl⟩
      · rintro σ' H6 ⟨⟨v', rfl⟩, R6, O6, ps, ep, ef6, hps⟩
        rw [List.length_map, List.take_length] at ep
        refine ⟨_, rfl, k f (ps.map fun p => tx (ss ++ p.1 :: p.2)) H6 R6 ?_ hf1 (by rw [ef6, List.map_map]; rfl) ?_ (by rw [List.length_map, ← lcm, ← ep, List.length_map]) ?_⟩
        · intro b o nb e
          have nbf : b ≠ f := ne_of_none e hf1
          exact O6 _ _ nb nbf (O5 _ _ nb (O14 _ _ nb (O1 _ _ nb (S0 _ _ e))))
        · have ndp : (ps.map (·.1)).Nodup := by rw [ep]; exact ndc
          refine nd_map (fun a ha b hb e => ?_) (nd_of_map ndp)
          have e7 := tx_inj e
          have e8 := List.append_cancel_left e7
          obtain ⟨e9, e10⟩ := List.cons.inj e8
          obtain ⟨a1, a2⟩ := a
          obtain ⟨b1, b2⟩ := b
          simp only at e9 e10
          rw [e9, e10]
        · intro n hn
          obtain ⟨p, hp, rfl⟩ := List.mem_map.mp hn
          obtain ⟨q1, q2⟩ := hps p hp
          have hpc : p.1 ∈ cs := by rw [← ep]; exact List.mem_map.mpr ⟨p, hp, rfl⟩
          refine nmC_tx (by rw [List.length_append, List.length_cons]; omega) (by rw [List.length_append, List.length_cons]; omega) fun c hc => ?_
          rcases List.mem_append.mp hc with hc | hc
          · exact ls c hc
          · rcases List.mem_cons.mp hc with rfl | hc
            · exact lc _ hpc
            · exact q1 c hc
end
end K43
namespace K43
open PySem L2
open PyProof.Rows PySem.Spec
section
variable {P : Program} {w : World} {K : PySem.W.Frag}
                                                      {mg : Str → Option Value} {base : Heap}
/-- pairs (name, the tuple of the name) -/
def PairsAt (H : Hp) (ps : List Addr) (L : List (Str × Addr)) : Prop := Paired (fun p q => H p = some (.tup [.str q.1, .ref q.2])) ps L
theorem PairsAt.keep {H H' : Hp} (k : KT H H') {ps : List Addr} {L : List (Str × Addr)} (h : PairsAt H ps L) : PairsAt H' ps L := by
  unfold PairsAt at h ⊢
  induction h with
  | nil => exact .nil
  | cons a b ih => exact .cons (k _ _ a) ih
theorem PairsAt.snoc {H : Hp} {ps : List Addr} {L : List (Str × Addr)} (h : PairsAt H ps L) {p t : Addr} {n : Str} (q : H p = some (.tup [.str n, .ref t])) : PairsAt H (ps ++ [p]) (L ++ [(n, t)]) := by
  unfold PairsAt at h ⊢
  induction h with
  | nil => exact .cons q .nil
  | cons a b ih => exact .cons a ih
theorem PairsAt.pd {K : PySem.W.Frag} {H : Hp} {ps : List Addr} {L : List (Str × Addr)} (h : PairsAt H ps L) : Paired (fun p kv => SqT K H p [kV kv.1, kv.2]) ps (Kvs L) := by
  unfold PairsAt at h
  induction h with
  | nil => exact .nil
  | cons a b ih => exact .cons (SqT.of a) ih
/-- the rows that some names have -/
def pickR (R : Rws) (ns : List Str) : Rws := ns.map fun n => (n, (R.lookup n).getD (0, 0))
theorem lookup_mem : ∀ {R : Rws} {n : Str} {p : Int × Int}, (R.map (·.1)).Nodup → (n, p) ∈ R → R.lookup n = some p
  | [], _, _, _, h => by cases h
  | (m, u) :: R, n, p, nd, h => by
    rw [List.map_cons, List.nodup_cons] at nd
    rcases List.mem_cons.mp h with e | e
    · cases e
      exact List.lookup_cons_self
    · have hne : (n == m) = false := by
        rw [beq_eq_false_iff_ne]
        rintro rfl
        exact nd.1 (List.mem_map.mpr ⟨_, e, rfl⟩)
      rw [List.lookup_cons, hne]
      exact lookup_mem nd.2 e
theorem pickR_names (R : Rws) (ns : List Str) : (pickR R ns).map (·.1) = ns := by
  unfold pickR
  rw [List.map_map]
  exact List.map_id' _
theorem pickR_mem {R : Rws} {ns : List Str} (nd : (R.map (·.1)).Nodup) (sub : ∀ n ∈ ns, n ∈ R.map (·.1)) : ∀ x ∈ pickR R ns, x ∈ R := by
  intro x hx
  obtain ⟨n, hn, rfl⟩ := List.mem_map.mp hx
  obtain ⟨⟨m, p⟩, hm, e⟩ := List.mem_map.mp (sub n hn)
  obtain rfl : m = n := e
  rw [lookup_mem nd hm]
  exact hm
theorem pickR_perm {R : Rws} {ns : List Str} (nd : (R.map (·.1)).Nodup) (pm : ns.Perm (R.map (·.1))) : (pickR R ns).Perm R := by
  have e : pickR R (R.map (·.1)) = R := by
    unfold pickR
    rw [List.map_map]
    have : ∀ x ∈ R, ((fun n => (n, (R.lookup n).getD (0, 0))) ∘ fun x => x.1) x = x := by
      rintro ⟨n, p⟩ hx
      show (n, (R.lookup n).getD (0, 0)) = (n, p)
      rw [lookup_mem nd hx]
      rfl
    rw [List.map_congr_left this]
    exact List.map_id' _
  have := pm.map fun n => (n, (R.lookup n).getD (0, 0))
  unfold pickR at e
  rw [e] at this
  exact this
theorem pickR_snoc (R : Rws) (ns : List Str) (n : Str) {p : Int × Int} (h : R.lookup n = some p) : pickR R (ns ++ [n]) = pickR R ns ++ [(n, p)] := by
  unfold pickR
  rw [List.map_append]
  show _ ++ [(n, (R.lookup n).getD (0, 0))] = _
  rw [h]
  rfl
def sp_w_sorted (K : PySem.W.Frag) : Sp := fun vs H Q _ => ∃ (d : Addr) (L : List (Str × Addr)) (R : Rws), vs = [.ref d] ∧ H d = some (.dK (Kvs L)) ∧ Tups H L R ∧ (R.map (·.1)).Nodup ∧ R.length ≤ 8 ∧
  ∀ d' L' S H', Same H H' → H d' = none → H' d' = some (.dK (Kvs L')) → Tups H' L' S → Srd R S → Q (.ref d') H'
theorem ok_w_sorted (T : T K mg) : FnOk P w K mg base CX0 1 T.f_w_sorted T.d_w_sorted ["rows"] (sp_w_sorted K) := by
  refine T.F_w_sorted.ok sc_w_sorted (fun vs H Q E h => ?_) (fun cdv A outer s H vs Q E hr h => ?_)
  · obtain ⟨d, L, R, rfl, _⟩ := h
    rfl
  · obtain ⟨d, L, R, rfl, hd, ts, nd, l8, k⟩ := h
    have hu := hu_of hr
    refine ⟨_, (pss_one (ps_ret (pe_callTy (call_dictP rfl) (by rfl) T.z_dict (by decide +kernel) (pa_cons (pe_lc (own := [("name", 1)]) (g := gName 1) rfl sc_w_sorted.nd (pi_list (pe_callB (call_sortedD rfl) (by rfl) T.z_sorted (by decide +kernel) (pa_cons (pv 0) pa_nil))) (blkOk_by (N := ["rows", "name"]) (sc := defScope s_w_sorted) (by decide +kernel)) (fun _ _ _ _ _ => (pg_name (i := 1) sc_w_sorted.nd rfl (Or.inl rfl))) (fun _ _ _ _ _ => pts_nil) (fun _ _ _ _ _ => (pe_tup (pa_cons (pv 1) (pa_cons (pe_dget (by exact hu) (pv 0) (pv 1) (fun _ _ => rfl)) pa_nil))))) pa_nil)))), ?_⟩
    refine ⟨_, rfl, d, _, L.map (·.1), rfl, .inl hd, kvs_keys L, by rw [List.length_map, ts.len]; omega, fun ys p pm so hp => ?_⟩
    have S1 := Same.new (o := .lst (ys.map V.str)) hp
    have ep : (upd H p (.lst (ys.map V.str))) p = some (.lst (ys.map V.str)) := upd_same
    generalize upd H p (.lst (ys.map V.str)) = H1 at S1 ep ⊢
    rw [ts.names] at pm
    refine ⟨p, rfl, ⟨_, SqL.of ep⟩, fun D hD => ?_⟩
    refine lc_list (xs := ys.map V.str) (fun i H' => Same H1 H' ∧ ∃ (ps : List Addr) (M : List (Str × Addr)), H' D = some (.lst (ps.map V.ref)) ∧ PairsAt H' ps M ∧ Tups H' M (pickR R (ys.take i)) ∧ ps.length = i) ⟨Same.new hD, [], [], upd_same, .nil, .nil, rfl⟩ (fun i H' _ h => SqL.of (h.1 _ _ ep)) ?_ ?_
    · rintro i x H2 hx ⟨S2, ps, M, eD, pa, tm, lp⟩
      refine ⟨rfl, ?_⟩
      unfold tYes
      dsimp only
      rw [if_pos rfl]
      rw [List.getElem?_map] at hx
      cases e2 : ys[i]? with
      | none => rw [e2] at hx; cases hx
      | some n =>
        rw [e2] at hx
        cases hx
        have hn : n ∈ R.map (·.1) := pm.mem_iff.mp (List.mem_of_getElem? e2)
        have S12 := Same.trans S1 S2
        have ts2 := ts.keep (KT.same S12)
        obtain ⟨t, b, e, hv, ht, hm⟩ := ts2.get hn
        refine ⟨_, rfl, _, rfl, _, rfl, d, V.ref t, rfl, ?_, by show 2 ≤ sizeLine; decide, fun q hq => ?_⟩
        · have := DGet.k (k := Sum.inr n) (S12 _ _ hd)
          rw [hv] at this
          exact this
        have nDq : D ≠ q := ne_of_none eD hq
        have li : i < ys.length := (List.getElem?_eq_some_iff.mp e2).1
        have l8' : ys.length ≤ 8 := by rw [pm.length_eq, List.length_map]; exact l8
        refine ⟨_, (by rw [upd_ne nDq]; exact eD), by rw [List.length_map, lp, sizeLine_eq]; omega, ?_, ps ++ [q], M ++ [(n, t)], by rw [upd_same, List.map_append]; rfl, ?_, ?_, by rw [List.length_append, lp]; rfl⟩
        · exact Same.at hD (Same.trans S2 (Same.new hq))
        · have kt : KT H2 (upd (upd H2 q (.tup [V.str n, V.ref t])) D (.lst (ps.map V.ref ++ [V.ref q]))) := KT.trans (KT.new hq) (KT.put (u := .lst (ps.map V.ref)) (by rw [upd_ne nDq]; exact eD) (fun _ z => by cases z))
          exact (pa.keep kt).snoc (by rw [upd_ne nDq.symm, upd_same])
        · have kt : KT H2 (upd (upd H2 q (.tup [V.str n, V.ref t])) D (.lst (ps.map V.ref ++ [V.ref q]))) := KT.trans (KT.new hq) (KT.put (u := .lst (ps.map V.ref)) (by rw [upd_ne nDq]; exact eD) (fun _ z => by cases z))
          rw [List.take_add_one, e2]
          show Tups _ _ (pickR R (ys.take i ++ [n]))
          rw [pickR_snoc R _ n (lookup_mem nd hm)]
          exact (tm.keep kt).snoc (kt _ _ ht)
    · rintro H2 ⟨S2, ps, M, eD, pa, tm, lp⟩
      rw [List.length_map, List.take_length] at tm
      refine ⟨D, ps, Kvs M, rfl, SqL.of eD, pa.pd, fun q hq => ?_⟩
      have nm : (M.map (·.1)).Nodup := by
        rw [tm.names, pickR_names]
        exact pm.nodup_iff.mpr nd
      have e0 : mergeK [] (Kvs M) = Kvs M := mergeK_kvs M [] (by simpa using nm)
      rw [e0]
      refine k q M (pickR R ys) _ (Same.trans S1 (Same.trans S2 (Same.new hq))) ?_ upd_same (tm.keep (KT.new hq)) ⟨pickR_perm nd pm, by rw [pickR_names]; exact so⟩
      cases e5 : H q with
      | none => rfl
      | some o =>
        rw [S2 _ _ (S1 _ _ e5)] at hq
        cases hq
end
end K43
namespace K43
open PySem L2
open PyProof.Rows PySem.Spec
theorem un64 {k : Nat} {A : Around} (r : Room k A) : A.units + 64 < cLine := by
  have := r.un
  omega
theorem nm_ok {z : Str} (h : nmC z = true) : PyData.strOk z = true := by
  unfold nmC at h
  have q := (Bool.and_eq_true_iff.mp h).2
  unfold PyData.strOk
  rw [← Array.all_toList, List.all_eq_true]
  intro c hc
  have e := List.all_eq_true.mp q c hc
  have e2 := of_decide_eq_true (Bool.and_eq_true_iff.mp e).2
  exact decide_eq_true (by omega)
theorem nmC_len {z : Str} (h : nmC z = true) : 1 ≤ z.length ∧ z.length ≤ 8 := by
  unfold nmC at h
  exact of_decide_eq_true (Bool.and_eq_true_iff.mp h).1
theorem shaped_names {ns : List Str} (h : ∀ n ∈ ns, nmC n = true) : SeqAt.shaped (.list (ns.map PyData.str)) = true := by
  have key : ∀ ns : List Str, (∀ n ∈ ns, nmC n = true) → PyData.canLayAll0 (ns.map PyData.str) = true ∧ PyData.depthAll (ns.map PyData.str) ≤ 1 := by
    intro ns
    induction ns with
    | nil => intro _; exact ⟨by simp [PyData.canLayAll0], by simp [PyData.depthAll]⟩
    | cons n ns ih =>
      intro h
      obtain ⟨h1, h2⟩ := ih fun q hq => h q (List.mem_cons_of_mem _ hq)
      have h3 := nm_ok (h n List.mem_cons_self)
      refine ⟨?_, ?_⟩
      · simp [PyData.canLayAll0, PyData.canLay0, h1, h3]
      · simp [PyData.depthAll, PyData.depth]
        omega
  obtain ⟨k1, k2⟩ := key ns h
  show ((PyData.list (ns.map PyData.str)).canLay0 && decide ((PyData.list (ns.map PyData.str)).depth ≤ 64)) = true
  rw [Bool.and_eq_true]
  exact ⟨by simp only [PyData.canLay0]; exact k1, decide_eq_true (by simp only [PyData.depth]; omega)⟩
theorem dpa_strs {K : PySem.W.Frag} {H : Hp} : ∀ ns : List Str, DpAll K H (ns.map V.str) (ns.map PyData.str)
  | [] => .nil
  | n :: ns => .cons (.str n) (dpa_strs ns)
theorem flat_strs (ns : List Str) : (ns.map V.str).all flatV = true := by
  rw [List.all_map, List.all_eq_true]
  intro n _
  rfl
theorem inV_strs (n : Str) (ns : List Str) : inV (.str n) (ns.map V.str) = decide (n ∈ ns) := by
  unfold inV
  rw [List.any_map]
  induction ns with
  | nil => rfl
  | cons m ns ih =>
    rw [List.any_cons, ih]
    show ((m == n) || _) = _
    by_cases e : n = m
    · subst e
      simp
    · have e' : (m == n) = false := by rw [beq_eq_false_iff_ne]; exact fun z => e z.symm
      rw [e', Bool.false_or]
      simp [e]
section
variable {P : Program} {w : World} {K : PySem.W.Frag}
                                                      {mg : Str → Option Value} {base : Heap}
def sp_w_rings (K : PySem.W.Frag) : Sp := fun vs H Q _ => ∃ (r l : Addr) (t : Int) (ns : List Str), vs = [.ref r, .int t, .ref l] ∧ Rl H r ∧ SqL K H l (ns.map V.str) ∧ 1 ≤ t ∧ t ≤ 32 ∧ ns.Nodup ∧ ns.length ≤ 8 ∧ (∀ n ∈ ns, nmC n = true) ∧
  ∀ d L (R : Rws) H', Rl H' r → Only r H H' → H d = none → H' d = some (.dK (Kvs L)) → Tups H' L R → (R.map (·.1)).Perm ns → (∀ x ∈ R, SpOk t x ∧ Fin1 t x) → Q (.ref d) H'
def sp_w_rows (K : PySem.W.Frag) : Sp := fun vs H Q _ => ∃ (r l : Addr) (t : Int) (ns : List Str), vs = [.ref r, .int t, .ref l] ∧ Rl H r ∧ l ≠ r ∧ SqL K H l (ns.map V.str) ∧ 1 ≤ t ∧ t ≤ 32 ∧ ns.Nodup ∧ ns.length ≤ 8 ∧ (∀ n ∈ ns, nmC n = true) ∧
  ∀ d L (R : Rws) H', Rl H' r → Only r H H' → H d = none → H' d = some (.dK (Kvs L)) → Tups H' L R → (R.map (·.1)).Perm ns → (∀ x ∈ R, SpOk t x ∧ Fin1 t x) → Q (.ref d) H'
theorem tups_put {H : Hp} {d q : Addr} {L : List (Str × Addr)} {R : Rws} {n : Str} {b e : Int} (hd : H d = some (.dK (Kvs L))) (ts : Tups H L R) (hn : n ∉ R.map (·.1)) (ht : TupAt H q b e) :
    (upd H d (.dK (putK (Kvs L) (.inr n) (.ref q)))) d = some (.dK (Kvs (L ++ [(n, q)]))) ∧ Tups (upd H d (.dK (putK (Kvs L) (.inr n) (.ref q)))) (L ++ [(n, q)]) (R ++ [(n, b, e)]) := by
  have hn' : n ∉ L.map (·.1) := by rw [ts.names]; exact hn
  have kt : KT H (upd H d (.dK (putK (Kvs L) (.inr n) (.ref q)))) := KT.put hd (fun _ z => by cases z)
  exact ⟨by rw [upd_same, putK_kvs hn'], (ts.keep kt).snoc (kt _ _ ht)⟩
theorem ok_w_rows (T : T K mg) (G_w_rings : FnOk P w K mg base CX0 3 T.f_w_rings T.d_w_rings ["tray", "interval", "names"] (sp_w_rings K)) : FnOk P w K mg base CX0 4 T.f_w_rows T.d_w_rows ["tray", "interval", "names"] (sp_w_rows K) := by
  have G_w_pick : FnOk P w K mg base CX0 2 T.f_w_pick T.d_w_pick ["tray", "items"] (sp_w_pick K) := ok_w_pick T
  have G_w_roll : FnOk P w K mg base CX0 1 T.f_w_roll T.d_w_roll ["tray", "total"] (sp_w_roll K) := ok_w_roll T
  refine T.F_w_rows.ok sc_w_rows (fun vs H Q E h => ?_) (fun cdv A outer s H vs Q E hr h => ?_)
  · obtain ⟨r, l, t, ns, rfl, _⟩ := h
    rfl
  · obtain ⟨r, l, t, ns, rfl, hR, nlr, hl, t1, t2, nd, l8, hnm, k⟩ := h
    have hu := hu_of hr
    have hr_w_pick : Room 2 _ := hr.mono (by decide)
    have hr_w_rings : Room 3 _ := hr.mono (by decide)
    have hr_w_roll : Room 1 _ := hr.mono (by decide)
    refine ⟨_, (pss_cons (ps_if (pt_cmpR op_eq (pe_call G_w_roll hr_w_roll rfl T.m_w_roll T.F_w_roll.kp T.b_w_roll .nil pass0 (pa_cons (pv 0) (pa_cons pe_int pa_nil))) pe_int (nomark _))
      (pss_one (ps_ret (pe_call G_w_rings hr_w_rings rfl T.m_w_rings T.F_w_rings.kp T.b_w_rings .nil pass0 (pa_cons (pv 0) (pa_cons (pv 1) (pa_cons (pv 2) pa_nil))))))
      pss_nil)
      (pss_cons (ps_set (i := 3) sc_w_rows.nd rfl (Or.inl rfl) pe_dnewK)
      (pss_cons (ps_for PassesOwn.never rfl (pi_list (pv 2)) (pg_name (i := 4) sc_w_rows.nd rfl (Or.inl rfl))
      (pss_cons (ps_set (i := 5) sc_w_rows.nd rfl (Or.inl rfl) (pe_op op_sub (pe_call G_w_roll hr_w_roll rfl T.m_w_roll T.F_w_roll.kp T.b_w_roll .nil pass0 (pa_cons (pv 0) (pa_cons (pe_op op_mul pe_int (pv 1)) pa_nil))) (pv 1)))
      (pss_cons (ps_set (i := 6) sc_w_rows.nd rfl (Or.inl rfl) (pe_op op_add pe_int (pe_call G_w_roll hr_w_roll rfl T.m_w_roll T.F_w_roll.kp T.b_w_roll .nil pass0 (pa_cons (pv 0) (pa_cons (pe_call G_w_pick hr_w_pick rfl T.m_w_pick T.F_w_pick.kp T.b_w_pick .nil pass0 (pa_cons (pv 0) (pa_cons (pe_lst (pa_cons (pv 1) (pa_cons (pv 1) (pa_cons (pv 1) (pa_cons (pe_op op_mul pe_int (pv 1)) (pa_cons (pe_op op_mul pe_int (pv 1)) pa_nil)))))) pa_nil))) pa_nil)))))
      (pss_one (ps_dput (by exact hu) (pv 3) (pv 4) (pe_tup (pa_cons (pv 5) (pa_cons (pe_op op_add (pv 5) (pv 6)) pa_nil))) rfl)))))
      (pss_one (ps_ret (pv 3)))))), ?_⟩
    refine ⟨_, rfl, r, 3, rfl, hR, by decide, by decide +kernel, fun v H1 v0 v1 R1 O1 => ⟨rfl, _, rfl, ?_⟩⟩
    have hl1 := O1.seqL nlr hl
    refine ite2 (fun c => ?_) (fun c => ?_)
    · clear c
      refine ⟨_, rfl, _, rfl, _, rfl, r, l, t, ns, rfl, R1, hl1, t1, t2, nd, l8, hnm, fun d L R H' R' O' hd ed ts pm hx => ?_⟩
      refine k d L R H' R' (Only.trans O1 O') ?_ ed ts pm hx
      cases e5 : H d with
      | none => rfl
      | some o =>
        have ndr : d ≠ r := R1.ne hd
        rw [O1 _ _ ndr e5] at hd
        cases hd
    · clear c
      intro d hd
      have ndr : d ≠ r := R1.ne hd
      have hdH : H d = none := by
        cases e5 : H d with
        | none => rfl
        | some o =>
          rw [O1 _ _ ndr e5] at hd
          cases hd
      have R2 := R1.new (o := .dK []) hd
      have O2 : Only r H (upd H1 d (.dK [])) := Only.trans O1 (Only.new hd)
      have ed2 : (upd H1 d (.dK [])) d = some (.dK (Kvs [])) := upd_same
      have hl2 := (Only.new (r := r) (o := .dK []) hd).seqL nlr hl1
      generalize upd H1 d (.dK []) = H2 at R2 O2 ed2 hl2 ⊢
      refine ⟨_, rfl, l, rfl, ⟨_, hl2⟩, for_list (xs := ns.map V.str) (fun i σ H' => (∃ v1 v2 v3, σ = [some (.ref r), some (.int t), some (.ref l), some (.ref d), v1, v2, v3]) ∧ Rl H' r ∧ Only r H H' ∧ SqL K H' l (ns.map V.str) ∧ ∃ L R, H' d = some (.dK (Kvs L)) ∧ Tups H' L R ∧ R.map (·.1) = ns.take i ∧ ∀ x ∈ R, SpOk t x ∧ Fin1 t x)
        ⟨⟨none, none, none, rfl⟩, R2, O2, hl2, [], [], ed2, .nil, rfl, fun _ h => by cases h⟩ (fun i σ H' _ h => h.2.2.2.1) ?_ ?_⟩
      · rintro i x σ' H3 hx ⟨⟨v1, v2, v3, rfl⟩, R3, O3, hl3, L, R, ed, ts, en, hR3⟩
        rw [List.getElem?_map] at hx
        cases en2 : ns[i]? with
        | none => rw [en2] at hx; cases hx
        | some n =>
          rw [en2] at hx
          cases hx
          have li : i < ns.length := (List.getElem?_eq_some_iff.mp en2).1
          refine ⟨_, rfl, _, rfl, _, _, rfl, rfl, .inl ⟨by decide, by decide⟩, r, 3 * t, rfl, R3, by omega, Nat.lt_trans (lg (b := 10) (by omega) (by omega) (by decide)) (by decide), fun u H4 u0 u1 R4 O4 => ?_⟩
          refine ⟨_, rfl, _, _, rfl, rfl, ?_⟩
          refine ⟨_, rfl, _, rfl, _, rfl, _, rfl, _, rfl, _, rfl, _, _, rfl, rfl, .inl ⟨by decide, by decide⟩, _, rfl, _, _, rfl, rfl, .inl ⟨by decide, by decide⟩, by show 5 ≤ sizeLine; decide, fun l5 hl5 => ?_⟩
          have R5 := R4.new (o := .lst [V.int t, .int t, .int t, .int (2 * t), .int (8 * t)]) hl5
          refine ⟨r, _, [V.int t, .int t, .int t, .int (2 * t), .int (8 * t)], rfl, R5, .inl ⟨l5, rfl, R4.ne hl5, .inl (SqL.of upd_same)⟩, Nat.succ_pos _, by show 5 ≤ sizeLine; decide, fun pv' H6 hpv R6 O6 => ?_⟩
          obtain ⟨m, rfl, m0, m1⟩ : ∃ n : Int, pv' = .int n ∧ 1 ≤ n ∧ n ≤ 8 * t := by
            simp only [List.mem_cons, List.not_mem_nil, or_false] at hpv
            rcases hpv with rfl | rfl | rfl | rfl | rfl
            · exact ⟨t, rfl, by omega, by omega⟩
            · exact ⟨t, rfl, by omega, by omega⟩
            · exact ⟨t, rfl, by omega, by omega⟩
            · exact ⟨2 * t, rfl, by omega, by omega⟩
            · exact ⟨8 * t, rfl, by omega, by omega⟩
          refine ⟨r, m, rfl, R6, by omega, Nat.lt_trans (lg (b := 10) (by omega) (by omega) (by decide)) (by decide), fun z H7 z0 z1 R7 O7 => ?_⟩
          refine ⟨_, _, rfl, rfl, ?_⟩
          refine ⟨_, rfl, _, rfl, _, rfl, _, _, rfl, rfl, by show 2 ≤ sizeLine; decide, fun q hq => ?_⟩
          have O37 : Only r H3 H7 := Only.trans O4 (Only.trans (Only.trans (Only.new hl5) O6) O7)
          have ed7 := O37 _ _ ndr ed
          have ts7 := ts.keep (KT.only O37 R3)
          have S8 := Same.new (o := .tup [V.int (u - t), .int (u - t + (1 + z))]) hq
          have eq8 : (upd H7 q (.tup [V.int (u - t), .int (u - t + (1 + z))])) q = some (.tup [V.int (u - t), .int (u - t + (1 + z))]) := upd_same
          have R8 := Same.rl S8 R7
          generalize upd H7 q (.tup [V.int (u - t), .int (u - t + (1 + z))]) = H8 at S8 eq8 R8 ⊢
          have ed8 := S8 _ _ ed7
          have ts8 := ts7.keep (KT.same S8)
          have hn : n ∉ R.map (·.1) := by
            rw [en]
            intro hm
            have nd2 := nd
            rw [← List.take_append_drop i ns] at nd2
            have hd2 : n ∈ ns.drop i := by
              rw [List.mem_iff_getElem?]
              exact ⟨0, by rw [List.getElem?_drop]; exact en2⟩
            exact (List.nodup_append.mp nd2).2.2 n hm n hd2 rfl
          have hl8 : SqL K H8 l (ns.map V.str) := Only.seqL (Only.trans O37 (Same.only S8)) nlr hl3
          obtain ⟨f1, f2⟩ := tups_put ed8 ts8 hn (show TupAt H8 q (u - t) (u - t + (1 + z)) from eq8)
          refine ⟨_, rfl, _, rfl, d, _, rfl, DPut.k (k := Sum.inr n) ed8 (by rw [kvs_len, ts8.len, ← List.length_map (f := (·.1)) (as := R), en, List.length_take, sizeLine_eq]; omega), ?_⟩
          have od : ∀ b o, b ≠ r → H b = some o → (upd H8 d (.dK (putK (Kvs L) (.inr n) (.ref q)))) b = some o := fun b o nb e => by
            rw [upd_ne (ne_of_none e hdH)]
            exact S8 _ _ (O37 _ _ nb (O3 _ _ nb e))
          refine ⟨⟨_, _, _, rfl⟩, ?_, od, ?_, L ++ [(n, q)], R ++ [(n, u - t, u - t + (1 + z))], f1, f2, ?_, ?_⟩
          · obtain ⟨x1, x2, x3, e⟩ := R8
            exact ⟨x1, x2, x3, by rw [upd_ne ndr.symm]; exact e⟩
          · rcases hl8 with (h | ⟨o, h⟩) | h
            · exact .inl (.inl (by rw [upd_ne (fun z => by rw [z, ed8] at h; cases h)]; exact h))
            · exact .inl (.inr ⟨o, by rw [upd_ne (fun z => by rw [z, ed8] at h; cases h)]; exact h⟩)
            · exact .inr h
          · rw [List.map_append, en, List.take_add_one, en2]
            rfl
          · intro x hx
            rcases List.mem_append.mp hx with hx | hx
            · exact hR3 x hx
            · rw [List.mem_singleton.mp hx]
              refine ⟨⟨?_, ?_⟩, ⟨?_, ?_⟩, ?_, ?_⟩
              · show 1 ≤ u - t + (1 + z) - (u - t); omega
              · show u - t + (1 + z) - (u - t) ≤ 8 * t; omega
              · show -1000 ≤ u - t; omega
              · show u - t + (1 + z) ≤ 1000; omega
              · show -t ≤ u - t; omega
              · show u - t + (1 + z) ≤ 11 * t; omega
      · rintro σ' H3 ⟨⟨v1, v2, v3, rfl⟩, R3, O3, hl3, L, R, ed, ts, en, hR3⟩
        rw [List.length_map, List.take_length] at en
        exact ⟨_, rfl, k d L R H3 R3 O3 hdH ed ts (by rw [en]) hR3⟩
end
end K43
namespace K43
open PySem L2
open PyProof.Rows PySem.Spec
theorem filter_perm {lf cs : List Str} (nl : lf.Nodup) (nc : cs.Nodup) (sub : ∀ c ∈ cs, c ∈ lf) : (cs ++ lf.filter fun n => !decide (n ∈ cs)).Perm lf := by
  refine (List.perm_ext_iff_of_nodup ?_ nl).mpr fun n => ?_
  · refine List.nodup_append.mpr ⟨nc, nl.filter _, fun a ha b hb e => ?_⟩
    have hb2 := (List.mem_filter.mp hb).2
    subst e
    simp [ha] at hb2
  · rw [List.mem_append, List.mem_filter]
    constructor
    · rintro (h | h)
      · exact sub n h
      · exact h.1
    · intro h
      by_cases c : n ∈ cs
      · exact .inl c
      · exact .inr ⟨h, by simp [c]⟩
theorem cutV_last (xs : List V) : cutV xs none (some (-1)) = xs.dropLast := by
  unfold cutV
  rw [HT.sIx_none]
  have e : HT.sIx xs.length xs.length (some (-1)) = xs.length - 1 := by
    show (if (-1 : Int) < 0 then ((-1 : Int) + (xs.length : Int)).toNat else min (-1 : Int).toNat xs.length) = _
    rw [if_pos (by decide)]
    omega
  rw [e, List.dropLast_eq_take]
  simp only [List.drop_zero, Nat.sub_zero]
section
variable {P : Program} {w : World} {K : PySem.W.Frag}
                                                      {mg : Str → Option Value} {base : Heap}
/-- ahead of a turn of _law_rings -/
def RingW (K : PySem.W.Frag) (r d : Addr) (t : Int) (ns : List Str) (H0 : Hp) (σa σb : L2.St) (m : Nat) (σ' : L2.St) (G : Hp) : Prop := (∃ la v5 v6 v7 v8 v9, σ' = σa ++ [some (.ref la), v5, v6, v7, v8, v9] ∧ ∃ (lf : List Str) (L : List (Str × Addr)) (R : Rws), G la = some (.lst (lf.map V.str)) ∧ la ≠ r ∧ la ≠ d ∧ lf.length = m ∧
  G d = some (.dK (Kvs L)) ∧ Tups G L R ∧ (R.map (·.1) ++ lf).Perm ns ∧ (∀ x ∈ R, SpOk t x ∧ Fin1 t x)) ∧ Rl G r ∧ (∀ b o, b ≠ r → H0 b = some o → G b = some o)
theorem ok_w_rings (T : T K mg) : FnOk P w K mg base CX0 3 T.f_w_rings T.d_w_rings ["tray", "interval", "names"] (sp_w_rings K) := by
  have G_w_few : FnOk P w K mg base CX0 2 T.f_w_few T.d_w_few ["tray", "items", "many"] (sp_w_few K) := ok_w_few T
  have G_w_pick : FnOk P w K mg base CX0 2 T.f_w_pick T.d_w_pick ["tray", "items"] (sp_w_pick K) := ok_w_pick T
  have G_w_roll : FnOk P w K mg base CX0 1 T.f_w_roll T.d_w_roll ["tray", "total"] (sp_w_roll K) := ok_w_roll T
  refine T.F_w_rings.ok sc_w_rings (fun vs H Q E h => ?_) (fun cdv A outer s H vs Q E hr h => ?_)
  · obtain ⟨r, l, t, ns, rfl, _⟩ := h
    rfl
  · obtain ⟨r, l, t, ns, rfl, hR, hl, t1, t2, nd, l8, hnm, k⟩ := h
    have hu := hu_of hr
    have hr_w_few : Room 2 _ := hr.mono (by decide)
    have hr_w_pick : Room 2 _ := hr.mono (by decide)
    have hr_w_roll : Room 1 _ := hr.mono (by decide)
    refine ⟨_, (pss_cons (ps_par (i := 3) (j := 4) (by rfl) sc_w_rings.nd rfl rfl (by decide) rfl rfl (pa_cons pe_dnewK (pa_cons (pe_callTy call_list_of (by rfl) T.z_list (by decide +kernel) (pa_cons (pv 2) pa_nil)) pa_nil)) (by rfl))
      (pss_cons (ps_while PassesOwn.never (pt_cmpR (op_neD (un64 hr)) (pv 4) (pe_lst pa_nil) (nomark _))
      (pss_cons (ps_set (i := 5) sc_w_rings.nd rfl (Or.inr rfl) (pe_call G_w_few hr_w_few rfl T.m_w_few T.F_w_few.kp T.b_w_few .nil pass0 (pa_cons (pv 0) (pa_cons (pv 4) (pa_cons (pe_op op_add pe_int (pe_call G_w_roll hr_w_roll rfl T.m_w_roll T.F_w_roll.kp T.b_w_roll .nil pass0 (pa_cons (pv 0) (pa_cons pe_int pa_nil)))) pa_nil)))))
      (pss_cons (ps_setLc (i := 4) (own := [("name", 8)]) (g := gName 8) rfl sc_w_rings.nd rfl rfl (sw_true rfl rfl rfl (by decide +kernel)) (pi_list (pv 4)) (blkOk_by (N := ["tray", "interval", "names", "rows", "left", "some", "first", "begin", "name", "last"]) (sc := defScope s_w_rings) (by decide +kernel)) (fun _ _ _ _ _ => (pg_name (i := 8) sc_w_rings.nd rfl (Or.inl rfl))) (fun _ _ _ _ _ => pts_one (pt_cmpR (r := rIn K true) op_notIn_seq (pv 8) (pv 5) rfl)) (fun _ _ _ _ _ => (pv 8)))
      (pss_cons (ps_set (i := 6) sc_w_rings.nd rfl (Or.inl rfl) (pe_call G_w_roll hr_w_roll rfl T.m_w_roll T.F_w_roll.kp T.b_w_roll .nil pass0 (pa_cons (pv 0) (pa_cons (pe_op op_mul pe_int (pv 1)) pa_nil))))
      (pss_cons (ps_set (i := 7) sc_w_rings.nd rfl (Or.inl rfl) (pv 6))
      (pss_cons (ps_for PassesOwn.never rfl (pi_list (pe_slice sl_list (pv 5) po_none (po_some (pe_un un_neg pe_int)))) (pg_name (i := 8) sc_w_rings.nd rfl (Or.inl rfl))
      (pss_cons (ps_dput (by exact hu) (pv 3) (pv 8) (pe_tup (pa_cons (pv 7) (pa_cons (pe_op op_add (pe_op op_add (pv 7) pe_int) (pe_call G_w_roll hr_w_roll rfl T.m_w_roll T.F_w_roll.kp T.b_w_roll .nil pass0 (pa_cons (pv 0) (pa_cons (pv 1) pa_nil)))) pa_nil))) rfl)
      (pss_one (ps_set (i := 7) sc_w_rings.nd rfl (Or.inl rfl) (pe_ix ix_seq (pe_dget (by exact hu) (pv 3) (pv 8) (fun _ _ => rfl)) pe_int (fun _ _ => rfl))))))
      (pss_cons (ps_set (i := 9) sc_w_rings.nd rfl (Or.inl rfl) (pe_op op_add (pe_op op_add pe_int (pe_op op_mod (pe_callTy call_int1 (by rfl) T.z_int (by decide +kernel) (pa_cons (pe_op op_sub (pe_op op_sub (pv 6) (pv 7)) pe_int) pa_nil)) (pv 1))) (pe_op op_mul (pv 1) (pe_call G_w_pick hr_w_pick rfl T.m_w_pick T.F_w_pick.kp T.b_w_pick .nil pass0 (pa_cons (pv 0) (pa_cons (pe_lst (pa_cons pe_int (pa_cons pe_int (pa_cons pe_int (pa_cons pe_int pa_nil))))) pa_nil))))))
      (pss_one (ps_dput (by exact hu) (pv 3) (pe_ix ix_seq (pv 5) (pe_un un_neg pe_int) (fun _ _ => rfl)) (pe_tup (pa_cons (pv 7) (pa_cons (pe_op op_add (pv 7) (pv 9)) pa_nil))) rfl))))))))) 
      (pss_one (ps_ret (pv 3))))), ?_⟩
    intro d hd
    have ndr : d ≠ r := hR.ne hd
    have hl1 : SqL K (upd H d (.dK [])) l (ns.map V.str) := Same.seq (Same.new hd) hl
    refine ⟨_, rfl, l, _, rfl, .inl hl1, fun la hla => ?_⟩
    have nda : la ≠ d := fun z => by rw [z, upd_same] at hla; cases hla
    have hla0 : H la = none := by rw [upd_ne nda] at hla; exact hla
    have nla : la ≠ r := hR.ne hla0
    refine ⟨_, _, rfl, ?_⟩
    refine ⟨RingW K r d t ns H [some (.ref r), some (.int t), some (.ref l), some (.ref d)] [], ⟨ns.length, ⟨la, none, none, none, none, none, rfl, ns, [], [], upd_same, nla, nda, rfl, by rw [upd_ne nda.symm, upd_same]; rfl, .nil, by simp, fun _ h => by cases h⟩, ?_, ?_⟩, ?_⟩
    · obtain ⟨x1, x2, x3, e⟩ := hR
      exact ⟨x1, x2, x3, by rw [upd_ne nla.symm, upd_ne ndr.symm]; exact e⟩
    · intro b o _ e
      rw [upd_ne (ne_of_none e hla0), upd_ne (ne_of_none e hd)]
      exact e
    clear hl1 hla hla0 nla nda la
    rintro m σ' G ⟨⟨la, v5, v6, v7, v8, v9, rfl, lf, L, R, ea, nar, nad, lm, ed, ts, pm, hx⟩, RG, OG⟩
    have ndL : (R.map (·.1) ++ lf).Nodup := pm.nodup_iff.mpr nd
    have nlf : lf.Nodup := (List.nodup_append.mp ndL).2.1
    have ll8 : R.length + lf.length ≤ 8 := by
      have := pm.length_eq
      rw [List.length_append, List.length_map] at this
      omega
    have nmL : ∀ n ∈ lf, nmC n = true := fun n hn => hnm n (pm.mem_iff.mp (List.mem_append_right _ hn))
    refine ⟨_, rfl, by show 0 ≤ sizeLine; decide, fun e he => ?_⟩
    have S3 : Same G (upd G e (.lst [])) := Same.new he
    have e_e : (upd G e (.lst [])) e = some (.lst []) := upd_same
    have ea3 := S3 _ _ ea
    have ed3 := S3 _ _ ed
    have ts3 := ts.keep (KT.same S3)
    have R3 := Same.rl S3 RG
    refine ⟨.list (lf.map PyData.str), .list [], .lst (SqL.of ea3) (dpa_strs lf), .lst (SqL.of upd_same) .nil, shaped_names nmL, by decide +kernel, _, rfl, ?_⟩
    generalize upd G e (.lst []) = G3 at S3 e_e ea3 ed3 ts3 R3 ⊢
    cases lf with
    | nil =>
      rw [show PyData.eqv (.list (([] : List Str).map PyData.str)) (.list []) = true from by decide +kernel]
      refine iteF ⟨_, rfl, k d L R G3 R3 (fun b o nb e => S3 _ _ (OG b o nb e)) hd ed3 ts3 (by simpa using pm) hx⟩
    | cons n0 lf0 =>
      rw [show PyData.eqv (.list ((n0 :: lf0).map PyData.str)) (.list []) = false from by simp [PyData.eqv, PyData.eqvAll]]
      refine iteT ⟨_, fun σ' H' h => h, ?_⟩
      have hne : 1 ≤ (n0 :: lf0).length := by rw [List.length_cons]; omega
      have OG3 : ∀ b o, b ≠ r → H b = some o → G3 b = some o := fun b o nb e => S3 _ _ (OG b o nb e)
      generalize n0 :: lf0 = lf at ea ea3 lm pm ndL nlf ll8 nmL hne ⊢
      clear ea ed ts S3 RG OG e_e he
      -- some
      refine ⟨_, rfl, _, rfl, _, rfl, r, 3, rfl, R3, by decide, by decide +kernel, fun u H4 u0 u1 R4 O4 => ⟨_, _, rfl, rfl, ?_⟩⟩
      refine ⟨r, la, lf.map V.str, 1 + u, rfl, R4, .inl (SqL.of (O4 _ _ nar ea3)), by rw [List.length_map]; omega, by omega, by omega, fun ls ys rest H5 R5 O5 hls els pmf lys => ?_⟩
      obtain ⟨cs, rfl, mcs, ndcs⟩ := few_of (f := V.str) (xs := lf) (fun a _ b _ h => V.str.inj h) nlf pmf
      have lcs : 1 ≤ cs.length := by
        rw [List.length_map, List.length_map] at lys
        split at lys <;> omega
      have O35 : Only r G3 H5 := Only.trans O4 O5
      have nls : ls ≠ r := R4.ne hls
      have ed5 := O35 _ _ ndr ed3
      have ea5 := O35 _ _ nar ea3
      have ts5 := ts3.keep (KT.only O35 R3)
      have OG5 : ∀ b o, b ≠ r → H b = some o → H5 b = some o := fun b o nb e => O35 _ _ nb (OG3 b o nb e)
      have nlsd : ls ≠ d := fun z => by rw [z, ed5] at els; cases els
      clear ea3 ed3 ts3 OG3 R3 O35 lys pmf
      -- left
      refine ⟨_, rfl, la, rfl, ⟨_, SqL.of ea5⟩, fun D hD => ?_⟩
      have nDr : D ≠ r := R5.ne hD
      have nDd : D ≠ d := fun z => by rw [z, ed5] at hD; cases hD
      have nDl : ls ≠ D := ne_of_none els hD
      refine lc_list (xs := lf.map V.str) (fun i H' => H' D = some (.lst (((lf.take i).filter fun n => !decide (n ∈ cs)).map V.str)) ∧ Same H5 H') ⟨upd_same, Same.new hD⟩ (fun i H' _ h => SqL.of (h.2 _ _ ea5)) ?_ ?_
      · rintro i x H6 hx6 ⟨eD, S6⟩
        rw [List.getElem?_map] at hx6
        cases en2 : lf[i]? with
        | none => rw [en2] at hx6; cases hx6
        | some n =>
          rw [en2] at hx6
          cases hx6
          refine ⟨rfl, ?_⟩
          refine ⟨_, rfl, _, rfl, ls, _, rfl, .inl (SqL.of (S6 _ _ els)), rfl, flat_strs _, _, rfl, ?_⟩
          rw [inV_strs]
          have tk : (lf.take (i + 1)).filter (fun n => !decide (n ∈ cs)) = (lf.take i).filter (fun n => !decide (n ∈ cs)) ++ (if n ∈ cs then [] else [n]) := by
            rw [List.take_add_one, en2, List.filter_append]
            congr 1
            by_cases c : n ∈ cs
            · simp [c]
            · simp [c]
          have li : i < lf.length := (List.getElem?_eq_some_iff.mp en2).1
          by_cases c : n ∈ cs
          · simp only [if_true, c, decide_true, Bool.not_true, Bool.false_eq_true, if_false]
            refine ⟨?_, S6⟩
            rw [tk, if_pos c, List.append_nil]
            exact eD
          · simp only [if_true, c, decide_false, Bool.not_false]
            refine ⟨_, rfl, _, eD, ?_, ?_, Same.at hD S6⟩
            · rw [List.length_map, sizeLine_eq]
              have := List.length_filter_le (fun n => !decide (n ∈ cs)) (lf.take i)
              rw [List.length_take] at this
              omega
            · rw [upd_same, tk, if_neg c, List.map_append]
              rfl
      rintro H6 ⟨eD, S6⟩
      rw [List.length_map, List.take_length] at eD
      have R6 := Same.rl S6 R5
      have ed6 := S6 _ _ ed5
      have ts6 := ts5.keep (KT.same S6)
      have els6 := S6 _ _ els
      have OG6 : ∀ b o, b ≠ r → H b = some o → H6 b = some o := fun b o nb e => S6 _ _ (OG5 b o nb e)
      clear ed5 ts5 ea5 els OG5 S6 R5 hD hls R4 O4 O5
      -- first, begin
      refine ⟨_, rfl, _, rfl, _, _, rfl, rfl, .inl ⟨by decide, by decide⟩, r, 2 * t, rfl, R6, by omega, Nat.lt_trans (lg (b := 10) (by omega) (by omega) (by decide)) (by decide), fun f H7 f0 f1 R7 O7 => ?_⟩
      have ed7 := O7 _ _ ndr ed6
      have ts7 := ts6.keep (KT.only O7 R6)
      have els7 := O7 _ _ nls els6
      have eD7 := O7 _ _ nDr eD
      have OG7 : ∀ b o, b ≠ r → H b = some o → H7 b = some o := fun b o nb e => O7 _ _ nb (OG6 b o nb e)
      clear ed6 ts6 els6 eD OG6 R6 O7
      obtain ⟨c0, z, rfl⟩ : ∃ c0 z, cs = c0 ++ [z] := by
        rcases List.eq_nil_or_concat cs with e | ⟨c0, z, e⟩
        · rw [e] at lcs
          exact absurd lcs (by decide)
        · exact ⟨c0, z, by rw [e, List.concat_eq_append]⟩
      refine ⟨_, rfl, _, rfl, _, rfl, _, rfl, ls, _, rfl, SqL.of els7, fun p hp => ?_⟩
      have ecut : cutV ((c0 ++ [z]).map V.str) none (some (-1)) = c0.map V.str := by
        rw [cutV_last, List.map_append]
        exact List.dropLast_concat
      rw [ecut]
      have S8 := Same.new (o := .lst (c0.map V.str)) hp
      have ep8 : (upd H7 p (.lst (c0.map V.str))) p = some (.lst (c0.map V.str)) := upd_same
      have R8 := Same.rl S8 R7
      have npr : p ≠ r := R7.ne hp
      have npd : p ≠ d := fun z => by rw [z, ed7] at hp; cases hp
      generalize upd H7 p (.lst (c0.map V.str)) = H8 at S8 ep8 R8 ⊢
      have ed8 := S8 _ _ ed7
      have ts8 := ts7.keep (KT.same S8)
      have els8 := S8 _ _ els7
      have eD8 := S8 _ _ eD7
      have OG8 : ∀ b o, b ≠ r → H b = some o → H8 b = some o := fun b o nb e => S8 _ _ (OG7 b o nb e)
      clear ed7 ts7 els7 eD7 OG7 R7 S8 hp ecut
      have ndc0 : c0.Nodup := (List.nodup_append.mp ndcs).1
      have fresh : ∀ i n, (c0 ++ [z])[i]? = some n → n ∉ R.map (·.1) ++ (c0 ++ [z]).take i := fun i n e hm => by
        have hn : n ∈ c0 ++ [z] := List.mem_of_getElem? e
        rcases List.mem_append.mp hm with hm | hm
        · exact (List.nodup_append.mp ndL).2.2 n hm n (mcs n hn) rfl
        · have nd2 := ndcs
          rw [← List.take_append_drop i (c0 ++ [z])] at nd2
          have hd2 : n ∈ (c0 ++ [z]).drop i := by
            rw [List.mem_iff_getElem?]
            exact ⟨0, by rw [List.getElem?_drop]; exact e⟩
          exact (List.nodup_append.mp nd2).2.2 n hm n hd2 rfl
      have lcs8 : R.length + c0.length + 1 ≤ 8 := by
        have h1 : (c0 ++ [z]).length ≤ lf.length := by
          have := (filter_perm nlf ndcs mcs).length_eq
          rw [List.length_append] at this
          omega
        rw [List.length_append] at h1
        have h2 : ([z] : List Str).length = 1 := rfl
        omega
      refine ⟨p, rfl, ⟨_, SqL.of ep8⟩, for_list (xs := c0.map V.str) (fun i σ H' => (∃ b v8, σ = [some (.ref r), some (.int t), some (.ref l), some (.ref d), some (.ref D), some (.ref ls), some (.int f), some (.int b), v8, v9] ∧ f ≤ b ∧ b ≤ f + t * i) ∧ Rl H' r ∧ (∀ b o, b ≠ r → b ≠ d → H8 b = some o → H' b = some o) ∧
        ∃ L' R', H' d = some (.dK (Kvs L')) ∧ Tups H' L' R' ∧ R'.map (·.1) = R.map (·.1) ++ (c0 ++ [z]).take i ∧ ∀ x ∈ R', SpOk t x ∧ Fin1 t x) ⟨⟨f, _, rfl, Int.le_refl _, by simp⟩, R8, (fun b o _ _ e => e), L, R, ed8, ts8, by simp, hx⟩ (fun i σ H' _ h => SqL.of (h.2.2.1 _ _ npr npd ep8)) ?_ ?_⟩
      · rintro i x σ' H9 hx9 ⟨⟨b, v8, rfl, b0, b1⟩, R9, O9, L', R', ed9, ts9, en9, hR9⟩
        rw [List.getElem?_map] at hx9
        cases en2 : c0[i]? with
        | none => rw [en2] at hx9; cases hx9
        | some n =>
          rw [en2] at hx9
          cases hx9
          have li : i < c0.length := (List.getElem?_eq_some_iff.mp en2).1
          have en3 : (c0 ++ [z])[i]? = some n := by rw [List.getElem?_append_left li]; exact en2
          have bi : t * i ≤ 32 * 8 := Int.le_trans (Int.mul_le_mul_of_nonneg_right t2 (by omega)) (by omega)
          refine ⟨_, rfl, _, rfl, _, _, rfl, rfl, _, rfl, _, rfl, r, t, rfl, R9, by omega, Nat.lt_trans (lg (b := 10) (by omega) (by omega) (by decide)) (by decide), fun g H10 g0 g1 R10 O10 => ?_⟩
          refine ⟨_, _, rfl, rfl, by show 2 ≤ sizeLine; decide, fun q hq => ?_⟩
          have S11 := Same.new (o := .tup [V.int b, .int (b + 1 + g)]) hq
          have eq11 : (upd H10 q (.tup [V.int b, .int (b + 1 + g)])) q = some (.tup [V.int b, .int (b + 1 + g)]) := upd_same
          have R11 := Same.rl S11 R10
          generalize upd H10 q (.tup [V.int b, .int (b + 1 + g)]) = H11 at S11 eq11 R11 ⊢
          have ed11 := S11 _ _ (O10 _ _ ndr ed9)
          have ts11 := (ts9.keep (KT.only O10 R9)).keep (KT.same S11)
          have hn : n ∉ R'.map (·.1) := by rw [en9]; exact fresh i n en3
          obtain ⟨g1', g2'⟩ := tups_put ed11 ts11 hn (show TupAt H11 q b (b + 1 + g) from eq11)
          have lL : L'.length ≤ 8 := by
            rw [ts9.len, ← List.length_map (f := (·.1)) (as := R'), en9, List.length_append, List.length_map, List.length_take]
            omega
          refine ⟨_, rfl, _, rfl, d, _, rfl, DPut.k (k := Sum.inr n) ed11 (by rw [kvs_len, sizeLine_eq]; omega), ?_⟩
          have keep : ∀ b' o, b' ≠ r → b' ≠ d → H8 b' = some o → (upd H11 d (.dK (putK (Kvs L') (.inr n) (.ref q)))) b' = some o := fun b' o nb nbd e => by
            rw [upd_ne nbd]
            exact S11 _ _ (O10 _ _ nb (O9 _ _ nb nbd e))
          have nqd : q ≠ d := fun z => by rw [z, ed11] at eq11; cases eq11
          have eq12 : (upd H11 d (.dK (putK (Kvs L') (.inr n) (.ref q)))) q = some (.tup [V.int b, .int (b + 1 + g)]) := by rw [upd_ne nqd]; exact eq11
          have R12 : Rl (upd H11 d (.dK (putK (Kvs L') (.inr n) (.ref q)))) r := by
            obtain ⟨x1, x2, x3, e⟩ := R11
            exact ⟨x1, x2, x3, by rw [upd_ne ndr.symm]; exact e⟩
          generalize upd H11 d (.dK (putK (Kvs L') (.inr n) (.ref q))) = H12 at g1' g2' keep eq12 R12 ⊢
          have hv : valV (Kvs (L' ++ [(n, q)])) (.inr n) = some (.ref q) := by
            rw [kvs_snoc, valV_snoc _ _ _ _ (valV_none (by rw [ts9.names]; exact hn)), if_pos rfl]
          refine ⟨_, rfl, _, rfl, d, V.ref q, rfl, ?_, .inr (.inl ⟨q, _, _, _, rfl, rfl, SqT.of eq12, rfl, ?_⟩)⟩
          · have := DGet.k (k := Sum.inr n) g1'
            rw [hv] at this
            exact this
          refine ⟨⟨b + 1 + g, _, rfl, by omega, ?_⟩, R12, keep, L' ++ [(n, q)], R' ++ [(n, b, b + 1 + g)], g1', g2', ?_, ?_⟩
          · have : t * ((i + 1 : Nat) : Int) = t * i + t := by rw [Int.natCast_add, Int.mul_add]; simp
            omega
          · rw [List.map_append, en9, List.take_add_one, en3, List.append_assoc]
            rfl
          · intro x hx'
            rcases List.mem_append.mp hx' with hx' | hx'
            · exact hR9 x hx'
            · rw [List.mem_singleton.mp hx']
              refine ⟨⟨?_, ?_⟩, ⟨?_, ?_⟩, ?_, ?_⟩
              · show 1 ≤ b + 1 + g - b; omega
              · show b + 1 + g - b ≤ 8 * t; omega
              · show -1000 ≤ b; omega
              · show b + 1 + g ≤ 1000; omega
              · show -t ≤ b; omega
              · show b + 1 + g ≤ 11 * t; have h9 : t * (i : Int) ≤ t * 7 := Int.mul_le_mul_of_nonneg_left (by omega) (by omega); omega
      · rintro σ' H9 ⟨⟨b, v8, rfl, b0, b1⟩, R9, O9, L', R', ed9, ts9, en9, hR9⟩
        rw [List.length_map] at b1 en9
        have bi : t * c0.length ≤ 32 * 8 := Int.le_trans (Int.mul_le_mul_of_nonneg_right t2 (by omega)) (by omega)
        refine ⟨_, rfl, _, rfl, _, _, rfl, rfl, _, _, rfl, rfl, .inl ⟨_, rfl, _, rfl, _, _, rfl, rfl, by omega, _, _, rfl, rfl, ?_⟩⟩
        have mo0 : 0 ≤ (f - b - 1) % t := Int.emod_nonneg _ (by omega)
        have mo1 : (f - b - 1) % t < t := Int.emod_lt_of_pos _ (by omega)
        refine ⟨_, rfl, _, rfl, by show 4 ≤ sizeLine; decide, fun l4 hl4 => ?_⟩
        have R10 := R9.new (o := .lst [V.int 0, .int 0, .int 0, .int 1]) hl4
        refine ⟨r, _, [V.int 0, .int 0, .int 0, .int 1], rfl, R10, .inl ⟨l4, rfl, R9.ne hl4, .inl (SqL.of upd_same)⟩, Nat.succ_pos _, by show 4 ≤ sizeLine; decide, fun pv' H11 hpv R11 O11 => ?_⟩
        obtain ⟨c, rfl, c01⟩ : ∃ n : Int, pv' = .int n ∧ (n = 0 ∨ n = 1) := by
          simp only [List.mem_cons, List.not_mem_nil, or_false] at hpv
          rcases hpv with rfl | rfl | rfl | rfl
          · exact ⟨0, rfl, .inl rfl⟩
          · exact ⟨0, rfl, .inl rfl⟩
          · exact ⟨0, rfl, .inl rfl⟩
          · exact ⟨1, rfl, .inr rfl⟩
        refine ⟨_, _, rfl, rfl, .inl ⟨by omega, by omega⟩, _, _, rfl, rfl, ?_⟩
        have tc : 0 ≤ t * c ∧ t * c ≤ t := by rcases c01 with rfl | rfl <;> omega
        have O9b : Only r H9 H11 := Only.trans (Only.new hl4) O11
        generalize (f - b - 1) % t = mo at mo0 mo1 ⊢
        generalize t * c = tc' at tc ⊢
        refine ⟨_, rfl, _, rfl, _, rfl, _, _, rfl, rfl, by show 2 ≤ sizeLine; decide, fun q hq => ?_⟩
        have S12 := Same.new (o := .tup [V.int b, .int (b + (1 + mo + tc'))]) hq
        have eq12 : (upd H11 q (.tup [V.int b, .int (b + (1 + mo + tc'))])) q = some (.tup [V.int b, .int (b + (1 + mo + tc'))]) := upd_same
        have R12 := Same.rl S12 R11
        generalize upd H11 q (.tup [V.int b, .int (b + (1 + mo + tc'))]) = H12 at S12 eq12 R12 ⊢
        have ed12 := S12 _ _ (O9b _ _ ndr ed9)
        have ts12 := (ts9.keep (KT.only O9b R9)).keep (KT.same S12)
        have els12 := S12 _ _ (O9b _ _ nls (O9 _ _ nls nlsd els8))
        have eD12 := S12 _ _ (O9b _ _ nDr (O9 _ _ nDr nDd eD8))
        have en3 : (c0 ++ [z])[c0.length]? = some z := by rw [List.getElem?_append_right (Nat.le_refl _)]; simp
        have en10 : R'.map (·.1) = R.map (·.1) ++ c0 := by rw [en9, List.take_append_of_le_length (Nat.le_refl _), List.take_length]
        have hn : z ∉ R'.map (·.1) := by rw [en9]; exact fresh _ _ en3
        obtain ⟨g1', g2'⟩ := tups_put ed12 ts12 hn (show TupAt H12 q b (b + (1 + mo + tc')) from eq12)
        have hat : atI ((c0 ++ [z]).map V.str) (-1) = some (.str z) := by
          rw [List.map_append]
          exact atI_last (c0.map V.str) (V.str z)
        refine ⟨_, rfl, _, rfl, _, rfl, .inl ⟨ls, _, _, _, rfl, rfl, SqL.of els12, hat, ?_⟩⟩
        have lL : L'.length ≤ 8 := by
          rw [ts9.len, ← List.length_map (f := (·.1)) (as := R'), en10, List.length_append, List.length_map]
          omega
        refine ⟨d, _, rfl, DPut.k (k := Sum.inr z) ed12 (by rw [kvs_len, sizeLine_eq]; omega), ?_⟩
        have nDd' : D ≠ d := nDd
        refine ⟨(lf.filter fun n => !decide (n ∈ c0 ++ [z])).length, ?_, ⟨D, _, _, _, _, _, rfl, lf.filter fun n => !decide (n ∈ c0 ++ [z]), L' ++ [(z, q)], R' ++ [(z, b, b + (1 + mo + tc'))], by rw [upd_ne nDd]; exact eD12, nDr, nDd, rfl, g1', g2', ?_, ?_⟩, ?_, ?_⟩
        · have h1 := (filter_perm nlf ndcs mcs).length_eq
          rw [List.length_append, List.length_append] at h1
          have h2 : ([z] : List Str).length = 1 := rfl
          omega
        · rw [List.map_append, en10]
          show ((R.map (·.1) ++ c0) ++ [z] ++ _).Perm ns
          rw [List.append_assoc (R.map (·.1)) c0 [z], List.append_assoc]
          exact ((filter_perm nlf ndcs mcs).append_left _).trans pm
        · intro x hx'
          rcases List.mem_append.mp hx' with hx' | hx'
          · exact hR9 x hx'
          · rw [List.mem_singleton.mp hx']
            refine ⟨⟨?_, ?_⟩, ⟨?_, ?_⟩, ?_, ?_⟩
            · show 1 ≤ b + (1 + mo + tc') - b; omega
            · show b + (1 + mo + tc') - b ≤ 8 * t; omega
            · show -1000 ≤ b; omega
            · show b + (1 + mo + tc') ≤ 1000; omega
            · show -t ≤ b; omega
            · show b + (1 + mo + tc') ≤ 11 * t; have h9 : t * (c0.length : Int) ≤ t * 7 := Int.mul_le_mul_of_nonneg_left (by omega) (by omega); omega
        · obtain ⟨x1, x2, x3, e⟩ := R12
          exact ⟨x1, x2, x3, by rw [upd_ne ndr.symm]; exact e⟩
        · intro b' o nb e
          rw [upd_ne (ne_of_none e hd)]
          exact S12 _ _ (O9b _ _ nb (O9 _ _ nb (ne_of_none e hd) (OG8 b' o nb e)))
end
end K43
namespace K43
open PySem L2
open PyProof.Rows PySem.Spec
/-- a dict comprehension over a walk -/
theorem dc_it {J : It} {n : Nat} {G : Hp → Prop} {Y : Nat → Hp → V → Hp → Prop} (w : Walk J n G Y) {g : TG} {tt : TT} {tk tv : TE} {vs : List Nat} {σ : L2.St} {H1 : Hp} {D : Addr} {Qd : Hp → Prop} (Pv : Nat → Hp → Prop) (h0 : Pv 0 (upd H1 D (.dK []))) (hG : ∀ i H, i ≤ n → Pv i H → G H)
    (hs : ∀ i x H H', i < n → Pv i H → Y i H x H' → g x
                                                        (wipe σ vs) H' fun σ2 H2 => wipe σ2 vs = wipe σ vs ∧ tt σ2 H2 fun b H3 =>
      if b = true then tk σ2 H3 fun y H4 => tv σ2 H4 fun z H5 => ∃ kvs k, y = kV k ∧ H5 D = some (.dK kvs) ∧ kvs.length < sizeLine ∧ Pv (i + 1) (upd H5 D (.dK (putK kvs k z))) else Pv (i + 1) H3) (hd : ∀ H, Pv n H → Qd H) :
    ∃ W : Nat → Nat → Hp → Prop, (∃ m, W 0 m
                                             (upd H1 D (.dK []))) ∧ ∀ i m H, W i m H →
      (J.stop i H ∧ Qd H) ∨ (J.go i H ∧ ∃ Nx : Hp → Prop, (∀ H', Nx H' → ∃ m', m' < m ∧ W
                                                                                          (i + 1) m' H') ∧ ∀ x H', J.yld i H x H' → g x (wipe σ vs) H' fun σ2 H2 => wipe σ2 vs = wipe σ vs ∧ tt σ2 H2 fun b H3 =>
        if b = true then tk σ2 H3 fun y H4 => tv σ2 H4 fun z H5 => ∃ kvs k, y = kV k ∧ H5 D = some
                                                                                                   (.dK kvs) ∧ kvs.length < sizeLine ∧ Nx (upd H5 D (.dK (putK kvs k z))) else Nx H3) := by
  refine ⟨fun i m H => m = n - i ∧ i ≤ n ∧ Pv i H,
                                                   ⟨n, by simp, Nat.zero_le _, h0⟩, ?_⟩
  rintro i m H ⟨rfl, hi, p⟩
  have q := hG i H hi p
  by_cases hlt : i < n
  · refine .inr ⟨w.goes i H hlt q, Pv (i + 1), fun H' p' => ⟨n -
                                                                 (i + 1), by omega, rfl, hlt, p'⟩, fun x H' y => hs i x H H' hlt p (w.yields i H x H' hlt q y)⟩
  · have e : i = n := by omega
    subst e
    exact .inl ⟨w.stops H q, hd H p⟩
theorem upd_idem {H : Hp} {d : Addr} {u : HO} (h : H d = some u) : upd H d u = H := by
  funext b
  by_cases e : b = d
  · rw [e, upd_same, h]
  · rw [upd_ne e]
theorem same_lock {H G : Hp} {d : Addr} {u o : HO} (hd : H d = some u) (s : Same (upd H d o) G) : Same H (upd G d u) := fun b v e => by
  by_cases c : b = d
  · rw [c, upd_same]
    rw [c, hd] at e
    exact e
  · rw [upd_ne c]
    exact s b v (by rw [upd_ne c]; exact e)
theorem kt_lock {H : Hp} {d : Addr} {u o : HO} (hd : H d = some u) (n : ∀ xs, u ≠ .tup xs) : KT H (upd H d o) := KT.put hd n
section
variable {P : Program} {w : World} {K : PySem.W.Frag}
                                                      {mg : Str → Option Value} {base : Heap}
def sp_is_span (K : PySem.W.Frag) : Sp := fun vs H Q _ => ∃ (t : Int) (a : Addr) (b e : Int), vs = [.int t, .ref a] ∧ TupAt H a b e ∧ (-1000000000000 < b ∧ b < 1000000000000) ∧ (-1000000000000 < e ∧ e < 1000000000000) ∧ (1 ≤ t ∧ t ≤ 32) ∧ 1 ≤ e - b ∧ e - b ≤ 8 * t ∧ Q (.bl true) H
theorem isInD_int {n : Int} (h : -1000000000000 < n ∧ n < 1000000000000) : isInD (.int n) = true := by
  show (decide (-1000000000000 < n) && decide (n < 1000000000000)) = true
  rw [decide_eq_true h.1, decide_eq_true h.2]
  rfl
theorem ok_is_span (T : T K mg) : FnOk P w K mg base CX0 2 T.f_is_span T.d_is_span ["interval", "value"] (sp_is_span K) := by
  have G_is_integer : FnOk P w K mg base CX0 1 T.f_is_integer T.d_is_integer ["value"] (sp_is_integer K) := ok_is_integer T
  refine T.F_is_span.ok sc_is_span (fun vs H Q E h => ?_) (fun cdv A outer s H vs Q E hr h => ?_)
  · obtain ⟨t, a, b, e, rfl, _⟩ := h
    rfl
  · obtain ⟨t, a, b, e, rfl, ha, hb, he, ht, h1, h2, k⟩ := h
    have hu := hu_of hr
    have hr_is_integer : Room 1 _ := hr.mono (by decide)
    obtain ⟨_, c_MAX_LIFE⟩ := T.c_MAX_LIFE
    refine ⟨_, (pss_cons (ps_if (PW.pt (pw_or (pt_not (pt_val (pe_callB call_isi (by rfl) T.z_isinstance (by decide +kernel) (pa_cons (pv 1) (pa_cons (pe_bltn (v := V.ty "tuple") (u := Value.type "tuple") (by rfl) T.z_tuple (by decide +kernel) rfl) pa_nil))))) (pw_or1 (pt_cmpR op_ne (pe_callB call_len (by rfl) T.z_len (by decide +kernel) (pa_cons (pv 1) pa_nil)) pe_int (nomark _)))))
      (pss_one (ps_ret pe_bl))
      pss_nil)
      (pss_cons (ps_if (PW.pt (pw_or (pt_not (pt_val (pe_call G_is_integer hr_is_integer rfl T.m_is_integer T.F_is_integer.kp T.b_is_integer .nil pass0 (pa_cons (pe_ix ix_seq (pv 1) pe_int (fun _ _ => rfl)) pa_nil)))) (pw_or1 (pt_not (pt_val (pe_call G_is_integer hr_is_integer rfl T.m_is_integer T.F_is_integer.kp T.b_is_integer .nil pass0 (pa_cons (pe_ix ix_seq (pv 1) pe_int (fun _ _ => rfl)) pa_nil)))))))
      (pss_one (ps_ret pe_bl))
      pss_nil)
      (pss_one (ps_ret (pe_chain op_le op_le pe_int (pe_op op_sub (pe_ix ix_seq (pv 1) pe_int (fun _ _ => rfl)) (pe_ix ix_seq (pv 1) pe_int (fun _ _ => rfl))) (pe_op op_mul (pe_glob (v := V.int 8) rfl c_MAX_LIFE ⟨_, rfl⟩) (pv 0))))))), ?_⟩
    have sq : SqT K H a [V.int b, .int e] := SqT.of ha
    refine ⟨_, rfl, _, _, _, _, true, rfl, .ty _, .base (.tup ha), kit_ty (by decide +kernel), _, rfl, iteF ?_⟩
    refine ⟨_, rfl, _, _, rfl, .inr ⟨_, sq, rfl⟩, rfl, _, rfl, ?_⟩
    rw [show (!decide (V.int ((([V.int b, V.int e] : List V).length : Nat) : Int) = V.int 2)) = false from rfl]
    refine iteF ?_
    refine ⟨_, rfl, .inr (.inl ⟨_, _, _, _, rfl, rfl, sq, rfl, ?_⟩)⟩
    refine ⟨_, .int b, rfl, .inl (.int _), _, rfl, ?_⟩
    rw [isInD_int hb]
    refine iteF ?_
    refine ⟨_, rfl, .inr (.inl ⟨_, _, _, _, rfl, rfl, sq, rfl, ?_⟩)⟩
    refine ⟨_, .int e, rfl, .inl (.int _), _, rfl, ?_⟩
    rw [isInD_int he]
    refine iteF ?_
    refine ⟨_, rfl, .inr (.inl ⟨_, _, _, _, rfl, rfl, sq, rfl, ?_⟩)⟩
    refine ⟨_, rfl, .inr (.inl ⟨_, _, _, _, rfl, rfl, sq, rfl, ?_⟩)⟩
    refine ⟨_, _, rfl, rfl, _, _, rfl, rfl, _, rfl, ?_⟩
    rw [decide_eq_true h1]
    refine iteT ?_
    refine ⟨_, rfl, _, _, rfl, rfl, .inl ⟨by decide, by decide⟩, _, _, rfl, rfl, ?_⟩
    exact bl_to (decide_eq_true h2) k
/-- the rows of spans -/
structure Good (t : Int) (R : Rws) : Prop where
  nd : (R.map (·.1)).Nodup
  l1 : 1 ≤ R.length
  l8 : R.length ≤ 8
  nm : ∀ x ∈ R, nmC x.1 = true
  sp : ∀ x ∈ R, SpOk t x
  nr : ∀ x ∈ R, Near 900000000000 x
  t1 : 1 ≤ t
  t2 : t ≤ 32
def sp_are_rows (K : PySem.W.Frag) : Sp := fun vs H Q _ => ∃ (t : Int) (d : Addr) (L : List (Str × Addr)) (R : Rws), vs = [.int t, .ref d] ∧ H d = some (.dK (Kvs L)) ∧ Tups H L R ∧ Good t R ∧ ∀ H', Same H H' → Q (.bl true) H'
theorem okD_nm {z : Str} (h : nmC z = true) : okD (.str z) := by
  unfold okD
  rw [PyData.weight]
  have e : z.cps.size = z.length := rfl
  have := (nmC_len h).2
  omega
theorem ok_are_rows (T : T K mg) : FnOk P w K mg base CX0 3 T.f_are_rows T.d_are_rows ["interval", "value"] (sp_are_rows K) := by
  have G_is_span : FnOk P w K mg base CX0 2 T.f_is_span T.d_is_span ["interval", "value"] (sp_is_span K) := ok_is_span T
  have G_is_name : FnOk P w K mg base CX0 1 T.f_is_name T.d_is_name ["value"] (sp_is_name K) := ok_is_name T
  refine T.F_are_rows.ok sc_are_rows (fun vs H Q E h => ?_) (fun cdv A outer s H vs Q E hr h => ?_)
  · obtain ⟨t, d, L, R, rfl, _⟩ := h
    rfl
  · obtain ⟨t, d, L, R, rfl, hd, ts, gd, k⟩ := h
    have hu := hu_of hr
    have hr_is_span : Room 2 _ := hr.mono (by decide)
    have hr_is_name : Room 1 _ := hr.mono (by decide)
    obtain ⟨_, c_MAX_VALUES⟩ := T.c_MAX_VALUES
    refine ⟨_, (pss_cons (ps_if (PW.pt (pw_or (pt_not (pt_val (pe_callB call_isi (by rfl) T.z_isinstance (by decide +kernel) (pa_cons (pv 1) (pa_cons (pe_bltn (v := V.ty "dict") (u := Value.type "dict") (by rfl) T.z_dict (by decide +kernel) rfl) pa_nil))))) (pw_or1 (pt_not (pt_chain op_le op_le pe_int (pe_callB call_lenD (by rfl) T.z_len (by decide +kernel) (pa_cons (pv 1) pa_nil)) (pe_glob (v := V.int 8) rfl c_MAX_VALUES ⟨_, rfl⟩))))))
      (pss_one (ps_ret pe_bl))
      pss_nil)
      (pss_one (ps_ret (pe_callB (cr_all rfl) (by rfl) T.z_all (by decide +kernel) (pa_cons (pe_lock (pe_lc (own := [("name", 2)]) (g := gName 2) rfl sc_are_rows.nd (pi_keys (pv 1)) (blkOk_by (N := ["interval", "value", "name"]) (sc := defScope s_are_rows) (by decide +kernel)) (fun _ _ _ _ _ => (pg_name (i := 2) sc_are_rows.nd rfl (Or.inl rfl))) (fun _ _ _ _ _ => pts_nil) (fun _ _ _ _ _ => (pe_and (pe_call G_is_name hr_is_name rfl T.m_is_name T.F_is_name.kp T.b_is_name .nil pass0 (pa_cons (pv 2) pa_nil)) (pe_one (pe_call G_is_span hr_is_span rfl T.m_is_span T.F_is_span.kp T.b_is_span .nil pass0 (pa_cons (pv 0) (pa_cons (pe_dget (by exact hu) (pv 1) (pv 2) (fun _ _ => rfl)) pa_nil)))))))) pa_nil))))), ?_⟩
    refine ⟨_, rfl, _, _, _, _, true, rfl, .ty _, .base (.dK hd), kit_ty (by decide +kernel), _, rfl, iteF ?_⟩
    have hlen : (Kvs L).length = R.length := by rw [kvs_len, ts.len]
    refine ⟨_, rfl, d, Kvs L, rfl, hd, _, _, rfl, rfl, _, rfl, ?_⟩
    rw [hlen, decide_eq_true (by have := gd.l1; omega)]
    refine iteT ?_
    refine ⟨_, _, rfl, rfl, _, rfl, ?_⟩
    rw [decide_eq_true (by have := gd.l8; omega)]
    refine iteF ?_
    refine ⟨d, _, hd, True.intro, fun od => ?_⟩
    refine ⟨_, rfl, d, od, rfl, .inl ⟨Kvs L, upd_same, fun D hD => ?_⟩⟩
    have nDd : d ≠ D := fun z => by rw [← z, upd_same] at hD; cases hD
    have hD0 : H D = none := by rw [upd_ne nDd.symm] at hD; exact hD
    have kl : KT H (upd H d (.frz od (.dK (Kvs L)))) := KT.put hd (fun _ z => by cases z)
    refine lc_it walk_keys (fun i H' => H' D = some (.lst ((List.replicate i true).map V.bl)) ∧ Same (upd H d (.frz od (.dK (Kvs L)))) H') ⟨upd_same, Same.new hD⟩ (fun i H' _ h => h.2 _ _ upd_same) ?_ ?_
    · rintro i x H1 H2 hi ⟨eD, S⟩ ⟨rfl, kk, vv, ek, rfl⟩
      refine ⟨rfl, ?_⟩
      unfold tYes
      dsimp only
      rw [if_pos rfl]
      obtain ⟨⟨n, a⟩, hm, e3⟩ : ∃ p ∈ L, (Sum.inr p.1, V.ref p.2) = (kk, vv) := by
        have := List.mem_of_getElem? ek
        exact List.mem_map.mp this
      obtain ⟨e4, e5⟩ := Prod.mk.inj e3
      subst e4 e5
      have hn : n ∈ R.map (·.1) := by rw [← ts.names]; exact List.mem_map.mpr ⟨_, hm, rfl⟩
      have ts1 := ts.keep (KT.trans kl (KT.same S))
      obtain ⟨q, b, e, hv, hq, hR⟩ := ts1.get hn
      have g1 := gd.nr _ hR
      have g2 := gd.sp _ hR
      have g3 := gd.t2
      have g4 := gd.t1
      unfold Near at g1
      unfold SpOk at g2
      simp only at g1 g2
      refine ⟨_, rfl, _, .str n, rfl, .inl (.str _), okD_nm (gd.nm _ hR), fun H3 S3 => ?_⟩
      rw [show nmD (.str n) = true from gd.nm _ hR]
      refine ⟨_, rfl, iteT ?_⟩
      refine ⟨_, rfl, _, rfl, _, rfl, d, V.ref q, rfl, ?_, ?_⟩
      · refine .inl ⟨Kvs L, Sum.inr n, .inr ⟨od, S3 _ _ (S _ _ upd_same)⟩, rfl, hv.symm⟩
      refine ⟨t, q, b, e, rfl, (KT.same S3) _ _ hq, by omega, by omega, by omega, by omega, by omega, ?_⟩
      refine ⟨_, S3 _ _ eD, by rw [List.length_map, List.length_replicate, sizeLine_eq]; have := gd.l8; omega, ?_, Same.at hD (Same.trans S S3)⟩
      rw [upd_same, List.replicate_succ', List.map_append]
      rfl
    · rintro H1 ⟨eD, S⟩
      refine ⟨S _ _ upd_same, ?_⟩
      refine ⟨_, _, rfl, SqL.of (by rw [upd_ne nDd.symm]; exact eD), ?_⟩
      refine bl_to ?_ (k _ (same_lock hd S))
      rw [List.all_eq_true]
      intro b hb
      exact (List.mem_replicate.mp hb).2
end
end K43
/-! an own class's ==, !=, str, by the promises of its defs -/
namespace OW
open PySem PySem.Spec PyProof.Rows L2

section
variable {prog : Program} {w : World} {A : Around} {E : Value → Shared → Prop} {s : Shared} {K : PySem.W.Frag} {x C L : Addr} {h₀ : Heap} {m : Str → Option Value} {ox : Obj} {od : Option Obj} {b tb : Value}
/-- a comparison by what the left one's special method gives -/
theorem cmp_left {op : CmpOp} {Q : Value → Shared → Prop} (hu : A.units < cLine) (X : K.In s.heap) (I : PySem.W.InstAt s.heap x ox C od) (hb : PySem.W.Looks (model prog w) s.heap (typeOf b) tb) (hn : PySem.W.notFirst K C tb = true)
    (one : wpAny (model prog w) A (tryCompare (.ref x) (cmpInfo op).2.1 b) (fun r s' => ∃ v, r = some v ∧ Q v s') E s) : wpAny (model prog w) A (richCompare op (.ref x) b) Q E s := by
  unfold richCompare
  simp only [oneThing_ref]
  refine wpAny_holding (wpAny_bind (wpAny_cRoomFor hu (wpAny_bind (I.type.here (wpAny_bind (hb.here ?_))))))
  have fin : ∀ {k : Option Value → Sem Value}, (∀ v, k (some v) = pure v) → wpAny (model prog w) A (tryCompare (.ref x) (cmpInfo op).2.1 b >>= k) Q E s := fun hk => by
    refine wpAny_bind (wpAny_mono one
                                      (fun r s' z => ?_) fun _ _ e => e)
    obtain ⟨v, rfl, q⟩ := z
    rw [hk]
    exact wpAny_pure q
  split
  · rename_i q
    have e : PySem.W.subIn K tb (.ref C) = some false := by
      rcases Bool.or_eq_true_iff.mp hn with e | e
      · rw [beq_iff_eq.mp e] at q
        simp at q
      · exact beq_iff_eq.mp e
    refine wpAny_bind ((PySem.W.looks_subIn X e).here ?_)
    simp only [Bool.false_eq_true, if_false]
    exact fin fun v => rfl
  · refine wpAny_bind (wpAny_pure ?_)
    simp only [Bool.false_eq_true, if_false]
    exact fin fun v => rfl
/-- a special method that the class has from object -/
theorem if_builtin {M : Model} {name : Str} {id : String} {args : List Value} {Q : Option Value → Shared → Prop} (X : K.In s.heap) (I : PySem.W.InstAt s.heap x ox C od) (hs : PySem.W.findIn K (.ref C) name = some (some (.builtin id)))
    (hb : ∀ self, bindSpecial (.builtin id) self = pure (.builtin id, [self])) (h : wpAny M A (call (.builtin id) (.ref x :: args)) (fun v => Q (some v)) E s) : wpAny M A (callSpecialIfBound? (.ref x) name args) Q E s := by
  simp only [callSpecialIfBound?, bindSpecialIfBound?]
  refine wpAny_holding (wpAny_bind (wpAny_bind (wpAny_bind (I.type.here ((PySem.W.looks_findIn X hs).here (wpAny_bind (wpAny_askSetting (wpAny_ite ?_))))))))
  have fin : wpAny M A (call (.builtin id) ([.ref x] ++ args) >>= fun v => pure (some v)) Q E s := wpAny_bind (wpAny_mono h (fun v s' h' => wpAny_pure h') fun _ _ h' => h')
  split
  · exact wpAny_bind (wpAny_of_eq (hb _) (wpAny_pure (by exact fin)))
  · exact wpAny_tryCatch (wpAny_bind (wpAny_of_eq (hb _) (wpAny_pure (by exact fin))))
/-- != from an own == -/
theorem ne_left {f : Addr} {Q : Value → Shared → Prop} (hu : A.in1.units < cLine) (X : K.In s.heap) (I : PySem.W.InstAt s.heap x ox C od) (hm : PySem.W.mroIn K C (.type "object") = some true) (hn : PySem.W.findIn K (.ref C) "__ne__" = some (some (.builtin "object.__ne__")))
    (hs : PySem.W.findIn K (.ref C) "__eq__" = some (some (.ref f))) (hf : PySem.W.isFn K (.ref f) = true)
    (h : wpAny (model prog w) A.in1 (call (.ref f) [.ref x, b]) (fun v s' => ∃ z, v = .bool z ∧ Q (.bool (!z)) s') E s) : wpAny (model prog w) A (tryCompare (.ref x) (cmpInfo .NotEq).2.1 b) (fun r s' => ∃ v, r = some v ∧ Q v s') E s := by
  unfold tryCompare
  refine wpAny_bind (if_builtin X I hn F.cmp_object.ne.bind (wpAny_call (codeAny_call_builtin F.cmp_object.ne.plain F.cmpEntry_ne (PySem.W.check_slot F.cmpKind_ne F.cmpSplit_ne (I.type.andThen (PySem.W.looks_mroIn X hm)) (F.cmpArgs_ne _ _) ?_))))
  unfold Builtin.«object.__ne__»
  refine wpAny_bind (wpAny_of_eq (a := ((Value.ref x), [b])) rfl ?_)
  dsimp only
  refine wpAny_bind (wpAny_cRoomFor hu ?_)
  refine wpAny_bind (PySem.W.ifBound_K X I hs hf (wpAny_mono h (fun v s' z => ?_) fun _ _ e => e))
  obtain ⟨z, rfl, q⟩ := z
  refine wpAny_bind (wpAny_truthy_bool ?_)
  exact wpAny_pure (wpAny_pure ⟨_, rfl, q⟩)
end

/-- the type of a value -/
def Tyd (K : PySem.W.Frag) (H : Hp) (y : V) (tb : Value) : Prop :=
  match y with
  | .non => tb = .type "NoneType"
  | .bl _ => tb = .type "bool"
  | .int _ => tb = .type "int"
  | .str _ => tb = .type "str"
  | .ref a => ((∃ xs, SqL K H a xs) ∧ tb = .type "list") ∨ ((∃ xs, SqT K H a xs) ∧ tb = .type "tuple") ∨ ∃ C dx fs, H a = some (.ins C dx fs) ∧ tb = .ref C
  | _ => False
section
variable {X : Cx} {pins : List (Addr × Obj)} {σ : L2.St} {H : Hp} {s : Shared} {y : V} {u tb : Value}
theorem tyd_at {h : Heap} {a : Addr} {o : Obj} {M : Model} {t : Value} (ho : h.get? a = some o) (hc : o.cls = t) : PySem.W.Looks M h (typeOf (.ref a)) t := fun A Q E s k q => wpAny_typeOf_ref (k _ _ ho) (by rw [hc]; exact q)
theorem tyd_looks (I : Inv X pins σ H s) (r : RelV y u) (t : Tyd X.K H y tb) : PySem.W.Looks (model X.prog X.w) s.heap (typeOf u) tb := by
  cases y with
  | non => cases r; cases t; exact PySem.W.Looks.of_pure rfl
  | bl b => cases r; cases t; exact PySem.W.Looks.of_pure rfl
  | int i => obtain ⟨tk, rfl⟩ := r; cases t; exact PySem.W.Looks.of_pure rfl
  | str x => obtain ⟨tk, rfl⟩ := r; cases t; exact PySem.W.Looks.of_pure rfl
  | ref a =>
    cases r
    rcases t with ⟨⟨xs, h⟩, rfl⟩ | ⟨⟨xs, h⟩, rfl⟩ | ⟨C, dx, fs, h, rfl⟩
    · obtain ⟨its, _, pl, _⟩ := I.list h
      obtain ⟨o, ho, hc, _⟩ := pl.isList
      exact tyd_at ho hc
    · obtain ⟨its, _, ⟨o, ho, hc, _⟩, _⟩ := I.tuple h
      exact tyd_at ho hc
    · obtain ⟨mA, O, _⟩ := ins_get I.hok h
      obtain ⟨od, J, _⟩ := O.look
      exact J.type
  | byt _ => exact t.elim
  | flt _ => exact t.elim
  | ty _ => exact t.elim

/-- a def called from within a builtin -/
theorem run_at {CX : CXT} {n : Nat} {f : Addr} {fd : FuncData} {ps : List Str} {sp : Sp} {E : XK} {A : Around} {Q : VK} {us : List Value} {vs : List V} (F : FnOk X.prog X.w X.K X.mg X.base CX n f fd ps sp) (sb : Sub X n A) (hb : Binds X.K fd ps []) (hx : Passes CX X E)
    (I : Inv X pins σ H s) (r : Vals vs us) (h : sp vs H Q E) : wpAny (model X.prog X.w) A (call (.ref f) us) (EP X pins σ Q) X.xe s := by
  have e0 : Env0 X.prog X.w X.K X.mg X.base A X.stack s H := by
    have e := I.env0
    exact ⟨by rw [sb.fr]; exact e.frames, e.mod, e.bs, e.bsz, e.funs, e.frf, e.hok, e.bare⟩
  have hl := F.len _ _ _ _ h
  refine wpAny_call (codeAny_mono (F.run A X.stack s H ⟨us, []⟩ us vs Q E sb.room e0 (by
    have := hb s us I.kIn (by rw [List.append_nil, ← r.length]; exact hl)
    rwa [List.append_nil] at this) r h) fun r s' hq => ?_)
  cases r with
  | error e => exact hx pins σ H s e s' I hq
  | ok fl =>
    cases fl with
    | ret w => exact I.after hq
    | next => exact False.elim hq
    | brk => exact False.elim hq
    | cont => exact False.elim hq
theorem not_ni {z : V} {v : Value} {R : Prop} (r : RelV z v) (h : v ≠ .notImplemented → R) : R := h fun e => by
  subst e
  cases z <;> first | exact nomatch r | (obtain ⟨t, e⟩ := r; exact nomatch e) | (cases r)

/-- the class's own == -/
structure OwnEq (X : Cx) (C f : Addr) : Prop where
  fs : PySem.W.findIn X.K (.ref C) "__eq__" = some (some (.ref f))
  fn : PySem.W.isFn X.K (.ref f) = true
def rOwnEq (K : PySem.W.Frag) (C : Addr) (sp : Sp) (E : XK) : R2 := fun x y H Q => ∃ a dx fs tb, x = .ref a ∧ H a = some (.ins C dx fs) ∧ Tyd K H y tb ∧ PySem.W.notFirst K C tb = true ∧ sp [x, y] H Q E
theorem op_ownEq {CX : CXT} {n : Nat} {C f : Addr} {fd : FuncData} {ps : List Str} {sp : Sp} {E : XK} (F : FnOk X.prog X.w X.K X.mg X.base CX n f fd ps sp) (o : OwnEq X C f) (hr : Room n X.A) (hb : Binds X.K fd ps []) (hx : Passes CX X E) :
    OpR X (compareOp .Eq) (rOwnEq X.K C sp E) := by
  intro pins s σ H x y v u Q I rx ry h
  obtain ⟨a, dx, fs, tb, rfl, ha, ty, nf, q⟩ := h
  cases rx
  obtain ⟨mA, O, _⟩ := ins_get I.hok ha
  obtain ⟨od, J, _⟩ := O.look
  show wpAny _ _ (richCompare .Eq (.ref a) u) _ _ _
  refine cmp_left hr.units0 I.kIn J (tyd_looks I ry ty) nf ?_
  unfold tryCompare
  refine wpAny_bind (PySem.W.ifBound_K I.kIn J o.fs o.fn (wpAny_mono (run_at F ⟨hr, rfl⟩ hb hx I (vs := [.ref a, y]) (.cons rfl (.cons ry .nil)) q) (fun v s' z => ?_) fun _ _ e => e))
  obtain ⟨zv, H', I', r', q'⟩ := z
  refine not_ni r' fun ne => ?_
  cases v <;> first | exact absurd rfl ne | exact wpAny_pure ⟨_, rfl, zv, H', I', r', q'⟩
def rOwnNe (K : PySem.W.Frag) (C : Addr) (sp : Sp) (E : XK) : R2 := fun x y H Q => ∃ a dx fs tb, x = .ref a ∧ H a = some (.ins C dx fs) ∧ Tyd K H y tb ∧ PySem.W.notFirst K C tb = true ∧ sp [x, y] H (fun v H' => ∃ b, v = .bl b ∧ Q (.bl (!b)) H') E
theorem op_ownNe {CX : CXT} {n : Nat} {C f : Addr} {fd : FuncData} {ps : List Str} {sp : Sp} {E : XK} (F : FnOk X.prog X.w X.K X.mg X.base CX n f fd ps sp) (o : OwnEq X C f) (hm : PySem.W.mroIn X.K C (.type "object") = some true)
    (hn : PySem.W.findIn X.K (.ref C) "__ne__" = some (some (.builtin "object.__ne__"))) (hr : Room (n + 1) X.A) (hb : Binds X.K fd ps []) (hx : Passes CX X E) :
    OpR X (compareOp .NotEq) (rOwnNe X.K C sp E) := by
  intro pins s σ H x y v u Q I rx ry h
  obtain ⟨a, dx, fs, tb, rfl, ha, ty, nf, q⟩ := h
  cases rx
  obtain ⟨mA, O, _⟩ := ins_get I.hok ha
  obtain ⟨od, J, _⟩ := O.look
  show wpAny _ _ (richCompare .NotEq (.ref a) u) _ _ _
  refine cmp_left hr.units0 I.kIn J (tyd_looks I ry ty) nf ?_
  refine ne_left hr.in1.units0 I.kIn J hm hn o.fs o.fn (wpAny_mono (run_at F ⟨hr.in1, rfl⟩ hb hx I (vs := [.ref a, y]) (.cons rfl (.cons ry .nil)) q) (fun v s' z => ?_) fun _ _ e => e)
  obtain ⟨zv, H', I', r', b, rfl, q'⟩ := z
  cases r'
  exact ⟨b, rfl, .bl (!b), H', I', rfl, q'⟩
end
end OW
/-! an own class's in, len, [..], +, str, by the promises of its defs -/
namespace OW
open PySem PySem.Spec PyProof.Rows L2
section
variable {X : Cx} {CX : CXT} {n : Nat} {C f : Addr} {fd : FuncData} {ps : List Str} {sp : Sp} {E : XK}
/-- the class has a def at f as its special method -/
structure OwnM (X : Cx) (C : Addr) (name : Str) (f : Addr) : Prop where
  fs : PySem.W.findIn X.K (.ref C) name = some (some (.ref f))
  fn : PySem.W.isFn X.K (.ref f) = true
/-- what holds of a tracked instance -/
theorem inst_at {pins : List (Addr × Obj)} {σ : L2.St} {H : Hp} {s : Shared} {a dx : Addr} {fs : List (Str × V)} (I : Inv X pins σ H s) (ha : H a = some (.ins C dx fs)) : ∃ ox od, PySem.W.InstAt s.heap a ox C od := by
  obtain ⟨mA, O, _⟩ := ins_get I.hok ha
  obtain ⟨od, J, _⟩ := O.look
  exact ⟨_, od, J⟩
def rOwnIn (C : Addr) (sp : Sp) (E : XK) (neg : Bool) : R2 := fun y x H Q => ∃ a dx fs, x = .ref a ∧ H a = some (.ins C dx fs) ∧ sp [x, y] H (fun v H' => ∃ b, v = .bl b ∧ Q (.bl (if neg then !b else b)) H') E
theorem op_ownIn (F : FnOk X.prog X.w X.K X.mg X.base CX n f fd ps sp) (o : OwnM X C "__contains__" f) (hr : Room n X.A) (hb : Binds X.K fd ps []) (hx : Passes CX X E) : OpR X (compareOp .In) (rOwnIn C sp E false) := by
  intro pins s σ H y x u v Q I ry rx h
  obtain ⟨a, dx, fs, rfl, ha, q⟩ := h
  cases rx
  obtain ⟨ox, od, J⟩ := inst_at I ha
  obtain ⟨m, hF⟩ := I.fr
  refine PySem.W.in_K hF I.ok.mod.kin J o.fs o.fn (wpAny_mono (run_at F ⟨hr, rfl⟩ hb hx I (vs := [.ref a, y]) (.cons rfl (.cons ry .nil)) q) (fun v s' z => ?_) fun _ _ e => e)
  obtain ⟨zv, H', I', r', b, rfl, q'⟩ := z
  cases r'
  exact wpAny_truthy_bool ⟨.bl b, H', I', rfl, q'⟩
theorem op_ownNotIn (F : FnOk X.prog X.w X.K X.mg X.base CX n f fd ps sp) (o : OwnM X C "__contains__" f) (hr : Room n X.A) (hb : Binds X.K fd ps []) (hx : Passes CX X E) : OpR X (compareOp .NotIn) (rOwnIn C sp E true) := by
  intro pins s σ H y x u v Q I ry rx h
  obtain ⟨a, dx, fs, rfl, ha, q⟩ := h
  cases rx
  obtain ⟨ox, od, J⟩ := inst_at I ha
  obtain ⟨m, hF⟩ := I.fr
  refine PySem.W.notIn_K hF I.ok.mod.kin J o.fs o.fn (wpAny_mono (run_at F ⟨hr, rfl⟩ hb hx I (vs := [.ref a, y]) (.cons rfl (.cons ry .nil)) q) (fun v s' z => ?_) fun _ _ e => e)
  obtain ⟨zv, H', I', r', b, rfl, q'⟩ := z
  cases r'
  exact wpAny_truthy_bool ⟨.bl (!b), H', I', rfl, q'⟩
/-- len(o) -/
def rOwnLen (C : Addr) (sp : Sp) (E : XK) : List V → Hp → VK → Prop := fun xs H Q => ∃ a dx fs, xs = [.ref a] ∧ H a = some (.ins C dx fs) ∧ sp [.ref a] H (fun v H' => ∃ i : Int, v = .int i ∧ 0 ≤ i ∧ i < 2 ^ 63 ∧ Q (.int i) H') E
theorem cr_ownLen (F : FnOk X.prog X.w X.K X.mg X.base CX n f fd ps sp) (o : OwnM X C "__len__" f) (hr : Room (n + 1) X.A) (hb : Binds X.K fd ps []) (hx : Passes CX X E) : CallR X (.builtin "len") (rOwnLen C sp E) := by
  intro pins s σ H xs us Q I r h
  obtain ⟨a, dx, fs, rfl, ha, q⟩ := h
  rw [Vals.ref1 r]
  obtain ⟨ox, od, J⟩ := inst_at I ha
  obtain ⟨m, hF⟩ := I.fr
  refine PySem.W.len_K hF I.ok.mod.kin J o.fs o.fn (wpAny_mono (run_at F ⟨hr.in1, rfl⟩ hb hx I (vs := [.ref a]) (.cons rfl .nil) q) (fun v s' z => ?_) fun _ _ e => e)
  obtain ⟨zv, H', I', r', i, rfl, h0, h1, q'⟩ := z
  obtain ⟨t, rfl⟩ := r'
  exact ⟨⟨h0, h1⟩, .int i, H', I'.tok _, ⟨_, rfl⟩, q'⟩
/-- o + p of one class -/
def rOwnAdd (C : Addr) (sp : Sp) (E : XK) : R2 := fun x y H Q => ∃ a dx fs b dy gs, x = .ref a ∧ H a = some (.ins C dx fs) ∧ y = .ref b ∧ H b = some (.ins C dy gs) ∧ sp [x, y] H Q E
theorem op_ownAdd (F : FnOk X.prog X.w X.K X.mg X.base CX n f fd ps sp) (o : OwnM X C "__add__" f) (hc : PySem.W.selfFirst X.K C = true) (hr : Room n X.A) (hb : Binds X.K fd ps []) (hx : Passes CX X E) : OpR X (binaryOp .Add) (rOwnAdd C sp E) := by
  intro pins s σ H x y u v Q I rx ry h
  obtain ⟨a, dx, fs, b, dy, gs, rfl, ha, rfl, hb', q⟩ := h
  cases rx
  cases ry
  obtain ⟨ox, od, J⟩ := inst_at I ha
  obtain ⟨oy, od', J'⟩ := inst_at I hb'
  obtain ⟨m, hF⟩ := I.fr
  refine PySem.W.binop_K hF I.ok.mod.kin J J'.type hc o.fs o.fn (wpAny_mono (run_at F ⟨hr, rfl⟩ hb hx I (vs := [.ref a, .ref b]) (.cons rfl (.cons rfl .nil)) q) (fun v s' z => ?_) fun _ _ e => e)
  obtain ⟨zv, H', I', r', q'⟩ := z
  refine not_ni r' fun ne => ?_
  cases v <;> first | exact absurd rfl ne | exact ⟨zv, H', I', r', q'⟩
end
section
variable {prog : Program} {w : World} {A : Around} {E : Value → Shared → Prop} {s : Shared} {K : PySem.W.Frag} {x C f : Addr} {ox : Obj} {od : Option Obj}
open Builtin Builtin.Str in
/-- str(o), an own __str__ -/
theorem str_own {Q : Value → Shared → Prop} (hu : A.in1.in1.units < cLine) (X : K.In s.heap) (I : PySem.W.InstAt s.heap x ox C od) (hs : PySem.W.findIn K (.ref C) "__str__" = some (some (.ref f))) (hf : PySem.W.isFn K (.ref f) = true)
    (h : wpAny (model prog w) A.in1.in1 (call (.ref f) [.ref x]) (PySem.W.StrBack Q) E s) : wpAny (model prog w) A (call (.type "str") [.ref x]) Q E s := by
  refine callType_codes (T := "str") (Bi := Builtin.«object.__init__»)
                                                                       (Q₁ := fun r s₁ => ∃ y u, r = .str y u ∧ Q r s₁) PySem.F.called_str (PySem.F.typeCall_str_1 _) PySem.F.entry_object_init ?_ ?_
  · refine codeAny_of_tree ?_
    show wpAny _ A.in1.in1 (do checkBuiltinCall "str.__new__"
                                                              ⟨[.type "str", .ref x], []⟩; again (.builtin "str.__new__" ⟨[.type "str", .ref x], []⟩)) _ _ s
    refine wpAny_bind (wpAny_of_eq (PySem.F.newCall_str_1 _) (wpAny_pure
                                                                         ⟨plainId_quiet (by decide +kernel) _, codeAny_builtin PySem.F.entry_str_new ?_⟩))
    rw [Around.under_plainId (by decide +kernel) _, str_new_tree]
    refine wpAny_bind (wpAny_pure (wpAny_bind (wpAny_of_eq isSubtype_str_str ?_)))
    have key : wpAny (model prog w) A.in1.in1 (PySem.Builtin.Str.strOf
                                                                       (.ref x)) (fun r s₁ => ∃ y u, r = .str y u ∧ Q r s₁) E s := by
      unfold PySem.Builtin.Str.strOf
      rw [show isExactStr (.ref x) = false from rfl]
      refine wpAny_bind
                        (m := cRoomFor _ _) (wpAny_cRoomFor hu ?_)
      refine wpAny_bind (m := callSpecial? (.ref x) (Str.ofString "__str__")) (PySem.W.special_fn X I hs (beq_iff_eq.mp hf) (wpAny_mono h (fun r s' z => ?_) fun _ _ y => y))
      cases r <;> first | exact z.elim | exact wpAny_pure
                                                          ⟨_, _, rfl, z⟩
    exact wpAny_bind (wpAny_mono key
                                     (fun r s₁ hr => wpAny_pure hr) fun _ _ y => y)
  · rintro obj s₁ ⟨y, u, rfl, hq⟩
    exact ⟨typeIs_str _ _ _, PySem.F.args_object_init_2 _ _, object_init_meets PySem.F.called_str.init.lookup PySem.F.called_str.made
                                                                                                                                      (by decide) prog w A.in1 _ s₁ ⟨typeIs_str _ _ _, rfl, hq⟩⟩
end
section
variable {X : Cx} {CX : CXT} {n : Nat} {C f : Addr} {fd : FuncData} {ps : List Str} {sp : Sp} {E : XK}
def rOwnStr (C : Addr) (sp : Sp) (E : XK) : List V → Hp → VK → Prop := fun xs H Q => ∃ a dx fs, xs = [.ref a] ∧ H a = some (.ins C dx fs) ∧ sp [.ref a] H (fun v H' => ∃ z, v = .str z ∧ Q (.str z) H') E
theorem cr_ownStr (F : FnOk X.prog X.w X.K X.mg X.base CX n f fd ps sp) (o : OwnM X C "__str__" f) (hr : Room (n + 2) X.A) (hb : Binds X.K fd ps []) (hx : Passes CX X E) : CallR X (.type "str") (rOwnStr C sp E) := by
  intro pins s σ H xs us Q I r h
  obtain ⟨a, dx, fs, rfl, ha, q⟩ := h
  rw [Vals.ref1 r]
  obtain ⟨ox, od, J⟩ := inst_at I ha
  refine str_own hr.in1.in1.units0 I.kIn J o.fs o.fn (wpAny_mono (run_at F ⟨hr.in1.in1, rfl⟩ hb hx I (vs := [.ref a]) (.cons rfl .nil) q) (fun v s' z => ?_) fun _ _ e => e)
  obtain ⟨zv, H', I', r', y, rfl, q'⟩ := z
  obtain ⟨t, rfl⟩ := r'
  exact ⟨.str y, H', I', ⟨t, rfl⟩, q'⟩
/-- o[i] -/
def rOwnItem (C : Addr) (sp : Sp) (E : XK) : R2 := fun x y H Q => ∃ a dx fs, x = .ref a ∧ H a = some (.ins C dx fs) ∧ sp [x, y] H Q E
theorem pe_ownItem {a b : Expr} {ta tb : TE} {pos : Pos} (ha : PE X a ta) (hb : PE X b tb) (F : FnOk X.prog X.w X.K X.mg X.base CX n f fd ps sp) (o : OwnM X C "__getitem__" f) (hfn : PySem.W.fnIn X.K f = true) (hr : Room (n + 1) X.A) (hbd : Binds X.K fd ps []) (hx : Passes CX X E)
    (hsl : ∀ x i, subscripted b true (.ref x) i = runValue (.builtin "lifetime.subscript" ⟨[.ref x, i], []⟩)) : PE X (.Subscript a b pos) (tOp (rOwnItem C sp E) ta tb) := by
  refine ⟨fun pins s σ H Q I h => ?_⟩
  refine Subscript_
                    (binT ha hb I h fun v u s2 x y H2 I2 rx ry q => ?_)
  obtain ⟨p, dx, fs, rfl, hp, q⟩ := q
  cases rx
  obtain ⟨ox, od, J⟩ := inst_at I2 hp
  obtain ⟨m, hF⟩ := I2.fr
  exact PySem.W.sub_K hF I2.ok.mod.kin J o.fs hfn o.fn (run_at F ⟨hr.in1, rfl⟩ hbd hx I2 (vs := [.ref p, y]) (.cons rfl (.cons ry .nil)) q) (hsl _ _)
end
end OW
/-! == of dicts of data in one order; in, of a value that is no text, in a tuple of texts -/
namespace RL
open PySem PySem.Spec PyProof.Rows L2
/-- all values equal, place by place -/
def allE : List (PyData × PyData) → List (PyData × PyData) → Bool
  | (_, d) :: es, (_, e) :: fs => PyData.eqv d e && allE es fs
  | _, _ => true
section
variable {X : Cx} {pins : List (Addr × Obj)}
                                             {σ : L2.St} {H : Hp} {s : Shared}
theorem dic_hits (I : Inv X pins σ H s) {A : Around} (hu : A.units + 60 < cLine) {ls : List (Key × V)} {vb : List (Key × Value)} (rb : KV ls vb) :
    ∀ {es' fs' : List (PyData × PyData)} {ks' ls' : List (Key × V)} {va' : List (Key × Value)}, DSk X.K H ks' es' → DSk X.K H ls' fs' → KV ks' va' → ks'.map (·.1) = ls'.map (·.1) → (∀ p ∈ ls', valV ls p.1 = some p.2) →
      PyData.plainAll (es'.map (·.2)) = true → PyData.plainAll (fs'.map (·.2)) = true → PyData.depthAll (es'.map (·.2)) ≤ 60 → PySem.W.KeqHitsP X.prog X.w A s vb va' (allE es' fs')
  | [], _, _, _, _, h1, h2, r, e, _, _, _, _ => by
    cases h1
    unfold KV at r
    cases r
    simp only [allE]
    exact .nil
  | (kd, d) :: es', _, _, _, _, h1, h2, r, e, hv, p1, p2, hd => by
    cases h1 with
    | @cons k v ks' _ _ hd1 hk1 =>
      cases h2 with
      | nil => cases e
      | @cons k2 v2 ls' d2 fs' hd2 hk2 =>
        obtain ⟨rfl, e2⟩ := List.cons.inj e
        unfold KV at r
        cases r with
        | @cons _ q _ qs h t =>
          obtain ⟨hq1, hq2⟩ := h
          obtain ⟨qk, qv⟩ := q
          obtain rfl : k = qk := hq1
          have rr : RelO (some v2) (valueAt vb k) := by
            rw [← hv _ List.mem_cons_self]
            exact rb.val k
          obtain ⟨y, hy, ry⟩ := rr.some_of
          have p1' : d.plain = true ∧ PyData.plainAll (es'.map (·.2)) = true := by simpa [PyData.plainAll] using p1
          have p2' : d2.plain = true ∧ PyData.plainAll (fs'.map (·.2)) = true := by simpa [PyData.plainAll] using p2
          have hdd : d.depth ≤ 60 ∧ PyData.depthAll (es'.map (·.2)) ≤ 60 := by
            simp only [List.map_cons, PyData.depthAll] at hd
            omega
          obtain ⟨as, ra⟩ := DS.reads I _ _ _ hd1 hq2
          obtain ⟨bs, rb'⟩ := DS.reads I _ _ _ hd2 ry
          refine .hit hy (SeqAt.EqAt.eqP (SeqAt.eqAt_plain d d2 A s qv y as bs ra rb' p1'.1 p2'.1 (by have := Nat.min_le_left d.depth d2.depth; omega))) ?_
          exact dic_hits I hu rb hk1 hk2 t e2 (fun p hp => hv p (List.mem_cons_of_mem _ hp)) p1'.2 p2'.2 hdd.2
/-- a == b, two dicts with the same keys in one order -/
def rEqDic (K : PySem.W.Frag) : R2 := fun x y H Q => ∃ a b ks ls es fs, x = .ref a ∧ y = .ref b ∧ H a = some (.dK ks) ∧ H b = some (.dK ls) ∧ DSk K H ks es ∧ DSk K H ls fs ∧ ks.map (·.1) = ls.map (·.1) ∧ (∀ p ∈ ls, valV ls p.1 = some p.2) ∧
  PyData.plainAll (es.map (·.2)) = true ∧ PyData.plainAll (fs.map (·.2)) = true ∧ PyData.depthAll (es.map (·.2)) ≤ 60 ∧ Q (.bl (allE es fs)) H
theorem op_eqDic (hu : X.A.units + 64 < cLine) : OpR X (compareOp .Eq) (rEqDic X.K) := by
  intro pins s σ H x y v u Q I rx ry h
  obtain ⟨a, b, ks, ls, es, fs, rfl, rfl, ha, hb, h1, h2, e, hv, p1, p2, hd, q⟩ := h
  cases rx
  cases ry
  obtain ⟨_, ya, va, ra, da⟩ :=
                                (show ObjOk X.prog X.w H s.heap a (.dK ks) from I.hok a _ ha)
  obtain ⟨_, yb, vb, rb, db⟩ :=
                                (show ObjOk X.prog X.w H s.heap b (.dK ls) from I.hok b _ hb)
  have hl : va.length = vb.length := by
    rw [← ra.length, ← rb.length, ← List.length_map (f := (·.1)) (as := ks), e, List.length_map]
  refine PySem.W.rcP_dicts (knd := mixKind X.prog X.w) (r := allE es fs) ya yb da db (by omega) (fun _ => dic_hits I (by show X.A.units + 1 + 60 < cLine; omega) rb h1 h2 ra e hv p1 p2 hd) _ _ ?_
  rw [show (va.length == vb.length && allE es fs) = allE es fs from by rw [hl]; simp]
  exact ⟨.bl _, H, I, rfl, q⟩
end
/-! ### in a tuple of texts -/
section
open AutoSeq1 (wpAny_loadPart')
open SeqAt MeetsSeq MeetsSeq2 MeetsSeq3 SeqRoads2
variable {prog : Program} {w : World}
theorem tuple_containsJ (l : Addr) (items : Array Value) (n : Nat) (dd : Option Addr) (sl : Array (Option Value)) (x : Value) (J : Shared → Prop) :
    MeetsIn prog w (Builtin.«tuple.__contains__» ⟨[.ref l, x], []⟩)
      (fun A R s => s.heap.get? l = some { cls := .type "tuple", dict := dd, data := .seq items n, slots := sl } ∧ J s ∧ (∀ y, y ∈ items → ∀ s', J s' → wpAny (model prog w) A.in1 (eqBool y x) (fun b s'' => b = false ∧ J s'') (fun e s' => R (.error e) s') s') ∧ ∀ s', J s' → R (.ok (.ret (.bool false))) s') :=
  .of_wp fun A R s h => by
    obtain ⟨hp, g, d, tk, os⟩ := s; obtain ⟨hl, hj, he, h⟩ := h
    wp_walk using wpAny_loadPart' hl, wpAny_forIn_array _ (fun rest b s' => b.1 = none ∧ J s' ∧ (∀ y, y ∈ rest → y ∈ items)) _
    case turn =>
      rintro y rest b s' ⟨hb, hj', hmem⟩
      refine wpAny_bind (wpAny_mono (he y (hmem y (List.mem_cons_self ..)) s' hj') (fun b' s'' z => ?_) fun _ _ z => z)
      obtain ⟨rfl, hj2⟩ := z
      wp_walk
      exact ⟨rfl, hj2, fun z hz => hmem z (List.mem_cons_of_mem _ hz)⟩
    case fin =>
      rintro ⟨b1, b2⟩ s' ⟨hb, hj', -⟩
      simp only at hb
      subst hb
      wp_walk
      exact ⟨_, rfl, h _ hj'⟩
    case h =>
      exact ⟨rfl, hj, fun y hy => by simpa using hy⟩
end
end RL
/-! ### a text beside a dict, beside an instance -/
namespace RL
open PySem PySem.Spec PyProof.Rows L2
open AutoSeq1 (wpAny_loadPart')
theorem str_declines_dict (b : Str) (u : Tok) (l : Addr) (c : Value) (es : Array DictEntry) (n : Nat) (dd : Option Addr) (sl : Array (Option Value)) :
    Meets (Builtin.«str.__eq__» ⟨[.str b u, .ref l], []⟩) (fun _ R s => s.heap.get? l = some { cls := c, dict := dd, data := .dict es n, slots := sl } ∧ R (.ok (.ret .notImplemented)) s) :=
  .of_wp fun prog w A R s h => by obtain ⟨hp, g, d, tk, os⟩ := s; obtain
                                                                         ⟨hl, h⟩ := h; wp_walk using wpAny_loadPart' hl, wpAny_load hl; exact ⟨_, rfl, h⟩
theorem str_declines_plain (b : Str) (u : Tok) (l : Addr) (c : Value) (dd : Option Addr) (sl : Array (Option Value)) :
    Meets (Builtin.«str.__eq__» ⟨[.str b u, .ref l], []⟩) (fun _ R s => s.heap.get? l = some { cls := c, dict := dd, data := .plain, slots := sl } ∧ R (.ok (.ret .notImplemented)) s) :=
  .of_wp fun prog w A R s h => by obtain ⟨hp, g, d, tk, os⟩ := s; obtain
                                                                         ⟨hl, h⟩ := h; wp_walk using wpAny_loadPart' hl, wpAny_load hl; exact ⟨_, rfl, h⟩
section
variable {prog : Program}
                          {w : World} {A : Around} {s : Shared}
theorem dict_declines_str {K : Type} [DecidableEq K] {knd : KeyKind prog w K} {a : Addr} {ka : List (K × Value)} {z : Str} {t : Tok} {E Q : Value → Shared → Prop} (da : s.heap.DictOf knd a ka) (h : Q .notImplemented s) :
    wpAny (model prog w) A (call (.builtin "dict.__eq__") [.ref a, .str z t]) Q E s := by
  refine wpAny_call_entry PySem.F.slot_dict_eq da.typeIs PySem.F.entry_dict_eq ?_ (PySem.F.args_dict_eq_2 _ _)
  show wpAny _ _ (Builtin.Dict.dictSlotArgs "__eq__" ⟨[.ref a, .str z t], []⟩ >>= _) _ _ s
  refine wpAny_bind ?_
  unfold Builtin.Dict.dictSlotArgs
  refine wpAny_bind (wpAny_notOrdered_dict da.typeIs ?_)
  show wpAny _ _ (pure (Value.ref a, Value.str z t)) _ _ s
  refine wpAny_pure ?_
  refine wpAny_bind (wpAny_isInstance (T := "str") (typeIs_str s z t) PySem.F.sub_str_dict ?_)
  simp only [Bool.not_false, if_true]
  refine wpAny_bind (wpAny_rule ?_)
  exact wpAny_pure ⟨_, rfl, h⟩
end
end RL
namespace RL
open PySem PySem.Spec PyProof.Rows L2
open AutoSeq1 (wpAny_loadPart')
section
variable {prog : Program}
                          {w : World} {A : Around} {s : Shared}
theorem eqb_of_rc {z : Str} {t : Tok} {a : Addr} {E : Value → Shared → Prop} {Q : Bool → Shared → Prop} (h : wpAny (model prog w) A (richCompare .Eq (.str z t) (.ref a)) (fun v s' => ∃ b, v = .bool b ∧ Q b s') E s) : wpAny (model prog w) A (eqBool (.str z t) (.ref a)) Q E s := by
  unfold eqBool
  refine wpAny_holding ?_
  refine wpAny_ite_split (fun hab => absurd
                                            (eq_of_beq hab) nofun) (fun _ => ?_)
  refine wpAny_bind (wpAny_mono h (fun v s' z => ?_) fun _ _ z => z)
  obtain ⟨b, rfl, q⟩ := z
  exact wpAny_truthy_bool q
theorem rc_str_dict {K : Type} [DecidableEq K] {knd : KeyKind prog w K} {a : Addr} {ka : List (K × Value)} {z : Str} {t : Tok} {E Q : Value → Shared → Prop} (hu : A.units < cLine) (da : s.heap.DictOf knd a ka) (h : Q (.bool false) s) :
    wpAny (model prog w) A (richCompare .Eq (.str z t) (.ref a)) Q E s := by
  obtain ⟨⟨cls, dd, data, sl⟩, es, ep, ho, hx, hd, hr⟩ := id da
  have hc := hx.1
  simp only at hc hd
  subst hc hd
  exact SeqAt.rc_eq_decline_or (k := false) (typeIs_str s z t) da.typeIs (by decide) PySem.F.sub_dict_str PySem.F.slot_str_eq PySem.F.slot_dict_eq
    (fun _ hq => call_meets PySem.F.slot_str_eq (typeIs_str s z t) PySem.F.entry_str_eq (PySem.F.args_str_eq_2 _ _) (str_declines_dict z t a (.type "dict") es ep dd sl) ⟨ho, hq⟩)
    (fun _ hq => dict_declines_str da hq)
    (fun _ hq => wpAny_of_eq (rfl : isSame (.str z t) (.ref a) = pure false) hq) (.inr hu) h
theorem rc_str_inst {K : PySem.W.Frag} {x C dx f : Addr} {od : Option Obj} {z : Str} {t : Tok} {E Q : Value → Shared → Prop} (hu : A.units < cLine) (X : K.In s.heap) (ho : s.heap.get? x = some (PySem.W.instObj C dx)) (I : PySem.W.InstAt s.heap x (PySem.W.instObj C dx) C od)
    (hn : PySem.W.subIn K (.ref C) (.type "str") = some false) (hs : PySem.W.findIn K (.ref C) "__eq__" = some (some (.ref f))) (hf : PySem.W.isFn K (.ref f) = true)
    (h : wpAny (model prog w) A (call (.ref f) [.ref x, .str z t]) (fun v s' => v ≠ .notImplemented ∧ Q v s') E s) : wpAny (model prog w) A (richCompare .Eq (.str z t) (.ref x)) Q E s := by
  have ha := typeIs_str s z t
  simp only [richCompare, ha.oneThing_none]
  try with_reducible refine wpAny_holding ?_
  refine wpAny_bind (wpAny_cRoomFor hu ?_)
  refine wpAny_bind (wpAny_typeOf ha (wpAny_bind (wpAny_typeOf_ref ho ?_)))
  have hne : (Value.type "str" != (PySem.W.instObj C dx).cls) = true := rfl
  simp only [hne, if_true]
  refine wpAny_bind ((PySem.W.looks_subIn X hn).here ?_)
  simp only [Bool.false_eq_true, if_false, Bool.not_false, if_true]
  refine wpAny_bind (m := tryCompare (.str z t) _ (.ref x)) (wpAny_tryCompare_declines ha PySem.F.slot_str_eq (call_meets PySem.F.slot_str_eq ha PySem.F.entry_str_eq (PySem.F.args_str_eq_2 _ _) (str_declines_plain z t x (.ref C) (some dx) #[]) ⟨ho, rfl, ?_⟩))
  refine wpAny_bind (m := tryCompare (.ref x) _ (.str z t)) ?_
  unfold tryCompare
  refine wpAny_bind (PySem.W.ifBound_K X I hs hf (wpAny_mono h (fun v s' y => ?_) fun _ _ e => e))
  obtain ⟨y1, y2⟩ := y
  cases v <;> first | exact absurd rfl y1 | exact wpAny_pure (wpAny_pure y2)
end
section
variable {X : Cx} {CX : CXT} {n : Nat} {C f : Addr} {fd : FuncData} {ps : List Str} {sp : Sp} {E : XK}
/-- x in y, y a tuple of texts, x no text -/
def rInOdd (K : PySem.W.Frag) (C : Addr) (sp : Sp) (E : XK) : R2 := fun x y H Q => ∃ (p : Addr) (ns : List Str), y = .ref p ∧ SqT K H p (ns.map V.str) ∧ Q (.bl false) H ∧
  ((∃ d, DS K H x d ∧ d.plain = true ∧ d.depth ≤ 60 ∧ ∀ z, PyData.eqv (.str z) d = false) ∨ (∃ a kvs, x = .ref a ∧ H a = some (.dK kvs)) ∨
    ∃ a dx fs, x = .ref a ∧ H a = some (.ins C dx fs) ∧ ∀ z : Str, sp [x, .str z] H (fun v H' => v = .bl false ∧ H' = H) E)
theorem strs_vals : ∀ {ns : List Str} {its : List Value}, Vals (ns.map V.str) its → ∀ y ∈ its, ∃ z t, y = Value.str z t
  | [], _, h, y, hy => by
    cases h
    cases hy
  | n :: ns, _, h, y, hy => by
    cases h with
    | cons h1 h2 =>
      rcases List.mem_cons.mp hy with rfl | hy
      · obtain ⟨t, e⟩ := h1
        exact ⟨n, t, e⟩
      · exact strs_vals h2 y hy
theorem op_inOdd (F : FnOk X.prog X.w X.K X.mg X.base CX n f fd ps sp) (o : OW.OwnEq X C f) (hsub : PySem.W.subIn X.K (.ref C) (.type "str") = some false) (hr : Room (n + 2) X.A) (hun : X.A.units + 64 < cLine) (hb : Binds X.K fd ps []) (hx : Passes CX X E) :
    OpR X (compareOp .In) (rInOdd X.K C sp E) := by
  intro pins s σ H x y v u Q I rx ry h
  obtain ⟨p, ns, rfl, hq, q, hk⟩ := h
  cases ry
  obtain ⟨its, rv, ⟨⟨cls, dd, data, sl⟩, ho, hc, m, hd⟩, _⟩ := I.tuple hq
  simp only at hc hd
  subst hc hd
  have hT : s.TypeIs (.ref p) "tuple" := ⟨_, ho, rfl⟩
  have key : wpAny (model X.prog X.w) X.A (call (.builtin "tuple.__contains__") [.ref p, v]) (fun r s' => r = Value.bool false ∧ Inv X pins σ H s') X.xe s := by
    refine call_meetsIn PySem.F.slot_tuple_contains hT PySem.F.entry_tuple_contains (PySem.F.args_tuple_contains_2 _ _) (tuple_containsJ p its.toArray m dd sl v (fun s' => Inv X pins σ H s')) ⟨ho, I, ?_, fun s' I' => ⟨rfl, I'⟩⟩
    intro y hy s' I'
    obtain ⟨z, t, rfl⟩ := strs_vals rv y (by simpa using hy)
    have hu1 : X.A.in1.units < cLine := by show X.A.units + 1 < cLine; omega
    rcases hk with ⟨d, h1, h2, h3, h4⟩ | ⟨a, kvs, rfl, ha⟩ | ⟨a, dx, fs, rfl, ha, hsp⟩
    · obtain ⟨as, rd⟩ := DS.reads I' _ _ _ h1 rx
      have g := SeqAt.eqAt_plain (.str z) d X.A.in1 s' (.str z t) v _ as (Reads.str z t) rd rfl h2 (by show X.A.units + 1 + _ < cLine; have := Nat.min_le_right (PyData.str z).depth d.depth; omega)
      rw [h4 z] at g
      exact g X.prog X.w _ _ ⟨rfl, I'⟩
    · cases rx
      obtain ⟨_, _, va, _, da⟩ := dk_of I'.hok ha
      exact eqb_of_rc (rc_str_dict hu1 da ⟨false, rfl, rfl, I'⟩)
    · cases rx
      obtain ⟨mA, O, _⟩ := ins_get I'.hok ha
      obtain ⟨od, J, _⟩ := O.look
      have ho' : s'.heap.get? a = some (PySem.W.instObj C dx) := by
        obtain ⟨_, _, _, e, _⟩ := (show ObjOk X.prog X.w H s'.heap a (.ins C dx fs) from I'.hok a _ ha)
        exact e
      refine eqb_of_rc (rc_str_inst hu1 I'.kIn ho' J hsub o.fs o.fn (wpAny_mono (OW.run_at F ⟨hr.in1.mono (by omega), rfl⟩ hb hx I' (vs := [.ref a, .str z]) (.cons rfl (.cons ⟨t, rfl⟩ .nil)) (hsp z)) (fun r s2 y => ?_) fun _ _ e => ?_))
      · obtain ⟨zv, H', I2, r2, rfl, rfl⟩ := y
        cases r2
        exact ⟨(fun e => nomatch e), false, rfl, rfl, I2⟩
      · exact e
  show wpAny _ X.A (do return Value.bool (← contains (.ref p) v)) _ _ s
  refine wpAny_bind (wpAny_contains_slot hT PySem.F.slot_tuple_contains (wpAny_mono key (fun r s' z => ?_) fun _ _ e => e))
  obtain ⟨rfl, I'⟩ := z
  exact wpAny_truthy_bool (wpAny_pure ⟨.bl false, H, I', rfl, q⟩)
end
end RL
namespace RL
open PySem PySem.Spec PyProof.Rows L2 OW
section
variable {X : Cx}
/-- an own == beside a dict -/
def rOwnEqD (K : PySem.W.Frag) (C : Addr) (sp : Sp) (E : XK) : R2 := fun x y H Q => ∃ a dx fs b kvs, x = .ref a ∧ H a = some (.ins C dx fs) ∧ y = .ref b ∧ H b = some (.dK kvs) ∧ PySem.W.notFirst K C (.type "dict") = true ∧ sp [x, y] H Q E
theorem dict_looks {pins : List (Addr × Obj)} {σ : L2.St} {H : Hp} {s : Shared} {b : Addr} {kvs : List (Key × V)} (I : Inv X pins σ H s) (hb : H b = some (.dK kvs)) : PySem.W.Looks (model X.prog X.w) s.heap (typeOf (.ref b)) (.type "dict") := by
  obtain ⟨_, _, va, _, da⟩ := dk_of I.hok hb
  obtain ⟨o, es, ep, ho, hx, _⟩ := da
  exact tyd_at ho hx.1
theorem op_ownEqD {CX : CXT} {n : Nat} {C f : Addr} {fd : FuncData} {ps : List Str} {sp : Sp} {E : XK} (F : FnOk X.prog X.w X.K X.mg X.base CX n f fd ps sp) (o : OwnEq X C f) (hr : Room n X.A) (hb : Binds X.K fd ps []) (hx : Passes CX X E) :
    OpR X (compareOp .Eq) (rOwnEqD X.K C sp E) := by
  intro pins s σ H x y v u Q I rx ry h
  obtain ⟨a, dx, fs, b, kvs, rfl, ha, rfl, hb', nf, q⟩ := h
  cases rx
  cases ry
  obtain ⟨mA, O, _⟩ := ins_get I.hok ha
  obtain ⟨od, J, _⟩ := O.look
  show wpAny _ _ (richCompare .Eq (.ref a) (.ref b)) _ _ _
  refine cmp_left hr.units0 I.kIn J (dict_looks I hb') nf ?_
  unfold tryCompare
  refine wpAny_bind (PySem.W.ifBound_K I.kIn J o.fs o.fn (wpAny_mono (run_at F ⟨hr, rfl⟩ hb hx I (vs := [.ref a, .ref b]) (.cons rfl (.cons rfl .nil)) q) (fun v s' z => ?_) fun _ _ e => e))
  obtain ⟨zv, H', I', r', q'⟩ := z
  refine not_ni r' fun ne => ?_
  cases v <;> first | exact absurd rfl ne | exact wpAny_pure ⟨_, rfl, zv, H', I', r', q'⟩
def rOwnNeD (K : PySem.W.Frag) (C : Addr) (sp : Sp) (E : XK) : R2 := fun x y H Q => ∃ a dx fs b kvs, x = .ref a ∧ H a = some (.ins C dx fs) ∧ y = .ref b ∧ H b = some (.dK kvs) ∧ PySem.W.notFirst K C (.type "dict") = true ∧ sp [x, y] H (fun v H' => ∃ b, v = .bl b ∧ Q (.bl (!b)) H') E
theorem op_ownNeD {CX : CXT} {n : Nat} {C f : Addr} {fd : FuncData} {ps : List Str} {sp : Sp} {E : XK} (F : FnOk X.prog X.w X.K X.mg X.base CX n f fd ps sp) (o : OwnEq X C f) (hm : PySem.W.mroIn X.K C (.type "object") = some true)
    (hn : PySem.W.findIn X.K (.ref C) "__ne__" = some (some (.builtin "object.__ne__"))) (hr : Room (n + 1) X.A) (hb : Binds X.K fd ps []) (hx : Passes CX X E) :
    OpR X (compareOp .NotEq) (rOwnNeD X.K C sp E) := by
  intro pins s σ H x y v u Q I rx ry h
  obtain ⟨a, dx, fs, b, kvs, rfl, ha, rfl, hb', nf, q⟩ := h
  cases rx
  cases ry
  obtain ⟨mA, O, _⟩ := ins_get I.hok ha
  obtain ⟨od, J, _⟩ := O.look
  show wpAny _ _ (richCompare .NotEq (.ref a) (.ref b)) _ _ _
  refine cmp_left hr.units0 I.kIn J (dict_looks I hb') nf ?_
  refine ne_left hr.in1.units0 I.kIn J hm hn o.fs o.fn (wpAny_mono (run_at F ⟨hr.in1, rfl⟩ hb hx I (vs := [.ref a, .ref b]) (.cons rfl (.cons rfl .nil)) q) (fun v s' z => ?_) fun _ _ e => e)
  obtain ⟨zv, H', I', r', b, rfl, q'⟩ := z
  cases r'
  exact ⟨b, rfl, .bl (!b), H', I', rfl, q'⟩
end
end RL
/-! tuple(d) of a dict with int and text keys -/
namespace RL
open PySem PySem.Spec PyProof.Rows L2
section
variable {prog : Program} {w : World} {A : Around} {E : Value → Shared → Prop} {s : Shared} {T : String} {r d : Addr} {n : Nat} {Pk : Nat → Value → Prop} {OK : Heap → Prop}
theorem collect_kdl {Q : List Value → Shared → Prop} (Ks : PySem.W.KdlSrc prog w T r d n Pk OK) (hh : A.handled = none) (hok : OK s.heap) (hn : n ≤ sizeLine)
    (hQ : ∀ (h' : Heap) (tk : Nat) (acc : Array Value), (∀ b o, s.heap.get? b = some o → h'.get? b = some o) → ItemsOf Pk acc n → Q acc.toList { s with heap := h', toks := tk }) :
    wpAny (model prog w) A (collect (.ref r)) Q E s := by
  unfold collect
  refine wpAny_bind (wpAny_runValue
                                    (codeAny_builtin F.entry_proto_collect ?_))
  rw [Around.under_plainId F.plain_proto_collect _]
  show wpAny _ A.in1 (newList [] >>= fun l => again
                                                    (.builtin "list.__iadd__" ⟨[l, .ref r], []⟩)) _ _ s
  refine wpAny_bind (wpAny_newObj_type ?_)
  refine wpAny_pure
                    ⟨plainId_quiet F.plain_list_iadd _, codeAny_builtin F.entry_list_iadd ?_⟩
  rw [Around.under_plainId F.plain_list_iadd _]
  show wpAny _ A.in1 (Builtin.List.listExtendWith
                                                  (.ref s.heap.objs.size) (.ref r) (.ref s.heap.objs.size)) _ _ _
  have hS : (s.heap.push { cls := .type "list", data := .seq ([] : List Value).toArray }).get? s.heap.objs.size = some
                                                                                                                       { cls := .type "list", data := .seq #[] 0 } := Heap.get?_push_size _ rfl
  have th := Ks.there _ hok
  refine wpAny_mono (PySem.W.kdl_extend (A := A) (R := fun rr s' => rr = .ok (.ret (.ref s.heap.objs.size)) ∧ ∃ (h' : Heap) (tk : Nat) (acc : Array Value) (c' : Nat), s' = { s with heap := h', toks := tk } ∧
      (∀ b o, s.heap.get? b = some o → h'.get? b = some o) ∧ h'.get? s.heap.objs.size = some { cls := .type "list", dict := none, data := .seq acc c', slots := #[] } ∧ ItemsOf Pk acc n)
    (s := { s with heap := s.heap.push { cls := .type "list", data := .seq ([] : List Value).toArray } }) Ks hh (Ks.keep _ _ hok fun b _ o e => Heap.get?_push_of_some _ e) _ (Nat.ne_of_gt th.1) (Nat.ne_of_gt th.2) _ 0 hS
    (fun h' tk acc c' hk e hi => ⟨rfl, h', tk, acc, c', rfl, fun b o q => hk b o (Nat.ne_of_lt (Heap.lt_size q)) (Heap.get?_push_of_some _ q), e, hi⟩) hn) (fun fin s' h => ?_) (fun e s' h => ?_)
  · cases fin with
    | done f =>
      obtain ⟨e, h', tk, acc, c', rfl, hk, hS', hi⟩ := h
      cases e
      show wpAny _ A (load s.heap.objs.size >>= _) _ _ _
      exact wpAny_bind (wpAny_load hS'
                                       (wpAny_pure (hQ h' tk acc hk hi)))
    | again c' =>
      refine ⟨h.1, codeAny_mono h.2 fun rr s'' hr' => ?_⟩
      obtain ⟨rfl, h', tk, acc, c', rfl, hk, hS', hi⟩ := hr'
      show wpAny _ A (load s.heap.objs.size >>= _) _ _ _
      exact wpAny_bind (wpAny_load hS'
                                       (wpAny_pure (hQ h' tk acc hk hi)))
  · exact absurd h.1 (by simp)
theorem call_tuple_kdl {Q : Value → Shared → Prop} (Ks : PySem.W.KdlSrc prog w T r d n Pk OK) (hh : A.handled = none) (hok : OK s.heap) (hn : n ≤ sizeLine)
    (hQ : ∀ (h' : Heap) (tk : Nat) (acc : Array Value), (∀ b o, s.heap.get? b = some o → h'.get? b = some o) → ItemsOf Pk acc n → Q (.ref h'.objs.size) { s with heap := h'.push { cls := .type "tuple", data := .seq acc }, toks := tk }) :
    wpAny (model prog w) A (call
                                 (.type "tuple") [.ref r]) Q E s := by
  refine callType_codes (Q₁ := fun obj s₁ => s₁.TypeIs obj "tuple" ∧ Q obj s₁) F.called_tuple
                                                                                              (F.typeCall_tuple_1 _) F.entry_object_init
    ?_ fun obj s₁ h₁ => ⟨h₁.1, F.args_object_init_2 obj _, object_init_meets F.called_tuple.init.lookup F.called_tuple.made (by decide) prog w A.in1 _ s₁ ⟨h₁.1, rfl, h₁.2⟩⟩
  refine codeAny_of_tree ?_
  show wpAny _ A.in1.in1 (do checkBuiltinCall "tuple.__new__" ⟨[.type "tuple", .ref r], []⟩; again (.builtin "tuple.__new__" ⟨[.type "tuple", .ref r], []⟩)) _ _ s
  refine wpAny_bind (wpAny_of_eq (F.newCall_tuple_1 _) (wpAny_pure
                                                                   ⟨plainId_quiet F.plain_tuple_new _, codeAny_builtin F.entry_tuple_new ?_⟩))
  rw [Around.under_plainId F.plain_tuple_new _]
  have hsub := sub_tuple_self
  have hinit := init_tuple_lookup
  have hmh := madeHere_tuple
  have hTI : s.TypeIs (.ref r) T := Ks.type s hok
  have hh1 : A.in1.in1.handled = none := hh
  have hnt : (Value.type T == Value.type "tuple") = false := Ks.notTuple
  wp_walk using wpAny_typeOf hTI, collect_kdl (A := A.in1.in1) Ks hh1 hok hn
  intro h' tk acc hk hacc
  show wpAny _ _
                 (Builtin.Tuple.tupleExact acc.toList.toArray >>= fun v => ret v) _ _ _
  unfold Builtin.Tuple.tupleExact
  refine wpAny_bind (wpAny_newObj_type ?_
                                          (by show acc.toList.toArray.size ≤ sizeLine; simp only [Array.toArray_toList]; rw [hacc.1]; exact hn))
  refine wpAny_pure ?_
  have e : acc.toList.toArray = acc := by simp
  rw [e]
  exact ⟨⟨_, Heap.get?_push_size _ rfl, rfl⟩, hQ h' tk acc hk hacc⟩
end
section
variable {X : Cx}
def rTupD : List V → Hp → VK → Prop := fun xs H Q => ∃ (p : Addr) (kvs : List (Key × V)), xs = [.ref p] ∧ H p = some (.dK kvs) ∧ ∀ q, H q = none → Q (.ref q) (upd H q (.tup (kvs.map fun kv => kV kv.1)))
theorem cr_tupD (hc : X.calm = true) : CallR X (.type "tuple") rTupD := by
  intro pins s σ H xs us Q I r h
  obtain ⟨p, kvs, rfl, hk, q⟩ := h
  obtain ⟨u, rfl, rx⟩ := vals1 r
  obtain rfl : u = Value.ref p := rx
  obtain ⟨z, lo, vs, rk, hd⟩ :=
                                (show ObjOk X.prog X.w H s.heap p (.dK kvs) from I.hok p _ hk)
  obtain ⟨ep, hat⟩ := hd.dictAt
  have hl : kvs.length = vs.length := Paired.length rk
  refine call_tuple_kdl (PySem.W.kdl_dict (knd := mixKind X.prog X.w) (kvs := vs) (ep := ep) lo) (I.ok.hd hc) hat (by rw [← hl]; exact z) fun h' tk acc hkeep hacc => ?_
  have el : acc.toList.length = acc.size := by simp
  have I2 : Inv X pins σ H { s with heap := h', toks := tk } := I.kept hkeep
  refine ⟨.ref h'.objs.size, upd H h'.objs.size (.tup (kvs.map fun kv => kV kv.1)), I2.laid (t' := tk) (fun c o e => Heap.get?_push_of_some _ e) (Nat.le_refl _) (show ObjOk X.prog X.w _ _ _ (.tup (kvs.map fun kv => kV kv.1)) from ⟨by rw [List.length_map]; exact z, acc.toList, ?_, ?_⟩), rfl, q _ (I2.hok.fresh (Nat.le_refl _))⟩
  · refine vals_of_at (by rw [List.length_map, el, hacc.1, hl]) fun j x w h1 h2 => ?_
    obtain ⟨k, y, hky, hi⟩ := hacc.2 j w
                                         (by rw [← Array.getElem?_toList]; exact h2)
    have e1 : (kvs.map (·.1))[j]? = some k := by
      rw [KV.keys rk, List.getElem?_map, hky] <;> rfl
    have e2 :
              (kvs.map fun kv => kV kv.1)[j]? = some (kV k) := by
      have e3 : (kvs.map fun kv => kV kv.1) = (kvs.map
                                                       (·.1)).map kV := by rw [List.map_map] <;> rfl
      rw [e3, List.getElem?_map, e1] <;> rfl
    rw [e2] at h1
    cases h1
    exact keyIs_rel hi
  · rw [Array.toArray_toList]
    exact IsTup.new _ _
end
end RL
namespace K43
open PySem L2
open PyProof.Rows PySem.Spec
/-- a property of the class -/
structure Pp (K : PySem.W.Frag) (C : Addr) (x qual : Str) (st : Stmt) where
  p : Addr
  g : Addr
  d : FuncData
  F : FunD K x qual (defArgs st) (defBody st) (defScope st) [] [] g d
  pr : PropOf K C x p g
  b : Binds K d ["self"] []
/-- a method of the class -/
structure Mt (K : PySem.W.Frag) (C : Addr) (x qual : Str) (st : Stmt) (ps : List Str) where
  f : Addr
  d : FuncData
  F : FunD K x qual (defArgs st) (defBody st) (defScope st) [] [] f d
  m : Meth K C x f
  b : Binds K d ps []
structure UX (K : PySem.W.Frag) (mg : Str → Option Value) where
  C : Addr
  mC : mg "Spans" = some (.ref C)
  cl : Cls K C
  mo : PySem.W.mroIn K C (.type "object") = some true
  ne : PySem.W.findIn K (.ref C) "__ne__" = some (some (.builtin "object.__ne__"))
  fI : Addr
  dI : FuncData
  FI : FunD K "__init__" "Spans.__init__" (defArgs s_Spans_init) (defBody s_Spans_init) (defScope s_Spans_init) [] [] fI dI
  mkI : Mk K C fI
  bI : Binds K dI ["self", "interval", "rows"] []
  n1 : NoAttr K C "_interval"
  n2 : NoAttr K C "_rows"
  n3 : NoAttr K C "_names"
  n4 : NoAttr K C "_living"
  n5 : NoAttr K C "_crossing"
  pi : Pp K C "interval" "Spans.interval" s_Spans_interval
  pn : Pp K C "names" "Spans.names" s_Spans_names
  mi : Mt K C "__getitem__" "Spans.__getitem__" s_Spans_getitem ["self", "name"]
  ml : Mt K C "_later" "Spans._later" s_Spans_later ["self", "ticks"]
  ma : Mt K C "__add__" "Spans.__add__" s_Spans_add ["self", "other"]
  me : Mt K C "__eq__" "Spans.__eq__" s_Spans_eq ["self", "other"]
  ca : PySem.W.findIn K (.ref C) "__class__" = some
                                                    (some (.builtin "object.__class__"))
  cg : PySem.W.specialIn K (.builtin "object.__class__") "__get__" = some (some (.builtin "getset_descriptor.__get__"))
  ct : PySem.W.takesIn K
                         (.builtin "object.__class__") = some true
  fn : PySem.W.fnIn K mi.f = true
  sf : PySem.W.selfFirst K C = true
  D : Addr
  mD : mg "Wiring" = some (.ref D)
  clD : Cls K D
  moD : PySem.W.mroIn K D (.type "object") = some true
  neD : PySem.W.findIn K (.ref D) "__ne__" = some (some (.builtin "object.__ne__"))
  fJ : Addr
  dJ : FuncData
  FJ : FunD K "__init__" "Wiring.__init__" (defArgs s_Wiring_init) (defBody s_Wiring_init) (defScope s_Wiring_init) [] [] fJ dJ
  mkJ : Mk K D fJ
  bJ : Binds K dJ ["self", "spans", "follows"] []
  k1 : NoAttr K D "_spans"
  k2 : NoAttr K D "_follows"
  k3 : NoAttr K D "_cycles"
  ps : Pp K D "spans" "Wiring.spans" s_Wiring_spans
  pf : Pp K D "follows" "Wiring.follows" s_Wiring_follows
  pr : Pp K D "registers" "Wiring.registers" s_Wiring_registers
  pc : Pp K D "cycles" "Wiring.cycles" s_Wiring_cycles
  pz : Pp K D "sizes" "Wiring.sizes" s_Wiring_sizes
  pp : Pp K D "copies" "Wiring.copies" s_Wiring_copies
  wa : Mt K D "after" "Wiring.after" s_Wiring_after ["self", "name", "turn"]
  wg : Mt K D "__getitem__" "Wiring.__getitem__" s_Wiring_getitem ["self", "name"]
  wl : Mt K D "__len__" "Wiring.__len__" s_Wiring_len ["self"]
  we : Mt K D "__eq__" "Wiring.__eq__" s_Wiring_eq ["self", "other"]
  ws : Mt K D "__str__" "Wiring.__str__" s_Wiring_str ["self"]
  caD : PySem.W.findIn K (.ref D) "__class__" = some (some (.builtin "object.__class__"))
  fnW : PySem.W.fnIn K wg.f = true
  tdD : PySem.W.notFirst K D (.type "dict") = true ∧ PySem.W.kitOne K (.type "dict") (.ref D) = some false
  tsD : PySem.W.notFirst K D (.ref C) = true ∧ PySem.W.kitOne K (.ref C) (.ref D) = some false
/-- what spans keep -/
def spF (t : Int) (rd nm : Addr) (lv cr : V) : List (Str × V) := putF "_crossing" cr (putF "_living" lv (putF "_names" (.ref nm) (putF "_rows" (.ref rd) (putF "_interval" (.int t) []))))
/-- spans stand at p: S is their rows in the order of names -/
def SpAt (H : Hp) (C p : Addr) (t : Int) (S : Rws) : Prop := Good t S ∧ sortedS (S.map (·.1)) = true ∧ ∃ dx rd nm lv cr L, H p = some (.ins C dx (spF t rd nm lv cr)) ∧ H rd = some (.dK (Kvs L)) ∧ Tups H L S ∧ H nm = some (.tup ((S.map (·.1)).map V.str))
theorem SpAt.same {H H' : Hp} {C p : Addr} {t : Int} {S : Rws} (s : Same H H') (h : SpAt H C p t S) : SpAt H' C p t S := by
  obtain ⟨g, so, dx, rd, nm, lv, cr, L, h1, h2, h3, h4⟩ := h
  exact ⟨g, so, dx, rd, nm, lv, cr, L, s _ _ h1, s _ _ h2, h3.keep (KT.same s), s _ _ h4⟩
theorem SpAt.only {H H' : Hp} {C p r : Addr} {t : Int} {S : Rws} (o : Only r H H') (hr : Rl H r) (h : SpAt H C p t S) : SpAt H' C p t S := by
  obtain ⟨g, so, dx, rd, nm, lv, cr, L, h1, h2, h3, h4⟩ := h
  have ne : ∀ {a : Addr} {u : HO}, H a = some u → (∀ xs, u ≠ .lst xs) → a ≠ r := fun e n w => by
    obtain ⟨x, y, z, q⟩ := hr
    rw [w, q] at e
    exact n _ (Option.some.inj e).symm
  exact ⟨g, so, dx, rd, nm, lv, cr, L, o _ _ (ne h1 (fun _ z => by cases z)) h1, o _ _ (ne h2 (fun _ z => by cases z)) h2, h3.keep (KT.only o hr), o _ _ (ne h4 (fun _ z => by cases z)) h4⟩
theorem Good.perm {t : Int} {R S : Rws} (g : Good t R) (p : S.Perm R) : Good t S :=
  ⟨(p.map (·.1)).nodup_iff.mpr g.nd, by rw [p.length_eq]; exact g.l1, by rw [p.length_eq]; exact g.l8, fun x hx => g.nm x (p.mem_iff.mp hx), fun x hx => g.sp x (p.mem_iff.mp hx), fun x hx => g.nr x (p.mem_iff.mp hx), g.t1, g.t2⟩
theorem kvs_kv (L : List (Str × Addr)) : ((Kvs L).map fun kv => kV kv.1) = (L.map (·.1)).map V.str := by
  unfold Kvs
  rw [List.map_map, List.map_map]
  rfl
section
variable {P : Program} {w : World} {K : PySem.W.Frag}
                                                      {mg : Str → Option Value} {base : Heap}
/-- all but p is kept -/
def But (p : Addr) (H H' : Hp) : Prop := ∀ b o, b ≠ p → H b = some o → H' b = some o
theorem But.trans {p : Addr} {H H1 H2 : Hp} (a : But p H H1) (b : But p H1 H2) : But p H H2 := fun c o n e => b c o n (a c o n e)
theorem But.same {p : Addr} {H H' : Hp} (s : Same H H') : But p H H' := fun b o _ e => s b o e
theorem But.upd {p : Addr} {H : Hp} {o : HO} : But p H (upd H p o) := fun b u n e => by rw [upd_ne n]; exact e
theorem But.kt {p : Addr} {H H' : Hp} (s : But p H H') (h : ∀ xs, H p ≠ some (.tup xs)) : KT H H' := fun t xs e => s t _ (fun w => h xs (w ▸ e)) e
def sp_init (K : PySem.W.Frag) (C : Addr) : Sp := fun vs H Q _ => ∃ (p d dx : Addr) (t : Int) (L : List (Str × Addr)) (R : Rws), vs = [.ref p, .int t, .ref d] ∧ H p = some (.ins C dx []) ∧ H d = some (.dK (Kvs L)) ∧ Tups H L R ∧ Good t R ∧
  ∀ S H', But p H H' → SpAt H' C p t S → Srd R S → (∀ H'', (∀ b o, (H b = none ∨ b = p) → H' b = some o → H'' b = some o) → KT H' H'' → SpAt H'' C p t S) → Q .non H'
theorem ok_init (T : T K mg) (U : UX K mg) : FnOk P w K mg base CX0 6 U.fI U.dI ["self", "interval", "rows"] (sp_init K U.C) := by
  have G_are_rows : FnOk P w K mg base CX0 3 T.f_are_rows T.d_are_rows ["interval", "value"] (sp_are_rows K) := ok_are_rows T
  have G_check_interval : FnOk P w K mg base CX0 4 T.f_check_interval T.d_check_interval ["value"] (sp_check_interval K) := ok_check_interval T
  have G_times_alive : FnOk P w K mg base CX0 5 T.f_times_alive T.d_times_alive ["begin", "end", "tick", "interval"] (sp_times_alive K) := ok_times_alive T
  refine U.FI.ok sc_Spans_init (fun vs H Q E h => ?_) (fun cdv A outer s H vs Q E hr h => ?_)
  · obtain ⟨p, d, dx, t, L, R, rfl, _⟩ := h
    rfl
  · obtain ⟨p, d, dx, t, L, R, rfl, hp, hd, ts, gd, k⟩ := h
    have hu := hu_of hr
    have hr_are_rows : Room 3 _ := hr.mono (by decide)
    have hr_check_interval : Room 4 _ := hr.mono (by decide)
    have hr_times_alive : Room 5 _ := hr.mono (by decide)
    refine ⟨_, (pss_cons (ps_expr (pe_call G_check_interval hr_check_interval rfl T.m_check_interval T.F_check_interval.kp T.b_check_interval .nil pass0 (pa_cons (pv 1) pa_nil)))
      (pss_cons (ps_if (pt_not (pt_val (pe_call G_are_rows hr_are_rows rfl T.m_are_rows T.F_are_rows.kp T.b_are_rows .nil pass0 (pa_cons (pv 1) (pa_cons (pv 2) pa_nil)))))
      (pss_one ps_never)
      pss_nil)
      (pss_cons (ps_fld (pv 0) (pv 1) rfl)
      (pss_cons (ps_fld (pv 0) (pe_dc (own := [("name", 3)]) (g := gName 3) rfl sc_Spans_init.nd (pi_list (pe_callB (call_sortedD rfl) (by rfl) T.z_sorted (by decide +kernel) (pa_cons (pv 2) pa_nil))) (blkOk_by (N := ["self", "interval", "rows", "name", "begin", "end", "slot"]) (sc := defScope s_Spans_init) (by decide +kernel)) (fun _ _ _ _ _ => (pg_name (i := 3) sc_Spans_init.nd rfl (Or.inl rfl))) (fun _ _ _ _ _ => pts_nil) (fun _ _ _ _ _ => (pv 3)) (fun _ _ _ _ _ => (pe_dget (by exact hu) (pv 2) (pv 3) (fun _ _ => rfl)))) rfl)
      (pss_cons (ps_fld (pv 0) (pe_callTy (RL.cr_tupD rfl) (by rfl) T.z_tuple (by decide +kernel) (pa_cons (pe_fld (pv 0) rfl) pa_nil)) rfl)
      (pss_cons (ps_fld (pv 0) (pe_lock (pe_dc (own := [("name", 3), ("begin", 4), ("end", 5)]) (g := gTup K 2 (gCons (gName 3) (gCons (gTup K 2 (gCons (gName 4) (gCons (gName 5) gNil))) gNil))) rfl sc_Spans_init.nd (pi_items (pe_fld (pv 0) rfl)) (blkOk_by (N := ["self", "interval", "rows", "name", "begin", "end", "slot"]) (sc := defScope s_Spans_init) (by decide +kernel)) (fun _ _ _ _ _ => (pg_tup rfl (pgs_cons (pg_name (i := 3) sc_Spans_init.nd rfl (Or.inl rfl)) (pgs_cons (pg_tup rfl (pgs_cons (pg_name (i := 4) sc_Spans_init.nd rfl (Or.inr rfl)) (pgs_cons (pg_name (i := 5) sc_Spans_init.nd rfl (Or.inr rfl)) pgs_nil))) pgs_nil)))) (fun _ _ _ _ _ => pts_nil) (fun _ _ _ _ _ => (pv 3)) (fun _ _ _ _ _ => (pe_lc (own := [("slot", 6)]) (g := gName 6) rfl sc_Spans_init.nd (pi_range1 (by rfl) T.z_range (pa_cons (pv 1) pa_nil)) (blkOk_by (N := ["self", "interval", "rows", "name", "begin", "end", "slot"]) (sc := _) (by rfl)) (fun _ _ _ _ _ => (pg_name (i := 6) sc_Spans_init.nd rfl (Or.inl rfl))) (fun _ _ _ _ _ => pts_nil) (fun _ _ _ _ _ => (pe_call G_times_alive hr_times_alive rfl T.m_times_alive T.F_times_alive.kp T.b_times_alive .nil pass0 (pa_cons (pv 4) (pa_cons (pv 5) (pa_cons (pv 6) (pa_cons (pv 1) pa_nil)))))))))) rfl)
      (pss_one (ps_fld (pv 0) (pe_lock (pe_dc (own := [("name", 3), ("begin", 4), ("end", 5)]) (g := gTup K 2 (gCons (gName 3) (gCons (gTup K 2 (gCons (gName 4) (gCons (gName 5) gNil))) gNil))) rfl sc_Spans_init.nd (pi_items (pe_fld (pv 0) rfl)) (blkOk_by (N := ["self", "interval", "rows", "name", "begin", "end", "slot"]) (sc := defScope s_Spans_init) (by decide +kernel)) (fun _ _ _ _ _ => (pg_tup rfl (pgs_cons (pg_name (i := 3) sc_Spans_init.nd rfl (Or.inl rfl)) (pgs_cons (pg_tup rfl (pgs_cons (pg_name (i := 4) sc_Spans_init.nd rfl (Or.inr rfl)) (pgs_cons (pg_name (i := 5) sc_Spans_init.nd rfl (Or.inr rfl)) pgs_nil))) pgs_nil)))) (fun _ _ _ _ _ => pts_nil) (fun _ _ _ _ _ => (pv 3)) (fun _ _ _ _ _ => (pe_lc (own := [("slot", 6)]) (g := gName 6) rfl sc_Spans_init.nd (pi_range1 (by rfl) T.z_range (pa_cons (pv 1) pa_nil)) (blkOk_by (N := ["self", "interval", "rows", "name", "begin", "end", "slot"]) (sc := _) (by rfl)) (fun _ _ _ _ _ => (pg_name (i := 6) sc_Spans_init.nd rfl (Or.inl rfl))) (fun _ _ _ _ _ => pts_nil) (fun _ _ _ _ _ => (pe_call G_times_alive hr_times_alive rfl T.m_times_alive T.F_times_alive.kp T.b_times_alive .nil pass0 (pa_cons (pe_op op_add (pv 4) pe_int) (pa_cons (pv 5) (pa_cons (pv 6) (pa_cons (pv 1) pa_nil)))))))))) rfl)))))))), ?_⟩
    refine ⟨_, rfl, t, rfl, gd.t1, gd.t2, ?_⟩
    refine ⟨_, rfl, _, rfl, t, d, L, R, rfl, hd, ts, gd, fun H1 S1 => ⟨_, rfl, iteF ?_⟩⟩
    have h1p := S1 _ _ hp
    have h1d := S1 _ _ hd
    have h1T := ts.keep (KT.same S1)
    have ndp : d ≠ p := fun z => by rw [z, hp] at hd; cases hd
    refine ⟨_, rfl, _, rfl, p, U.C, dx, _, rfl, h1p, U.cl, U.n1, (by show 0 < 1000; decide), ?_⟩
    have h2p : (upd H1 p (.ins U.C dx (putF "_interval" (.int t) []))) p = some (.ins U.C dx (putF "_interval" (.int t) [])) := upd_same
    have B2 : But p H (upd H1 p (.ins U.C dx (putF "_interval" (.int t) []))) := But.trans (But.same S1) But.upd
    have h2d : (upd H1 p (.ins U.C dx (putF "_interval" (.int t) []))) d = some (.dK (Kvs L)) := by rw [upd_ne ndp]; exact h1d
    have h2T := h1T.keep (KT.put (o := .ins U.C dx (putF "_interval" (.int t) [])) h1p (fun _ z => by cases z))
    generalize upd H1 p (.ins U.C dx (putF "_interval" (.int t) [])) = H2 at h2p B2 h2d h2T ⊢
    clear h1p h1d h1T S1
    -- _rows
    refine ⟨_, rfl, d, _, L.map (·.1), rfl, .inl h2d, kvs_keys L, by rw [List.length_map, ts.len]; have := gd.l8; omega, fun ys q pm so hq => ?_⟩
    have S3 := Same.new (o := .lst (ys.map V.str)) hq
    have eq3 : (upd H2 q (.lst (ys.map V.str))) q = some (.lst (ys.map V.str)) := upd_same
    generalize upd H2 q (.lst (ys.map V.str)) = H3 at S3 eq3 ⊢
    rw [ts.names] at pm
    refine ⟨q, rfl, ⟨_, SqL.of eq3⟩, fun D hD => ?_⟩
    have nDp : D ≠ p := fun z => by rw [z, S3 _ _ h2p] at hD; cases hD
    refine dc_it walk_list (fun i H' => Same H3 H' ∧ ∃ M, H' D = some (.dK (Kvs M)) ∧ Tups H' M (pickR R (ys.take i))) ⟨Same.new hD, [], upd_same, .nil⟩ (fun i H' _ h => SqL.of (h.1 _ _ eq3)) ?_ ?_
    · rintro i x Ha Hb hi ⟨Sa, M, eD, tm⟩ ⟨rfl, hx⟩
      refine ⟨rfl, ?_⟩
      unfold tYes
      dsimp only
      rw [if_pos rfl]
      rw [List.getElem?_map] at hx
      cases e2 : ys[i]? with
      | none => rw [e2] at hx; cases hx
      | some n =>
        rw [e2] at hx
        cases hx
        have hn : n ∈ R.map (·.1) := pm.mem_iff.mp (List.mem_of_getElem? e2)
        have Sc := Same.trans S3 Sa
        have ts2 := h2T.keep (KT.same Sc)
        obtain ⟨t', b, e, hv, ht, hm⟩ := ts2.get hn
        refine ⟨_, rfl, _, rfl, _, rfl, d, V.ref t', rfl, ?_, ?_⟩
        · have := DGet.k (k := Sum.inr n) (Sc _ _ h2d)
          rw [hv] at this
          exact this
        have nyd : ys.Nodup := pm.nodup_iff.mpr gd.nd
        have hnM : n ∉ M.map (·.1) := by
          rw [tm.names, pickR_names]
          intro hm2
          have nd2 := nyd
          rw [← List.take_append_drop i ys] at nd2
          have hd2 : n ∈ ys.drop i := by
            rw [List.mem_iff_getElem?]
            exact ⟨0, by rw [List.getElem?_drop]; exact e2⟩
          exact (List.nodup_append.mp nd2).2.2 n hm2 n hd2 rfl
        have li : i < ys.length := (List.getElem?_eq_some_iff.mp e2).1
        have l8' : ys.length ≤ 8 := by rw [pm.length_eq, List.length_map]; exact gd.l8
        have lM : M.length ≤ 8 := by
          rw [tm.len, ← List.length_map (f := (·.1)) (as := pickR R (ys.take i)), pickR_names, List.length_take]
          omega
        refine ⟨Kvs M, Sum.inr n, rfl, eD, by rw [kvs_len, sizeLine_eq]; omega, Same.at hD Sa, M ++ [(n, t')], by rw [upd_same, putK_kvs hnM], ?_⟩
        have kt : KT Hb (upd Hb D (.dK (putK (Kvs M) (.inr n) (.ref t')))) := KT.put eD (fun _ z => by cases z)
        rw [List.take_add_one, e2]
        show Tups _ _ (pickR R (ys.take i ++ [n]))
        rw [pickR_snoc R _ n (lookup_mem gd.nd hm)]
        exact (tm.keep kt).snoc (kt _ _ ht)
    rintro H4 ⟨S4, M, h4D, h4T⟩
    have hDn : H D = none := by
      cases z : H D with
      | none => rfl
      | some o =>
        have := S3 _ _ (B2 _ _ nDp z)
        rw [hD] at this
        cases this
    rw [List.length_map, List.take_length] at h4T
    have gS : Good t (pickR R ys) := gd.perm (pickR_perm gd.nd pm)
    have B4 : But p H H4 := But.trans B2 (But.same (Same.trans S3 S4))
    have h4p := S4 _ _ (S3 _ _ h2p)
    clear h2p B2 h2d h2T S3 eq3 hD hq S4
    refine ⟨_, rfl, p, U.C, dx, _, rfl, h4p, U.cl, U.n2, (by show 1 < 1000; decide), ?_⟩
    have h5p : (upd H4 p (.ins U.C dx (putF "_rows" (.ref D) (putF "_interval" (.int t) [])))) p = some (.ins U.C dx (putF "_rows" (.ref D) (putF "_interval" (.int t) []))) := upd_same
    have B5 : But p H (upd H4 p (.ins U.C dx (putF "_rows" (.ref D) (putF "_interval" (.int t) [])))) := But.trans B4 But.upd
    have h5D : (upd H4 p (.ins U.C dx (putF "_rows" (.ref D) (putF "_interval" (.int t) [])))) D = some (.dK (Kvs M)) := by rw [upd_ne nDp]; exact h4D
    have h5T := h4T.keep (KT.put (o := .ins U.C dx (putF "_rows" (.ref D) (putF "_interval" (.int t) []))) h4p (fun _ z => by cases z))
    generalize upd H4 p (.ins U.C dx (putF "_rows" (.ref D) (putF "_interval" (.int t) []))) = H5 at h5p B5 h5D h5T ⊢
    clear h4p B4 h4D h4T
    -- _names
    refine ⟨_, rfl, p, U.C, dx, _, .ref D, rfl, h5p, U.cl, U.n2, rfl, D, Kvs M, rfl, h5D, fun nm hnm => ?_⟩
    rw [kvs_kv]
    have S6 := Same.new (o := .tup ((M.map (·.1)).map V.str)) hnm
    have e6N : (upd H5 nm (.tup ((M.map (·.1)).map V.str))) nm = some (.tup ((M.map (·.1)).map V.str)) := upd_same
    generalize upd H5 nm (.tup ((M.map (·.1)).map V.str)) = H6 at S6 e6N ⊢
    have e6p := S6 _ _ h5p
    refine ⟨_, rfl, p, U.C, dx, _, rfl, e6p, U.cl, U.n3, (by show 2 < 1000; decide), ?_⟩
    have H7p : (upd H6 p (.ins U.C dx (putF "_names" (.ref nm) (putF "_rows" (.ref D) (putF "_interval" (.int t) []))))) p = some (.ins U.C dx (putF "_names" (.ref nm) (putF "_rows" (.ref D) (putF "_interval" (.int t) [])))) := upd_same
    have BH7 : But p H (upd H6 p (.ins U.C dx (putF "_names" (.ref nm) (putF "_rows" (.ref D) (putF "_interval" (.int t) []))))) := But.trans B5 (But.trans (But.same S6) But.upd)
    have H7D : (upd H6 p (.ins U.C dx (putF "_names" (.ref nm) (putF "_rows" (.ref D) (putF "_interval" (.int t) []))))) D = some (.dK (Kvs M)) := by rw [upd_ne nDp]; exact S6 _ _ h5D
    have kt7 : KT H6 (upd H6 p (.ins U.C dx (putF "_names" (.ref nm) (putF "_rows" (.ref D) (putF "_interval" (.int t) []))))) := KT.put e6p (fun _ z => by cases z)
    have H7T := (h5T.keep (KT.same S6)).keep kt7
    have H7N := kt7 _ _ e6N
    generalize upd H6 p (.ins U.C dx (putF "_names" (.ref nm) (putF "_rows" (.ref D) (putF "_interval" (.int t) [])))) = H7 at H7p BH7 H7D H7T H7N ⊢
    clear h5p B5 h5D h5T S6 e6p e6N kt7 hnm

    -- _living
    refine ⟨D, _, H7D, True.intro, fun od => ?_⟩
    have lk8 : (upd H7 D (.frz od (.dK (Kvs M)))) D = some (.frz od (.dK (Kvs M))) := upd_same
    have ktl8 : KT H7 (upd H7 D (.frz od (.dK (Kvs M)))) := KT.put H7D (fun _ z => by cases z)
    refine ⟨_, rfl, p, U.C, dx, _, .ref D, rfl, (by rw [upd_ne nDp.symm]; exact H7p), U.cl, U.n2, rfl, D, od, Kvs M, rfl, lk8, fun F8 hF => ?_⟩
    have nFD : F8 ≠ D := fun z => by rw [z, upd_same] at hF; cases hF
    have hF0 : H7 F8 = none := by rw [upd_ne nFD] at hF; exact hF
    have nFp : F8 ≠ p := fun z => by rw [z, H7p] at hF0; cases hF0
    refine dc_it walk_items (fun i H' => Same (upd H7 D (.frz od (.dK (Kvs M)))) H' ∧ ∃ kvs, H' F8 = some (.dK kvs) ∧ kvs.length ≤ i) ⟨Same.new hF, [], upd_same, Nat.le_refl _⟩ (fun i H' _ h => h.1 _ _ lk8) ?_ ?_
    · rintro i x Ha Hb hi ⟨Sa, kvs, eF, lF⟩ ⟨TT, x1, y1, rfl, hTT, rfl, ex1, ey1⟩
      obtain ⟨⟨kk, vv⟩, ekv⟩ : ∃ kv, (Kvs M)[i]? = some kv := ⟨_, List.getElem?_eq_getElem hi⟩
      dsimp only at ex1 ey1
      rw [ekv] at ex1 ey1
      obtain ⟨⟨n, a⟩, hm, e3⟩ : ∃ q ∈ M, (Sum.inr q.1, V.ref q.2) = (kk, vv) := List.mem_map.mp (List.mem_of_getElem? ekv)
      obtain ⟨e4, e5⟩ := Prod.mk.inj e3
      subst e4 e5
      obtain rfl : V.str n = x1 := Option.some.inj ex1
      obtain rfl : V.ref a = y1 := Option.some.inj ey1
      have Sb : Same (upd H7 D (.frz od (.dK (Kvs M)))) (upd Ha TT (.tup [V.str n, V.ref a])) := Same.trans Sa (Same.new hTT)
      have eTT : (upd Ha TT (.tup [V.str n, V.ref a])) TT = some (.tup [V.str n, V.ref a]) := upd_same
      have eFb : (upd Ha TT (.tup [V.str n, V.ref a])) F8 = some (.dK kvs) := (Same.new hTT) _ _ eF
      generalize upd Ha TT (.tup [V.str n, V.ref a]) = Hc at Sb eTT eFb ⊢
      have tsb := H7T.keep (KT.trans ktl8 (KT.same Sb))
      obtain ⟨b, e, hab, hS⟩ : ∃ b e, TupAt Hc a b e ∧ (n, b, e) ∈ pickR R ys := by
        have key : ∀ {M : List (Str × Addr)} {S : Rws}, Tups Hc M S → (n, a) ∈ M → ∃ b e, TupAt Hc a b e ∧ (n, b, e) ∈ S := by
          intro M S h
          induction h with
          | nil => intro h; cases h
          | cons h1 h2 ih =>
            intro h
            rcases List.mem_cons.mp h with h | h
            · cases h
              exact ⟨_, _, h1, List.mem_cons_self⟩
            · obtain ⟨b, e, q1, q2⟩ := ih h
              exact ⟨b, e, q1, List.mem_cons_of_mem _ q2⟩
        exact key tsb hm
      have g1 := gS.nr _ hS
      have g2 := gS.sp _ hS
      have g3 := gS.t2
      have g4 := gS.t1
      unfold Near at g1
      unfold SpOk at g2
      simp only at g1 g2
      refine ⟨TT, _, rfl, SqT.of eTT, rfl, _, _, rfl, _, _, rfl, a, _, rfl, SqT.of hab, rfl, _, _, rfl, _, _, rfl, rfl, rfl, ?_⟩
      refine ⟨rfl, ?_⟩
      unfold tYes
      dsimp only
      rw [if_pos rfl]
      refine ⟨_, rfl, _, rfl, _, rfl, by omega, by omega, fun G hG => ?_⟩
      dsimp only
      refine lc_range (tt := fun _ H Q => Q true H) (g := gName 6) (lo := 0) (vs := [6]) (n := t.toNat) (fun j H' => Same Hc H' ∧ ∃ zs, H' G = some (.lst zs) ∧ zs.length ≤ j) ⟨Same.new hG, [], upd_same, Nat.le_refl _⟩ ?_ ?_
      · rintro j Hd hj ⟨Sd, zs, eG, lz⟩
        refine ⟨rfl, ?_⟩
        dsimp only
        rw [if_pos rfl]
        refine ⟨_, rfl, _, rfl, _, rfl, _, rfl, _, _, _, t, rfl, ⟨by omega, by omega, by omega⟩, ⟨by omega, by omega⟩, g4, g3, ?_⟩
        refine ⟨_, eG, by rw [sizeLine_eq]; omega, Same.at hG Sd, _, upd_same, by rw [List.length_append]; show _ + 1 ≤ _; omega⟩
      · rintro Hd ⟨Sd, zs, eG, lz⟩
        have eFd := Sd _ _ eFb
        have lM : i < 8 := by rw [kvs_len, H7T.len] at hi; have := gS.l8; omega
        refine ⟨kvs, Sum.inr n, rfl, eFd, by rw [sizeLine_eq]; omega, ?_, _, upd_same, by have := length_putK kvs (Sum.inr n : Key) (V.ref G); omega⟩
        exact Same.at hF (Same.trans Sb Sd)
    rintro Ha ⟨Sa, kvs, eF, lF⟩
    refine ⟨Sa _ _ lk8, ?_⟩
    have SH8 := same_lock H7D Sa
    generalize upd Ha D (.dK (Kvs M)) = H8' at SH8 ⊢
    have H8'p := SH8 _ _ H7p
    refine ⟨_, rfl, p, U.C, dx, _, rfl, H8'p, U.cl, U.n4, (by show 3 < 1000; decide), ?_⟩
    have H8p : (upd H8' p (.ins U.C dx (putF "_living" (.ref F8) (putF "_names" (.ref nm) (putF "_rows" (.ref D) (putF "_interval" (.int t) [])))))) p = some (.ins U.C dx (putF "_living" (.ref F8) (putF "_names" (.ref nm) (putF "_rows" (.ref D) (putF "_interval" (.int t) []))))) := upd_same
    have BH8 : But p H (upd H8' p (.ins U.C dx (putF "_living" (.ref F8) (putF "_names" (.ref nm) (putF "_rows" (.ref D) (putF "_interval" (.int t) [])))))) := But.trans BH7 (But.trans (But.same SH8) But.upd)
    have KH8 : KT H7 (upd H8' p (.ins U.C dx (putF "_living" (.ref F8) (putF "_names" (.ref nm) (putF "_rows" (.ref D) (putF "_interval" (.int t) [])))))) := KT.trans (KT.same SH8) (KT.put H8'p (fun _ z => by cases z))
    have H8D : (upd H8' p (.ins U.C dx (putF "_living" (.ref F8) (putF "_names" (.ref nm) (putF "_rows" (.ref D) (putF "_interval" (.int t) [])))))) D = some (.dK (Kvs M)) := by rw [upd_ne nDp]; exact SH8 _ _ H7D
    have H8N : (upd H8' p (.ins U.C dx (putF "_living" (.ref F8) (putF "_names" (.ref nm) (putF "_rows" (.ref D) (putF "_interval" (.int t) [])))))) nm = some (.tup ((M.map (·.1)).map V.str)) := KH8 _ _ H7N
    have H8T := H7T.keep KH8
    generalize upd H8' p (.ins U.C dx (putF "_living" (.ref F8) (putF "_names" (.ref nm) (putF "_rows" (.ref D) (putF "_interval" (.int t) []))))) = H8 at H8p BH8 H8D H8N H8T ⊢
    clear SH8 H8'p KH8 Sa eF lF hF hF0 nFD

    -- _crossing
    refine ⟨D, _, H8D, True.intro, fun od => ?_⟩
    have lk9 : (upd H8 D (.frz od (.dK (Kvs M)))) D = some (.frz od (.dK (Kvs M))) := upd_same
    have ktl9 : KT H8 (upd H8 D (.frz od (.dK (Kvs M)))) := KT.put H8D (fun _ z => by cases z)
    refine ⟨_, rfl, p, U.C, dx, _, .ref D, rfl, (by rw [upd_ne nDp.symm]; exact H8p), U.cl, U.n2, rfl, D, od, Kvs M, rfl, lk9, fun F9 hF => ?_⟩
    have nFD : F9 ≠ D := fun z => by rw [z, upd_same] at hF; cases hF
    have hF0 : H8 F9 = none := by rw [upd_ne nFD] at hF; exact hF
    have nFp : F9 ≠ p := fun z => by rw [z, H8p] at hF0; cases hF0
    refine dc_it walk_items (fun i H' => Same (upd H8 D (.frz od (.dK (Kvs M)))) H' ∧ ∃ kvs, H' F9 = some (.dK kvs) ∧ kvs.length ≤ i) ⟨Same.new hF, [], upd_same, Nat.le_refl _⟩ (fun i H' _ h => h.1 _ _ lk9) ?_ ?_
    · rintro i x Ha Hb hi ⟨Sa, kvs, eF, lF⟩ ⟨TT, x1, y1, rfl, hTT, rfl, ex1, ey1⟩
      obtain ⟨⟨kk, vv⟩, ekv⟩ : ∃ kv, (Kvs M)[i]? = some kv := ⟨_, List.getElem?_eq_getElem hi⟩
      dsimp only at ex1 ey1
      rw [ekv] at ex1 ey1
      obtain ⟨⟨n, a⟩, hm, e3⟩ : ∃ q ∈ M, (Sum.inr q.1, V.ref q.2) = (kk, vv) := List.mem_map.mp (List.mem_of_getElem? ekv)
      obtain ⟨e4, e5⟩ := Prod.mk.inj e3
      subst e4 e5
      obtain rfl : V.str n = x1 := Option.some.inj ex1
      obtain rfl : V.ref a = y1 := Option.some.inj ey1
      have Sb : Same (upd H8 D (.frz od (.dK (Kvs M)))) (upd Ha TT (.tup [V.str n, V.ref a])) := Same.trans Sa (Same.new hTT)
      have eTT : (upd Ha TT (.tup [V.str n, V.ref a])) TT = some (.tup [V.str n, V.ref a]) := upd_same
      have eFb : (upd Ha TT (.tup [V.str n, V.ref a])) F9 = some (.dK kvs) := (Same.new hTT) _ _ eF
      generalize upd Ha TT (.tup [V.str n, V.ref a]) = Hc at Sb eTT eFb ⊢
      have tsb := H8T.keep (KT.trans ktl9 (KT.same Sb))
      obtain ⟨b, e, hab, hS⟩ : ∃ b e, TupAt Hc a b e ∧ (n, b, e) ∈ pickR R ys := by
        have key : ∀ {M : List (Str × Addr)} {S : Rws}, Tups Hc M S → (n, a) ∈ M → ∃ b e, TupAt Hc a b e ∧ (n, b, e) ∈ S := by
          intro M S h
          induction h with
          | nil => intro h; cases h
          | cons h1 h2 ih =>
            intro h
            rcases List.mem_cons.mp h with h | h
            · cases h
              exact ⟨_, _, h1, List.mem_cons_self⟩
            · obtain ⟨b, e, q1, q2⟩ := ih h
              exact ⟨b, e, q1, List.mem_cons_of_mem _ q2⟩
        exact key tsb hm
      have g1 := gS.nr _ hS
      have g2 := gS.sp _ hS
      have g3 := gS.t2
      have g4 := gS.t1
      unfold Near at g1
      unfold SpOk at g2
      simp only at g1 g2
      refine ⟨TT, _, rfl, SqT.of eTT, rfl, _, _, rfl, _, _, rfl, a, _, rfl, SqT.of hab, rfl, _, _, rfl, _, _, rfl, rfl, rfl, ?_⟩
      refine ⟨rfl, ?_⟩
      unfold tYes
      dsimp only
      rw [if_pos rfl]
      refine ⟨_, rfl, _, rfl, _, rfl, by omega, by omega, fun G hG => ?_⟩
      dsimp only
      refine lc_range (tt := fun _ H Q => Q true H) (g := gName 6) (lo := 0) (vs := [6]) (n := t.toNat) (fun j H' => Same Hc H' ∧ ∃ zs, H' G = some (.lst zs) ∧ zs.length ≤ j) ⟨Same.new hG, [], upd_same, Nat.le_refl _⟩ ?_ ?_
      · rintro j Hd hj ⟨Sd, zs, eG, lz⟩
        refine ⟨rfl, ?_⟩
        dsimp only
        rw [if_pos rfl]
        refine ⟨_, rfl, _, _, rfl, rfl, _, rfl, _, rfl, _, rfl, _, _, _, t, rfl, ⟨by omega, by omega, by omega⟩, ⟨by omega, by omega⟩, g4, g3, ?_⟩
        refine ⟨_, eG, by rw [sizeLine_eq]; omega, Same.at hG Sd, _, upd_same, by rw [List.length_append]; show _ + 1 ≤ _; omega⟩
      · rintro Hd ⟨Sd, zs, eG, lz⟩
        have eFd := Sd _ _ eFb
        have lM : i < 8 := by rw [kvs_len, H8T.len] at hi; have := gS.l8; omega
        refine ⟨kvs, Sum.inr n, rfl, eFd, by rw [sizeLine_eq]; omega, ?_, _, upd_same, by have := length_putK kvs (Sum.inr n : Key) (V.ref G); omega⟩
        exact Same.at hF (Same.trans Sb Sd)
    rintro Ha ⟨Sa, kvs, eF, lF⟩
    refine ⟨Sa _ _ lk9, ?_⟩
    have SH9 := same_lock H8D Sa
    generalize upd Ha D (.dK (Kvs M)) = H9' at SH9 ⊢
    have H9'p := SH9 _ _ H8p
    refine ⟨_, rfl, p, U.C, dx, _, rfl, H9'p, U.cl, U.n5, (by show 4 < 1000; decide), ?_⟩
    have H9p : (upd H9' p (.ins U.C dx (putF "_crossing" (.ref F9) (putF "_living" (.ref F8) (putF "_names" (.ref nm) (putF "_rows" (.ref D) (putF "_interval" (.int t) []))))))) p = some (.ins U.C dx (putF "_crossing" (.ref F9) (putF "_living" (.ref F8) (putF "_names" (.ref nm) (putF "_rows" (.ref D) (putF "_interval" (.int t) [])))))) := upd_same
    have BH9 : But p H (upd H9' p (.ins U.C dx (putF "_crossing" (.ref F9) (putF "_living" (.ref F8) (putF "_names" (.ref nm) (putF "_rows" (.ref D) (putF "_interval" (.int t) []))))))) := But.trans BH8 (But.trans (But.same SH9) But.upd)
    have KH9 : KT H8 (upd H9' p (.ins U.C dx (putF "_crossing" (.ref F9) (putF "_living" (.ref F8) (putF "_names" (.ref nm) (putF "_rows" (.ref D) (putF "_interval" (.int t) []))))))) := KT.trans (KT.same SH9) (KT.put H9'p (fun _ z => by cases z))
    have H9D : (upd H9' p (.ins U.C dx (putF "_crossing" (.ref F9) (putF "_living" (.ref F8) (putF "_names" (.ref nm) (putF "_rows" (.ref D) (putF "_interval" (.int t) []))))))) D = some (.dK (Kvs M)) := by rw [upd_ne nDp]; exact SH9 _ _ H8D
    have H9N : (upd H9' p (.ins U.C dx (putF "_crossing" (.ref F9) (putF "_living" (.ref F8) (putF "_names" (.ref nm) (putF "_rows" (.ref D) (putF "_interval" (.int t) []))))))) nm = some (.tup ((M.map (·.1)).map V.str)) := KH9 _ _ H8N
    have H9T := H8T.keep KH9
    generalize upd H9' p (.ins U.C dx (putF "_crossing" (.ref F9) (putF "_living" (.ref F8) (putF "_names" (.ref nm) (putF "_rows" (.ref D) (putF "_interval" (.int t) [])))))) = H9 at H9p BH9 H9D H9N H9T ⊢
    clear SH9 H9'p KH9 Sa eF lF hF hF0 nFD
    have n10 : H9 nm = some (.tup (((pickR R ys).map (·.1)).map V.str)) := by rw [← H9T.names]; exact H9N
    have so' : sortedS ((pickR R ys).map (·.1)) = true := by rw [pickR_names]; exact so
    exact k (pickR R ys) _ BH9 ⟨gS, so', dx, D, nm, .ref F8, .ref F9, M, H9p, H9D, H9T, n10⟩ ⟨pickR_perm gd.nd pm, so'⟩ fun H'' kp kt => ⟨gS, so', dx, D, nm, .ref F8, .ref F9, M, kp _ _ (.inr rfl) H9p, kp _ _ (.inl hDn) H9D, H9T.keep kt, kt _ _ n10⟩
end
end K43
namespace RL
open PySem PySem.Spec PyProof PyProof.Rows L2
section
variable {X : Cx}
theorem sw_trueD {kx vx : Expr} {gs : List Comprehension} {scope : Scope} {pos py : Pos} {y : Str} {l : Nat} {env : Env} (hk : env.scope.kind = .function) (hy : env.scope.names.lookup y = some .local) (hl : (py.line == pos.line) = true)
    (ha : (scope.names.any fun (n, k) => n == y && (k == .local || k == .cell)) = false) : swapsWith (.DictComp kx vx gs scope pos) (some (.Name y py)) l env = pure true := by
  have ky : env.kindOf y = some .local := hy
  have hb : env.blockKind = .function := by unfold Env.blockKind; rw [hk]; rfl
  unfold swapsWith
  simp only [hb, ky, ha, Expr.pos, hl]
  rfl
/-- y = {k: v for ..} -/
theorem ps_setDc {i : Nat} {y : Str} {py : Pos} {kx vx tg iter : Expr} {ifs : List Expr} {scope : Scope} {own : List (Str × Nat)} {pos spos : Pos} {wi : TI} {g : TG} {tt : TT} {tk tv : TE} (hc : X.calm = true) (hN : X.N.Nodup) (hy : X.N[i]? = some y) (hyl : X.env.scope.names.lookup y = some .local)
    (hsw : swapsWith (.DictComp kx vx [⟨tg, iter, ifs, 0⟩] scope pos) (some (.Name y py)) spos.line X.env = pure true) (hi : PI X tg iter wi) (ok : BlkOk X.N X.env.scope scope own)
    (hg : ∀ (s : Shared) (H : Hp) (C : Addr) (cl : List (Str × Addr)) (fp : List Addr), PG (X.blk s H scope (compEnvC scope cl C X.env) fp) tg g)
                                                                                                                                                  (ht : ∀ (s : Shared) (H : Hp) (C : Addr) (cl : List (Str × Addr)) (fp : List Addr), PTs (X.blk s H scope (compEnvC scope cl C X.env) fp) ifs tt)
    (hk : ∀ (s : Shared) (H : Hp) (C : Addr) (cl : List (Str × Addr))
                                                                      (fp : List Addr), PE (X.blk s H scope (compEnvC scope cl C X.env) fp) kx tk)
    (he : ∀ (s : Shared) (H : Hp) (C : Addr) (cl : List (Str × Addr)) (fp : List Addr), PE (X.blk s H scope
                                                                                                            (compEnvC scope cl C X.env) fp) vx tv) (hs : ∀ x, foldedSetIterable iter X.env x = pure x := by intro _; rfl) :
    PS X (.Assign [.Name y py] (.DictComp kx vx [⟨tg, iter, ifs, 0⟩] scope pos) spos) (tAsg (tDc wi g tt tk tv (own.map (·.2))) (gName i)) := by
  refine ⟨fun pins s σ H D I h => ?_⟩
  rw [exec_Assign_Name_used _ _ _ _ hsw]
  refine wpAny_bind (wpAny_standAt (wpAny_bind ?_))
  show wpAny _ X.A (do let _ ← comprehension (.DictComp kx vx [⟨tg, iter, ifs, 0⟩] scope pos) scope X.env (firstIterPos [⟨tg, iter, ifs, 0⟩] pos) newDict false (eval iter X.env) (some (assign (.Name y py) X.env))) _ _ s
  have h : tDc wi g tt tk tv (own.map (·.2)) σ H (fun x H1 => gName i x σ H1 D.nx) := h
  refine wpAny_bind (thn (dc_core (Qf := fun _ s' => SP X pins D .next s') hc hN I hi ok hg ht hk he hs h fun L C s' m H' I' q hn f => ?_) fun _ s' hq => wpAny_pure (wpAny_pure hq))
  show wpAny _ _ (assign (.Name y py) X.env (.ref L)) _ _ _
  refine wpAny_assign_Name (store_ok2 (v := V.ref L) I' hN hy
                                                              (.inl hyl) rfl (fun s2 I2 ⟨a, sb, ha⟩ => ?_) (.inr hyl))
  obtain ⟨f0, f1, f2, f3, f4, f5⟩ := f
  have haC : C ≠ a := by
    rcases ha with z | z
    · rw [z]; exact f1
    · exact fun e => f4 y a z e.symm
  refine ⟨m, hn.sameBut sb haC, fun h3 sb3 => ?_⟩
  exact ⟨_, H', I2.turned (t' := s2.toks)
                                          (fun b o hb e => (sb3.2 b hb).trans e) f0 f1 f3 f4 f5, q⟩
end
end RL
namespace K43
open PySem L2
open PyProof.Rows PySem.Spec
theorem SpAt.t1 {H : Hp} {C p : Addr} {t : Int} {S : Rws} (h : SpAt H C p t S) : 1 ≤ t ∧ t ≤ 32 := ⟨h.1.t1, h.1.t2⟩
theorem SpAt.off {H H' : Hp} {C p q : Addr} {t : Int} {S : Rws} (o : But q H H') (hq : H q = none) (h : SpAt H C p t S) : SpAt H' C p t S := by
  obtain ⟨g, so, dx, rd, nm, lv, cr, L, h1, h2, h3, h4⟩ := h
  have ne : ∀ {a : Addr} {u : HO}, H a = some u → a ≠ q := fun e w => by rw [w, hq] at e; cases e
  have kt : KT H H' := fun a xs e => o _ _ (ne e) e
  exact ⟨g, so, dx, rd, nm, lv, cr, L, o _ _ (ne h1) h1, o _ _ (ne h2) h2, h3.keep kt, o _ _ (ne h4) h4⟩
theorem pe_fldK {X : Cx} {K : PySem.W.Frag} {e : Expr} {f : Str} {ta : TE} {pos : Pos} (hK : X.K = K) (he : PE X e ta) (hb : attributeBase e f X.env (eval e X.env) = eval e X.env) : PE X (.Attribute e f pos) (tFld K ta f) := by
  subst hK
  exact pe_fld he hb
theorem tups_at {H : Hp} : ∀ {L : List (Str × Addr)} {S : Rws}, Tups H L S → ∀ (i : Nat) (a : V), ((Kvs L)[i]?.map Prod.snd) = some a → ∃ n t b e, a = .ref t ∧ S[i]? = some (n, b, e) ∧ TupAt H t b e ∧ L[i]? = some (n, t)
  | _, _, .nil, i, a, h => by simp [Kvs] at h
  | _, _, .cons (n := n) (t := t) (b := b) (e := e) q ts, 0, a, h => ⟨n, t, b, e, (Option.some.inj h).symm, rfl, q, rfl⟩
  | _, _, .cons q ts, i + 1, a, h => by
    obtain ⟨n, t, b, e, h1, h2, h3, h4⟩ := tups_at ts i a (by simpa [Kvs] using h)
    exact ⟨n, t, b, e, h1, by simpa using h2, h3, by simpa using h4⟩
theorem opr_or {X : Cx} {f : Value → Value → Sem Value} {r1 r2 : R2} (h1 : OpR X f r1) (h2 : OpR X f r2) : OpR X f (fun x y H Q => r1 x y H Q ∨ r2 x y H Q) := fun pins s σ H x y v u Q I rx ry h => by
  rcases h with h | h
  · exact h1 pins s σ H x y v u Q I rx ry h
  · exact h2 pins s σ H x y v u Q I rx ry h
def tJ (ts : List TE) : TE := fun σ H Q => tJs ts Str.empty σ H fun out H1 => Q (.str out) H1
theorem pe_J {X : Cx} {v1 v2 : Expr} {rest : List Expr} {ts : List TE} {pos : Pos} (h : PJ X (v1 :: v2 :: rest) ts) : PE X (.JoinedStr (v1 :: v2 :: rest) pos) (tJ ts) := pe_joined h
theorem int_len {i : Int} (h0 : 0 ≤ i) (h1 : i ≤ 40) : (toString i : Str).length ≤ 3 ∧ i.natAbs.log2 < 1920 := by
  have key : ∀ k : Fin 41, (toString (k.1 : Int) : Str).length ≤ 3 ∧ (k.1 : Int).natAbs.log2 < 1920 := by decide +kernel
  have := key ⟨i.toNat, by omega⟩
  rwa [show ((i.toNat : Nat) : Int) = i from by omega] at this
theorem len_app (a b : Str) : (a ++ b).length = a.length + b.length := by
  show (a.cps ++ b.cps).size = a.cps.size + b.cps.size
  exact Array.size_append
theorem emp_app (x : Str) : Str.empty ++ x = x := by
  refine str_ext ?_
  show (Str.empty.cps ++ x.cps).toList = x.cps.toList
  rw [Array.toList_append]
  rfl
theorem eqv_row (p q : Int × Int) : PyData.eqv (.tuple [.int p.1, .int p.2]) (.tuple [.int q.1, .int q.2]) = decide (p = q) := by
  obtain ⟨a, b⟩ := p
  obtain ⟨c, d⟩ := q
  simp [PyData.eqv, PyData.eqvAll]
  rw [Bool.eq_iff_iff]
  simp
theorem allE_rows : ∀ {S S2 : Rws}, S.map (·.1) = S2.map (·.1) → RL.allE (S.map rowD) (S2.map rowD) = decide (S = S2)
  | [], [], _ => by simp [RL.allE]
  | [], _ :: _, h => by cases h
  | _ :: _, [], h => by cases h
  | (n, p) :: S, (m, q) :: S2, h => by
    obtain ⟨h1, h2⟩ := List.cons.inj h
    obtain rfl : n = m := h1
    show (PyData.eqv (.tuple [.int p.1, .int p.2]) (.tuple [.int q.1, .int q.2]) && RL.allE (S.map rowD) (S2.map rowD)) = _
    rw [eqv_row, allE_rows h2, Bool.eq_iff_iff]
    simp
theorem plain_rows (S : Rws) : PyData.plainAll ((S.map rowD).map (·.2)) = true := by
  induction S with
  | nil => simp [PyData.plainAll]
  | cons r S ih => simpa [PyData.plainAll, PyData.plain, rowD] using ih
theorem depth_rows (S : Rws) : PyData.depthAll ((S.map rowD).map (·.2)) ≤ 1 := by
  induction S with
  | nil => simp [PyData.depthAll]
  | cons r S ih =>
    simp [PyData.depthAll, PyData.depth, rowD] at ih ⊢
    exact Nat.max_le.mpr ⟨Nat.le_refl _, ih⟩
theorem valV_self : ∀ {L : List (Str × Addr)}, (L.map (·.1)).Nodup → ∀ p ∈ Kvs L, valV (Kvs L) p.1 = some p.2
  | [], _, p, hp => by cases hp
  | (n, a) :: L, nd, p, hp => by
    rw [List.map_cons, List.nodup_cons] at nd
    rcases List.mem_cons.mp hp with rfl | hp
    · exact valV_pos (p := ((Sum.inr n : Key), V.ref a)) rfl
    · obtain ⟨⟨m, b⟩, hm, rfl⟩ := List.mem_map.mp hp
      refine (valV_neg (p := ((Sum.inr n : Key), V.ref a)) (fun z => nd.1 ?_)).trans (valV_self nd.2 _ hp)
      rw [Sum.inr.inj z]
      exact List.mem_map.mpr ⟨_, hm, rfl⟩
theorem self_nf {K : PySem.W.Frag} {C : Addr} : PySem.W.notFirst K C (.ref C) = true := by
  unfold PySem.W.notFirst
  simp
theorem SpAt.ins {H : Hp} {C p : Addr} {t : Int} {S : Rws} (h : SpAt H C p t S) : ∃ dx fs, H p = some (.ins C dx fs) := by
  obtain ⟨g, so, dx, rd, nm, lv, cr, L, h1, _⟩ := h
  exact ⟨dx, _, h1⟩
theorem SpAt.tyd {K : PySem.W.Frag} {H : Hp} {C p : Addr} {t : Int} {S : Rws} (h : SpAt H C p t S) : OW.Tyd K H (.ref p) (.ref C) := by
  obtain ⟨dx, fs, e⟩ := h.ins
  exact .inr (.inr ⟨C, dx, fs, e, rfl⟩)
/-- rows moved by so much -/
def farR (f : Int) (R : Rws) : Rws := R.map fun r => (r.1, r.2.1 + f, r.2.2 + f)
theorem farR_names (f : Int) (R : Rws) : (farR f R).map (·.1) = R.map (·.1) := by
  unfold farR
  rw [List.map_map]
  rfl
section
variable {P : Program} {w : World} {K : PySem.W.Frag}
                                                      {mg : Str → Option Value} {base : Heap}
theorem ok_get {x qual f : Str} {st : Stmt} {C : Addr} (c : Cls K C) (p : Pp K C x qual st) (S : FnScope ["self"] ["self"] (defScope st)) (n : NoAttr K C f)
    (hb : ∃ p1 p2 p3, defBody st = [.Return (some (.Attribute (.Name "self" p1) f p2)) p3]) : FnOk P w K mg base CX0 1 p.g p.d ["self"] (getSp C f) := by
  obtain ⟨oc, od, dV, kV, doc, pm, an, cdv, ct, osl, e, lk, hcd, _, _⟩ := p.F.ex
  obtain ⟨p1, p2, p3, hb⟩ := hb
  rw [e] at lk ⊢
  exact fn_getter lk hcd S rfl hb c n
def sp_item (K : PySem.W.Frag) (C : Addr) : Sp := fun vs H Q _ => ∃ (p : Addr) (t : Int) (S : Rws) (n : Str) (b e : Int), vs = [.ref p, .str n] ∧ SpAt H C p t S ∧ (n, b, e) ∈ S ∧ ∀ a, TupAt H a b e → Q (.ref a) H
theorem ok_item (T : T K mg) (U : UX K mg) : FnOk P w K mg base CX0 1 U.mi.f U.mi.d ["self", "name"] (sp_item K U.C) := by
  refine U.mi.F.ok sc_Spans_getitem (fun vs H Q E h => ?_) (fun cdv A outer s H vs Q E hr h => ?_)
  · obtain ⟨p, t, S, n, b, e, rfl, _⟩ := h
    rfl
  · obtain ⟨p, t, S, n, b, e, rfl, ⟨g, so, dx, rd, nm, lv, cr, L, h1, h2, h3, h4⟩, hm, k⟩ := h
    have hu := hu_of hr
    refine ⟨_, (pss_cons (ps_if (pt_cmpR op_notIn_seq (pv 1) (pe_fld (pv 0) rfl) rfl)
      (pss_one ps_never)
      pss_nil)
      (pss_one (ps_ret (pe_dget (by exact hu) (pe_fld (pv 0) rfl) (pv 1) (fun _ _ => rfl))))), ?_⟩
    have hn : n ∈ S.map (·.1) := List.mem_map.mpr ⟨_, hm, rfl⟩
    refine ⟨_, rfl, _, rfl, p, U.C, dx, _, .ref nm, rfl, h1, U.cl, U.n3, rfl, nm, _, rfl, .inr (SqT.of h4), rfl, flat_strs _, _, rfl, ?_⟩
    rw [inV_strs, decide_eq_true hn]
    refine iteF ?_
    obtain ⟨a, ha, hb⟩ := h3.at g.nd hm
    refine ⟨_, rfl, p, U.C, dx, _, .ref rd, rfl, h1, U.cl, U.n2, rfl, _, rfl, rd, V.ref a, rfl, ?_, ?_⟩
    · have := DGet.k (k := Sum.inr n) h2
      rw [ha] at this
      exact this
    · exact k a hb
def sp_eq (K : PySem.W.Frag) (C : Addr) : Sp := fun vs H Q _ => ∃ (p : Addr) (t : Int) (S : Rws) (q : Addr) (t2 : Int) (S2 : Rws), vs = [.ref p, .ref q] ∧ SpAt H C p t S ∧ SpAt H C q t2 S2 ∧ (t = t2 → S.map (·.1) = S2.map (·.1)) ∧ Q (.bl (decide (t = t2) && decide (S = S2))) H
theorem ok_eq (T : T K mg) (U : UX K mg) : FnOk P w K mg base CX0 3 U.me.f U.me.d ["self", "other"] (sp_eq K U.C) := by
  refine U.me.F.ok sc_Spans_eq (fun vs H Q E h => ?_) (fun cdv A outer s H vs Q E hr h => ?_)
  · obtain ⟨p, t, S, q, t2, S2, rfl, _⟩ := h
    rfl
  · obtain ⟨p, t, S, q, t2, S2, rfl, ⟨g, so, dx, rd, nm, lv, cr, L, h1, h2, h3, h4⟩, ⟨g', so', dx', rd', nm', lv', cr', L', h1', h2', h3', h4'⟩, en, k⟩ := h
    have hu := hu_of hr
    refine ⟨_, (pss_one (ps_ret (pe_and (pe_callB call_isi (by rfl) T.z_isinstance (by decide +kernel) (pa_cons (pv 1) (pa_cons (pe_glob (v := V.ref U.C) rfl U.mC rfl) pa_nil))) (pe_and (pe_cmpR op_eq (pe_fld (pv 0) rfl) (pe_fld (pv 1) rfl) (nomark _)) (pe_one (pe_cmpR (RL.op_eqDic (un64 hr)) (pe_fld (pv 0) rfl) (pe_fld (pv 1) rfl) (nomark _))))))), ?_⟩
    refine ⟨_, rfl, _, _, _, _, true, rfl, .own _, .base (.ins h1' U.cl U.ca U.cg U.ct U.mo), by unfold PySem.W.kitOne; rw [if_pos (beq_self_eq_true _)], ?_⟩
    refine ⟨_, rfl, ?_⟩
    refine iteT ?_
    refine ⟨_, rfl, p, U.C, dx, _, .int t, rfl, h1, U.cl, U.n1, rfl, _, rfl, q, U.C, dx', _, .int t2, rfl, h1', U.cl, U.n1, rfl, rfl, _, rfl, ?_⟩
    by_cases c1 : t = t2
    · have c1' : V.int t = V.int t2 := congrArg _ c1
      rw [decide_eq_true c1']
      rw [decide_eq_true c1, Bool.true_and] at k
      refine iteT ?_
      have en := en c1
      refine ⟨_, rfl, p, U.C, dx, _, .ref rd, rfl, h1, U.cl, U.n2, rfl, _, rfl, q, U.C, dx', _, .ref rd', rfl, h1', U.cl, U.n2, rfl, rd, rd', Kvs L, Kvs L', S.map rowD, S2.map rowD, rfl, rfl, h2, h2', h3.dsk, h3'.dsk, ?_, ?_, plain_rows _, plain_rows _, Nat.le_trans (depth_rows _) (by decide), ?_⟩
      · rw [kvs_keys, kvs_keys, h3.names, h3'.names, en]
      · exact valV_self (by rw [h3'.names]; exact g'.nd)
      · rw [allE_rows en]
        exact k
    · have c1' : ¬ V.int t = V.int t2 := fun z => c1 (V.int.inj z)
      rw [decide_eq_false c1']
      rw [decide_eq_false c1, Bool.false_and] at k
      exact iteF k
end
end K43
namespace K43
open PySem L2
open PyProof.Rows PySem.Spec
/-- names, the one that follows each, and how long its register waits -/
abbrev Flw := List (Str × Str × Int)
def FAt (H : Hp) (a : Addr) (m : Str) (w : Int) : Prop := H a = some (.tup [.str m, .int w])
inductive FTs (H : Hp) : List (Str × Addr) → Flw → Prop
  | nil : FTs H [] []
  | cons {n : Str} {a : Addr} {m : Str} {w : Int} {L : List (Str × Addr)} {F : Flw} : FAt H a m w → FTs H L F → FTs H ((n, a) :: L) ((n, m, w) :: F)
theorem FTs.keep {H H' : Hp} (k : KT H H') : ∀ {L : List (Str × Addr)} {F : Flw}, FTs H L F → FTs H' L F
  | _, _, .nil => .nil
  | _, _, .cons h t => .cons (k _ _ h) (FTs.keep k t)
theorem FTs.names {H : Hp} : ∀ {L : List (Str × Addr)} {F : Flw}, FTs H L F → L.map (·.1) = F.map (·.1)
  | _, _, .nil => rfl
  | _, _, .cons _ t => by rw [List.map_cons, List.map_cons, FTs.names t]
theorem FTs.len {H : Hp} {L : List (Str × Addr)} {F : Flw} (h : FTs H L F) : L.length = F.length := by
  rw [← List.length_map (f := (·.1)) (as := L), h.names, List.length_map]
theorem FTs.snoc {H : Hp} {n : Str} {a : Addr} {m : Str} {w : Int} : ∀ {L : List (Str × Addr)} {F : Flw}, FTs H L F → FAt H a m w → FTs H (L ++ [(n, a)]) (F ++ [(n, m, w)])
  | _, _, .nil, q => .cons q .nil
  | _, _, .cons h t, q => .cons h (FTs.snoc t q)
/-- what is told of a name -/
def fol (F : Flw) (n : Str) : Str × Int := (F.lookup n).getD (n, 0)
theorem FTs.get {H : Hp} {n : Str} : ∀ {L : List (Str × Addr)} {F : Flw}, FTs H L F → n ∈ F.map (·.1) → ∃ a, valV (Kvs L) (.inr n) = some (.ref a) ∧ FAt H a (fol F n).1 (fol F n).2 ∧ (n, fol F n) ∈ F
  | _, _, .nil, h => by cases h
  | _, _, .cons (n := k) (a := a) (m := m) (w := w) (L := L) (F := F) h ts, hn => by
    by_cases c : n = k
    · subst c
      have e : fol ((n, m, w) :: F) n = (m, w) := by unfold fol; simp
      rw [e]
      exact ⟨a, valV_pos (p := ((Sum.inr n : Key), V.ref a)) rfl, h, List.mem_cons_self⟩
    · have e : fol ((k, m, w) :: F) n = fol F n := by
        unfold fol
        rw [List.lookup_cons, show (n == k) = false from by simpa using c]
      rw [e]
      rcases List.mem_cons.mp hn with q | q
      · exact absurd q c
      · obtain ⟨a', h1, h2, h3⟩ := FTs.get ts q
        exact ⟨a', (valV_neg (p := ((Sum.inr k : Key), V.ref a)) (fun z => c (Sum.inr.inj z).symm)).trans h1, h2, List.mem_cons_of_mem _ h3⟩
theorem fol_at {F : Flw} (nd : (F.map (·.1)).Nodup) {n : Str} {q : Str × Int} (h : (n, q) ∈ F) : fol F n = q := by
  induction F with
  | nil => cases h
  | cons x F ih =>
    obtain ⟨k, p⟩ := x
    rw [List.map_cons, List.nodup_cons] at nd
    by_cases c : n = k
    · subst c
      rcases List.mem_cons.mp h with e | e
      · cases e
        unfold fol
        simp
      · exact absurd (List.mem_map.mpr ⟨_, e, rfl⟩) nd.1
    · have e : fol ((k, p) :: F) n = fol F n := by
        unfold fol
        rw [List.lookup_cons, show (n == k) = false from by simpa using c]
      rw [e]
      rcases List.mem_cons.mp h with e | e
      · cases e
        exact absurd rfl c
      · exact ih nd.2 e
/-- the span of a name -/
def spn (S : Rws) (n : Str) : Int × Int := (S.lookup n).getD (0, 0)
theorem spn_at {n : Str} {p : Int × Int} : ∀ {S : Rws}, (S.map (·.1)).Nodup → (n, p) ∈ S → spn S n = p
  | (m, q) :: S, nd, h => by
    rw [List.map_cons, List.nodup_cons] at nd
    cases h with
    | head => unfold spn; simp
    | tail _ h =>
      have ne : ¬n = m := fun z => nd.1 (List.mem_map.mpr ⟨_, h, z⟩)
      rw [← spn_at nd.2 h]
      unfold spn
      rw [List.lookup_cons, show (n == m) = false from by rw [beq_eq_false_iff_ne]; exact ne]
theorem spn_in {S : Rws} (nd : (S.map (·.1)).Nodup) {n : Str} (h : n ∈ S.map (·.1)) : (n, (spn S n).1, (spn S n).2) ∈ S := by
  obtain ⟨x, hx, rfl⟩ := List.mem_map.mp h
  rw [spn_at (p := x.2) nd hx]
  exact hx
/-- follows that make a wiring -/
structure FOk (t : Int) (S : Rws) (F : Flw) : Prop where
  nm : (F.map (·.1)).Perm (S.map (·.1))
  tg : (F.map (·.2.1)).Perm (S.map (·.1))
  wt : ∀ x ∈ F, 0 ≤ x.2.2 ∧ x.2.2 ≤ 4 * t
  dv : ∀ x ∈ F, ((spn S x.1).2 + x.2.2 - (spn S x.2.1).1) % t = 0
  l6 : F.length ≤ 6
theorem FOk.nd {t : Int} {S : Rws} {F : Flw} (g : Good t S) (h : FOk t S F) : (F.map (·.1)).Nodup := h.nm.nodup_iff.mpr g.nd
theorem FOk.perm {t : Int} {S : Rws} {F G : Flw} (p : G.Perm F) (h : FOk t S F) : FOk t S G := ⟨(p.map (·.1)).trans h.nm, (p.map (·.2.1)).trans h.tg, fun x hx => h.wt x (p.mem_iff.mp hx), fun x hx => h.dv x (p.mem_iff.mp hx), by rw [p.length_eq]; exact h.l6⟩
theorem FOk.at {t : Int} {S : Rws} {F : Flw} (h : FOk t S F) {n : Str} (hn : n ∈ S.map (·.1)) : n ∈ F.map (·.1) := h.nm.mem_iff.mpr hn
theorem FOk.to {t : Int} {S : Rws} {F : Flw} (h : FOk t S F) {n : Str} {q : Str × Int} (hn : (n, q) ∈ F) : q.1 ∈ S.map (·.1) := h.tg.mem_iff.mp (List.mem_map.mpr ⟨_, hn, rfl⟩)
/-- the length of a value and the wait behind it -/
def lw (S : Rws) (F : Flw) (n : Str) : Int := (spn S n).2 - (spn S n).1 + (fol F n).2
def sizeV (S : Rws) (t : Int) (F : Flw) (ns : List Str) : Int := (ns.map (lw S F)).sum / t
theorem lw_bd {t : Int} {S : Rws} {F : Flw} (g : Good t S) (h : FOk t S F) {n : Str} (hn : n ∈ S.map (·.1)) : 1 ≤ lw S F n ∧ lw S F n ≤ 12 * t := by
  have h1 := g.sp _ (spn_in g.nd hn)
  obtain ⟨x, hx, e⟩ := List.mem_map.mp (h.at hn)
  have e2 : fol F n = x.2 := fol_at (h.nd g) (by rw [← e]; exact hx)
  have h2 := h.wt x hx
  unfold SpOk at h1
  unfold lw
  rw [e2]
  simp only at h1
  omega
theorem sum_bd {f : Str → Int} {c : Int} : ∀ {ns : List Str}, (∀ n ∈ ns, 0 ≤ f n ∧ f n ≤ c) → 0 ≤ (ns.map f).sum ∧ (ns.map f).sum ≤ c * ns.length
  | [], _ => by simp
  | n :: ns, h => by
    obtain ⟨i1, i2⟩ := sum_bd (ns := ns) fun m hm => h m (List.mem_cons_of_mem _ hm)
    have h1 := h n List.mem_cons_self
    rw [List.map_cons, List.sum_cons, List.length_cons, Int.natCast_succ, Int.mul_add, Int.mul_one]
    omega
theorem size_bd {t : Int} {S : Rws} {F : Flw} (g : Good t S) (h : FOk t S F) {ns : List Str} (hn : ∀ n ∈ ns, n ∈ S.map (·.1)) (l6 : ns.length ≤ 6) : 0 ≤ (ns.map (lw S F)).sum ∧ (ns.map (lw S F)).sum ≤ 72 * t ∧ sizeV S t F ns ≤ 72 ∧ 0 ≤ sizeV S t F ns := by
  have t1 := g.t1
  obtain ⟨b1, b2⟩ := sum_bd (f := lw S F) (c := 12 * t) (ns := ns) fun n q => ⟨by have := (lw_bd g h (hn n q)).1; omega, (lw_bd g h (hn n q)).2⟩
  have b3 : 12 * t * (ns.length : Int) ≤ 12 * t * 6 := Int.mul_le_mul_of_nonneg_left (by omega) (by omega)
  refine ⟨b1, by omega, Int.ediv_le_of_le_mul (by omega) (by omega), Int.ediv_nonneg b1 (by omega)⟩
end K43
namespace K43
open PySem L2
open PyProof.Rows PySem.Spec
/-- names that follow one another, each once -/
structure Chn (nx : Str → Str) (N : List Str) (n : Str) (c : List Str) : Prop where
  hd : c[0]? = some n
  st : ∀ i x y, c[i]? = some x → c[i + 1]? = some y → y = nx x
  nd : c.Nodup
  sb : ∀ x ∈ c, x ∈ N
/-- the first name follows the last one -/
structure Cyc (nx : Str → Str) (N : List Str) (n : Str) (c : List Str) : Prop where
  ch : Chn nx N n c
  la : ∀ l, c.getLast? = some l → nx l = n
/-- each name has one name that follows it -/
structure Pmt (nx : Str → Str) (N : List Str) : Prop where
  cl : ∀ x ∈ N, nx x ∈ N
  inj : ∀ x ∈ N, ∀ y ∈ N, nx x = nx y → x = y
section
variable {nx : Str → Str} {N : List Str} {n : Str} {c : List Str}
theorem nd_ix (nd : c.Nodup) {i j : Nat} {x : Str} (h1 : c[i]? = some x) (h2 : c[j]? = some x) : i = j := by
  obtain ⟨a, e1⟩ := List.getElem?_eq_some_iff.mp h1
  obtain ⟨b, e2⟩ := List.getElem?_eq_some_iff.mp h2
  exact (List.getElem_inj nd).mp (e1.trans e2.symm)
theorem Chn.one (h : n ∈ N) : Chn nx N n [n] := ⟨rfl, fun i x y _ h2 => by simp at h2, by simp, fun x hx => by rw [List.mem_singleton.mp hx]; exact h⟩
theorem Chn.ext (p : Pmt nx N) (h : Chn nx N n c) {l : Str} (hl : c.getLast? = some l) (ne : nx l ≠ n) : Chn nx N n (c ++ [nx l]) := by
  rw [List.getLast?_eq_getElem?] at hl
  have hpos : 0 < c.length := (List.getElem?_eq_some_iff.mp h.hd).1
  have lN := h.sb l (List.mem_of_getElem? hl)
  refine ⟨by rw [List.getElem?_append_left hpos]; exact h.hd, fun i x y h1 h2 => ?_, ?_, fun x hx => ?_⟩
  · by_cases hi : i + 1 < c.length
    · rw [List.getElem?_append_left (by omega)] at h1
      rw [List.getElem?_append_left hi] at h2
      exact h.st i x y h1 h2
    · have hlen := (List.getElem?_eq_some_iff.mp h2).1
      rw [List.length_append, List.length_singleton] at hlen
      have e : i = c.length - 1 := by omega
      rw [List.getElem?_append_left (by omega), e, hl] at h1
      rw [List.getElem?_append_right (by omega), show i + 1 - c.length = 0 by omega] at h2
      cases h1
      cases h2
      rfl
  · rw [List.nodup_append]
    refine ⟨h.nd, by simp, fun a ha b hb => ?_⟩
    rw [List.mem_singleton.mp hb]
    intro e
    obtain ⟨i, hi⟩ := List.mem_iff_getElem?.mp ha
    cases i with
    | zero =>
      rw [h.hd] at hi
      cases hi
      exact ne e.symm
    | succ k =>
      obtain ⟨x, hx⟩ : ∃ x, c[k]? = some x := ⟨_, List.getElem?_eq_getElem (by have := (List.getElem?_eq_some_iff.mp hi).1; omega)⟩
      have e2 := h.st k x a hx hi
      have e3 := p.inj x (h.sb x (List.mem_of_getElem? hx)) l lN (e2.symm.trans e)
      subst e3
      have e4 := nd_ix h.nd hx hl
      have := (List.getElem?_eq_some_iff.mp hi).1
      omega
  · rcases List.mem_append.mp hx with hx | hx
    · exact h.sb x hx
    · rw [List.mem_singleton.mp hx]
      exact p.cl l lN
theorem chn_len (h : Chn nx N n c) : c.length ≤ N.length := h.nd.length_le_of_subset h.sb
theorem cyc_ex (p : Pmt nx N) (hn : n ∈ N) : ∃ c, Cyc nx N n c := by
  have key : ∀ (k : Nat) (c : List Str), Chn nx N n c → N.length - c.length = k → ∃ c, Cyc nx N n c := by
    intro k
    induction k using Nat.strongRecOn with
    | ind k ih =>
      intro c h e
      have hpos : 0 < c.length := (List.getElem?_eq_some_iff.mp h.hd).1
      obtain ⟨l, hl⟩ : ∃ l, c.getLast? = some l := by
        rw [List.getLast?_eq_getElem?]
        exact ⟨_, List.getElem?_eq_getElem (by omega)⟩
      by_cases q : nx l = n
      · exact ⟨c, h, fun l' hl' => by rw [hl] at hl'; cases hl'; exact q⟩
      · have h2 := h.ext p hl q
        have := chn_len h2
        rw [List.length_append, List.length_singleton] at this
        exact ih (N.length - (c ++ [nx l]).length) (by rw [List.length_append, List.length_singleton]; omega) _ h2 rfl
  exact key _ [n] (Chn.one hn) rfl
theorem Cyc.last (h : Cyc nx N n c) : ∃ l, c.getLast? = some l ∧ nx l = n := by
  have hpos : 0 < c.length := (List.getElem?_eq_some_iff.mp h.ch.hd).1
  obtain ⟨l, hl⟩ : ∃ l, c.getLast? = some l := by
    rw [List.getLast?_eq_getElem?]
    exact ⟨_, List.getElem?_eq_getElem (by omega)⟩
  exact ⟨l, hl, h.la l hl⟩
theorem Cyc.self (h : Cyc nx N n c) : n ∈ c := List.mem_of_getElem? h.ch.hd
/-- what is closed and has the first one has all -/
theorem Cyc.all {A : List Str} (h : Cyc nx N n c) (cl : ∀ x ∈ A, nx x ∈ A) {i0 : Nat} {x0 : Str} (h0 : c[i0]? = some x0) (hA : x0 ∈ A) : ∀ x ∈ c, x ∈ A := by
  have up : ∀ (k : Nat) (j : Nat) (z : Str), c[j]? = some z → z ∈ A → ∀ y, c[j + k]? = some y → y ∈ A := by
    intro k
    induction k with
    | zero => intro j z hz zA y hy; rw [Nat.add_zero, hz] at hy; cases hy; exact zA
    | succ k ih =>
      intro j z hz zA y hy
      obtain ⟨u, hu⟩ : ∃ u, c[j + k]? = some u := ⟨_, List.getElem?_eq_getElem (by have := (List.getElem?_eq_some_iff.mp hy).1; omega)⟩
      have := h.ch.st (j + k) u y hu hy
      rw [this]
      exact cl u (ih j z hz zA u hu)
  obtain ⟨l, hl, e⟩ := h.last
  rw [List.getLast?_eq_getElem?] at hl
  have li := (List.getElem?_eq_some_iff.mp h0).1
  have lA : l ∈ A := up (c.length - 1 - i0) i0 x0 h0 hA l (by rw [show i0 + (c.length - 1 - i0) = c.length - 1 by omega]; exact hl)
  have nA : n ∈ A := by rw [← e]; exact cl l lA
  intro x hx
  obtain ⟨i, hi⟩ := List.mem_iff_getElem?.mp hx
  exact up i 0 n h.ch.hd nA x (by rw [Nat.zero_add]; exact hi)
theorem Cyc.cl (h : Cyc nx N n c) : ∀ x ∈ c, nx x ∈ c := fun x hx => by
  obtain ⟨i, hi⟩ := List.mem_iff_getElem?.mp hx
  by_cases q : i + 1 < c.length
  · obtain ⟨y, hy⟩ : ∃ y, c[i + 1]? = some y := ⟨_, List.getElem?_eq_getElem q⟩
    rw [← h.ch.st i x y hi hy]
    exact List.mem_of_getElem? hy
  · have := (List.getElem?_eq_some_iff.mp hi).1
    have e : c.getLast? = some x := by
      rw [List.getLast?_eq_getElem?, show c.length - 1 = i by omega]
      exact hi
    rw [h.la x e]
    exact h.self
/-- a name of a cycle has the same cycle -/
theorem Cyc.same {m : Str} {c' : List Str} (h : Cyc nx N n c) (hm : m ∈ c) (h' : Cyc nx N m c') : ∀ x, x ∈ c' ↔ x ∈ c := fun x => by
  obtain ⟨i, hi⟩ := List.mem_iff_getElem?.mp hm
  exact ⟨h'.all h.cl h'.ch.hd hm x, h.all h'.cl hi h'.self x⟩
theorem Cyc.eq {c' : List Str} (h : Cyc nx N n c) (h' : Cyc nx N n c') : c = c' := by
  have pre : ∀ {c1 c2 : List Str}, Cyc nx N n c1 → Cyc nx N n c2 → ∀ (i : Nat) (x : Str), c1[i]? = some x → c2[i]? = some x := by
    intro c1 c2 a b i
    induction i with
    | zero => intro x hx; rw [a.ch.hd] at hx; rw [b.ch.hd]; exact hx
    | succ i ih =>
      intro x hx
      obtain ⟨u, hu⟩ : ∃ u, c1[i]? = some u := ⟨_, List.getElem?_eq_getElem (by have := (List.getElem?_eq_some_iff.mp hx).1; omega)⟩
      have hu2 := ih u hu
      have ex := a.ch.st i u x hu hx
      cases q : c2[i + 1]? with
      | some y => rw [b.ch.st i u y hu2 q, ex]
      | none =>
        have l2 := List.getElem?_eq_none_iff.mp q
        have l3 := (List.getElem?_eq_some_iff.mp hu2).1
        have e : c2.getLast? = some u := by
          rw [List.getLast?_eq_getElem?, show c2.length - 1 = i by omega]
          exact hu2
        have e5 := b.la u e
        rw [← ex] at e5
        have := nd_ix a.ch.nd hx (by rw [e5]; exact a.ch.hd)
        omega
  refine List.ext_getElem? fun i => ?_
  cases q : c[i]? with
  | some x => exact (pre h h' i x q).symm
  | none =>
    cases q2 : c'[i]? with
    | none => rfl
    | some y => rw [pre h' h i y q2] at q; cases q
end
open Classical in
/-- the cycle of a name -/
noncomputable def cy (nx : Str → Str) (N : List Str) (n : Str) : List Str := if h : ∃ c, Cyc nx N n c then h.choose else []
theorem cy_of {nx : Str → Str} {N : List Str} {n : Str} {c : List Str} (h : Cyc nx N n c) : cy nx N n = c := by
  have ex : ∃ c, Cyc nx N n c := ⟨c, h⟩
  unfold cy
  rw [dif_pos ex]
  exact ex.choose_spec.eq h
theorem cy_is {nx : Str → Str} {N : List Str} {n : Str} (p : Pmt nx N) (hn : n ∈ N) : Cyc nx N n (cy nx N n) := by
  obtain ⟨c, h⟩ := cyc_ex p hn
  rw [cy_of h]
  exact h
/-- no name of its cycle is less -/
def isMin (nx : Str → Str) (N : List Str) (n : Str) : Prop := ∀ m ∈ cy nx N n, ¬ m.cps.toList < n.cps.toList
open Classical in
noncomputable def cycs (nx : Str → Str) (N : List Str) (M : List Str) : List (List Str) := (M.filter fun n => decide (isMin nx N n)).map (cy nx N)
/-- how the program finds them: what is left behind some names -/
structure Found (nx : Str → Str) (N left : List Str) (found : List (List Str)) : Prop where
  ex : ∃ pre post, N = pre ++ post ∧ found = cycs nx N pre ∧ (∀ n ∈ pre, ∃ m ∈ pre, isMin nx N m ∧ n ∈ cy nx N m) ∧ (∃ q : Str → Bool, left = post.filter q ∧ ∀ n ∈ post, q n = true ↔ ∀ m ∈ pre, isMin nx N m → n ∉ cy nx N m)
section
variable {nx : Str → Str} {N : List Str}
theorem cycs_app (A B : List Str) : cycs nx N (A ++ B) = cycs nx N A ++ cycs nx N B := by
  unfold cycs
  rw [List.filter_append, List.map_append]
theorem cycs_nil {A : List Str} (h : ∀ n ∈ A, ¬ isMin nx N n) : cycs nx N A = [] := by
  unfold cycs
  rw [List.filter_eq_nil_iff.mpr fun n hn => by simp [h n hn]]
  rfl
theorem Found.start : Found nx N N [] := ⟨[], N, rfl, rfl, (fun n h => by cases h), fun _ => true, (List.filter_eq_self.mpr fun _ _ => rfl).symm, fun n _ => ⟨fun _ m hm => (by cases hm), fun _ => rfl⟩⟩
/-- a name that an earlier least one has in its cycle is not the least of its own -/
theorem not_min (p : Pmt nx N) (so : N.Pairwise fun a b => a.cps.toList < b.cps.toList) {pre post : List Str} (e : N = pre ++ post) {m s : Str} (hm : m ∈ pre) (hs : s ∈ post) (h : s ∈ cy nx N m) : ¬ isMin nx N s := fun im => by
  have mN : m ∈ N := by rw [e]; exact List.mem_append_left _ hm
  have sN : s ∈ N := by rw [e]; exact List.mem_append_right _ hs
  refine im m (((cy_is p mN).same h (cy_is p sN) m).mpr (cy_is p mN).self) ?_
  rw [e, List.pairwise_append] at so
  exact so.2.2 m hm s hs
theorem Found.step (p : Pmt nx N) (so : N.Pairwise fun a b => a.cps.toList < b.cps.toList) {l0 : Str} {rest : List Str} {found : List (List Str)} (h : Found nx N (l0 :: rest) found) :
    l0 ∈ N ∧ Found nx N ((l0 :: rest).filter fun n => decide (n ∉ cy nx N l0)) (found ++ [cy nx N l0]) := by
  obtain ⟨pre, post, e, ef, cov, q, el, hq⟩ := h
  obtain ⟨sk, post', e2, hsk, hl0, er⟩ := List.filter_eq_cons_iff.mp el.symm
  have inP : ∀ {x}, x ∈ sk ∨ x = l0 ∨ x ∈ post' → x ∈ post := fun h => by
    rw [e2]
    rcases h with h | h | h
    · exact List.mem_append_left _ h
    · rw [h]; exact List.mem_append_right _ List.mem_cons_self
    · exact List.mem_append_right _ (List.mem_cons_of_mem _ h)
  have l0N : l0 ∈ N := by rw [e]; exact List.mem_append_right _ (inP (.inr (.inl rfl)))
  have skc : ∀ s ∈ sk, ∃ m ∈ pre, isMin nx N m ∧ s ∈ cy nx N m := fun s hs => by
    have h1 := hsk s hs
    have h2 : ¬ ∀ m ∈ pre, isMin nx N m → s ∉ cy nx N m := fun w => h1 ((hq s (inP (.inl hs))).mpr w)
    obtain ⟨m, h3⟩ := Classical.not_forall.mp h2
    obtain ⟨hm, h4⟩ := Classical.not_imp.mp h3
    obtain ⟨im, h5⟩ := Classical.not_imp.mp h4
    exact ⟨m, hm, im, Classical.not_not.mp h5⟩
  have free := (hq l0 (inP (.inr (.inl rfl)))).mp hl0
  have cN := cy_is p l0N
  have min0 : isMin nx N l0 := fun y hy lt => by
    have yN : y ∈ N := cN.ch.sb y hy
    have ey : N = (pre ++ sk) ++ l0 :: post' := by rw [e, e2, List.append_assoc]
    have yp : y ∈ pre ++ sk := by
      rw [ey] at yN
      rcases List.mem_append.mp yN with z | z
      · exact z
      · rw [ey, List.pairwise_append] at so
        rcases List.mem_cons.mp z with z | z
        · rw [z] at lt
          exact absurd lt (List.lt_irrefl _)
        · exact absurd (List.lt_trans lt ((List.pairwise_cons.mp so.2.1).1 y z)) (List.lt_irrefl _)
    obtain ⟨m, hm, im, hc⟩ : ∃ m ∈ pre, isMin nx N m ∧ y ∈ cy nx N m := by
      rcases List.mem_append.mp yp with z | z
      · exact cov y z
      · exact skc y z
    have mN : m ∈ N := by rw [e]; exact List.mem_append_left _ hm
    have yN : y ∈ N := cN.ch.sb y hy
    have h1 := (cy_is p mN).same hc (cy_is p yN)
    have h2 := cN.same hy (cy_is p yN)
    exact free m hm im ((h1 l0).mp ((h2 l0).mpr cN.self))
  refine ⟨l0N, ⟨pre ++ sk ++ [l0], post', by rw [e, e2]; simp, ?_, fun n hn => ?_, (fun n => q n && decide (n ∉ cy nx N l0)), ?_, fun n hn => ?_⟩⟩
  · rw [cycs_app, cycs_app, ← ef, cycs_nil (A := sk) fun s hs => by
      obtain ⟨m, hm, _, hc⟩ := skc s hs
      exact not_min p so e hm (inP (.inl hs)) hc, List.append_nil]
    congr 1
    unfold cycs
    rw [List.filter_cons_of_pos (by simp [min0])]
    rfl
  · rcases List.mem_append.mp hn with hn | hn
    · obtain ⟨m, hm, im, hc⟩ : ∃ m ∈ pre, isMin nx N m ∧ n ∈ cy nx N m := by
        rcases List.mem_append.mp hn with z | z
        · exact cov n z
        · exact skc n z
      exact ⟨m, List.mem_append_left _ (List.mem_append_left _ hm), im, hc⟩
    · rw [List.mem_singleton.mp hn]
      exact ⟨l0, List.mem_append_right _ (List.mem_singleton.mpr rfl), min0, cN.self⟩
  · rw [List.filter_cons_of_neg (by simp [cN.self]), ← er, List.filter_filter]
    refine List.filter_congr fun x _ => ?_
    rw [Bool.and_comm]
  · rw [Bool.and_eq_true, decide_eq_true_eq, hq n (inP (.inr (.inr hn)))]
    constructor
    · rintro ⟨h1, h2⟩ m hm im
      rcases List.mem_append.mp hm with hm | hm
      · rcases List.mem_append.mp hm with hm | hm
        · exact h1 m hm im
        · obtain ⟨m', hm', _, hc⟩ := skc m hm
          exact absurd im (not_min p so e hm' (inP (.inl hm)) hc)
      · rw [List.mem_singleton.mp hm]
        exact h2
    · intro h1
      exact ⟨fun m hm im => h1 m (List.mem_append_left _ (List.mem_append_left _ hm)) im, h1 l0 (List.mem_append_right _ (List.mem_singleton.mpr rfl)) min0⟩
theorem Found.done (p : Pmt nx N) (so : N.Pairwise fun a b => a.cps.toList < b.cps.toList) {found : List (List Str)} (h : Found nx N [] found) : found = cycs nx N N := by
  obtain ⟨pre, post, e, ef, cov, q, el, hq⟩ := h
  have hn : ∀ n ∈ post, ¬ isMin nx N n := fun n hn => by
    have h1 : ¬ q n = true := List.filter_eq_nil_iff.mp el.symm n hn
    have h2 : ¬ ∀ m ∈ pre, isMin nx N m → n ∉ cy nx N m := fun w => h1 ((hq n hn).mpr w)
    obtain ⟨m, h3⟩ := Classical.not_forall.mp h2
    obtain ⟨hm, h4⟩ := Classical.not_imp.mp h3
    obtain ⟨im, h5⟩ := Classical.not_imp.mp h4
    exact not_min p so e hm hn (Classical.not_not.mp h5)
  rw [ef]
  conv => rhs; arg 3; rw [e]
  rw [cycs_app, cycs_nil hn, List.append_nil]
theorem Found.len {left : List Str} {found : List (List Str)} (h : Found nx N left found) : left.length ≤ N.length ∧ ∀ x ∈ left, x ∈ N := by
  obtain ⟨pre, post, e, ef, cov, q, el, hq⟩ := h
  rw [el]
  constructor
  · refine Nat.le_trans (List.length_filter_le _ _) ?_
    rw [e, List.length_append]
    omega
  · intro x hx
    rw [e]
    exact List.mem_append_right _ (List.mem_filter.mp hx).1
end
end K43
namespace K43
open PySem L2
open PyProof.Rows PySem.Spec
theorem farR_snoc (f : Int) (R : Rws) (n : Str) (b e : Int) : farR f (R ++ [(n, b, e)]) = farR f R ++ [(n, b + f, e + f)] := by
  unfold farR
  rw [List.map_append]
  rfl
theorem farR_good {f t : Int} {R : Rws} (g : Good t R) (h : ∀ x ∈ R, -800000000000 ≤ x.2.1 ∧ x.2.2 ≤ 800000000000) (hf : -1000 ≤ f ∧ f ≤ 1000) : Good t (farR f R) := by
  refine ⟨by rw [farR_names]; exact g.nd, by unfold farR; rw [List.length_map]; exact g.l1, by unfold farR; rw [List.length_map]; exact g.l8, fun x hx => ?_, fun x hx => ?_, fun x hx => ?_, g.t1, g.t2⟩ <;> obtain ⟨y, hy, rfl⟩ := List.mem_map.mp hx
  · exact g.nm y hy
  · have := g.sp y hy
    unfold SpOk at *
    simp only
    omega
  · have := h y hy
    unfold Near
    simp only
    omega
section
variable {P : Program} {w : World} {K : PySem.W.Frag}
                                                      {mg : Str → Option Value} {base : Heap}
def sp_later (K : PySem.W.Frag) (C : Addr) : Sp := fun vs H Q _ => ∃ (p : Addr) (t f : Int) (S : Rws), vs = [.ref p, .int f] ∧ SpAt H C p t S ∧ ∀ q L' H', Same H H' → H q = none → H' q = some (.dK (Kvs L')) → Tups H' L' (farR f S) → Q (.ref q) H'
theorem ok_later (T : T K mg) (U : UX K mg) : FnOk P w K mg base CX0 1 U.ml.f U.ml.d ["self", "ticks"] (sp_later K U.C) := by
  refine U.ml.F.ok sc_Spans_later (fun vs H Q E h => ?_) (fun cdv A outer s H vs Q E hr h => ?_)
  · obtain ⟨p, t, f, S, rfl, _⟩ := h
    rfl
  · obtain ⟨p, t, f, S, rfl, ⟨g, so, dx, rd, nm, lv, cr, L, h1, h2, h3, h4⟩, k⟩ := h
    have hu := hu_of hr
    refine ⟨_, (pss_one (ps_ret (pe_lock (pe_dc (own := [("name", 2), ("begin", 3), ("end", 4)]) (g := gTup K 2 (gCons (gName 2) (gCons (gTup K 2 (gCons (gName 3) (gCons (gName 4) gNil))) gNil))) rfl sc_Spans_later.nd (pi_items (pe_fld (pv 0) rfl)) (blkOk_by (N := ["self", "ticks", "name", "begin", "end"]) (sc := defScope s_Spans_later) (by decide +kernel)) (fun _ _ _ _ _ => (pg_tup rfl (pgs_cons (pg_name (i := 2) sc_Spans_later.nd rfl (Or.inl rfl)) (pgs_cons (pg_tup rfl (pgs_cons (pg_name (i := 3) sc_Spans_later.nd rfl (Or.inl rfl)) (pgs_cons (pg_name (i := 4) sc_Spans_later.nd rfl (Or.inl rfl)) pgs_nil))) pgs_nil)))) (fun _ _ _ _ _ => pts_nil) (fun _ _ _ _ _ => (pv 2)) (fun _ _ _ _ _ => (pe_tup (pa_cons (pe_op op_add (pv 3) (pv 1)) (pa_cons (pe_op op_add (pv 4) (pv 1)) pa_nil)))))))), ?_⟩
    have ndp : rd ≠ p := fun z => by rw [z, h1] at h2; cases h2
    refine ⟨rd, _, h2, True.intro, fun od => ?_⟩
    have lk : (upd H rd (.frz od (.dK (Kvs L)))) rd = some (.frz od (.dK (Kvs L))) := upd_same
    have ktl : KT H (upd H rd (.frz od (.dK (Kvs L)))) := KT.put h2 (fun _ z => by cases z)
    refine ⟨_, rfl, p, U.C, dx, _, .ref rd, rfl, (by rw [upd_ne ndp.symm]; exact h1), U.cl, U.n2, rfl, rd, od, Kvs L, rfl, lk, fun G hG => ?_⟩
    have nG : G ≠ rd := fun z => by rw [z, upd_same] at hG; cases hG
    have hG0 : H G = none := by rw [upd_ne nG] at hG; exact hG
    have g8 := g.l8
    refine dc_it walk_items (fun i H' => Same (upd H rd (.frz od (.dK (Kvs L)))) H' ∧ ∃ M, H' G = some (.dK (Kvs M)) ∧ Tups H' M (farR f (S.take i))) ⟨Same.new hG, [], upd_same, .nil⟩ (fun i H' _ h => h.1 _ _ lk) ?_ ?_
    · rintro i x Ha Hb hi ⟨Sa, M, eG, tm⟩ ⟨TT, x1, y1, rfl, hTT, rfl, ex1, ey1⟩
      have Sn : Same Ha (upd Ha TT (.tup [x1, y1])) := Same.new hTT
      obtain ⟨n, a, b, e, rfl, e2, hab, e4⟩ := tups_at (h3.keep (KT.trans ktl (KT.same (Same.trans Sa Sn)))) i y1 ey1
      obtain rfl : V.str n = x1 := by
        unfold Kvs at ex1
        dsimp only at ex1
        rw [List.getElem?_map, e4] at ex1
        exact Option.some.inj ex1
      have eTT : (upd Ha TT (.tup [V.str n, V.ref a])) TT = some (.tup [V.str n, V.ref a]) := upd_same
      have Sb := Same.trans Sa Sn
      have eGb := Sn _ _ eG
      have tmb := tm.keep (KT.same Sn)
      generalize upd Ha TT (.tup [V.str n, V.ref a]) = Hc at Sb eTT hab eGb tmb ⊢
      refine ⟨TT, _, rfl, SqT.of eTT, rfl, _, _, rfl, _, _, rfl, a, _, rfl, SqT.of hab, rfl, _, _, rfl, _, _, rfl, rfl, rfl, ?_⟩
      refine ⟨rfl, ?_⟩
      unfold tYes
      dsimp only
      rw [if_pos rfl]
      refine ⟨_, rfl, _, rfl, _, rfl, _, _, rfl, rfl, _, rfl, _, rfl, _, _, rfl, rfl, by show 2 ≤ sizeLine; decide, fun q hq => ?_⟩
      have iS : i < S.length := (List.getElem?_eq_some_iff.mp e2).1
      have A1 := Same.new (o := .tup [V.int (b + f), .int (e + f)]) hq
      have eq1 : (upd Hc q (.tup [V.int (b + f), .int (e + f)])) q = some (.tup [V.int (b + f), .int (e + f)]) := upd_same
      have eGd := A1 _ _ eGb
      have tmd := tmb.keep (KT.same A1)
      have Sd := Same.trans Sb A1
      generalize upd Hc q (.tup [V.int (b + f), .int (e + f)]) = Hd at A1 eq1 eGd tmd Sd ⊢
      have hn : n ∉ M.map (·.1) := by
        rw [tmd.names, farR_names]
        intro hm
        have nd := g.nd
        rw [← List.take_append_drop i S, List.map_append] at nd
        have hd2 : n ∈ (S.drop i).map (·.1) := List.mem_map.mpr ⟨(n, b, e), by rw [List.mem_iff_getElem?]; exact ⟨0, by rw [List.getElem?_drop]; exact e2⟩, rfl⟩
        exact (List.nodup_append.mp nd).2.2 n hm n hd2 rfl
      have lM : M.length ≤ 8 := by
        rw [tmd.len]
        unfold farR
        rw [List.length_map, List.length_take]
        omega
      refine ⟨Kvs M, Sum.inr n, rfl, eGd, by rw [kvs_len, sizeLine_eq]; omega, Same.at hG Sd, M ++ [(n, q)], by rw [upd_same, putK_kvs hn], ?_⟩
      have kt : KT Hd (upd Hd G (.dK (putK (Kvs M) (.inr n) (.ref q)))) := KT.put eGd (fun _ z => by cases z)
      rw [List.take_add_one, e2]
      show Tups _ _ (farR f (S.take i ++ [(n, b, e)]))
      rw [farR_snoc]
      exact (tmd.keep kt).snoc (kt _ _ eq1)
    · rintro Ha ⟨Sa, M, eG, tm⟩
      refine ⟨Sa _ _ lk, ?_⟩
      rw [kvs_len, h3.len, List.take_length] at tm
      refine k G M _ (same_lock h2 Sa) hG0 ((upd_ne nG).trans eG) (tm.keep fun a xs e => ?_)
      rw [upd_ne (fun z => by rw [z, Sa _ _ lk] at e; cases e)]
      exact e
def sp_add (K : PySem.W.Frag) (C : Addr) : Sp := fun vs H Q _ => ∃ (p : Addr) (t f : Int) (S : Rws), vs = [.ref p, .int f] ∧ SpAt H C p t S ∧ (∀ x ∈ S, -800000000000 ≤ x.2.1 ∧ x.2.2 ≤ 800000000000) ∧ (-1000 ≤ f ∧ f ≤ 1000) ∧ ∀ q H', Same H H' → SpAt H' C q t (farR f S) → Q (.ref q) H'
theorem ok_add (T : T K mg) (U : UX K mg) : FnOk P w K mg base CX0 8 U.ma.f U.ma.d ["self", "other"] (sp_add K U.C) := by
  have G_are_rows : FnOk P w K mg base CX0 3 T.f_are_rows T.d_are_rows ["interval", "value"] (sp_are_rows K) := ok_are_rows T
  have G_is_integer : FnOk P w K mg base CX0 1 T.f_is_integer T.d_is_integer ["value"] (sp_is_integer K) := ok_is_integer T
  have G_later : FnOk P w K mg base CX0 1 U.ml.f U.ml.d ["self", "ticks"] (sp_later K U.C) := ok_later T U
  have G_init : FnOk P w K mg base CX0 6 U.fI U.dI ["self", "interval", "rows"] (sp_init K U.C) := ok_init T U
  refine U.ma.F.ok sc_Spans_add (fun vs H Q E h => ?_) (fun cdv A outer s H vs Q E hr h => ?_)
  · obtain ⟨p, t, f, S, rfl, _⟩ := h
    rfl
  · obtain ⟨p, t, f, S, rfl, sp, hS, hf, k⟩ := h
    obtain ⟨g, so, dx, rd, nm, lv, cr, L, h1, h2, h3, h4⟩ := id sp
    have hu := hu_of hr
    have hr_are_rows : Room 3 _ := hr.mono (by decide)
    have hr_is_integer : Room 1 _ := hr.mono (by decide)
    have gf := farR_good g hS hf
    refine ⟨_, (pss_cons (ps_if (PW.pt (pw_or (pt_not (pt_val (pe_call G_is_integer hr_is_integer rfl T.m_is_integer T.F_is_integer.kp T.b_is_integer .nil pass0 (pa_cons (pv 1) pa_nil)))) (pw_or1 (pt_not (pt_val (pe_call G_are_rows hr_are_rows rfl T.m_are_rows T.F_are_rows.kp T.b_are_rows .nil pass0 (pa_cons (pe_fld (pv 0) rfl) (pa_cons (pe_meth (pv 0) U.cl U.ml.m G_later (hr.mono (by decide)) U.ml.b .nil pass0 (pa_cons (pv 1) pa_nil)) pa_nil))))))))
      (pss_one ps_never)
      pss_nil)
      (pss_one (ps_ret (pe_make U.mkI G_init (hr.mono (by decide)) rfl U.mC U.bI .nil pass0 (pa_cons (pe_fld (pv 0) rfl) (pa_cons (pe_meth (pv 0) U.cl U.ml.m G_later (hr.mono (by decide)) U.ml.b .nil pass0 (pa_cons (pv 1) pa_nil)) pa_nil)))))), ?_⟩
    refine ⟨_, rfl, .int f, .int f, rfl, .inl (.int _), _, rfl, ?_⟩
    rw [isInD_int (by omega)]
    refine iteF ?_
    refine ⟨_, rfl, p, U.C, dx, _, .int t, rfl, h1, U.cl, U.n1, rfl, _, rfl, p, dx, _, rfl, h1, rfl, _, rfl, p, t, f, S, rfl, sp, fun q L1 H1 S1 _ e1 t1 => ?_⟩
    refine ⟨t, q, L1, farR f S, rfl, e1, t1, gf, fun H2 S2 => ⟨_, rfl, iteF ?_⟩⟩
    have S12 := Same.trans S1 S2
    have sp2 := sp.same S12
    have h12 := S12 _ _ h1
    refine ⟨_, rfl, p, U.C, dx, _, .int t, rfl, h12, U.cl, U.n1, rfl, _, rfl, p, dx, _, rfl, h12, rfl, _, rfl, p, t, f, S, rfl, sp2, fun q3 L3 H3 S3 _ e3 t3 x xd hx hxd nxd => ?_⟩
    have S4 : Same H3 (upd (upd H3 xd (.own x)) x (.ins U.C xd [])) := Same.trans (Same.new hxd) (Same.new (by rw [upd_ne nxd.symm]; exact hx))
    refine ⟨x, q3, xd, t, L3, farR f S, rfl, upd_same, S4 _ _ e3, t3.keep (KT.same S4), gf, fun S' H' B sp' srd _ => ⟨rfl, ?_⟩⟩
    have nd' : ((farR f S).map (·.1)).Nodup := gf.nd
    have e' : S' = farR f S := Srd.eq nd' srd ⟨List.Perm.refl _, by rw [farR_names]; exact so⟩
    rw [e'] at sp'
    refine k x H' (fun b o hb => ?_) sp'
    have hb3 := S3 _ _ (S12 _ _ hb)
    exact B b o (fun z => by rw [z, hx] at hb3; cases hb3) (S4 _ _ hb3)
end
end K43
namespace K43
open PySem L2
open PyProof.Rows PySem.Spec
theorem dp_allS {K : PySem.W.Frag} {H : Hp} : ∀ ns : List Str, DpAll K H (ns.map V.str) (ns.map PyData.str)
  | [] => .nil
  | n :: r => .cons (.str n) (dp_allS r)
theorem dp_names {K : PySem.W.Frag} {H : Hp} {a : Addr} {ns : List Str} (h : SqL K H a (ns.map V.str)) : Dp K H (.ref a) (.list (ns.map PyData.str)) := .lst h (dp_allS ns)
/-- a comprehension that makes one value of each item and keeps all -/
theorem lc_map {J : It} {G : Hp → Prop} {xs : List V} (w : Walk J xs.length G (YAt xs)) {g : TG} {tt : TT} {te : TE} {vs : List Nat} {σ : L2.St} {H1 : Hp} {D : Addr} {Qd : Hp → Prop} (f : V → V) (hG : ∀ H', Same H1 H' → G H') (h63 : xs.length ≤ 63) (hD : H1 D = none)
    (hs : ∀ x H', x ∈ xs → Same H1 H' → ∀ (C : VK) (N : Hp → Prop), (∀ H'', Same H' H'' → C (f x) H'') → g x (wipe σ vs) H' fun σ2 H2 => wipe σ2 vs = wipe σ vs ∧ tt σ2 H2 fun b H3 => if b = true then te σ2 H3 C else N H3)
    (hd : ∀ H', Same H1 H' → H' D = some (.lst (xs.map f)) → Qd H') :
    ∃ W : Nat → Nat → Hp → Prop, (∃ m, W 0 m
                                             (upd H1 D (.lst []))) ∧ ∀ i m H, W i m H →
      (J.stop i H ∧ Qd H) ∨ (J.go i H ∧ ∃ Nx : Hp → Prop, (∀ H', Nx H' → ∃ m', m' < m ∧ W
                                                                                          (i + 1) m' H') ∧ ∀ x H', J.yld i H x H' → g x (wipe σ vs) H' fun σ2 H2 => wipe σ2 vs = wipe σ vs ∧ tt σ2 H2 fun b H3 =>
        if b = true then te σ2 H3 fun y H4 => ∃ acc, H4 D = some
                                                                 (.lst acc) ∧ acc.length < sizeLine ∧ Nx (upd H4 D (.lst (acc ++ [y]))) else Nx H3) := by
  refine lc_it w (fun i H' => Same H1 H' ∧ H' D = some (.lst ((xs.take i).map f))) ⟨Same.new hD, upd_same⟩ (fun i H' _ h => hG H' h.1) ?_ (fun H' h => hd H' h.1 (by rw [h.2, List.take_length]))
  rintro i x Ha Hb hi ⟨Sa, eD⟩ ⟨rfl, hx⟩
  refine hs x _ (List.mem_of_getElem? hx) Sa _ _ fun Hc Sc => ?_
  refine ⟨_, Sc _ _ eD, by rw [List.length_map, List.length_take, sizeLine_eq]; omega, Same.at hD (Same.trans Sa Sc), ?_⟩
  rw [upd_same, List.take_add_one, hx]
  simp
section
variable {P : Program} {w : World} {K : PySem.W.Frag}
                                                      {mg : Str → Option Value} {base : Heap}
def sp_check_spans (K : PySem.W.Frag) (C : Addr) : Sp := fun vs H Q _ => ∃ (p : Addr) (t : Int) (S : Rws), vs = [.ref p] ∧ SpAt H C p t S ∧ Q .non H
theorem ok_check_spans (T : T K mg) (U : UX K mg) : FnOk P w K mg base CX0 1 T.f_check_spans T.d_check_spans ["value"] (sp_check_spans K U.C) := by
  refine T.F_check_spans.ok sc_check_spans (fun vs H Q E h => ?_) (fun cdv A outer s H vs Q E hr h => ?_)
  · obtain ⟨p, t, S, rfl, _⟩ := h
    rfl
  · obtain ⟨p, t, S, rfl, sp, k⟩ := h
    have hu := hu_of hr
    obtain ⟨dx, fs, h1⟩ := sp.ins
    refine ⟨_, (pss_one (ps_if (pt_not (pt_val (pe_callB call_isi (by rfl) T.z_isinstance (by decide +kernel) (pa_cons (pv 0) (pa_cons (pe_glob (v := V.ref U.C) rfl U.mC rfl) pa_nil)))))
      (pss_one ps_never)
      pss_nil)), ?_⟩
    refine ⟨_, rfl, _, _, _, _, true, rfl, .own _, .base (.ins h1 U.cl U.ca U.cg U.ct U.mo), by unfold PySem.W.kitOne; rw [if_pos (beq_self_eq_true _)], ?_⟩
    refine ⟨_, rfl, ?_⟩
    exact iteF k
theorem spn_bd {t : Int} {S : Rws} (g : Good t S) {n : Str} (hn : n ∈ S.map (·.1)) : (n, (spn S n).1, (spn S n).2) ∈ S := spn_in g.nd hn
def sp_is_follow (K : PySem.W.Frag) (C : Addr) : Sp := fun vs H Q _ => ∃ (p a : Addr) (t : Int) (S : Rws) (n m : Str) (w : Int), vs = [.ref p, .str n, .ref a] ∧ SpAt H C p t S ∧ n ∈ S.map (·.1) ∧ FAt H a m w ∧ m ∈ S.map (·.1) ∧ 0 ≤ w ∧ w ≤ 1000 ∧ ((spn S n).2 + w - (spn S m).1) % t = 0 ∧ Q (.bl true) H
theorem ok_is_follow (T : T K mg) (U : UX K mg) : FnOk P w K mg base CX0 3 T.f_is_follow T.d_is_follow ["spans", "name", "value"] (sp_is_follow K U.C) := by
  have G_is_integer : FnOk P w K mg base CX0 1 T.f_is_integer T.d_is_integer ["value"] (sp_is_integer K) := ok_is_integer T
  have Gi : FnOk P w K mg base CX0 1 U.pi.g U.pi.d ["self"] (getSp U.C "_interval") := ok_get U.cl U.pi sc_Spans_interval U.n1 ⟨_, _, _, rfl⟩
  have Gn : FnOk P w K mg base CX0 1 U.pn.g U.pn.d ["self"] (getSp U.C "_names") := ok_get U.cl U.pn sc_Spans_names U.n3 ⟨_, _, _, rfl⟩
  have Gg : FnOk P w K mg base CX0 1 U.mi.f U.mi.d ["self", "name"] (sp_item K U.C) := ok_item T U
  refine T.F_is_follow.ok sc_is_follow (fun vs H Q E h => ?_) (fun cdv A outer s H vs Q E hr h => ?_)
  · obtain ⟨p, a, t, S, n, m, w, rfl, _⟩ := h
    rfl
  · obtain ⟨p, a, t, S, n, m, w, rfl, sp, hn, ha, hm, w0, w1, hd, k⟩ := h
    have hu := hu_of hr
    have hr_is_integer : Room 1 _ := hr.mono (by decide)
    obtain ⟨g, so, dx, rd, nm, lv, cr, L, h1, h2, h3, h4⟩ := id sp
    refine ⟨_, (pss_cons (ps_if (PW.pt (pw_or (pt_not (pt_val (pe_callB call_isi (by rfl) T.z_isinstance (by decide +kernel) (pa_cons (pv 2) (pa_cons (pe_bltn (v := V.ty "tuple") (u := Value.type "tuple") (by rfl) T.z_tuple (by decide +kernel) rfl) pa_nil))))) (pw_or1 (pt_cmpR op_ne (pe_callB call_len (by rfl) T.z_len (by decide +kernel) (pa_cons (pv 2) pa_nil)) pe_int (nomark _)))))
      (pss_one (ps_ret pe_bl))
      pss_nil)
      (pss_cons (ps_if (PW.pt (pw_or (pt_cmpR op_notIn_seq (pe_ix ix_seq (pv 2) pe_int (fun _ _ => rfl)) (pe_prop (pv 0) U.cl U.pn.pr Gn (hr.mono (by decide)) U.pn.b .nil pass0 rfl) (by with_unfolding_all rfl)) (pw_or (pt_not (pt_val (pe_call G_is_integer hr_is_integer rfl T.m_is_integer T.F_is_integer.kp T.b_is_integer .nil pass0 (pa_cons (pe_ix ix_seq (pv 2) pe_int (fun _ _ => rfl)) pa_nil)))) (pw_or1 (pt_cmpR op_lt (pe_ix ix_seq (pv 2) pe_int (fun _ _ => rfl)) pe_int (nomark _))))))
      (pss_one (ps_ret pe_bl))
      pss_nil)
      (pss_one (ps_ret (pe_cmpR op_eq (pe_op op_mod (pe_op op_sub (pe_op op_add (pe_ix ix_seq (OW.pe_ownItem (pv 0) (pv 1) Gg ⟨U.mi.m.at_, U.mi.m.fn⟩ U.fn (hr.mono (by decide)) U.mi.b pass0 (fun _ _ => rfl)) pe_int (fun _ _ => rfl)) (pe_ix ix_seq (pv 2) pe_int (fun _ _ => rfl))) (pe_ix ix_seq (OW.pe_ownItem (pv 0) (pe_ix ix_seq (pv 2) pe_int (fun _ _ => rfl)) Gg ⟨U.mi.m.at_, U.mi.m.fn⟩ U.fn (hr.mono (by decide)) U.mi.b pass0 (fun _ _ => rfl)) pe_int (fun _ _ => rfl))) (pe_prop (pv 0) U.cl U.pi.pr Gi (hr.mono (by decide)) U.pi.b .nil pass0 rfl)) pe_int (nomark _)))))), ?_⟩
    have sq : SqT K H a [V.str m, V.int w] := SqT.of ha
    refine ⟨_, rfl, _, _, _, _, true, rfl, .ty _, .base (.tup ha), kit_ty (by decide +kernel), _, rfl, iteF ?_⟩
    refine ⟨_, rfl, _, _, rfl, .inr ⟨_, sq, rfl⟩, rfl, _, rfl, ?_⟩
    rw [show (!decide (V.int ((([V.str m, V.int w] : List V).length : Nat) : Int) = V.int 2)) = false from rfl]
    refine iteF ?_
    have sqn : SqT K H nm ((S.map (·.1)).map V.str) := SqT.of h4
    refine ⟨_, rfl, .inr (.inl ⟨_, _, _, _, rfl, rfl, sq, rfl, ?_⟩)⟩
    refine ⟨_, rfl, p, dx, _, rfl, h1, p, dx, _, .ref nm, rfl, h1, rfl, nm, _, rfl, .inr sqn, rfl, flat_strs _, _, rfl, ?_⟩
    rw [inV_strs, decide_eq_true hm]
    refine iteF ?_
    refine ⟨_, rfl, .inr (.inl ⟨_, _, _, _, rfl, rfl, sq, rfl, ?_⟩)⟩
    refine ⟨_, .int w, rfl, .inl (.int _), _, rfl, ?_⟩
    rw [isInD_int (by omega)]
    refine iteF ?_
    refine ⟨_, rfl, .inr (.inl ⟨_, _, _, _, rfl, rfl, sq, rfl, ?_⟩)⟩
    refine ⟨_, _, rfl, rfl, _, rfl, ?_⟩
    rw [decide_eq_false (by omega : ¬ w < 0)]
    refine iteF ?_
    refine ⟨_, rfl, _, rfl, p, dx, _, rfl, h1, p, t, S, n, _, _, rfl, sp, spn_in g.nd hn, fun a1 e1 => ?_⟩
    refine .inr (.inl ⟨_, _, _, _, rfl, rfl, SqT.of e1, rfl, ?_⟩)
    refine ⟨_, rfl, .inr (.inl ⟨_, _, _, _, rfl, rfl, sq, rfl, ?_⟩)⟩
    refine ⟨_, _, rfl, rfl, ?_⟩
    refine ⟨_, rfl, _, rfl, .inr (.inl ⟨_, _, _, _, rfl, rfl, sq, rfl, ?_⟩)⟩
    refine ⟨p, dx, _, rfl, h1, p, t, S, m, _, _, rfl, sp, spn_in g.nd hm, fun a2 e2 => ?_⟩
    refine .inr (.inl ⟨_, _, _, _, rfl, rfl, SqT.of e2, rfl, ?_⟩)
    refine ⟨_, _, rfl, rfl, ?_⟩
    refine ⟨_, rfl, p, dx, _, rfl, h1, p, dx, _, .int t, rfl, h1, rfl, _, _, rfl, rfl, by have := g.t1; omega, ?_⟩
    refine ⟨rfl, ?_⟩
    exact bl_to (decide_eq_true (congrArg V.int hd)) k
theorem FOk.tgs {t : Int} {S : Rws} {F : Flw} (g : Good t S) (h : FOk t S F) : ((S.map (·.1)).map fun n => (fol F n).1).Perm (S.map (·.1)) := by
  have nd := h.nd g
  refine ((h.nm.symm.map fun n => (fol F n).1).trans ?_).trans h.tg
  rw [List.map_map]
  refine List.Perm.of_eq (List.map_congr_left fun x hx => ?_)
  show (fol F x.1).1 = x.2.1
  rw [fol_at nd (q := x.2) hx]
def sp_are_follows (K : PySem.W.Frag) (C : Addr) : Sp := fun vs H Q _ => ∃ (p d : Addr) (t : Int) (S : Rws) (L : List (Str × Addr)) (F : Flw), vs = [.ref p, .ref d] ∧ SpAt H C p t S ∧ H d = some (.dK (Kvs L)) ∧ FTs H L F ∧ FOk t S F ∧ ∀ H', Same H H' → Q (.bl true) H'
theorem FOk.len {t : Int} {S : Rws} {F : Flw} (h : FOk t S F) : S.length ≤ 6 ∧ F.length = S.length := by
  have := h.nm.length_eq
  rw [List.length_map, List.length_map] at this
  have := h.l6
  omega
theorem sort_to {xs ys zs : List Str} (p : ys.Perm xs) (s : sortedS ys = true) (q : xs.Perm zs) (t : sortedS zs = true) : ys = zs := sorted_eq p q.symm s t
theorem ok_are_follows (T : T K mg) (U : UX K mg) : FnOk P w K mg base CX0 4 T.f_are_follows T.d_are_follows ["spans", "value"] (sp_are_follows K U.C) := by
  have G_is_follow : FnOk P w K mg base CX0 3 T.f_is_follow T.d_is_follow ["spans", "name", "value"] (sp_is_follow K U.C) := ok_is_follow T U
  have Gn : FnOk P w K mg base CX0 1 U.pn.g U.pn.d ["self"] (getSp U.C "_names") := ok_get U.cl U.pn sc_Spans_names U.n3 ⟨_, _, _, rfl⟩
  refine T.F_are_follows.ok sc_are_follows (fun vs H Q E h => ?_) (fun cdv A outer s H vs Q E hr h => ?_)
  · obtain ⟨p, d, t, S, L, F, rfl, _⟩ := h
    rfl
  · obtain ⟨p, d, t, S, L, F, rfl, sp, hd, fts, fok, k⟩ := h
    have hu := hu_of hr
    have hr_is_follow : Room 3 _ := hr.mono (by decide)
    obtain ⟨g, so, dx, rd, nm, lv, cr, L0, h1, h2, h3, h4⟩ := id sp
    refine ⟨_, (pss_cons (ps_if (PW.pt (pw_or (pt_not (pt_val (pe_callB call_isi (by rfl) T.z_isinstance (by decide +kernel) (pa_cons (pv 1) (pa_cons (pe_bltn (v := V.ty "dict") (u := Value.type "dict") (by rfl) T.z_dict (by decide +kernel) rfl) pa_nil))))) (pw_or1 (pt_cmpR op_ne (pe_callB call_lenD (by rfl) T.z_len (by decide +kernel) (pa_cons (pv 1) pa_nil)) (pe_callB call_len (by rfl) T.z_len (by decide +kernel) (pa_cons (pe_prop (pv 0) U.cl U.pn.pr Gn (hr.mono (by decide)) U.pn.b .nil pass0 rfl) pa_nil)) (nomark _)))))
      (pss_one (ps_ret pe_bl))
      pss_nil)
      (pss_cons (ps_if (pt_not (pt_val (pe_callB (cr_all rfl) (by rfl) T.z_all (by decide +kernel) (pa_cons (pe_lc (own := [("name", 2)]) (g := gName 2) rfl sc_are_follows.nd (pi_tup (pe_prop (pv 0) U.cl U.pn.pr Gn (hr.mono (by decide)) U.pn.b .nil pass0 rfl)) (blkOk_by (N := ["spans", "value", "name"]) (sc := defScope s_are_follows) (by decide +kernel)) (fun _ _ _ _ _ => (pg_name (i := 2) sc_are_follows.nd rfl (Or.inl rfl))) (fun _ _ _ _ _ => pts_nil) (fun _ _ _ _ _ => (pe_and (pe_cmp (pc_din (by exact hu) (pv 2) (pv 1)) (by rfl)) (pe_one (pe_call G_is_follow hr_is_follow rfl T.m_is_follow T.F_is_follow.kp T.b_is_follow .nil pass0 (pa_cons (pv 0) (pa_cons (pv 2) (pa_cons (pe_dget (by exact hu) (pv 1) (pv 2) (fun _ _ => rfl)) pa_nil)))))))) pa_nil))))
      (pss_one (ps_ret pe_bl))
      pss_nil)
      (pss_one (ps_ret (pe_cmpR (op_eqD (un64 hr)) (pe_callB cr_sortedS (by rfl) T.z_sorted (by decide +kernel) (pa_cons (pe_lc (own := [("name", 2)]) (g := gName 2) rfl sc_are_follows.nd (pi_tup (pe_prop (pv 0) U.cl U.pn.pr Gn (hr.mono (by decide)) U.pn.b .nil pass0 rfl)) (blkOk_by (N := ["spans", "value", "name"]) (sc := defScope s_are_follows) (by decide +kernel)) (fun _ _ _ _ _ => (pg_name (i := 2) sc_are_follows.nd rfl (Or.inl rfl))) (fun _ _ _ _ _ => pts_nil) (fun _ _ _ _ _ => (pe_ix (r := rIx K) ix_seq (pe_dget (by exact hu) (pv 1) (pv 2) (fun _ _ => rfl)) pe_int (fun _ _ => rfl)))) pa_nil)) (pe_callTy call_list_of (by rfl) T.z_list (by decide +kernel) (pa_cons (pe_prop (pv 0) U.cl U.pn.pr Gn (hr.mono (by decide)) U.pn.b .nil pass0 rfl) pa_nil)) (nomark _)))))), ?_⟩
    have sqn : SqT K H nm ((S.map (·.1)).map V.str) := SqT.of h4
    have l6 := fok.len
    have ll : L.length = S.length := by rw [fts.len, l6.2]
    refine ⟨_, rfl, _, _, _, _, true, rfl, .ty _, .base (.dK hd), kit_ty (by decide +kernel), _, rfl, iteF ?_⟩
    refine ⟨_, rfl, d, Kvs L, rfl, hd, _, rfl, p, dx, _, rfl, h1, p, dx, _, .ref nm, rfl, h1, rfl, _, _, rfl, .inr ⟨_, sqn, rfl⟩, rfl, _, rfl, ?_⟩
    rw [decide_eq_true (show V.int (((Kvs L).length : Nat) : Int) = V.int ((((S.map (·.1)).map V.str).length : Nat) : Int) by rw [kvs_len, ll, List.length_map, List.length_map])]
    refine iteF ?_
    refine ⟨_, rfl, p, dx, _, rfl, h1, p, dx, _, .ref nm, rfl, h1, rfl, nm, rfl, ⟨_, sqn⟩, fun D hD => ?_⟩
    refine lc_map (walk_tup (K := K) (a := nm) (xs := (S.map (·.1)).map V.str)) (fun _ => .bl true) (fun H' s => Same.seqT s sqn) (by rw [List.length_map, List.length_map]; omega) hD ?_ ?_
    · intro x Ha hx Sa C N kC
      obtain ⟨n, hn, rfl⟩ := List.mem_map.mp hx
      refine ⟨rfl, ?_⟩
      unfold tYes
      dsimp only
      rw [if_pos rfl]
      obtain ⟨a, va, ha, hm⟩ := (fts.keep (KT.same Sa)).get (fok.at hn)
      have dg : DGet Ha d (.str n) (some (.ref a)) := by
        have := DGet.k (k := Sum.inr n) (Sa _ _ hd)
        rw [va] at this
        exact this
      refine ⟨_, rfl, _, rfl, d, _, rfl, dg, true, rfl, iteT ?_⟩
      have hw : 0 ≤ (fol F n).2 ∧ (fol F n).2 ≤ 4 * t := fok.wt _ hm
      have := g.t2
      exact ⟨_, rfl, _, rfl, _, rfl, _, rfl, d, _, rfl, dg, p, a, t, S, n, _, _, rfl, sp.same Sa, hn, ha, fok.to hm, hw.1, by omega, fok.dv _ hm, kC _ fun _ _ e => e⟩
    · intro H1 S1 e1
      refine ⟨D, (S.map (·.1)).map fun _ => true, rfl, SqL.of (by rw [e1]; simp [List.map_map, Function.comp_def]), ?_⟩
      rw [show ((S.map (·.1)).map fun _ => true).all id = true by rw [List.all_map]; simp]
      refine ⟨_, rfl, iteF ?_⟩
      have h1' := S1 _ _ h1
      have sqn' := Same.seqT S1 sqn
      refine ⟨_, rfl, p, dx, _, rfl, h1', p, dx, _, .ref nm, rfl, h1', rfl, nm, rfl, ⟨_, sqn'⟩, fun D2 hD2 => ?_⟩
      refine lc_map (walk_tup (K := K) (a := nm) (xs := (S.map (·.1)).map V.str)) (fun v => match v with | .str n => .str (fol F n).1 | _ => .non) (fun H' s => Same.seqT s sqn') (by rw [List.length_map, List.length_map]; omega) hD2 ?_ ?_
      · intro x Ha hx Sa C N kC
        obtain ⟨n, hn, rfl⟩ := List.mem_map.mp hx
        refine ⟨rfl, ?_⟩
        unfold tYes
        dsimp only
        rw [if_pos rfl]
        have Sb := Same.trans S1 Sa
        obtain ⟨a, va, ha, hm⟩ := (fts.keep (KT.same Sb)).get (fok.at hn)
        have dg : DGet Ha d (.str n) (some (.ref a)) := by
          have := DGet.k (k := Sum.inr n) (Sb _ _ hd)
          rw [va] at this
          exact this
        exact ⟨_, rfl, _, rfl, d, _, rfl, dg, .inr (.inl ⟨_, _, _, _, rfl, rfl, SqT.of ha, rfl, kC _ fun _ _ e => e⟩)⟩
      · intro H2 S2 e2
        have S12 := Same.trans S1 S2
        have h1'' := S12 _ _ h1
        have tg : ((S.map (·.1)).map fun n => (fol F n).1).Perm (S.map (·.1)) := fok.tgs g
        refine ⟨D2, (S.map (·.1)).map fun n => (fol F n).1, rfl, SqL.of (by rw [e2]; simp [List.map_map, Function.comp_def]), by rw [List.length_map, List.length_map]; omega, fun ys q pm so2 hq => ?_⟩
        have S3 := Same.new (o := .lst (ys.map V.str)) hq
        have eq3 : (upd H2 q (.lst (ys.map V.str))) q = some (.lst (ys.map V.str)) := upd_same
        generalize upd H2 q (.lst (ys.map V.str)) = H3 at S3 eq3 ⊢
        obtain rfl : ys = S.map (·.1) := sort_to pm so2 tg so
        have S13 := Same.trans S12 S3
        have h13 := S13 _ _ h1
        refine ⟨_, rfl, p, dx, _, rfl, h13, p, dx, _, .ref nm, rfl, h13, rfl, nm, _, rfl, .inr (Same.seqT S13 sqn), fun l hl => ?_⟩
        have S4 := Same.new (o := .lst ((S.map (·.1)).map V.str)) hl
        have gnm : ∀ n ∈ S.map (·.1), nmC n = true := fun n hn => by obtain ⟨y, hy, rfl⟩ := List.mem_map.mp hn; exact g.nm y hy
        refine ⟨_, _, dp_names (SqL.of (S4 _ _ eq3)), dp_names (SqL.of upd_same), shaped_names gnm, shaped_names gnm, ?_⟩
        rw [PySem.SeqAt.eqv_refl _ (by have := shaped_names gnm; unfold SeqAt.shaped at this; exact (Bool.and_eq_true_iff.mp this).1)]
        exact k _ (Same.trans S13 S4)
def sp_size_of (K : PySem.W.Frag) (C : Addr) : Sp := fun vs H Q _ => ∃ (p d a : Addr) (t : Int) (S : Rws) (L : List (Str × Addr)) (F : Flw) (ns : List Str), vs = [.ref p, .ref d, .ref a] ∧ SpAt H C p t S ∧ H d = some (.dK (Kvs L)) ∧ FTs H L F ∧ FOk t S F ∧ SqT K H a (ns.map V.str) ∧ ns.length ≤ 6 ∧ (∀ n ∈ ns, n ∈ S.map (·.1)) ∧ ∀ H', Same H H' → Q (.int (sizeV S t F ns)) H'
theorem ok_size_of (T : T K mg) (U : UX K mg) : FnOk P w K mg base CX0 3 T.f_size_of T.d_size_of ["spans", "follows", "names"] (sp_size_of K U.C) := by
  have Gi : FnOk P w K mg base CX0 1 U.pi.g U.pi.d ["self"] (getSp U.C "_interval") := ok_get U.cl U.pi sc_Spans_interval U.n1 ⟨_, _, _, rfl⟩
  have Gg : FnOk P w K mg base CX0 1 U.mi.f U.mi.d ["self", "name"] (sp_item K U.C) := ok_item T U
  refine T.F_size_of.ok sc_size_of (fun vs H Q E h => ?_) (fun cdv A outer s H vs Q E hr h => ?_)
  · obtain ⟨p, d, a, t, S, L, F, ns, rfl, _⟩ := h
    rfl
  · obtain ⟨p, d, a, t, S, L, F, ns, rfl, sp, hd, fts, fok, hs, l6, hn, k⟩ := h
    have hu := hu_of hr
    obtain ⟨g, so, dx, rd, nm, lv, cr, L0, h1, h2, h3, h4⟩ := id sp
    refine ⟨_, (pss_one (ps_ret (pe_op op_fdivW (pe_callB (cr_sum rfl) (by rfl) T.z_sum (by decide +kernel) (pa_cons (pe_lc (own := [("name", 3)]) (g := gName 3) rfl sc_size_of.nd (pi_tup (pv 2)) (blkOk_by (N := ["spans", "follows", "names", "name"]) (sc := defScope s_size_of) (by decide +kernel)) (fun _ _ _ _ _ => (pg_name (i := 3) sc_size_of.nd rfl (Or.inl rfl))) (fun _ _ _ _ _ => pts_nil) (fun _ _ _ _ _ => (pe_op op_add (pe_op op_sub (pe_ix (r := rIx K) ix_seq (OW.pe_ownItem (pv 0) (pv 3) Gg ⟨U.mi.m.at_, U.mi.m.fn⟩ U.fn (hr.mono (by decide)) U.mi.b pass0 (fun _ _ => rfl)) pe_int (fun _ _ => rfl)) (pe_ix (r := rIx K) ix_seq (OW.pe_ownItem (pv 0) (pv 3) Gg ⟨U.mi.m.at_, U.mi.m.fn⟩ U.fn (hr.mono (by decide)) U.mi.b pass0 (fun _ _ => rfl)) pe_int (fun _ _ => rfl))) (pe_ix (r := rIx K) ix_seq (pe_dget (by exact hu) (pv 1) (pv 3) (fun _ _ => rfl)) pe_int (fun _ _ => rfl))))) pa_nil)) (pe_prop (pv 0) U.cl U.pi.pr Gi (hr.mono (by decide)) U.pi.b .nil pass0 rfl)))), ?_⟩
    refine ⟨_, rfl, a, rfl, ⟨_, hs⟩, fun D hD => ?_⟩
    refine lc_map (walk_tup (K := K) (a := a) (xs := ns.map V.str)) (fun v => match v with | .str n => .int (lw S F n) | _ => .non) (fun H' s => Same.seqT s hs) (by rw [List.length_map]; omega) hD ?_ ?_
    · intro x Ha hx Sa C N kC
      obtain ⟨n, hn2, rfl⟩ := List.mem_map.mp hx
      have hnS := hn n hn2
      refine ⟨rfl, ?_⟩
      unfold tYes
      dsimp only
      rw [if_pos rfl]
      obtain ⟨a, va, ha, hm⟩ := (fts.keep (KT.same Sa)).get (fok.at hnS)
      have dg : DGet Ha d (.str n) (some (.ref a)) := by
        have := DGet.k (k := Sum.inr n) (Sa _ _ hd)
        rw [va] at this
        exact this
      have h1a := Sa _ _ h1
      have spa := sp.same Sa
      refine ⟨_, rfl, _, rfl, p, dx, _, rfl, h1a, p, t, S, n, _, _, rfl, spa, spn_in g.nd hnS, fun a1 e1 => ?_⟩
      refine .inr (.inl ⟨_, _, _, _, rfl, rfl, SqT.of e1, rfl, ?_⟩)
      refine ⟨_, rfl, _, rfl, p, dx, _, rfl, h1a, p, t, S, n, _, _, rfl, spa, spn_in g.nd hnS, fun a2 e2 => ?_⟩
      refine .inr (.inl ⟨_, _, _, _, rfl, rfl, SqT.of e2, rfl, ?_⟩)
      exact ⟨_, _, rfl, rfl, _, rfl, _, rfl, d, _, rfl, dg, .inr (.inl ⟨_, _, _, _, rfl, rfl, SqT.of ha, rfl, _, _, rfl, rfl, kC _ fun _ _ e => e⟩)⟩
    · intro H1 S1 e1
      have h1' := S1 _ _ h1
      have t1 := g.t1
      have t2 := g.t2
      exact ⟨D, ns.map (lw S F), rfl, SqL.of (by rw [e1]; simp [List.map_map, Function.comp_def]), _, rfl, p, dx, _, rfl, h1', p, dx, _, .int t, rfl, h1', rfl, _, _, rfl, rfl, ⟨by omega, Nat.lt_of_le_of_lt (Nat.log2_le_self _) (by omega)⟩, k _ S1⟩
def sp_is_wiring (K : PySem.W.Frag) (C : Addr) : Sp := fun vs H Q _ => ∃ (p d : Addr) (t : Int) (S : Rws) (L : List (Str × Addr)) (F : Flw), vs = [.ref p, .ref d] ∧ SpAt H C p t S ∧ H d = some (.dK (Kvs L)) ∧ FTs H L F ∧ FOk t S F ∧ ∀ H', Same H H' → Q (.bl true) H'
theorem ok_is_wiring (T : T K mg) (U : UX K mg) : FnOk P w K mg base CX0 5 T.f_is_wiring T.d_is_wiring ["spans", "value"] (sp_is_wiring K U.C) := by
  have G_are_follows : FnOk P w K mg base CX0 4 T.f_are_follows T.d_are_follows ["spans", "value"] (sp_are_follows K U.C) := ok_are_follows T U
  have G_size_of : FnOk P w K mg base CX0 3 T.f_size_of T.d_size_of ["spans", "follows", "names"] (sp_size_of K U.C) := ok_size_of T U
  have Gn : FnOk P w K mg base CX0 1 U.pn.g U.pn.d ["self"] (getSp U.C "_names") := ok_get U.cl U.pn sc_Spans_names U.n3 ⟨_, _, _, rfl⟩
  refine T.F_is_wiring.ok sc_is_wiring (fun vs H Q E h => ?_) (fun cdv A outer s H vs Q E hr h => ?_)
  · obtain ⟨p, d, t, S, L, F, rfl, _⟩ := h
    rfl
  · obtain ⟨p, d, t, S, L, F, rfl, sp, hd, fts, fok, k⟩ := h
    have hu := hu_of hr
    have hr_are_follows : Room 4 _ := hr.mono (by decide)
    have hr_size_of : Room 3 _ := hr.mono (by decide)
    obtain ⟨_, c_MAX_WIRED⟩ := T.c_MAX_WIRED
    obtain ⟨g, so, dx, rd, nm, lv, cr, L0, h1, h2, h3, h4⟩ := id sp
    refine ⟨_, (pss_one (ps_ret (pe_and (pe_call G_are_follows hr_are_follows rfl T.m_are_follows T.F_are_follows.kp T.b_are_follows .nil pass0 (pa_cons (pv 0) (pa_cons (pv 1) pa_nil))) (pe_one (pe_cmpR op_le (pe_call G_size_of hr_size_of rfl T.m_size_of T.F_size_of.kp T.b_size_of .nil pass0 (pa_cons (pv 0) (pa_cons (pv 1) (pa_cons (pe_prop (pv 0) U.cl U.pn.pr Gn (hr.mono (by decide)) U.pn.b .nil pass0 rfl) pa_nil)))) (pe_glob (v := V.int 72) rfl c_MAX_WIRED ⟨_, rfl⟩) (nomark _)))))), ?_⟩
    refine ⟨_, rfl, _, rfl, p, d, t, S, L, F, rfl, sp, hd, fts, fok, fun H1 S1 => ⟨true, rfl, iteT ?_⟩⟩
    have h1' := S1 _ _ h1
    have l6 := fok.len
    refine ⟨_, rfl, _, rfl, _, rfl, p, dx, _, rfl, h1', p, dx, _, .ref nm, rfl, h1', rfl, p, d, nm, t, S, L, F, S.map (·.1), rfl, sp.same S1, S1 _ _ hd, fts.keep (KT.same S1), fok, SqT.of (S1 _ _ h4), by rw [List.length_map]; omega, fun n hn => hn, fun H2 S2 => ?_⟩
    refine ⟨_, _, rfl, rfl, ?_⟩
    exact bl_to (decide_eq_true (size_bd g fok (fun n hn => hn) (by rw [List.length_map]; omega)).2.2.1) (k _ (Same.trans S1 S2))
end
end K43
namespace K43
open PySem L2
open PyProof.Rows PySem.Spec
def nxt (F : Flw) (n : Str) : Str := (fol F n).1
theorem FOk.in {t : Int} {S : Rws} {F : Flw} (g : Good t S) (h : FOk t S F) {n : Str} (hn : n ∈ S.map (·.1)) : (n, fol F n) ∈ F := by
  obtain ⟨x, hx, rfl⟩ := List.mem_map.mp (h.at hn)
  rw [fol_at (q := x.2) (h.nd g) hx]
  exact hx
theorem nd_inj {l : List Str} {f : Str → Str} (nd : (l.map f).Nodup) {x y : Str} (hx : x ∈ l) (hy : y ∈ l) (e : f x = f y) : x = y := by
  obtain ⟨i, hi⟩ := List.mem_iff_getElem?.mp hx
  obtain ⟨j, hj⟩ := List.mem_iff_getElem?.mp hy
  have h1 : (l.map f)[i]? = some (f x) := by rw [List.getElem?_map, hi]; rfl
  have h2 : (l.map f)[j]? = some (f x) := by rw [List.getElem?_map, hj, e]; rfl
  have := nd_ix nd h1 h2
  rw [this, hj] at hi
  exact (Option.some.inj hi).symm
theorem FOk.pmt {t : Int} {S : Rws} {F : Flw} (g : Good t S) (h : FOk t S F) : Pmt (nxt F) (S.map (·.1)) :=
  ⟨fun _ hx => h.to (h.in g hx), fun _ hx _ hy e => nd_inj (f := nxt F) ((h.tgs g).nodup_iff.mpr g.nd) hx hy e⟩
theorem pw_lt {l : List Str} (nd : l.Nodup) (s : sortedS l = true) : l.Pairwise fun a b => a.cps.toList < b.cps.toList := by
  refine List.Pairwise.imp₂ (fun a b h1 h2 => ?_) (sortedS_pw s) nd
  have h3 : ¬ b.cps.toList < a.cps.toList := fun w => by
    rw [ltCps_eq, decide_eq_false_iff_not] at h1
    exact h1 w
  rcases List.le_iff_lt_or_eq.mp (List.not_lt.mp h3) with w | w
  · exact w
  · exact absurd (str_ext w) h2
/-- tuples of names -/
inductive CTs (H : Hp) : List Addr → List (List Str) → Prop
  | nil : CTs H [] []
  | cons {a : Addr} {c : List Str} {as : List Addr} {cs : List (List Str)} (h : H a = some (.tup (c.map V.str))) (t : CTs H as cs) : CTs H (a :: as) (c :: cs)
theorem CTs.keep {H H' : Hp} (k : KT H H') {as : List Addr} {cs : List (List Str)} (h : CTs H as cs) : CTs H' as cs := by
  induction h with
  | nil => exact .nil
  | cons h _ ih => exact .cons (k _ _ h) ih
theorem CTs.len {H : Hp} {as : List Addr} {cs : List (List Str)} (h : CTs H as cs) : as.length = cs.length := by
  induction h with
  | nil => rfl
  | cons h _ ih => rw [List.length_cons, List.length_cons, ih]
theorem CTs.snoc {H : Hp} {a : Addr} {c : List Str} {as : List Addr} {cs : List (List Str)} (h : CTs H as cs) (ha : H a = some (.tup (c.map V.str))) : CTs H (as ++ [a]) (cs ++ [c]) := by
  induction h with
  | nil => exact .cons ha .nil
  | cons h _ ih => exact .cons h ih
theorem CTs.at {H : Hp} {as : List Addr} {cs : List (List Str)} (h : CTs H as cs) : ∀ a ∈ as, ∃ c ∈ cs, H a = some (.tup (c.map V.str)) := by
  induction h with
  | nil => intro a ha; cases ha
  | cons h _ ih =>
    intro a ha
    rcases List.mem_cons.mp ha with rfl | ha
    · exact ⟨_, List.mem_cons_self, h⟩
    · obtain ⟨c, hc, e⟩ := ih a ha
      exact ⟨c, List.mem_cons_of_mem _ hc, e⟩
theorem last_atI {α : Type} {l : List α} {x : α} (h : l.getLast? = some x) : atI l (-1) = some x := by
  have h0 : l ≠ [] := fun z => by rw [z] at h; cases h
  have h1 : 1 ≤ l.length := by
    cases l with
    | nil => exact absurd rfl h0
    | cons => simp
  unfold atI
  rw [List.getLast?_eq_getElem?] at h
  unfold ixN
  rw [if_neg (by omega), if_pos (by omega)]
  have : (-1 + (l.length : Int)).toNat = l.length - 1 := by omega
  simpa [this] using h
theorem head_atI {α : Type} (x : α) (l : List α) : atI (x :: l) 0 = some x := by
  unfold atI ixN
  rw [if_pos (by omega), if_pos (by rw [List.length_cons]; omega)]
  rfl
section
variable {P : Program} {w : World} {K : PySem.W.Frag}
                                                      {mg : Str → Option Value} {base : Heap}
def sp_cycles_of (K : PySem.W.Frag) : Sp := fun vs H Q _ => ∃ (d : Addr) (t : Int) (S : Rws) (L : List (Str × Addr)) (F : Flw), vs = [.ref d] ∧ Good t S ∧ sortedS (S.map (·.1)) = true ∧ H d = some (.dK (Kvs L)) ∧ FTs H L F ∧ FOk t S F ∧
  ∀ a as H', Same H H' → H' a = some (.tup (as.map V.ref)) → CTs H' as (cycs (nxt F) (S.map (·.1)) (S.map (·.1))) → Q (.ref a) H'
theorem ok_cycles_of (T : T K mg) : FnOk P w K mg base CX0 2 T.f_cycles_of T.d_cycles_of ["follows"] (sp_cycles_of K) := by
  refine T.F_cycles_of.ok sc_cycles_of (fun vs H Q E h => ?_) (fun cdv A outer s H vs Q E hr h => ?_)
  · obtain ⟨d, t, S, L, F, rfl, _⟩ := h
    rfl
  · obtain ⟨d, t, S, L, F, rfl, g, so, hd, fts, fok, k⟩ := h
    have hu := hu_of hr
    refine ⟨_, (pss_cons (ps_set (i := 1) sc_cycles_of.nd rfl (Or.inl rfl) (pe_lst pa_nil))
      (pss_cons (ps_set (i := 2) sc_cycles_of.nd rfl (Or.inl rfl) (pe_callB (call_sortedD rfl) (by rfl) T.z_sorted (by decide +kernel) (pa_cons (pv 0) pa_nil)))
      (pss_cons (ps_while PassesOwn.never (pt_truth (pv 2) (fun _ => rfl))
      (pss_cons (ps_set (i := 3) sc_cycles_of.nd rfl (Or.inr rfl) (pe_lst (pa_cons (pe_ix ix_seq (pv 2) pe_int (fun _ _ => rfl)) pa_nil)))
      (pss_cons (ps_while PassesOwn.never (pt_cmpR op_ne (pe_ix ix_seq (pe_dget (by exact hu) (pv 0) (pe_ix ix_seq (pv 3) (pe_un un_neg pe_int) (fun _ _ => rfl)) (fun _ _ => rfl)) pe_int (fun _ _ => rfl)) (pe_ix ix_seq (pv 2) pe_int (fun _ _ => rfl)) (nomark _))
      (pss_one (ps_expr (pe_bm PySem.F.plainAttrs_list PySem.F.slot_list_append PySem.F.type_list_append mt_append (pv 3) (pa_cons (pe_ix ix_seq (pe_dget (by exact hu) (pv 0) (pe_ix ix_seq (pv 3) (pe_un un_neg pe_int) (fun _ _ => rfl)) (fun _ _ => rfl)) pe_int (fun _ _ => rfl)) pa_nil)))))
      (pss_cons (ps_expr (pe_bm PySem.F.plainAttrs_list PySem.F.slot_list_append PySem.F.type_list_append mt_append (pv 1) (pa_cons (pe_callTy call_tuple_of (by rfl) T.z_tuple (by decide +kernel) (pa_cons (pv 3) pa_nil)) pa_nil)))
      (pss_one (ps_setLc (i := 2) (own := [("name", 4)]) (g := gName 4) rfl sc_cycles_of.nd rfl rfl (sw_true rfl rfl rfl (by decide +kernel)) (pi_list (pv 2)) (blkOk_by (N := ["follows", "cycles", "left", "cycle", "name"]) (sc := defScope s_cycles_of) (by decide +kernel)) (fun _ _ _ _ _ => (pg_name (i := 4) sc_cycles_of.nd rfl (Or.inl rfl))) (fun _ _ _ _ _ => pts_one (pt_cmpR (r := rIn K true) op_notIn_seq (pv 4) (pv 3) rfl)) (fun _ _ _ _ _ => (pv 4))))))))
      (pss_one (ps_ret (pe_callTy call_tuple_of (by rfl) T.z_tuple (by decide +kernel) (pa_cons (pv 1) pa_nil))))))), ?_⟩
    have pmt := fok.pmt g
    have swl := pw_lt g.nd so
    have l6 := fok.len
    generalize hN : S.map (·.1) = N at k pmt swl
    have lN : N.length ≤ 6 := by rw [← hN, List.length_map]; omega
    refine ⟨by show 0 ≤ sizeLine; decide, fun cl hcl => ?_⟩
    have S1 := Same.new (o := .lst []) hcl
    have ec1 : (upd H cl (.lst [])) cl = some (.lst []) := upd_same
    have hd1 := S1 _ _ hd
    generalize upd H cl (.lst []) = H1 at S1 ec1 hd1 ⊢
    refine ⟨_, rfl, d, _, L.map (·.1), rfl, .inl hd1, kvs_keys L, by rw [List.length_map, fts.len]; omega, fun ys ll pm so2 hll => ?_⟩
    obtain rfl : ys = N := by
      rw [← hN]
      exact sort_to pm so2 (by rw [fts.names]; exact fok.nm) so
    have ncl : ll ≠ cl := fun z => by rw [z, ec1] at hll; cases hll
    have S2 := Same.new (o := .lst (ys.map V.str)) hll
    have el2 : (upd H1 ll (.lst (ys.map V.str))) ll = some (.lst (ys.map V.str)) := upd_same
    have ec2 := S2 _ _ ec1
    generalize upd H1 ll (.lst (ys.map V.str)) = H2 at S2 el2 ec2 ⊢
    have S02 := Same.trans S1 S2
    clear hd1 S1 S2 ec1 hll
    refine ⟨fun m σ G => ∃ (ll : Addr) (as : List Addr) (left : List Str) (v3 v4 : Option V) (found : List (List Str)), m = left.length ∧ σ = [some (.ref d), some (.ref cl), some (.ref ll), v3, v4] ∧ Same H G ∧ G cl = some (.lst (as.map V.ref)) ∧ G ll = some (.lst (left.map V.str)) ∧ ll ≠ cl ∧ CTs G as found ∧ Found (nxt F) ys left found ∧ as.length + left.length ≤ 6, ⟨_, ll, [], ys, none, none, [], rfl, rfl, S02, ec2, el2, ncl, .nil, Found.start, by simpa using lN⟩, ?_⟩
    clear S02 ec2 el2 ncl
    rintro m σ G ⟨ll, as, left, v3, v4, found, rfl, rfl, SG, ec, el, ncl, cts, fnd, la⟩
    refine ⟨_, rfl, _, .inl ⟨_, SqL.of el, rfl⟩, ?_⟩
    cases left with
    | nil =>
      refine iteF ?_
      refine ⟨_, rfl, cl, _, rfl, .inl ⟨SqL.of ec, fun q hq => ?_⟩⟩
      have e := Found.done pmt swl fnd
      exact k q as _ (Same.trans SG (Same.new hq)) upd_same (by rw [← e]; exact cts.keep (KT.same (Same.new hq)))
    | cons l0 rest =>
      refine iteT ⟨_, fun σ' H' h => h, ?_⟩
      obtain ⟨l0N, fnd'⟩ := Found.step pmt swl fnd
      refine ⟨_, rfl, .inl ⟨_, _, _, _, rfl, rfl, SqL.of el, head_atI _ _, by show 1 ≤ sizeLine; decide, fun cy hcy => ?_⟩⟩
      have S3 := Same.new (o := .lst [V.str l0]) hcy
      have ecy : (upd G cy (.lst [V.str l0])) cy = some (.lst [V.str l0]) := upd_same
      have el3 := S3 _ _ el
      have ec3 := S3 _ _ ec
      have SG3 := Same.trans SG S3
      have cts3 := cts.keep (KT.same S3)
      have nyl : cy ≠ ll := fun z => by rw [z, el] at hcy; cases hcy
      have nyc : cy ≠ cl := fun z => by rw [z, ec] at hcy; cases hcy
      have hyH : H cy = none := by
        cases z : H cy with
        | none => rfl
        | some o => rw [SG _ _ z] at hcy; cases hcy
      generalize upd G cy (.lst [V.str l0]) = G3 at S3 ecy el3 ec3 SG3 cts3 ⊢
      refine ⟨fun m σ' G' => ∃ ch : List Str, m = ys.length - ch.length ∧ σ' = [some (.ref d), some (.ref cl), some (.ref ll), some (.ref cy), v4] ∧ But cy G3 G' ∧ G' cy = some (.lst (ch.map V.str)) ∧ Chn (nxt F) ys l0 ch, ⟨_, [l0], rfl, rfl, fun _ _ _ e => e, ecy, Chn.one l0N⟩, ?_⟩
      rintro m σ' G' ⟨ch, rfl, rfl, B, ey, chn⟩
      obtain ⟨l, hl⟩ : ∃ l, ch.getLast? = some l := by
        cases ch with
        | nil => cases chn.hd
        | cons a r => exact ⟨_, List.getLast?_eq_some_getLast (by simp)⟩
      have lys : l ∈ ys := chn.sb l (List.mem_of_getLast? hl)
      have hlS : l ∈ S.map (·.1) := by rw [hN]; exact lys
      have SG' : Same H G' := fun b o e => B b o (fun z => by rw [z, hyH] at e; cases e) (SG3 _ _ e)
      obtain ⟨fa, va, ha, hm⟩ := (fts.keep (KT.same SG')).get (fok.at hlS)
      have dg : DGet G' d (.str l) (some (.ref fa)) := by
        have := DGet.k (k := Sum.inr l) (SG' _ _ hd)
        rw [va] at this
        exact this
      have hat : atI (ch.map V.str) (-1) = some (.str l) := last_atI (by rw [List.getLast?_map, hl]; rfl)
      have el' := B _ _ nyl.symm el3
      have ec' := B _ _ nyc.symm ec3
      refine ⟨_, rfl, _, rfl, _, rfl, .inl ⟨_, _, _, _, rfl, rfl, SqL.of ey, hat, d, _, rfl, dg, .inr (.inl ⟨_, _, _, _, rfl, rfl, SqT.of ha, rfl, _, rfl, .inl ⟨_, _, _, _, rfl, rfl, SqL.of el', head_atI _ _, rfl, _, rfl, ?_⟩⟩)⟩⟩
      by_cases c : nxt F l = l0
      · rw [decide_eq_true (show V.str (fol F l).1 = V.str l0 from congrArg V.str c)]
        refine iteF ?_
        have hcyc : Cyc (nxt F) ys l0 ch := ⟨chn, fun l' h' => by rw [hl] at h'; rw [← Option.some.inj h']; exact c⟩
        have ech := cy_of hcyc
        rw [ech] at fnd'
        have fl := fnd'.len
        have kt3 : KT G3 G' := But.kt B (fun xs z => by rw [ecy] at z; cases z)
        have cts' := cts3.keep kt3
        have lch := chn_len chn
        refine ⟨_, rfl, .inl ⟨rfl, _, SqL.of ec'⟩, _, rfl, cy, _, rfl, .inl ⟨SqL.of ey, fun tp htp => ?_⟩⟩
        have S4 := Same.new (o := .tup (ch.map V.str)) htp
        have etp : (upd G' tp (.tup (ch.map V.str))) tp = some (.tup (ch.map V.str)) := upd_same
        have ec4 := S4 _ _ ec'
        have el4 := S4 _ _ el'
        have ey4 := S4 _ _ ey
        have cts4 := cts'.keep (KT.same S4)
        have SG4 := Same.trans SG' S4
        generalize upd G' tp (.tup (ch.map V.str)) = G4 at S4 etp ec4 el4 ey4 cts4 SG4 ⊢
        refine ⟨cl, _, _, rfl, rfl, ec4, by rw [List.length_map, sizeLine_eq]; omega, ?_⟩
        have SG5 : Same H (upd G4 cl (.lst (as.map V.ref ++ [.ref tp]))) := Same.at hcl SG4
        have ec5 : (upd G4 cl (.lst (as.map V.ref ++ [.ref tp]))) cl = some (.lst ((as ++ [tp]).map V.ref)) := by rw [upd_same, List.map_append]; rfl
        have kt5 : KT G4 (upd G4 cl (.lst (as.map V.ref ++ [.ref tp]))) := KT.put ec4 (fun _ z => by cases z)
        have el5 := (upd_ne (H := G4) (o := .lst (as.map V.ref ++ [.ref tp])) ncl).trans el4
        have ey5 := (upd_ne (H := G4) (o := .lst (as.map V.ref ++ [.ref tp])) nyc).trans ey4
        have cts5 := (cts4.snoc etp).keep kt5
        generalize upd G4 cl (.lst (as.map V.ref ++ [.ref tp])) = G5 at SG5 ec5 el5 ey5 cts5 ⊢
        refine ⟨_, rfl, ll, rfl, ⟨_, SqL.of el5⟩, fun D hD => ?_⟩
        have nDy : cy ≠ D := ne_of_none ey5 hD
        have nDc : D ≠ cl := fun z => by rw [z, ec5] at hD; cases hD
        refine lc_list (xs := (l0 :: rest).map V.str) (fun i H' => H' D = some (.lst ((((l0 :: rest).take i).filter fun n => !decide (n ∈ ch)).map V.str)) ∧ Same G5 H') ⟨upd_same, Same.new hD⟩ (fun i H' _ h => SqL.of (h.2 _ _ el5)) ?_ ?_
        · rintro i x H6 hx6 ⟨eD, S6⟩
          rw [List.getElem?_map] at hx6
          cases en2 : (l0 :: rest)[i]? with
          | none => rw [en2] at hx6; cases hx6
          | some n =>
            rw [en2] at hx6
            cases hx6
            refine ⟨rfl, ?_⟩
            refine ⟨_, rfl, _, rfl, cy, _, rfl, .inl (SqL.of (S6 _ _ ey5)), rfl, flat_strs _, _, rfl, ?_⟩
            rw [inV_strs]
            have tk : ((l0 :: rest).take (i + 1)).filter (fun n => !decide (n ∈ ch)) = ((l0 :: rest).take i).filter (fun n => !decide (n ∈ ch)) ++ (if n ∈ ch then [] else [n]) := by
              rw [List.take_add_one, en2, List.filter_append]
              congr 1
              by_cases c : n ∈ ch
              · simp [c]
              · simp [c]
            have li : i < (l0 :: rest).length := (List.getElem?_eq_some_iff.mp en2).1
            by_cases c : n ∈ ch
            · simp only [if_true, c, decide_true, Bool.not_true, Bool.false_eq_true, if_false]
              refine ⟨?_, S6⟩
              rw [tk, if_pos c, List.append_nil]
              exact eD
            · simp only [if_true, c, decide_false, Bool.not_false]
              refine ⟨_, rfl, _, eD, ?_, ?_, Same.at hD S6⟩
              · rw [List.length_map, sizeLine_eq]
                have := List.length_filter_le (fun n => !decide (n ∈ ch)) ((l0 :: rest).take i)
                rw [List.length_take] at this
                omega
              · rw [upd_same, tk, if_neg c, List.map_append]
                rfl
        rintro H6 ⟨eD, S6⟩
        rw [List.length_map, List.take_length] at eD
        have lt : ((l0 :: rest).filter fun n => !decide (n ∈ ch)).length < (l0 :: rest).length := by
          refine List.length_filter_lt_length_iff_exists.mpr ⟨l0, List.mem_cons_self, ?_⟩
          rw [decide_eq_true (List.mem_of_getElem? chn.hd)]
          decide
        simp only [decide_not] at fnd'
        exact ⟨_, lt, D, as ++ [tp], _, _, _, _, rfl, rfl, Same.trans SG5 S6, S6 _ _ ec5, eD, nDc, cts5.keep (KT.same S6), fnd', by rw [List.length_append, List.length_singleton]; omega⟩
      · rw [decide_eq_false (show ¬ V.str (fol F l).1 = V.str l0 from fun z => c (V.str.inj z))]
        refine iteT ⟨_, fun σ' H' h => h, ?_⟩
        have chn' := chn.ext pmt hl c
        have cl' := chn_len chn'
        rw [List.length_append, List.length_singleton] at cl'
        refine ⟨_, rfl, .inl ⟨rfl, _, SqL.of ey⟩, _, rfl, _, rfl, _, rfl, .inl ⟨_, _, _, _, rfl, rfl, SqL.of ey, hat, d, _, rfl, dg, .inr (.inl ⟨_, _, _, _, rfl, rfl, SqT.of ha, rfl, cy, _, _, rfl, rfl, ey, by rw [List.length_map, sizeLine_eq]; omega, ?_⟩)⟩⟩
        exact ⟨ys.length - (ch.length + 1), by omega, ch ++ [nxt F l], by rw [List.length_append, List.length_singleton], rfl, But.trans B But.upd, by rw [upd_same, List.map_append]; rfl, chn'⟩
end
end K43
namespace K43
open PySem L2
open PyProof.Rows PySem.Spec
/-- the follows in the order of the names -/
def ordF (S : Rws) (F : Flw) : Flw := (S.map (·.1)).map fun n => (n, fol F n)
theorem ordF_names (S : Rws) (F : Flw) : (ordF S F).map (·.1) = S.map (·.1) := by
  unfold ordF
  rw [List.map_map]
  exact List.map_id' _
theorem ordF_perm {t : Int} {S : Rws} {F : Flw} (g : Good t S) (h : FOk t S F) : (ordF S F).Perm F := by
  have nd := h.nd g
  have e : F = (F.map (·.1)).map fun n => (n, fol F n) := by
    rw [List.map_map]
    conv => lhs; rw [← List.map_id F]
    refine List.map_congr_left fun x hx => ?_
    show x = (x.1, fol F x.1)
    rw [fol_at (q := x.2) nd hx]
  refine (h.nm.symm.map fun n => (n, fol F n)).trans ?_
  rw [← e]
theorem ord_fol {t : Int} {S : Rws} {F : Flw} (g : Good t S) {n : Str} (hn : n ∈ S.map (·.1)) : fol (ordF S F) n = fol F n :=
  fol_at (by rw [ordF_names]; exact g.nd) (List.mem_map.mpr ⟨n, hn, rfl⟩)
theorem ord_size {t : Int} {S : Rws} {F : Flw} (g : Good t S) {ns : List Str} (hn : ∀ n ∈ ns, n ∈ S.map (·.1)) : sizeV S t (ordF S F) ns = sizeV S t F ns := by
  unfold sizeV
  congr 2
  refine List.map_congr_left fun n h => ?_
  unfold lw
  rw [ord_fol g (hn n h)]
/-- what a wiring keeps -/
def wgF (p fd ca : Addr) : List (Str × V) := putF "_cycles" (.ref ca) (putF "_follows" (.ref fd) (putF "_spans" (.ref p) []))
/-- all cycles -/
noncomputable def cyA (S : Rws) (F : Flw) : List (List Str) := cycs (nxt F) (S.map (·.1)) (S.map (·.1))
/-- a wiring stands at q: F is what follows -/
def WgAt (H : Hp) (C D q p : Addr) (t : Int) (S : Rws) (F : Flw) : Prop := SpAt H C p t S ∧ FOk t S F ∧ ∃ dx fd ca L as, H q = some (.ins D dx (wgF p fd ca)) ∧ H fd = some (.dK (Kvs L)) ∧ FTs H L (ordF S F) ∧ H ca = some (.tup (as.map V.ref)) ∧ CTs H as (cyA S F)
theorem WgAt.same {H H' : Hp} {C D q p : Addr} {t : Int} {S : Rws} {F : Flw} (s : Same H H') (h : WgAt H C D q p t S F) : WgAt H' C D q p t S F := by
  obtain ⟨sp, fok, dx, fd, ca, L, as, h1, h2, h3, h4, h5⟩ := h
  exact ⟨sp.same s, fok, dx, fd, ca, L, as, s _ _ h1, s _ _ h2, h3.keep (KT.same s), s _ _ h4, h5.keep (KT.same s)⟩
theorem WgAt.only {H H' : Hp} {C D q p r : Addr} {t : Int} {S : Rws} {F : Flw} (o : Only r H H') (hr : Rl H r) (h : WgAt H C D q p t S F) : WgAt H' C D q p t S F := by
  obtain ⟨sp, fok, dx, fd, ca, L, as, h1, h2, h3, h4, h5⟩ := h
  have ne : ∀ {a : Addr} {u : HO}, H a = some u → (∀ xs, u ≠ .lst xs) → a ≠ r := fun e n w => by
    obtain ⟨x, y, z, q⟩ := hr
    rw [w, q] at e
    exact n _ (Option.some.inj e).symm
  exact ⟨sp.only o hr, fok, dx, fd, ca, L, as, o _ _ (ne h1 (fun _ z => by cases z)) h1, o _ _ (ne h2 (fun _ z => by cases z)) h2, h3.keep (KT.only o hr), o _ _ (ne h4 (fun _ z => by cases z)) h4, h5.keep (KT.only o hr)⟩
theorem SpAt.but {H H' : Hp} {C p q D dx : Addr} {fs : List (Str × V)} {t : Int} {S : Rws} (o : But q H H') (hq : H q = some (.ins D dx fs)) (n : p ≠ q) (h : SpAt H C p t S) : SpAt H' C p t S := by
  obtain ⟨g, so, dx, rd, nm, lv, cr, L, h1, h2, h3, h4⟩ := h
  exact ⟨g, so, dx, rd, nm, lv, cr, L, o _ _ n h1, o _ _ (fun z => by rw [z, hq] at h2; cases h2) h2, h3.keep (But.kt o fun xs z => by rw [hq] at z; cases z), o _ _ (fun z => by rw [z, hq] at h4; cases h4) h4⟩
section
variable {P : Program} {w : World} {K : PySem.W.Frag}
                                                      {mg : Str → Option Value} {base : Heap}
def sp_winit (C D : Addr) : Sp := fun vs H Q _ => ∃ (q p d dx : Addr) (t : Int) (S : Rws) (L : List (Str × Addr)) (F : Flw), vs = [.ref q, .ref p, .ref d] ∧ H q = some (.ins D dx []) ∧ SpAt H C p t S ∧ H d = some (.dK (Kvs L)) ∧ FTs H L F ∧ FOk t S F ∧
  ∀ H', But q H H' → WgAt H' C D q p t S F → (∀ H'', (∀ b o, (H b = none ∨ b = q) → H' b = some o → H'' b = some o) → KT H' H'' → SpAt H'' C p t S → WgAt H'' C D q p t S F) → Q .non H'
theorem ok_winit (T : T K mg) (U : UX K mg) : FnOk P w K mg base CX0 6 U.fJ U.dJ ["self", "spans", "follows"] (sp_winit U.C U.D) := by
  have G_cycles_of : FnOk P w K mg base CX0 2 T.f_cycles_of T.d_cycles_of ["follows"] (sp_cycles_of K) := ok_cycles_of T
  have G_check_spans : FnOk P w K mg base CX0 1 T.f_check_spans T.d_check_spans ["value"] (sp_check_spans K U.C) := ok_check_spans T U
  have G_is_wiring : FnOk P w K mg base CX0 5 T.f_is_wiring T.d_is_wiring ["spans", "value"] (sp_is_wiring K U.C) := ok_is_wiring T U
  have Gn : FnOk P w K mg base CX0 1 U.pn.g U.pn.d ["self"] (getSp U.C "_names") := ok_get U.cl U.pn sc_Spans_names U.n3 ⟨_, _, _, rfl⟩
  refine U.FJ.ok sc_Wiring_init (fun vs H Q E h => ?_) (fun cdv A outer s H vs Q E hr h => ?_)
  · obtain ⟨q, p, d, dx, t, S, L, F, rfl, _⟩ := h
    rfl
  · obtain ⟨q, p, d, dx, t, S, L, F, rfl, hq, sp, hd, fts, fok, k⟩ := h
    have hu := hu_of hr
    have hr_cycles_of : Room 2 _ := hr.mono (by decide)
    have hr_check_spans : Room 1 _ := hr.mono (by decide)
    have hr_is_wiring : Room 5 _ := hr.mono (by decide)
    refine ⟨_, (pss_cons (ps_expr (pe_call G_check_spans hr_check_spans rfl T.m_check_spans T.F_check_spans.kp T.b_check_spans .nil pass0 (pa_cons (pv 1) pa_nil)))
      (pss_cons (ps_if (pt_not (pt_val (pe_call G_is_wiring hr_is_wiring rfl T.m_is_wiring T.F_is_wiring.kp T.b_is_wiring .nil pass0 (pa_cons (pv 1) (pa_cons (pv 2) pa_nil)))))
      (pss_one ps_never)
      pss_nil)
      (pss_cons (ps_fld (pv 0) (pv 1) rfl)
      (pss_cons (ps_fld (pv 0) (pe_dc (own := [("name", 3)]) (g := gName 3) rfl sc_Wiring_init.nd (pi_tup (pe_prop (pv 1) U.cl U.pn.pr Gn (hr.mono (by decide)) U.pn.b .nil pass0 rfl)) (blkOk_by (N := ["self", "spans", "follows", "name"]) (sc := defScope s_Wiring_init) (by decide +kernel)) (fun _ _ _ _ _ => (pg_name (i := 3) sc_Wiring_init.nd rfl (Or.inl rfl))) (fun _ _ _ _ _ => pts_nil) (fun _ _ _ _ _ => (pv 3)) (fun _ _ _ _ _ => (pe_dget (by exact hu) (pv 2) (pv 3) (fun _ _ => rfl)))) rfl)
      (pss_one (ps_fld (pv 0) (pe_call G_cycles_of hr_cycles_of rfl T.m_cycles_of T.F_cycles_of.kp T.b_cycles_of .nil pass0 (pa_cons (pv 2) pa_nil)) rfl)))))), ?_⟩
    obtain ⟨g, so, _⟩ := id sp
    have l6 := fok.len
    have npq : p ≠ q := fun z => by
      obtain ⟨_, _, _, _, _, _, _, _, h1, _⟩ := id sp
      rw [z, hq] at h1
      have := (HO.ins.inj (Option.some.inj h1)).2.2
      cases this
    have ndq : d ≠ q := fun z => by rw [z, hq] at hd; cases hd
    refine ⟨_, rfl, p, t, S, rfl, sp, ?_⟩
    refine ⟨_, rfl, _, rfl, p, d, t, S, L, F, rfl, sp, hd, fts, fok, fun H1 S1 => ⟨_, rfl, iteF ?_⟩⟩
    have h1q := S1 _ _ hq
    have sp1 := sp.same S1
    have hd1 := S1 _ _ hd
    have fts1 := fts.keep (KT.same S1)
    refine ⟨_, rfl, _, rfl, q, U.D, dx, _, rfl, h1q, U.clD, U.k1, (by show 0 < 1000; decide), ?_⟩
    have B2 : But q H1 (upd H1 q (.ins U.D dx (putF "_spans" (.ref p) []))) := But.upd
    have h2q : (upd H1 q (.ins U.D dx (putF "_spans" (.ref p) []))) q = some (.ins U.D dx (putF "_spans" (.ref p) [])) := upd_same
    have sp2 := sp1.but B2 h1q npq
    have hd2 := B2 _ _ ndq hd1
    have fts2 := fts1.keep (But.kt B2 fun xs z => by rw [h1q] at z; cases z)
    have BB : But q H (upd H1 q (.ins U.D dx (putF "_spans" (.ref p) []))) := But.trans (But.same S1) B2
    generalize upd H1 q (.ins U.D dx (putF "_spans" (.ref p) [])) = H2 at B2 h2q sp2 hd2 fts2 BB ⊢
    clear B2 h1q sp1 hd1 fts1 S1
    obtain ⟨_, _, dx2, rd, nm, lv, cr, L0, h1, h2, h3, h4⟩ := id sp2
    have sqn : SqT K H2 nm ((S.map (·.1)).map V.str) := SqT.of h4
    refine ⟨_, rfl, p, dx2, _, rfl, h1, p, dx2, _, .ref nm, rfl, h1, rfl, nm, rfl, ⟨_, sqn⟩, fun D hD => ?_⟩
    have nDq : D ≠ q := fun z => by rw [z, h2q] at hD; cases hD
    have hDn : H D = none := by
      cases z : H D with
      | none => rfl
      | some o =>
        have := BB _ _ nDq z
        rw [hD] at this
        cases this
    refine dc_it (walk_tup (K := K) (a := nm) (xs := (S.map (·.1)).map V.str)) (fun i H' => Same H2 H' ∧ ∃ M, H' D = some (.dK (Kvs M)) ∧ FTs H' M ((ordF S F).take i)) ⟨Same.new hD, [], upd_same, .nil⟩ (fun i H' _ h => Same.seqT h.1 sqn) ?_ ?_
    · rintro i x Ha Hb hi ⟨Sa, M, eD, tm⟩ ⟨rfl, hx⟩
      refine ⟨rfl, ?_⟩
      unfold tYes
      dsimp only
      rw [if_pos rfl]
      rw [List.getElem?_map] at hx
      cases e2 : (S.map (·.1))[i]? with
      | none => rw [e2] at hx; cases hx
      | some n =>
        rw [e2] at hx
        cases hx
        have hn := List.mem_of_getElem? e2
        obtain ⟨a, va, ha, hm⟩ := (fts2.keep (KT.same Sa)).get (fok.at hn)
        have dg : DGet Hb d (.str n) (some (.ref a)) := by
          have := DGet.k (k := Sum.inr n) (Sa _ _ hd2)
          rw [va] at this
          exact this
        have hnM : n ∉ M.map (·.1) := by
          rw [tm.names, List.map_take, ordF_names]
          intro hm2
          have nd2 := g.nd
          rw [← List.take_append_drop i (S.map (·.1))] at nd2
          have hd2 : n ∈ (S.map (·.1)).drop i := by
            rw [List.mem_iff_getElem?]
            exact ⟨0, by rw [List.getElem?_drop]; exact e2⟩
          exact (List.nodup_append.mp nd2).2.2 n hm2 n hd2 rfl
        have lM : M.length ≤ 6 := by
          rw [tm.len, List.length_take, ← List.length_map (f := (·.1)) (as := ordF S F), ordF_names, List.length_map]
          omega
        refine ⟨_, rfl, _, rfl, _, rfl, d, V.ref a, rfl, dg, ?_⟩
        refine ⟨Kvs M, Sum.inr n, rfl, eD, by rw [kvs_len, sizeLine_eq]; omega, Same.at hD Sa, M ++ [(n, a)], by rw [upd_same, putK_kvs hnM], ?_⟩
        have kt : KT Hb (upd Hb D (.dK (putK (Kvs M) (.inr n) (.ref a)))) := KT.put eD (fun _ z => by cases z)
        have e3 : (ordF S F)[i]? = some (n, fol F n) := by
          unfold ordF
          rw [List.getElem?_map, e2]
          rfl
        rw [List.take_add_one, e3]
        exact (tm.keep kt).snoc (kt _ _ ha)
    rintro H4 ⟨S4, M, h4D, h4T⟩
    have lo : ((S.map (·.1)).map V.str).length = (ordF S F).length := by unfold ordF; simp
    rw [lo, List.take_length] at h4T
    have h4q := S4 _ _ h2q
    have sp4 := sp2.same S4
    have hd4 := S4 _ _ hd2
    have fts4 := fts2.keep (KT.same S4)
    have BB4 := But.trans BB (But.same S4)
    clear S4 h2q sp2 hd2 fts2 BB hD h1 h2 h3 h4 sqn
    refine ⟨_, rfl, q, U.D, dx, _, rfl, h4q, U.clD, U.k2, (by show 1 < 1000; decide), ?_⟩
    have B5 : But q H4 (upd H4 q (.ins U.D dx (putF "_follows" (.ref D) (putF "_spans" (.ref p) [])))) := But.upd
    have h5q : (upd H4 q (.ins U.D dx (putF "_follows" (.ref D) (putF "_spans" (.ref p) [])))) q = some (.ins U.D dx (putF "_follows" (.ref D) (putF "_spans" (.ref p) []))) := upd_same
    generalize upd H4 q (.ins U.D dx (putF "_follows" (.ref D) (putF "_spans" (.ref p) []))) = H5 at B5 h5q ⊢
    have kt5 : KT H4 H5 := But.kt B5 fun xs z => by rw [h4q] at z; cases z
    have sp5 := sp4.but B5 h4q npq
    have hd5 := B5 _ _ ndq hd4
    have fts5 := fts4.keep kt5
    have h5D := B5 _ _ nDq h4D
    have h5T := h4T.keep kt5
    have BB5 := But.trans BB4 B5
    refine ⟨_, rfl, d, t, S, L, F, rfl, g, so, hd5, fts5, fok, fun ca as H6 S6 e6 c6 => ?_⟩
    have h6q := S6 _ _ h5q
    refine ⟨_, rfl, q, U.D, dx, _, rfl, h6q, U.clD, U.k3, (by show 2 < 1000; decide), ?_⟩
    have B7 : But q H6 (upd H6 q (.ins U.D dx (wgF p D ca))) := But.upd
    have kt7 : KT H6 (upd H6 q (.ins U.D dx (wgF p D ca))) := But.kt B7 fun xs z => by rw [h6q] at z; cases z
    have h7q : (upd H6 q (.ins U.D dx (wgF p D ca))) q = some (.ins U.D dx (wgF p D ca)) := upd_same
    have sp7 := (sp5.same S6).but B7 h6q npq
    have h7D := B7 _ _ nDq (S6 _ _ h5D)
    have h7T := (h5T.keep (KT.same S6)).keep kt7
    have h7c := kt7 _ _ e6
    have c7 := c6.keep kt7
    have BB7 := But.trans BB5 (But.trans (But.same S6) B7)
    refine k _ BB7 ⟨sp7, fok, dx, D, ca, M, as, h7q, h7D, h7T, h7c, c7⟩ fun H'' kp kt sp'' => ?_
    exact ⟨sp'', fok, dx, D, ca, M, as, kp _ _ (.inr rfl) h7q, kp _ _ (.inl hDn) h7D, h7T.keep kt, kt _ _ h7c, c7.keep kt⟩
end
end K43
namespace K43
open PySem L2
open PyProof.Rows PySem.Spec
section
variable {X : Cx}
/-- sum(xs) of a tuple of ints -/
def rSumT (K : PySem.W.Frag) : List V → Hp → VK → Prop := fun vs H Q => ∃ (a : Addr) (ns : List Int), vs = [V.ref a] ∧ SqT K H a (ns.map V.int) ∧ Q (.int ns.sum) H
theorem cr_sumT (hc : X.calm = true) : CallR X (.builtin "sum") (rSumT X.K) := by
  intro pins s σ H vs us Q I r h
  obtain ⟨a, ns, rfl, hs, q⟩ := h
  obtain ⟨its, rv, hl, _⟩ := I.tuple hs
  rw [Vals.ref1 r]
  have hi := rv.ints
  obtain ⟨xs, e⟩ := hi.allInts.items
  have hn : numsOf
                   (intItems xs).toList = ns := by rw [← e]; exact hi.numsOf
  rw [nums_intItems] at hn
  rw [e] at hl
  refine PySem.W.ktm_sumG (I.ok.hd hc) hl fun h' tk t' hk => ?_
  rw [preSum_eq, List.take_of_length_le (by simp), hn]
  exact ⟨.int _, H, I.kept hk, ⟨_, rfl⟩, q⟩
def rLcm : List V → Hp → VK → Prop := fun vs H Q => ∃ a b : Nat, vs = [.int (a : Int), .int (b : Int)] ∧ a < 2 ^ 120 ∧ b < 2 ^ 120 ∧ Q (.int ((Nat.lcm a b : Nat) : Int)) H
theorem cr_lcm : CallR X (.builtin "math.lcm") rLcm := by
  intro pins s σ H vs us Q I r h
  obtain ⟨a, b, rfl, ha, hb, q⟩ := h
  obtain ⟨t, u, rfl⟩ := Vals.int2 r
  have e1 : ((a : Nat) : Int).natAbs = a := Int.natAbs_natCast a
  have e2 : ((b : Nat) : Int).natAbs = b := Int.natAbs_natCast b
  have z := @PySem.W.mg_run_lcm (a : Int) t (b : Int) u
  rw [e1, e2, show Nat.lcm 1 a = a by simp [Nat.lcm]] at z
  have hl : Nat.lcm a b ≤ a * b := by
    by_cases h0 : 0 < a * b
    · exact Nat.le_of_dvd h0 (Nat.lcm_dvd_mul a b)
    · have : a * b = 0 := by omega
      rcases Nat.mul_eq_zero.mp this with rfl | rfl <;> simp [Nat.lcm]
  have hs : Nat.lcm a b < 2 ^ 240 := Nat.lt_of_le_of_lt hl (by rw [show (240 : Nat) = 120 + 120 from rfl, Nat.pow_add]; exact Nat.mul_lt_mul'' ha hb)
  have hone : (1 : Nat) < 2 ^ 120 := by decide
  have l1 : (max 1 a).log2 ≤ 119 := PySem.W.mg_log (by show max 1 a < 2 ^ 120; exact Nat.max_lt.mpr ⟨hone, ha⟩)
  have l2 : (max a b).log2 ≤ 119 := PySem.W.mg_log (by show max a b < 2 ^ 120; exact Nat.max_lt.mpr ⟨ha, hb⟩)
  have l3 : ((Nat.lcm a b : Nat) : Int).natAbs.log2 < bitsLine := by
    rw [Int.natAbs_natCast]
    exact Nat.lt_of_le_of_lt (PySem.W.mg_log (k := 239) hs) (by decide)
  exact PySem.call_function_meets PySem.W.MGF.kind_lcm PySem.W.MGF.plain_lcm PySem.W.MGF.entry_lcm (PySem.W.MGF.args_lcm _ _) (z (by omega) (by omega) l3).meets ⟨.int _, H, I.tok _, ⟨_, rfl⟩, q⟩
end
/-- the least common multiple -/
def LC (ms : List Nat) : Nat := ms.foldl Nat.lcm 1
theorem fold_dvd : ∀ (ms : List Nat) (a m : Nat), ms.foldl Nat.lcm a ∣ m ↔ a ∣ m ∧ ∀ n ∈ ms, n ∣ m
  | [], a, m => by simp
  | x :: r, a, m => by
    rw [List.foldl_cons, fold_dvd r, Nat.lcm_dvd_iff]
    constructor
    · rintro ⟨⟨h1, h2⟩, h3⟩
      refine ⟨h1, fun n hn => ?_⟩
      rcases List.mem_cons.mp hn with rfl | h
      · exact h2
      · exact h3 n h
    · rintro ⟨h1, h2⟩
      exact ⟨⟨h1, h2 x List.mem_cons_self⟩, fun n hn => h2 n (List.mem_cons_of_mem _ hn)⟩
theorem LC_dvd (ms : List Nat) (m : Nat) : LC ms ∣ m ↔ ∀ n ∈ ms, n ∣ m := by
  unfold LC
  rw [fold_dvd]
  exact ⟨fun h => h.2, fun h => ⟨Nat.one_dvd _, h⟩⟩
theorem dvd_LC {ms : List Nat} {n : Nat} (h : n ∈ ms) : n ∣ LC ms := (LC_dvd ms (LC ms)).mp (Nat.dvd_refl _) n h
theorem LC_ext {a b : List Nat} (h : ∀ n, n ∈ a ↔ n ∈ b) : LC a = LC b :=
  Nat.dvd_antisymm ((LC_dvd _ _).mpr fun n hn => dvd_LC ((h n).mp hn)) ((LC_dvd _ _).mpr fun n hn => dvd_LC ((h n).mpr hn))
theorem LC_snoc (ms : List Nat) (n : Nat) : LC (ms ++ [n]) = (LC ms).lcm n := by
  unfold LC
  rw [List.foldl_append]
  rfl
theorem LC_pos {b : Nat} (hb : 1 ≤ b) {ms : List Nat} (h : ∀ n ∈ ms, 1 ≤ n ∧ n ≤ b) : 0 < LC ms ∧ LC ms ≤ b ^ ms.length := by
  have : ∀ (ms : List Nat) (a : Nat) (k : Nat), 0 < a → a ≤ b ^ k → (∀ n ∈ ms, 1 ≤ n ∧ n ≤ b) → 0 < ms.foldl Nat.lcm a ∧ ms.foldl Nat.lcm a ≤ b ^ (k + ms.length) := by
    intro ms
    induction ms with
    | nil => exact fun a k h1 h2 _ => ⟨h1, h2⟩
    | cons x r ih =>
      intro a k h1 h2 h
      have hx := h x List.mem_cons_self
      have e1 : a.lcm x ≤ b ^ (k + 1) := by
        refine Nat.le_trans (Nat.le_of_dvd (Nat.mul_pos h1 (by omega)) (Nat.lcm_dvd_mul a x)) ?_
        rw [Nat.pow_succ]
        exact Nat.mul_le_mul h2 hx.2
      have := ih (a.lcm x) (k + 1) (Nat.lcm_pos h1 (by omega)) e1 fun n hn => h n (List.mem_cons_of_mem _ hn)
      rw [List.foldl_cons, List.length_cons, show k + (r.length + 1) = k + 1 + r.length by omega]
      exact this
  have := this ms 1 0 (by decide) (by simp) h
  rw [Nat.zero_add] at this
  exact this
end K43
namespace K43
open PySem L2
open PyProof.Rows PySem.Spec
section
variable {t : Int} {S : Rws} {F : Flw}
theorem cyA_in (g : Good t S) (h : FOk t S F) {c : List Str} (hc : c ∈ cyA S F) : (∃ n ∈ S.map (·.1), Cyc (nxt F) (S.map (·.1)) n c) ∧ (∀ n ∈ c, n ∈ S.map (·.1)) ∧ c.length ≤ 6 ∧ 1 ≤ c.length := by
  unfold cyA cycs at hc
  obtain ⟨n, hn, rfl⟩ := List.mem_map.mp hc
  have hn := (List.mem_filter.mp hn).1
  have cy := cy_is (h.pmt g) hn
  have l1 := chn_len cy.ch
  rw [List.length_map] at l1
  have l6 := h.len
  refine ⟨⟨n, hn, cy⟩, cy.ch.sb, by omega, ?_⟩
  exact List.length_pos_of_mem (List.mem_of_getElem? cy.ch.hd)
theorem cyA_len (h : FOk t S F) : (cyA S F).length ≤ 6 := by
  unfold cyA cycs
  rw [List.length_map]
  refine Nat.le_trans (List.length_filter_le _ _) ?_
  rw [List.length_map]
  exact h.len.1
/-- the numbers of registers -/
noncomputable def szs (S : Rws) (t : Int) (F : Flw) : List Int := (cyA S F).map (sizeV S t F)
theorem dvd_sum {f : Str → Int} {t : Int} : ∀ {l : List Str}, (∀ n ∈ l, f n % t = 0) → (l.map f).sum % t = 0
  | [], _ => by simp
  | n :: l, h => by
    rw [List.map_cons, List.sum_cons, Int.add_emod, h n List.mem_cons_self, dvd_sum fun m hm => h m (List.mem_cons_of_mem _ hm)]
    simp
theorem sum_add {f g : Str → Int} : ∀ {l : List Str}, (l.map fun n => f n + g n).sum = (l.map f).sum + (l.map g).sum
  | [] => rfl
  | n :: l => by
    rw [List.map_cons, List.map_cons, List.map_cons, List.sum_cons, List.sum_cons, List.sum_cons, sum_add (l := l)]
    omega
theorem perm_sum {l m : List Int} (p : l.Perm m) : l.sum = m.sum := by
  induction p with
  | nil => rfl
  | cons x _ ih => rw [List.sum_cons, List.sum_cons, ih]
  | swap x y l => rw [List.sum_cons, List.sum_cons, List.sum_cons, List.sum_cons]; omega
  | trans _ _ a b => rw [a, b]
theorem rot_map {nx : Str → Str} {n : Str} : ∀ (r : List Str) (a : Str), (∀ i x y, (a :: r)[i]? = some x → (a :: r)[i + 1]? = some y → y = nx x) → (∀ l, (a :: r).getLast? = some l → nx l = n) → (a :: r).map nx = r ++ [n]
  | [], a, _, h => by
    rw [List.map_cons, h a rfl]
    rfl
  | b :: r, a, st, h => by
    have e := st 0 a b rfl rfl
    rw [List.map_cons, rot_map r b (fun i x y h1 h2 => st (i + 1) x y (by simpa using h1) (by simpa using h2)) (fun l hl => h l (by rw [List.getLast?_cons_cons]; exact hl)), ← e]
    rfl
theorem cyc_perm {nx : Str → Str} {N : List Str} {n : Str} {c : List Str} (h : Cyc nx N n c) : (c.map nx).Perm c := by
  obtain ⟨ch, la⟩ := h
  cases c with
  | nil => exact .nil
  | cons a r =>
    have : a = n := Option.some.inj ch.hd
    subst this
    rw [rot_map r a ch.st la]
    exact List.perm_append_singleton _ _
theorem sz_bd (g : Good t S) (h : FOk t S F) {c : List Str} (hc : c ∈ cyA S F) : 1 ≤ sizeV S t F c ∧ sizeV S t F c ≤ 72 := by
  obtain ⟨⟨n, hn, cy⟩, sb, l6, l1⟩ := cyA_in g h hc
  have b := size_bd g h sb l6
  refine ⟨?_, b.2.2.1⟩
  have t1 := g.t1
  have e : (c.map (lw S F)).sum = (c.map fun n => (spn S n).2 + (fol F n).2 - (spn S (nxt F n)).1).sum := by
    have e1 : (c.map (lw S F)).sum = (c.map fun n => (spn S n).2 + (fol F n).2).sum + (c.map fun n => - (spn S n).1).sum := by
      rw [← sum_add]
      refine congrArg List.sum (List.map_congr_left fun n _ => ?_)
      unfold lw
      omega
    have e2 : (c.map fun n => (spn S n).2 + (fol F n).2 - (spn S (nxt F n)).1).sum = (c.map fun n => (spn S n).2 + (fol F n).2).sum + (c.map fun n => - (spn S (nxt F n)).1).sum := by
      rw [← sum_add]
      refine congrArg List.sum (List.map_congr_left fun n _ => ?_)
      omega
    have e3 : (c.map fun n => - (spn S (nxt F n)).1).sum = (c.map fun n => - (spn S n).1).sum := by
      refine perm_sum ?_
      have := (cyc_perm cy).map fun n => - (spn S n).1
      rw [List.map_map] at this
      exact this
    rw [e1, e2, e3]
  have d : (c.map (lw S F)).sum % t = 0 := by
    rw [e]
    exact dvd_sum fun n hn => h.dv _ (h.in g (sb n hn))
  have p : 1 ≤ (c.map (lw S F)).sum := by
    cases c with
    | nil => simp at l1
    | cons a r =>
      rw [List.map_cons, List.sum_cons]
      have h1 := (lw_bd g h (sb a List.mem_cons_self)).1
      have h2 := (sum_bd (f := lw S F) (c := 12 * t) (ns := r) fun m hm => by have := lw_bd g h (sb m (List.mem_cons_of_mem _ hm)); omega).1
      omega
  unfold sizeV
  have := Int.mul_ediv_add_emod (c.map (lw S F)).sum t
  rw [d] at this
  rcases Int.lt_or_le ((c.map (lw S F)).sum / t) 1 with q | q
  · have : t * ((c.map (lw S F)).sum / t) ≤ t * 0 := Int.mul_le_mul_of_nonneg_left (by omega) (by omega)
    omega
  · exact q
theorem szs_bd (g : Good t S) (h : FOk t S F) : ∀ z ∈ szs S t F, 1 ≤ z ∧ z ≤ 72 := fun z hz => by
  obtain ⟨c, hc, rfl⟩ := List.mem_map.mp hz
  exact sz_bd g h hc
theorem szs_len (h : FOk t S F) : (szs S t F).length ≤ 6 := by
  unfold szs
  rw [List.length_map]
  exact cyA_len h
/-- their least common multiple -/
noncomputable def cpy (S : Rws) (t : Int) (F : Flw) (i : Nat) : Nat := LC (((szs S t F).take i).map Int.toNat)
theorem cpy_bd (g : Good t S) (h : FOk t S F) (i : Nat) : cpy S t F i < 2 ^ 120 := by
  have l := szs_len h
  have b := LC_pos (b := 72) (by decide) (ms := ((szs S t F).take i).map Int.toNat) fun n hn => by
    obtain ⟨z, hz, rfl⟩ := List.mem_map.mp hn
    have := szs_bd g h z (List.mem_of_mem_take hz)
    omega
  refine Nat.lt_of_le_of_lt b.2 (Nat.lt_of_le_of_lt (show _ ≤ 72 ^ 6 from Nat.pow_le_pow_right (by decide) ?_) (by decide))
  rw [List.length_map, List.length_take]
  omega
end
end K43
namespace K43
open PySem L2
open PyProof.Rows PySem.Spec
section
variable {P : Program} {w : World} {K : PySem.W.Frag}
                                                      {mg : Str → Option Value} {base : Heap}
def strOf : V → Str
  | .str n => n
  | _ => Str.empty
theorem strOf_map (c : List Str) : (c.map V.str).map strOf = c := by
  rw [List.map_map]
  exact List.map_id' _
noncomputable def szAt (H : Hp) (S : Rws) (t : Int) (F : Flw) (v : V) : V :=
  match v with
  | .ref a => match H a with
    | some (.tup xs) => .int (sizeV S t F (xs.map strOf))
    | _ => .non
  | _ => .non
theorem szAt_of {H : Hp} {S : Rws} {t : Int} {F : Flw} {a : Addr} {c : List Str} (h : H a = some (.tup (c.map V.str))) : szAt H S t F (.ref a) = .int (sizeV S t F c) := by
  unfold szAt
  simp only [h]
  rw [strOf_map]
theorem szAt_all {H : Hp} {S : Rws} {t : Int} {F : Flw} {as : List Addr} {cs : List (List Str)} (h : CTs H as cs) : (as.map V.ref).map (szAt H S t F) = (cs.map (sizeV S t F)).map V.int := by
  induction h with
  | nil => rfl
  | cons h _ ih => rw [List.map_cons, List.map_cons, List.map_cons, List.map_cons, ih, szAt_of h]
def sp_sizes (K : PySem.W.Frag) (C D : Addr) : Sp := fun vs H Q _ => ∃ (q p : Addr) (t : Int) (S : Rws) (F : Flw), vs = [.ref q] ∧ WgAt H C D q p t S F ∧ ∀ a H', Same H H' → H' a = some (.tup ((szs S t F).map V.int)) → Q (.ref a) H'
theorem ok_sizes (T : T K mg) (U : UX K mg) : FnOk P w K mg base CX0 4 U.pz.g U.pz.d ["self"] (sp_sizes K U.C U.D) := by
  have G_size_of : FnOk P w K mg base CX0 3 T.f_size_of T.d_size_of ["spans", "follows", "names"] (sp_size_of K U.C) := ok_size_of T U
  refine U.pz.F.ok sc_Wiring_sizes (fun vs H Q E h => ?_) (fun cdv A outer s H vs Q E hr h => ?_)
  · obtain ⟨q, p, t, S, F, rfl, _⟩ := h
    rfl
  · obtain ⟨q, p, t, S, F, rfl, wg, k⟩ := h
    have hu := hu_of hr
    have hr_size_of : Room 3 _ := hr.mono (by decide)
    obtain ⟨sp, fok, dx, fd, ca, L, as, h1, h2, h3, h4, h5⟩ := id wg
    obtain ⟨g, so, _⟩ := id sp
    refine ⟨_, (pss_one (ps_ret (pe_callTy call_tuple_of (by rfl) T.z_tuple (by decide +kernel) (pa_cons (pe_lc (own := [("cycle", 1)]) (g := gName 1) rfl sc_Wiring_sizes.nd (pi_tup (pe_fld (pv 0) rfl)) (blkOk_by (N := ["self", "cycle"]) (sc := defScope s_Wiring_sizes) (by decide +kernel)) (fun _ _ _ _ _ => (pg_name (i := 1) sc_Wiring_sizes.nd rfl (Or.inl rfl))) (fun _ _ _ _ _ => pts_nil) (fun _ _ _ _ _ => (pe_call G_size_of hr_size_of rfl T.m_size_of T.F_size_of.kp T.b_size_of .nil pass0 (pa_cons (pe_fldK (K := K) rfl (pv 0) rfl) (pa_cons (pe_fldK (K := K) rfl (pv 0) rfl) (pa_cons (pv 1) pa_nil)))))) pa_nil)))), ?_⟩
    have sqc : SqT K H ca (as.map V.ref) := SqT.of h4
    have la : as.length ≤ 6 := by rw [h5.len]; exact cyA_len fok
    refine ⟨_, rfl, q, U.D, dx, _, .ref ca, rfl, h1, U.clD, U.k3, rfl, ca, rfl, ⟨_, sqc⟩, fun D hD => ?_⟩
    refine lc_map (walk_tup (K := K) (a := ca) (xs := as.map V.ref)) (szAt H S t F) (fun H' s => Same.seqT s sqc) (by rw [List.length_map]; omega) hD ?_ ?_
    · intro x Ha hx Sa C N kC
      obtain ⟨a, ha, rfl⟩ := List.mem_map.mp hx
      obtain ⟨c, hc, ec⟩ := h5.at a ha
      obtain ⟨_, sb, l6, _⟩ := cyA_in g fok hc
      refine ⟨rfl, ?_⟩
      unfold tYes
      dsimp only
      rw [if_pos rfl]
      rw [szAt_of ec, ← ord_size g sb] at kC
      have h1a := Sa _ _ h1
      exact ⟨_, rfl, q, U.D, dx, _, .ref p, rfl, h1a, U.clD, U.k1, rfl, _, rfl, q, U.D, dx, _, .ref fd, rfl, h1a, U.clD, U.k2, rfl, _, rfl, p, fd, a, t, S, L, ordF S F, c, rfl, sp.same Sa, Sa _ _ h2, h3.keep (KT.same Sa), fok.perm (ordF_perm g fok), SqT.of (Sa _ _ ec), l6, sb, kC⟩
    · intro H1 S1 e1
      rw [szAt_all h5] at e1
      refine ⟨D, _, rfl, .inl ⟨SqL.of e1, fun l hl => ?_⟩⟩
      exact k l _ (Same.trans S1 (Same.new hl)) upd_same
def sp_regs (K : PySem.W.Frag) (C D : Addr) : Sp := fun vs H Q _ => ∃ (q p : Addr) (t : Int) (S : Rws) (F : Flw), vs = [.ref q] ∧ WgAt H C D q p t S F ∧ ∀ H', Same H H' → Q (.int (szs S t F).sum) H'
theorem ok_regs (T : T K mg) (U : UX K mg) : FnOk P w K mg base CX0 6 U.pr.g U.pr.d ["self"] (sp_regs K U.C U.D) := by
  have Gz : FnOk P w K mg base CX0 4 U.pz.g U.pz.d ["self"] (sp_sizes K U.C U.D) := ok_sizes T U
  refine U.pr.F.ok sc_Wiring_registers (fun vs H Q E h => ?_) (fun cdv A outer s H vs Q E hr h => ?_)
  · obtain ⟨q, p, t, S, F, rfl, _⟩ := h
    rfl
  · obtain ⟨q, p, t, S, F, rfl, wg, k⟩ := h
    have hu := hu_of hr
    obtain ⟨sp, fok, dx, fd, ca, L, as, h1, h2, h3, h4, h5⟩ := id wg
    refine ⟨_, (pss_one (ps_ret (pe_callB (cr_sumT rfl) (by rfl) T.z_sum (by decide +kernel) (pa_cons (pe_prop (pv 0) U.clD U.pz.pr Gz (hr.mono (by decide)) U.pz.b .nil pass0 rfl) pa_nil)))), ?_⟩
    exact ⟨_, rfl, q, dx, _, rfl, h1, q, p, t, S, F, rfl, wg, fun a H' s e => ⟨a, _, rfl, SqT.of e, k _ s⟩⟩
def sp_copies (K : PySem.W.Frag) (C D : Addr) : Sp := fun vs H Q _ => ∃ (q p : Addr) (t : Int) (S : Rws) (F : Flw), vs = [.ref q] ∧ WgAt H C D q p t S F ∧ ∀ H', Same H H' → Q (.int (cpy S t F (szs S t F).length : Nat)) H'
theorem ok_copies (T : T K mg) (U : UX K mg) : FnOk P w K mg base CX0 6 U.pp.g U.pp.d ["self"] (sp_copies K U.C U.D) := by
  have Gz : FnOk P w K mg base CX0 4 U.pz.g U.pz.d ["self"] (sp_sizes K U.C U.D) := ok_sizes T U
  refine U.pp.F.ok sc_Wiring_copies (fun vs H Q E h => ?_) (fun cdv A outer s H vs Q E hr h => ?_)
  · obtain ⟨q, p, t, S, F, rfl, _⟩ := h
    rfl
  · obtain ⟨q, p, t, S, F, rfl, wg, k⟩ := h
    have hu := hu_of hr
    obtain ⟨sp, fok, dx, fd, ca, L, as, h1, h2, h3, h4, h5⟩ := id wg
    obtain ⟨g, so, _⟩ := id sp
    refine ⟨_, PSs.nox (pss_cons (ps_set (i := 1) sc_Wiring_copies.nd rfl (Or.inl rfl) pe_int)
      (pss_cons (ps_for PassesOwn.never rfl (pi_tup (pe_prop (pv 0) U.clD U.pz.pr Gz (hr.mono (by decide)) U.pz.b .nil pass0 rfl)) (pg_name (i := 2) sc_Wiring_copies.nd rfl (Or.inl rfl))
      (pss_one (ps_set (i := 1) sc_Wiring_copies.nd rfl (Or.inl rfl) (pe_callBfun cr_lcm rfl T.x_lcm (pa_cons (pv 1) (pa_cons (pv 2) pa_nil))))))
      (pss_one (ps_ret (pv 1))))), ?_⟩
    refine ⟨_, rfl, q, dx, _, rfl, h1, q, p, t, S, F, rfl, wg, fun a H1 S1 e1 => ?_⟩
    refine ⟨a, rfl, ⟨_, SqT.of e1⟩, ?_⟩
    refine for_it (walk_tup (K := K) (a := a) (xs := (szs S t F).map V.int)) (fun i σ H' => H' = H1 ∧ ∃ v2, σ = [some (.ref q), some (.int (cpy S t F i : Nat)), v2]) ⟨rfl, none, rfl⟩ (fun i σ H' _ h => by rw [h.1]; exact SqT.of e1) ?_ ?_
    · rintro i x σ Ha Hb hi ⟨rfl, v2, rfl⟩ ⟨rfl, hx⟩
      rw [List.getElem?_map] at hx
      cases e2 : (szs S t F)[i]? with
      | none => rw [e2] at hx; cases hx
      | some z =>
        rw [e2] at hx
        cases hx
        have zb := szs_bd g fok z (List.mem_of_getElem? e2)
        refine ⟨_, rfl, _, rfl, cpy S t F i, z.toNat, by rw [Int.toNat_of_nonneg (by omega)], cpy_bd g fok i, by omega, ?_⟩
        refine ⟨rfl, some (.int z), ?_⟩
        have : cpy S t F (i + 1) = (cpy S t F i).lcm z.toNat := by
          unfold cpy
          rw [List.take_add_one, e2, List.map_append]
          exact LC_snoc _ _
        rw [this]
        rfl
    · rintro σ Ha ⟨rfl, v2, rfl⟩
      rw [List.length_map]
      exact ⟨_, rfl, k _ S1⟩
def sp_wget (C D : Addr) : Sp := fun vs H Q _ => ∃ (q p : Addr) (t : Int) (S : Rws) (F : Flw) (n : Str), vs = [.ref q, .str n] ∧ WgAt H C D q p t S F ∧ n ∈ S.map (·.1) ∧ ∀ a, FAt H a (fol F n).1 (fol F n).2 → Q (.ref a) H
theorem ok_wget (T : T K mg) (U : UX K mg) : FnOk P w K mg base CX0 3 U.wg.f U.wg.d ["self", "name"] (sp_wget U.C U.D) := by
  have Gn : FnOk P w K mg base CX0 1 U.pn.g U.pn.d ["self"] (getSp U.C "_names") := ok_get U.cl U.pn sc_Spans_names U.n3 ⟨_, _, _, rfl⟩
  refine U.wg.F.ok sc_Wiring_getitem (fun vs H Q E h => ?_) (fun cdv A outer s H vs Q E hr h => ?_)
  · obtain ⟨q, p, t, S, F, n, rfl, _⟩ := h
    rfl
  · obtain ⟨q, p, t, S, F, n, rfl, wg, hn, k⟩ := h
    have hu := hu_of hr
    obtain ⟨sp, fok, dx, fd, ca, L, as, h1, h2, h3, h4, h5⟩ := id wg
    obtain ⟨g, so, dx2, rd, nm, lv, cr, L0, p1, p2, p3, p4⟩ := id sp
    refine ⟨_, (pss_cons (ps_if (pt_cmpR op_notIn_seq (pv 1) (pe_prop (pe_fld (pv 0) rfl) U.cl U.pn.pr Gn (hr.mono (by decide)) U.pn.b .nil pass0 rfl) rfl)
      (pss_one ps_never)
      pss_nil)
      (pss_one (ps_ret (pe_dget (by exact hu) (pe_fld (pv 0) rfl) (pv 1) (fun _ _ => rfl))))), ?_⟩
    refine ⟨_, rfl, _, rfl, q, U.D, dx, _, .ref p, rfl, h1, U.clD, U.k1, rfl, p, dx2, _, rfl, p1, p, dx2, _, .ref nm, rfl, p1, rfl, nm, _, rfl, .inr (SqT.of p4), rfl, flat_strs _, _, rfl, ?_⟩
    rw [inV_strs, decide_eq_true hn]
    refine iteF ?_
    obtain ⟨a, va, ha, _⟩ := h3.get (n := n) (by rw [ordF_names]; exact hn)
    rw [ord_fol g hn] at ha
    have dg : DGet H fd (.str n) (some (.ref a)) := by
      have := DGet.k (k := Sum.inr n) h2
      rw [va] at this
      exact this
    exact ⟨_, rfl, q, U.D, dx, _, .ref fd, rfl, h1, U.clD, U.k2, rfl, _, rfl, fd, _, rfl, dg, k a ha⟩
/-- the rounds from a value to the one that follows -/
def rnd (S : Rws) (t : Int) (F : Flw) (n : Str) : Int := ((spn S n).2 + (fol F n).2 - (spn S (nxt F n)).1) / t
def sp_after (C D : Addr) : Sp := fun vs H Q _ => ∃ (q p : Addr) (t : Int) (S : Rws) (F : Flw) (n : Str) (i : Int), vs = [.ref q, .str n, .int i] ∧ WgAt H C D q p t S F ∧ n ∈ S.map (·.1) ∧ (-1000000000000 < i ∧ i < 1000000000000) ∧ ∀ a H', Same H H' → H' a = some (.tup [.str (nxt F n), .int (i + rnd S t F n)]) → Q (.ref a) H'
theorem ok_after (T : T K mg) (U : UX K mg) : FnOk P w K mg base CX0 5 U.wa.f U.wa.d ["self", "name", "turn"] (sp_after U.C U.D) := by
  have G_check_integer : FnOk P w K mg base CX0 2 T.f_check_integer T.d_check_integer ["value"] (sp_check_integer K) := ok_check_integer T
  have Gg : FnOk P w K mg base CX0 1 U.mi.f U.mi.d ["self", "name"] (sp_item K U.C) := ok_item T U
  have Gi : FnOk P w K mg base CX0 1 U.pi.g U.pi.d ["self"] (getSp U.C "_interval") := ok_get U.cl U.pi sc_Spans_interval U.n1 ⟨_, _, _, rfl⟩
  have Gw : FnOk P w K mg base CX0 3 U.wg.f U.wg.d ["self", "name"] (sp_wget U.C U.D) := ok_wget T U
  refine U.wa.F.ok sc_Wiring_after (fun vs H Q E h => ?_) (fun cdv A outer s H vs Q E hr h => ?_)
  · obtain ⟨q, p, t, S, F, n, i, rfl, _⟩ := h
    rfl
  · obtain ⟨q, p, t, S, F, n, i, rfl, wg, hn, hi, k⟩ := h
    have hu := hu_of hr
    have hr_check_integer : Room 2 _ := hr.mono (by decide)
    obtain ⟨sp, fok, dx, fd, ca, L, as, h1, h2, h3, h4, h5⟩ := id wg
    obtain ⟨g, so, dx2, rd, nm, lv, cr, L0, p1, p2, p3, p4⟩ := id sp
    refine ⟨_, (pss_cons (ps_asg (OW.pe_ownItem (pv 0) (pv 1) Gw ⟨U.wg.m.at_, U.wg.m.fn⟩ U.fnW (hr.mono (by decide)) U.wg.b pass0 (fun _ _ => rfl)) (pg_tup rfl (pgs_cons (pg_name (i := 3) sc_Wiring_after.nd rfl (Or.inl rfl)) (pgs_cons (pg_name (i := 4) sc_Wiring_after.nd rfl (Or.inl rfl)) pgs_nil))))
      (pss_cons (ps_expr (pe_call G_check_integer hr_check_integer rfl T.m_check_integer T.F_check_integer.kp T.b_check_integer .nil pass0 (pa_cons (pv 2) pa_nil)))
      (pss_cons (ps_set (i := 5) sc_Wiring_after.nd rfl (Or.inl rfl) (pe_op op_sub (pe_op op_add (pe_ix ix_seq (OW.pe_ownItem (pe_fld (pv 0) rfl) (pv 1) Gg ⟨U.mi.m.at_, U.mi.m.fn⟩ U.fn (hr.mono (by decide)) U.mi.b pass0 (fun _ _ => rfl)) pe_int (fun _ _ => rfl)) (pv 4)) (pe_ix ix_seq (OW.pe_ownItem (pe_fld (pv 0) rfl) (pv 3) Gg ⟨U.mi.m.at_, U.mi.m.fn⟩ U.fn (hr.mono (by decide)) U.mi.b pass0 (fun _ _ => rfl)) pe_int (fun _ _ => rfl))))
      (pss_one (ps_ret (pe_tup (pa_cons (pv 3) (pa_cons (pe_op op_add (pv 2) (pe_op op_fdivW (pv 5) (pe_prop (pe_fld (pv 0) rfl) U.cl U.pi.pr Gi (hr.mono (by decide)) U.pi.b .nil pass0 rfl))) pa_nil)))))))), ?_⟩
    refine ⟨_, rfl, _, rfl, q, dx, _, rfl, h1, q, p, t, S, F, n, rfl, wg, hn, fun a ha => ?_⟩
    refine ⟨a, _, rfl, SqT.of ha, rfl, _, _, rfl, _, _, rfl, rfl, ?_⟩
    refine ⟨_, rfl, i, rfl, hi, ?_⟩
    have hm : nxt F n ∈ S.map (·.1) := fok.to (fok.in g hn)
    refine ⟨_, rfl, q, U.D, dx, _, .ref p, rfl, h1, U.clD, U.k1, rfl, _, rfl, p, dx2, _, rfl, p1, p, t, S, n, _, _, rfl, sp, spn_in g.nd hn, fun a1 e1 => ?_⟩
    refine .inr (.inl ⟨_, _, _, _, rfl, rfl, SqT.of e1, rfl, _, rfl, _, _, rfl, rfl, ?_⟩)
    refine ⟨_, rfl, q, U.D, dx, _, .ref p, rfl, h1, U.clD, U.k1, rfl, _, rfl, p, dx2, _, rfl, p1, p, t, S, nxt F n, _, _, rfl, sp, spn_in g.nd hm, fun a2 e2 => ?_⟩
    refine .inr (.inl ⟨_, _, _, _, rfl, rfl, SqT.of e2, rfl, _, _, rfl, rfl, ?_⟩)
    have t1 := g.t1
    have t2 := g.t2
    refine ⟨_, rfl, _, rfl, _, rfl, _, rfl, q, U.D, dx, _, .ref p, rfl, h1, U.clD, U.k1, rfl, p, dx2, _, rfl, p1, p, dx2, _, .int t, rfl, p1, rfl, _, _, rfl, rfl, ⟨by omega, Nat.lt_of_le_of_lt (Nat.log2_le_self _) (by omega)⟩, _, _, rfl, rfl, by show 2 ≤ sizeLine; decide, fun r hr => ?_⟩
    exact k r _ (Same.new hr) upd_same
def sp_wlen (C D : Addr) : Sp := fun vs H Q _ => ∃ (q p : Addr) (t : Int) (S : Rws) (F : Flw), vs = [.ref q] ∧ WgAt H C D q p t S F ∧ Q (.int (cyA S F).length) H
theorem ok_wlen (T : T K mg) (U : UX K mg) : FnOk P w K mg base CX0 1 U.wl.f U.wl.d ["self"] (sp_wlen U.C U.D) := by
  refine U.wl.F.ok sc_Wiring_len (fun vs H Q E h => ?_) (fun cdv A outer s H vs Q E hr h => ?_)
  · obtain ⟨q, p, t, S, F, rfl, _⟩ := h
    rfl
  · obtain ⟨q, p, t, S, F, rfl, wg, k⟩ := h
    have hu := hu_of hr
    obtain ⟨sp, fok, dx, fd, ca, L, as, h1, h2, h3, h4, h5⟩ := id wg
    refine ⟨_, (pss_one (ps_ret (pe_callB call_len (by rfl) T.z_len (by decide +kernel) (pa_cons (pe_fld (pv 0) rfl) pa_nil)))), ?_⟩
    refine ⟨_, rfl, q, U.D, dx, _, .ref ca, rfl, h1, U.clD, U.k3, rfl, _, _, rfl, .inr ⟨_, SqT.of h4, rfl⟩, ?_⟩
    rw [List.length_map, h5.len]
    exact k
def sp_wfol (C D : Addr) : Sp := fun vs H Q _ => ∃ (q p : Addr) (t : Int) (S : Rws) (F : Flw), vs = [.ref q] ∧ WgAt H C D q p t S F ∧ ∀ a L, H a = none → FTs H L (ordF S F) → Q (.ref a) (upd H a (.dK (Kvs L)))
theorem ok_wfol (T : T K mg) (U : UX K mg) : FnOk P w K mg base CX0 1 U.pf.g U.pf.d ["self"] (sp_wfol U.C U.D) := by
  refine U.pf.F.ok sc_Wiring_follows (fun vs H Q E h => ?_) (fun cdv A outer s H vs Q E hr h => ?_)
  · obtain ⟨q, p, t, S, F, rfl, _⟩ := h
    rfl
  · obtain ⟨q, p, t, S, F, rfl, wg, k⟩ := h
    have hu := hu_of hr
    obtain ⟨sp, fok, dx, fd, ca, L, as, h1, h2, h3, h4, h5⟩ := id wg
    refine ⟨_, (pss_one (ps_ret (pe_callTy call_dictD (by rfl) T.z_dict (by decide +kernel) (pa_cons (pe_fld (pv 0) rfl) pa_nil)))), ?_⟩
    exact ⟨_, rfl, q, U.D, dx, _, .ref fd, rfl, h1, U.clD, U.k2, rfl, fd, Kvs L, rfl, .inl h2, fun a ha => k a L ha h3⟩
end
end K43
namespace K43
open PySem L2
open PyProof.Rows PySem.Spec
def flowD (r : Str × Str × Int) : PyData × PyData := (.str r.1, .tuple [.str r.2.1, .int r.2.2])
def flowsD (F : Flw) : PyData := .dict (F.map flowD)
theorem fat_ds {K : PySem.W.Frag} {H : Hp} {a : Addr} {m : Str} {w : Int} (h : FAt H a m w) : RL.DS K H (.ref a) (.tuple [.str m, .int w]) := .tup (SqT.of h) (.cons (.str _) (.cons (.int _) .nil))
theorem FTs.dsk {K : PySem.W.Frag} {H : Hp} : ∀ {L : List (Str × Addr)} {F : Flw}, FTs H L F → RL.DSk K H (Kvs L) (F.map flowD)
  | _, _, .nil => .nil
  | _, _, .cons h t => .cons (k := Sum.inr _) (fat_ds h) (FTs.dsk t)
theorem eqv_flow (p q : Str × Int) : PyData.eqv (.tuple [.str p.1, .int p.2]) (.tuple [.str q.1, .int q.2]) = decide (p = q) := by
  obtain ⟨a, b⟩ := p
  obtain ⟨c, d⟩ := q
  simp [PyData.eqv, PyData.eqvAll]
  rw [Bool.eq_iff_iff]
  simp
theorem allE_flows : ∀ {S S2 : Flw}, S.map (·.1) = S2.map (·.1) → RL.allE (S.map flowD) (S2.map flowD) = decide (S = S2)
  | [], [], _ => by simp [RL.allE]
  | [], _ :: _, h => by cases h
  | _ :: _, [], h => by cases h
  | (n, p) :: S, (m, q) :: S2, h => by
    obtain ⟨h1, h2⟩ := List.cons.inj h
    obtain rfl : n = m := h1
    show (PyData.eqv (.tuple [.str p.1, .int p.2]) (.tuple [.str q.1, .int q.2]) && RL.allE (S.map flowD) (S2.map flowD)) = _
    rw [eqv_flow, allE_flows h2, Bool.eq_iff_iff]
    simp
theorem plain_flows (S : Flw) : PyData.plainAll ((S.map flowD).map (·.2)) = true := by
  induction S with
  | nil => simp [PyData.plainAll]
  | cons r S ih => simpa [PyData.plainAll, PyData.plain, flowD] using ih
theorem depth_flows (S : Flw) : PyData.depthAll ((S.map flowD).map (·.2)) ≤ 1 := by
  induction S with
  | nil => simp [PyData.depthAll]
  | cons r S ih =>
    simp [PyData.depthAll, PyData.depth, flowD] at ih ⊢
    exact Nat.max_le.mpr ⟨Nat.le_refl _, ih⟩
theorem int_len3 {i : Int} (h0 : 0 ≤ i) (h1 : i ≤ 500) : (toString i : Str).length ≤ 4 ∧ i.natAbs.log2 < 1920 := by
  have key : ∀ k : Fin 501, (toString (k.1 : Int) : Str).length ≤ 4 ∧ (k.1 : Int).natAbs.log2 < 1920 := by decide +kernel
  have := key ⟨i.toNat, by omega⟩
  rwa [show ((i.toNat : Nat) : Int) = i from by omega] at this
def tellW (r : Int) (n : Nat) : Str := Str.ofString "wiring of " ++ toString r ++ Str.ofString " registers in " ++ toString (n : Int) ++ Str.ofString " cycles"
theorem szs_sum {t : Int} {S : Rws} {F : Flw} (g : Good t S) (h : FOk t S F) : 0 ≤ (szs S t F).sum ∧ (szs S t F).sum ≤ 432 := by
  have key : ∀ l : List Int, (∀ z ∈ l, 1 ≤ z ∧ z ≤ 72) → 0 ≤ l.sum ∧ l.sum ≤ 72 * l.length := by
    intro l
    induction l with
    | nil => intro _; exact ⟨Int.le_refl _, Int.le_refl _⟩
    | cons z l ih =>
      intro h
      have a := h z List.mem_cons_self
      have b := ih fun y hy => h y (List.mem_cons_of_mem _ hy)
      rw [List.sum_cons, List.length_cons]
      omega
  have := key _ (szs_bd g h)
  have := szs_len h (t := t)
  omega
section
variable {P : Program} {w : World} {K : PySem.W.Frag}
                                                      {mg : Str → Option Value} {base : Heap}
def sp_wstr (C D : Addr) : Sp := fun vs H Q _ => ∃ (q p : Addr) (t : Int) (S : Rws) (F : Flw), vs = [.ref q] ∧ WgAt H C D q p t S F ∧ ∀ H', Same H H' → Q (.str (tellW (szs S t F).sum (cyA S F).length)) H'
theorem ok_wstr (T : T K mg) (U : UX K mg) : FnOk P w K mg base CX0 8 U.ws.f U.ws.d ["self"] (sp_wstr U.C U.D) := by
  have Gr : FnOk P w K mg base CX0 6 U.pr.g U.pr.d ["self"] (sp_regs K U.C U.D) := ok_regs T U
  refine U.ws.F.ok sc_Wiring_str (fun vs H Q E h => ?_) (fun cdv A outer s H vs Q E hr h => ?_)
  · obtain ⟨q, p, t, S, F, rfl, _⟩ := h
    rfl
  · obtain ⟨q, p, t, S, F, rfl, wg, k⟩ := h
    have hu := hu_of hr
    obtain ⟨sp, fok, dx, fd, ca, L, as, h1, h2, h3, h4, h5⟩ := id wg
    obtain ⟨g, so, _⟩ := id sp
    refine ⟨_, (pss_one (ps_ret (pe_J (.cons pe_str (.cons (pe_fmt (pe_prop (pv 0) U.clD U.pr.pr Gr (hr.mono (by decide)) U.pr.b .nil pass0 rfl)) (.cons pe_str (.cons (pe_fmt (pe_callB call_len (by rfl) T.z_len (by decide +kernel) (pa_cons (pe_fld (pv 0) rfl) pa_nil))) (.cons pe_str .nil)))))))), ?_⟩
    have sb := szs_sum g fok
    have cb := cyA_len fok
    have il := int_len3 sb.1 (by omega)
    have it := int_len (i := ((cyA S F).length : Int)) (by omega) (by omega)
    have b0 : Str.empty.length = 0 := rfl
    have b1 : (Str.ofString "wiring of ").length = 10 := by decide +kernel
    have b2 : (Str.ofString " registers in ").length = 14 := by decide +kernel
    have b3 : (Str.ofString " cycles").length = 7 := by decide +kernel
    refine ⟨_, rfl, by rw [len_app, b0, b1, sizeLine_eq]; omega, _, rfl, q, dx, _, rfl, h1, q, p, t, S, F, rfl, wg, fun H1 S1 => ?_⟩
    refine .inr ⟨_, rfl, il.2, _, rfl, by rw [len_app, len_app, b0, b1, sizeLine_eq]; omega, _, rfl, by rw [len_app, len_app, len_app, b0, b1, b2, sizeLine_eq]; omega, ?_⟩
    refine ⟨_, rfl, q, U.D, dx, _, .ref ca, rfl, S1 _ _ h1, U.clD, U.k3, rfl, _, _, rfl, .inr ⟨_, SqT.of (S1 _ _ h4), rfl⟩, ?_⟩
    rw [List.length_map, h5.len]
    refine .inr ⟨_, rfl, it.2, _, rfl, by rw [len_app, len_app, len_app, len_app, b0, b1, b2, sizeLine_eq]; omega, _, rfl, by rw [len_app, len_app, len_app, len_app, len_app, b0, b1, b2, b3, sizeLine_eq]; omega, ?_⟩
    rw [emp_app]
    exact k _ S1
def sp_weq (C D : Addr) : Sp := fun vs H Q _ => ∃ (q p : Addr) (t : Int) (S : Rws) (F : Flw) (y : V), vs = [.ref q, y] ∧ WgAt H C D q p t S F ∧
  ((∃ (q2 p2 : Addr) (t2 : Int) (S2 : Rws) (F2 : Flw), y = .ref q2 ∧ WgAt H C D q2 p2 t2 S2 F2 ∧ S.map (·.1) = S2.map (·.1) ∧ Q (.bl (decide (t = t2 ∧ S = S2 ∧ ordF S F = ordF S2 F2))) H) ∨
   (∃ a kvs, y = .ref a ∧ H a = some (.dK kvs) ∧ Q (.bl false) H) ∨ (∃ (p2 : Addr) (t2 : Int) (S2 : Rws), y = .ref p2 ∧ SpAt H C p2 t2 S2 ∧ Q (.bl false) H))
theorem ok_weq (T : T K mg) (U : UX K mg) : FnOk P w K mg base CX0 5 U.we.f U.we.d ["self", "other"] (sp_weq U.C U.D) := by
  have Ge : FnOk P w K mg base CX0 3 U.me.f U.me.d ["self", "other"] (sp_eq K U.C) := ok_eq T U
  refine U.we.F.ok sc_Wiring_eq (fun vs H Q E h => ?_) (fun cdv A outer s H vs Q E hr h => ?_)
  · obtain ⟨q, p, t, S, F, y, rfl, _⟩ := h
    rfl
  · obtain ⟨q, p, t, S, F, y, rfl, wg, k⟩ := h
    have hu := hu_of hr
    obtain ⟨sp, fok, dx, fd, ca, L, as, h1, h2, h3, h4, h5⟩ := id wg
    obtain ⟨g, so, dxs, _, _, _, _, _, hp, _⟩ := id sp
    refine ⟨_, (pss_one (ps_ret (pe_and (pe_callB call_isi (by rfl) T.z_isinstance (by decide +kernel) (pa_cons (pv 1) (pa_cons (pe_glob (v := V.ref U.D) rfl U.mD rfl) pa_nil))) (pe_and (pe_cmpR (OW.op_ownEq Ge ⟨U.me.m.at_, U.me.m.fn⟩ (hr.mono (by decide)) U.me.b pass0) (pe_fld (pv 0) rfl) (pe_fld (pv 1) rfl) (nomark _)) (pe_one (pe_cmpR (RL.op_eqDic (un64 hr)) (pe_fld (pv 0) rfl) (pe_fld (pv 1) rfl) (nomark _))))))), ?_⟩
    rcases k with ⟨q2, p2, t2, S2, F2, rfl, wg2, en, k⟩ | ⟨a, kvs, rfl, ha, k⟩ | ⟨p2, t2, S2, rfl, sp2, k⟩
    · obtain ⟨sp2, fok2, dx2, fd2, ca2, L2, as2, h1', h2', h3', h4', h5'⟩ := id wg2
      obtain ⟨g2, so2, _⟩ := id sp2
      refine ⟨_, rfl, _, _, _, _, true, rfl, .own _, .base (.ins h1' U.clD U.caD U.cg U.ct U.moD), by unfold PySem.W.kitOne; rw [if_pos (beq_self_eq_true _)], ?_⟩
      refine ⟨_, rfl, iteT ?_⟩
      refine ⟨_, rfl, q, U.D, dx, _, .ref p, rfl, h1, U.clD, U.k1, rfl, _, rfl, q2, U.D, dx2, _, .ref p2, rfl, h1', U.clD, U.k1, rfl, ?_⟩
      refine ⟨p, _, _, .ref U.C, rfl, hp, sp2.tyd, self_nf, p, t, S, p2, t2, S2, rfl, sp, sp2, fun _ => en, _, rfl, ?_⟩
      by_cases c : t = t2 ∧ S = S2
      · obtain ⟨c1, c2⟩ := c
        rw [decide_eq_true c1, decide_eq_true c2]
        refine iteT ?_
        refine ⟨_, rfl, q, U.D, dx, _, .ref fd, rfl, h1, U.clD, U.k2, rfl, _, rfl, q2, U.D, dx2, _, .ref fd2, rfl, h1', U.clD, U.k2, rfl, fd, fd2, Kvs L, Kvs L2, (ordF S F).map flowD, (ordF S2 F2).map flowD, rfl, rfl, h2, h2', h3.dsk, h3'.dsk, ?_, ?_, plain_flows _, plain_flows _, Nat.le_trans (depth_flows _) (by decide), ?_⟩
        · rw [kvs_keys, kvs_keys, h3.names, h3'.names, ordF_names, ordF_names, en]
        · exact valV_self (by rw [h3'.names, ordF_names]; exact g2.nd)
        · rw [allE_flows (by rw [ordF_names, ordF_names, en])]
          have : decide (t = t2 ∧ S = S2 ∧ ordF S F = ordF S2 F2) = decide (ordF S F = ordF S2 F2) := by
            rw [Bool.eq_iff_iff, decide_eq_true_eq, decide_eq_true_eq]
            exact ⟨fun h => h.2.2, fun h => ⟨c1, c2, h⟩⟩
          rw [this] at k
          exact k
      · rw [show (decide (t = t2) && decide (S = S2)) = false by
          rw [← Bool.not_eq_true, Bool.and_eq_true, decide_eq_true_eq, decide_eq_true_eq]; exact c]
        refine iteF ?_
        rw [decide_eq_false (fun h => c ⟨h.1, h.2.1⟩)] at k
        exact k
    · refine ⟨_, rfl, _, _, _, _, false, rfl, .own _, .base (.dK ha), U.tdD.2, ?_⟩
      exact ⟨_, rfl, iteF k⟩
    · obtain ⟨_, _, dx2, _, _, _, _, _, e1, _⟩ := id sp2
      refine ⟨_, rfl, _, _, _, _, false, rfl, .own _, .base (.ins e1 U.cl U.ca U.cg U.ct U.mo), U.tsD.2, ?_⟩
      exact ⟨_, rfl, iteF k⟩
end
end K43
namespace K43
open PySem L2
open PyProof.Rows PySem.Spec
theorem minD_strs (x : Str) : ∀ xs : List Str, ∃ m ∈ x :: xs, PySem.W.minD (.str x) (xs.map PyData.str) = .str m ∧ ∀ y ∈ x :: xs, ¬ y.cps.toList < m.cps.toList := by
  intro xs
  unfold PySem.W.minD
  induction xs generalizing x with
  | nil => exact ⟨x, List.mem_singleton.mpr rfl, rfl, fun y hy => by rw [List.mem_singleton.mp hy]; exact List.lt_irrefl _⟩
  | cons k r ih =>
    rw [List.map_cons, List.foldl_cons, PySem.W.dataLt_str]
    by_cases c : k.cps.toList < x.cps.toList
    · rw [decide_eq_true c, if_pos rfl]
      obtain ⟨m, hm, e, h⟩ := ih k
      refine ⟨m, List.mem_cons_of_mem _ hm, e, fun y hy => ?_⟩
      rcases List.mem_cons.mp hy with rfl | hy
      · intro w
        exact h k List.mem_cons_self (List.lt_trans c w)
      · exact h y hy
    · rw [decide_eq_false c]
      obtain ⟨m, hm, e, h⟩ := ih x
      refine ⟨m, ?_, e, fun y hy => ?_⟩
      · rcases List.mem_cons.mp hm with rfl | hm
        · exact List.mem_cons_self
        · exact List.mem_cons_of_mem _ (List.mem_cons_of_mem _ hm)
      · rcases List.mem_cons.mp hy with rfl | hy
        · exact h y List.mem_cons_self
        · rcases List.mem_cons.mp hy with rfl | hy
          · intro w
            have h1 := h x List.mem_cons_self
            exact h1 (List.lt_of_le_of_lt (List.not_lt.mp c) w)
          · exact h y (List.mem_cons_of_mem _ hy)
section
variable {X : Cx}
/-- min(xs) of a list of texts -/
def rMinS (K : PySem.W.Frag) : List V → Hp → VK → Prop := fun vs H Q => ∃ (a : Addr) (x : Str) (xs : List Str), vs = [V.ref a] ∧ SqL K H a ((x :: xs).map V.str) ∧ ∀ m, m ∈ x :: xs → (∀ y ∈ x :: xs, ¬ y.cps.toList < m.cps.toList) → Q (.str m) H
theorem cr_minS (hc : X.calm = true) (hu : X.A.units + 64 < cLine) : CallR X (.builtin "min") (rMinS X.K) := by
  intro pins s σ H vs us Q I r h
  obtain ⟨a, x, xs, rfl, hs, q⟩ := h
  obtain ⟨its, rv, hl, _⟩ := I.list hs
  rw [Vals.ref1 r]
  obtain ⟨as, hr⟩ := Dp.readsAll I ((x :: xs).map PyData.str) _ its (dp_allS _) rv
  have d0 : ∀ l : List Str, PyData.depthAll (l.map PyData.str) = 0 := by
    intro l
    induction l with
    | nil => simp [PyData.depthAll]
    | cons a l ih => simp [PyData.depthAll, PyData.depth, ih]
  obtain ⟨m, hm, em, least⟩ := minD_strs x xs
  refine PySem.W.min_list_data (I.ok.hd hc) hl.isList (by simpa using hr) ⟨fun y hy z hz => ?_, fun y hy => ?_⟩ ?_ fun i v h' tk bs hv hR hk => ?_
  · obtain ⟨_, _, rfl⟩ := List.mem_map.mp (show y ∈ (x :: xs).map PyData.str from hy)
    obtain ⟨_, _, rfl⟩ := List.mem_map.mp (show z ∈ (x :: xs).map PyData.str from hz)
    simp only [PySem.W.alike]
  · obtain ⟨_, _, rfl⟩ := List.mem_map.mp (show y ∈ (x :: xs).map PyData.str from hy)
    intro z
    cases z
  · rw [show PyData.str x :: xs.map PyData.str = (x :: xs).map PyData.str from rfl, d0]
    omega
  · rw [em] at hR
    cases hR
    exact ⟨.str m, H, I.kept hk, ⟨_, rfl⟩, q m hm least⟩
end
end K43
namespace K43
open PySem L2
open PyProof.Rows PySem.Spec
theorem spn_srd {t : Int} {R S : Rws} (g : Good t S) (srd : Srd R S) {n : Str} {b e : Int} (h : (n, b, e) ∈ R) : spn S n = (b, e) := spn_at g.nd (srd.pm.mem_iff.mpr h)
open Classical in
theorem cycs_one {nx : Str → Str} {N : List Str} {n : Str} (h : isMin nx N n) : cycs nx N [n] = [cy nx N n] := by
  unfold cycs
  rw [List.filter_cons_of_pos (by exact decide_eq_true h)]
  rfl
section
variable {P : Program} {w : World} {K : PySem.W.Frag}
                                                      {mg : Str → Option Value} {base : Heap}
def sp_w_size (K : PySem.W.Frag) : Sp := fun vs H Q _ => ∃ (r d a : Addr) (t : Int) (R S : Rws) (L0 L : List (Str × Addr)) (F : Flw) (ns : List Str), vs = [.ref r, .int t, .ref d, .ref a] ∧ H r = some (.dK (Kvs L0)) ∧ Tups H L0 R ∧ Srd R S ∧ Good t S ∧ H d = some (.dK (Kvs L)) ∧ FTs H L F ∧ FOk t S F ∧ SqT K H a (ns.map V.str) ∧ ns.length ≤ 6 ∧ (∀ n ∈ ns, n ∈ S.map (·.1)) ∧ ∀ H', Same H H' → Q (.int (sizeV S t F ns)) H'
theorem ok_w_size (T : T K mg) : FnOk P w K mg base CX0 2 T.f_w_size T.d_w_size ["rows", "interval", "follows", "names"] (sp_w_size K) := by
  refine T.F_w_size.ok sc_w_size (fun vs H Q E h => ?_) (fun cdv A outer s H vs Q E hr h => ?_)
  · obtain ⟨r, d, a, t, R, S, L0, L, F, ns, rfl, _⟩ := h
    rfl
  · obtain ⟨r, d, a, t, R, S, L0, L, F, ns, rfl, hr0, ts, srd, g, hd, fts, fok, hs, l6, hn, k⟩ := h
    have hu := hu_of hr
    refine ⟨_, (pss_one (ps_ret (pe_op op_fdivW (pe_callB (cr_sum rfl) (by rfl) T.z_sum (by decide +kernel) (pa_cons (pe_lc (own := [("name", 4)]) (g := gName 4) rfl sc_w_size.nd (pi_tup (pv 3)) (blkOk_by (N := ["rows", "interval", "follows", "names", "name"]) (sc := defScope s_w_size) (by decide +kernel)) (fun _ _ _ _ _ => (pg_name (i := 4) sc_w_size.nd rfl (Or.inl rfl))) (fun _ _ _ _ _ => pts_nil) (fun _ _ _ _ _ => (pe_op op_add (pe_op op_sub (pe_ix (r := rIx K) ix_seq (pe_dget (by exact hu) (pv 0) (pv 4) (fun _ _ => rfl)) pe_int (fun _ _ => rfl)) (pe_ix (r := rIx K) ix_seq (pe_dget (by exact hu) (pv 0) (pv 4) (fun _ _ => rfl)) pe_int (fun _ _ => rfl))) (pe_ix (r := rIx K) ix_seq (pe_dget (by exact hu) (pv 2) (pv 4) (fun _ _ => rfl)) pe_int (fun _ _ => rfl))))) pa_nil)) (pv 1)))), ?_⟩
    refine ⟨_, rfl, a, rfl, ⟨_, hs⟩, fun D hD => ?_⟩
    refine lc_map (walk_tup (K := K) (a := a) (xs := ns.map V.str)) (fun v => match v with | .str n => .int (lw S F n) | _ => .non) (fun H' s => Same.seqT s hs) (by rw [List.length_map]; omega) hD ?_ ?_
    · intro x Ha hx Sa C N kC
      obtain ⟨n, hn2, rfl⟩ := List.mem_map.mp hx
      have hnS := hn n hn2
      refine ⟨rfl, ?_⟩
      unfold tYes
      dsimp only
      rw [if_pos rfl]
      obtain ⟨a, va, ha, hm⟩ := (fts.keep (KT.same Sa)).get (fok.at hnS)
      have dg : DGet Ha d (.str n) (some (.ref a)) := by
        have := DGet.k (k := Sum.inr n) (Sa _ _ hd)
        rw [va] at this
        exact this
      obtain ⟨t', b, e, hv, ht, hm2⟩ := (ts.keep (KT.same Sa)).get ((srd.pm.map (·.1)).mem_iff.mp hnS)
      have dr : DGet Ha r (.str n) (some (.ref t')) := by
        have := DGet.k (k := Sum.inr n) (Sa _ _ hr0)
        rw [hv] at this
        exact this
      have es := spn_srd g srd hm2
      have el : lw S F n = e - b + (fol F n).2 := by unfold lw; rw [es]
      replace kC : ∀ H'' : Hp, Same Ha H'' → C (.int (lw S F n)) H'' := kC
      rw [el] at kC
      refine ⟨_, rfl, _, rfl, r, _, rfl, dr, .inr (.inl ⟨_, _, _, _, rfl, rfl, SqT.of ht, rfl, ?_⟩)⟩
      refine ⟨_, rfl, _, rfl, r, _, rfl, dr, .inr (.inl ⟨_, _, _, _, rfl, rfl, SqT.of ht, rfl, _, _, rfl, rfl, ?_⟩)⟩
      exact ⟨_, rfl, _, rfl, d, _, rfl, dg, .inr (.inl ⟨_, _, _, _, rfl, rfl, SqT.of ha, rfl, _, _, rfl, rfl, kC _ fun _ _ e => e⟩)⟩
    · intro H1 S1 e1
      have t1 := g.t1
      have t2 := g.t2
      exact ⟨D, ns.map (lw S F), rfl, SqL.of (by rw [e1]; simp [List.map_map, Function.comp_def]), _, rfl, _, _, rfl, rfl, ⟨by omega, Nat.lt_of_le_of_lt (Nat.log2_le_self _) (by omega)⟩, k _ S1⟩
def sp_w_multiple (K : PySem.W.Frag) : Sp := fun vs H Q _ => ∃ (a : Addr) (zs : List Int), vs = [.ref a] ∧ SqL K H a (zs.map V.int) ∧ (∀ z ∈ zs, 1 ≤ z ∧ z ≤ 72) ∧ zs.length ≤ 6 ∧ Q (.int (LC (zs.map Int.toNat) : Nat)) H
theorem ok_w_multiple (T : T K mg) : FnOk P w K mg base CX0 2 T.f_w_multiple T.d_w_multiple ["numbers"] (sp_w_multiple K) := by
  refine T.F_w_multiple.ok sc_w_multiple (fun vs H Q E h => ?_) (fun cdv A outer s H vs Q E hr h => ?_)
  · obtain ⟨a, zs, rfl, _⟩ := h
    rfl
  · obtain ⟨a, zs, rfl, hs, hz, lz, k⟩ := h
    have hu := hu_of hr
    refine ⟨_, PSs.nox (pss_cons (ps_set (i := 1) sc_w_multiple.nd rfl (Or.inl rfl) pe_int)
      (pss_cons (ps_for PassesOwn.never rfl (pi_list (pv 0)) (pg_name (i := 2) sc_w_multiple.nd rfl (Or.inl rfl))
      (pss_cons (ps_set (i := 3) sc_w_multiple.nd rfl (Or.inl rfl) (pv 1))
      (pss_one (ps_while PassesOwn.never (pt_cmpR op_ne (pe_op op_mod (pe_callTy call_int1 (by rfl) T.z_int (by decide +kernel) (pa_cons (pv 1) pa_nil)) (pv 2)) pe_int (nomark _))
      (pss_one (ps_set (i := 1) sc_w_multiple.nd rfl (Or.inl rfl) (pe_op op_add (pv 1) (pv 3))))))))
      (pss_one (ps_ret (pv 1))))), ?_⟩
    refine ⟨_, rfl, a, rfl, ⟨_, hs⟩, ?_⟩
    refine for_it (walk_list (K := K) (a := a) (xs := zs.map V.int)) (fun i σ H' => H' = H ∧ ∃ v2 v3, σ = [some (.ref a), some (.int (LC ((zs.take i).map Int.toNat) : Nat)), v2, v3]) ⟨rfl, none, none, rfl⟩ (fun i σ H' _ h => by rw [h.1]; exact hs) ?_ ?_
    · rintro i x σ Ha Hb hi ⟨rfl, v2, v3, rfl⟩ ⟨rfl, hx⟩
      rw [List.getElem?_map] at hx
      cases e2 : zs[i]? with
      | none => rw [e2] at hx; cases hx
      | some z =>
        rw [e2] at hx
        cases hx
        have zb := hz z (List.mem_of_getElem? e2)
        have hL : LC ((zs.take (i + 1)).map Int.toNat) = (LC ((zs.take i).map Int.toNat)).lcm z.toNat := by
          rw [List.take_add_one, e2, List.map_append]
          exact LC_snoc _ _
        have lp := (LC_pos (b := 72) (by decide) (ms := (zs.take i).map Int.toNat) fun n hn => by
          obtain ⟨y, hy, rfl⟩ := List.mem_map.mp hn
          have := hz y (List.mem_of_mem_take hy)
          omega).1
        rw [hL]
        generalize LC ((zs.take i).map Int.toNat) = p at lp ⊢
        have ez : ((z.toNat : Nat) : Int) = z := Int.toNat_of_nonneg (by omega)
        generalize z.toNat = n at ez ⊢
        subst ez
        have n1 : 1 ≤ n := by omega
        refine ⟨_, rfl, ?_⟩
        refine ⟨fun m σ' G => ∃ q : Nat, m = p.lcm n - p * q ∧ 1 ≤ q ∧ p * q ≤ p.lcm n ∧ G = Hb ∧ σ' = [some (.ref a), some (.int (p * q : Nat)), some (.int (n : Int)), some (.int (p : Nat))], ⟨_, 1, rfl, Nat.le_refl _, by rw [Nat.mul_one]; exact Nat.le_of_dvd (Nat.lcm_pos lp n1) (Nat.dvd_lcm_left p n), rfl, by rw [Nat.mul_one]; rfl⟩, ?_⟩
        rintro m σ' G ⟨q, rfl, q1, ql, rfl, rfl⟩
        refine ⟨_, rfl, .inl ⟨_, rfl, ?_⟩⟩
        refine ⟨_, rfl, _, _, rfl, rfl, by omega, rfl, _, rfl, ?_⟩
        by_cases c : ((p * q : Nat) : Int) % (n : Int) = 0
        · have dv : n ∣ p * q := Int.ofNat_dvd.mp (Int.dvd_of_emod_eq_zero c)
          have e : p * q = p.lcm n := Nat.le_antisymm ql (Nat.le_of_dvd (Nat.mul_pos lp q1) (Nat.lcm_dvd (Nat.dvd_mul_right p q) dv))
          rw [decide_eq_true (show V.int (((p * q : Nat) : Int) % (n : Int)) = V.int 0 from congrArg V.int c)]
          refine iteF ?_
          rw [e]
          exact ⟨rfl, _, _, rfl⟩
        · rw [decide_eq_false (show ¬ V.int (((p * q : Nat) : Int) % (n : Int)) = V.int 0 from fun z => c (V.int.inj z))]
          refine iteT ⟨_, fun σ' H' h => h, ?_⟩
          have hne : p * q ≠ p.lcm n := fun e => c (by rw [e]; exact Int.emod_eq_zero_of_dvd (Int.ofNat_dvd.mpr (Nat.dvd_lcm_right p n)))
          obtain ⟨k2, hk2⟩ := Nat.dvd_lcm_left p n
          have hq : q < k2 := by
            rcases Nat.lt_or_ge q k2 with h | h
            · exact h
            · exact absurd (Nat.le_antisymm ql (by rw [hk2]; exact Nat.mul_le_mul_left p h)) hne
          have hq2 : p * (q + 1) ≤ p.lcm n := by rw [hk2]; exact Nat.mul_le_mul_left p hq
          have hm : p * (q + 1) = p * q + p := Nat.mul_succ p q
          refine ⟨_, rfl, _, rfl, _, _, rfl, rfl, ?_⟩
          exact ⟨p.lcm n - p * (q + 1), by omega, q + 1, rfl, by omega, hq2, rfl, by rw [hm]; rfl⟩
    · rintro σ Ha ⟨rfl, v2, v3, rfl⟩
      rw [List.length_map, List.take_length]
      exact ⟨_, rfl, k⟩
end
end K43
namespace K43
open PySem L2
open PyProof.Rows PySem.Spec
section
variable {P : Program} {w : World} {K : PySem.W.Frag}
                                                      {mg : Str → Option Value} {base : Heap}
def sp_w_cycles (K : PySem.W.Frag) : Sp := fun vs H Q _ => ∃ (d : Addr) (t : Int) (S : Rws) (L : List (Str × Addr)) (F : Flw), vs = [.ref d] ∧ Good t S ∧ sortedS (S.map (·.1)) = true ∧ H d = some (.dK (Kvs L)) ∧ FTs H L F ∧ FOk t S F ∧
  ∀ a as H', Same H H' → H a = none → H' a = some (.lst (as.map V.ref)) → CTs H' as (cyA S F) → Q (.ref a) H'
theorem ok_w_cycles (T : T K mg) : FnOk P w K mg base CX0 2 T.f_w_cycles T.d_w_cycles ["follows"] (sp_w_cycles K) := by
  refine T.F_w_cycles.ok sc_w_cycles (fun vs H Q E h => ?_) (fun cdv A outer s H vs Q E hr h => ?_)
  · obtain ⟨d, t, S, L, F, rfl, _⟩ := h
    rfl
  · obtain ⟨d, t, S, L, F, rfl, g, so, hd, fts, fok, k⟩ := h
    have hu := hu_of hr
    refine ⟨_, PSs.nox (pss_cons (ps_set (i := 1) sc_w_cycles.nd rfl (Or.inl rfl) (pe_lst pa_nil))
      (pss_cons (ps_for PassesOwn.never rfl (pi_list (pe_callB (call_sortedD rfl) (by rfl) T.z_sorted (by decide +kernel) (pa_cons (pv 0) pa_nil))) (pg_name (i := 2) sc_w_cycles.nd rfl (Or.inl rfl))
      (pss_cons (ps_set (i := 3) sc_w_cycles.nd rfl (Or.inl rfl) (pe_lst (pa_cons (pv 2) pa_nil)))
      (pss_cons (ps_while PassesOwn.never (pt_cmpR op_ne (pe_ix ix_seq (pe_dget (by exact hu) (pv 0) (pe_ix ix_seq (pv 3) (pe_un un_neg pe_int) (fun _ _ => rfl)) (fun _ _ => rfl)) pe_int (fun _ _ => rfl)) (pv 2) (nomark _))
      (pss_one (ps_expr (pe_bm PySem.F.plainAttrs_list PySem.F.slot_list_append PySem.F.type_list_append mt_append (pv 3) (pa_cons (pe_ix ix_seq (pe_dget (by exact hu) (pv 0) (pe_ix ix_seq (pv 3) (pe_un un_neg pe_int) (fun _ _ => rfl)) (fun _ _ => rfl)) pe_int (fun _ _ => rfl)) pa_nil)))))
      (pss_one (ps_if (pt_cmpR op_eq (pe_callB (cr_minS rfl (un64 hr)) (by rfl) T.z_min (by decide +kernel) (pa_cons (pv 3) pa_nil)) (pv 2) (nomark _))
      (pss_one (ps_expr (pe_bm PySem.F.plainAttrs_list PySem.F.slot_list_append PySem.F.type_list_append mt_append (pv 1) (pa_cons (pe_callTy call_tuple_of (by rfl) T.z_tuple (by decide +kernel) (pa_cons (pv 3) pa_nil)) pa_nil))))
      pss_nil)))))
      (pss_one (ps_ret (pv 1))))), ?_⟩
    have pmt := fok.pmt g
    have l6 := fok.len
    unfold cyA at k
    generalize hN : S.map (·.1) = N at k pmt
    have lN : N.length ≤ 6 := by rw [← hN, List.length_map]; omega
    refine ⟨by show 0 ≤ sizeLine; decide, fun cl hcl => ?_⟩
    have S1 := Same.new (o := .lst []) hcl
    have ec1 : (upd H cl (.lst [])) cl = some (.lst []) := upd_same
    have hd1 := S1 _ _ hd
    generalize upd H cl (.lst []) = H1 at S1 ec1 hd1 ⊢
    refine ⟨_, rfl, d, _, L.map (·.1), rfl, .inl hd1, kvs_keys L, by rw [List.length_map, fts.len]; omega, fun ys ll pm so2 hll => ?_⟩
    obtain rfl : ys = N := by
      rw [← hN]
      exact sort_to pm so2 (by rw [fts.names]; exact fok.nm) so
    have ncl : ll ≠ cl := fun z => by rw [z, ec1] at hll; cases hll
    have S2 := Same.new (o := .lst (ys.map V.str)) hll
    have el2 : (upd H1 ll (.lst (ys.map V.str))) ll = some (.lst (ys.map V.str)) := upd_same
    have ec2 := S2 _ _ ec1
    generalize upd H1 ll (.lst (ys.map V.str)) = H2 at S2 el2 ec2 ⊢
    have S02 := Same.trans S1 S2
    clear hd1 S1 S2 ec1 hll
    refine ⟨ll, rfl, ⟨_, SqL.of el2⟩, ?_⟩
    refine for_it (walk_list (K := K) (a := ll) (xs := ys.map V.str)) (fun i σ G => ∃ (as : List Addr) (v2 v3 : Option V), σ = [some (.ref d), some (.ref cl), v2, v3] ∧ Same H G ∧ G cl = some (.lst (as.map V.ref)) ∧ G ll = some (.lst (ys.map V.str)) ∧ CTs G as (cycs (nxt F) ys (ys.take i)) ∧ as.length ≤ i) ⟨[], none, none, rfl, S02, ec2, el2, .nil, Nat.le_refl _⟩ (fun i σ G _ h => by obtain ⟨_, _, _, _, _, _, e, _⟩ := h; exact SqL.of e) ?_ ?_
    · clear S02 ec2 el2
      rintro i x σ Ga G hi ⟨as, v2, v3, rfl, SG, ec, el, cts, la⟩ ⟨rfl, hx⟩
      rw [List.getElem?_map] at hx
      cases e2 : ys[i]? with
      | none => rw [e2] at hx; cases hx
      | some l0 =>
      rw [e2] at hx
      cases hx
      have l0N : l0 ∈ ys := List.mem_of_getElem? e2
      have i6 : i < ys.length := (List.getElem?_eq_some_iff.mp e2).1
      refine ⟨_, rfl, by show 1 ≤ sizeLine; decide, fun cy hcy => ?_⟩
      have S3 := Same.new (o := .lst [V.str l0]) hcy
      have ecy : (upd G cy (.lst [V.str l0])) cy = some (.lst [V.str l0]) := upd_same
      have el3 := S3 _ _ el
      have ec3 := S3 _ _ ec
      have SG3 := Same.trans SG S3
      have cts3 := cts.keep (KT.same S3)
      have nyl : cy ≠ ll := fun z => by rw [z, el] at hcy; cases hcy
      have nyc : cy ≠ cl := fun z => by rw [z, ec] at hcy; cases hcy
      have hyH : H cy = none := by
        cases z : H cy with
        | none => rfl
        | some o => rw [SG _ _ z] at hcy; cases hcy
      generalize upd G cy (.lst [V.str l0]) = G3 at S3 ecy el3 ec3 SG3 cts3 ⊢
      refine ⟨fun m σ' G' => ∃ ch : List Str, m = ys.length - ch.length ∧ σ' = [some (.ref d), some (.ref cl), some (.str l0), some (.ref cy)] ∧ But cy G3 G' ∧ G' cy = some (.lst (ch.map V.str)) ∧ Chn (nxt F) ys l0 ch, ⟨_, [l0], rfl, rfl, fun _ _ _ e => e, ecy, Chn.one l0N⟩, ?_⟩
      rintro m σ' G' ⟨ch, rfl, rfl, B, ey, chn⟩
      obtain ⟨l, hl⟩ : ∃ l, ch.getLast? = some l := by
        cases ch with
        | nil => cases chn.hd
        | cons a r => exact ⟨_, List.getLast?_eq_some_getLast (by simp)⟩
      have lys : l ∈ ys := chn.sb l (List.mem_of_getLast? hl)
      have hlS : l ∈ S.map (·.1) := by rw [hN]; exact lys
      have SG' : Same H G' := fun b o e => B b o (fun z => by rw [z, hyH] at e; cases e) (SG3 _ _ e)
      obtain ⟨fa, va, ha, hm⟩ := (fts.keep (KT.same SG')).get (fok.at hlS)
      have dg : DGet G' d (.str l) (some (.ref fa)) := by
        have := DGet.k (k := Sum.inr l) (SG' _ _ hd)
        rw [va] at this
        exact this
      have hat : atI (ch.map V.str) (-1) = some (.str l) := last_atI (by rw [List.getLast?_map, hl]; rfl)
      have el' := B _ _ nyl.symm el3
      have ec' := B _ _ nyc.symm ec3
      refine ⟨_, rfl, _, rfl, _, rfl, .inl ⟨_, _, _, _, rfl, rfl, SqL.of ey, hat, d, _, rfl, dg, .inr (.inl ⟨_, _, _, _, rfl, rfl, SqT.of ha, rfl, _, rfl, rfl, _, rfl, ?_⟩)⟩⟩
      by_cases c : nxt F l = l0
      · rw [decide_eq_true (show V.str (fol F l).1 = V.str l0 from congrArg V.str c)]
        refine iteF ?_
        have hcyc : Cyc (nxt F) ys l0 ch := ⟨chn, fun l' h' => by rw [hl] at h'; rw [← Option.some.inj h']; exact c⟩
        have ech := cy_of hcyc
        have kt3 : KT G3 G' := But.kt B (fun xs z => by rw [ecy] at z; cases z)
        have cts' := cts3.keep kt3
        have lch := chn_len chn
        have tk : cycs (nxt F) ys (ys.take (i + 1)) = cycs (nxt F) ys (ys.take i) ++ cycs (nxt F) ys [l0] := by
          rw [List.take_add_one, e2]
          exact cycs_app _ _
        obtain ⟨c0, cr, ecr⟩ : ∃ c0 cr, ch = c0 :: cr := by
          cases ch with
          | nil => cases chn.hd
          | cons a r => exact ⟨_, _, rfl⟩
        refine ⟨_, rfl, cy, c0, cr, rfl, by rw [← ecr]; exact SqL.of ey, fun m0 hm0 least => ?_⟩
        rw [← ecr] at hm0 least
        refine ⟨_, rfl, rfl, _, rfl, ?_⟩
        by_cases c2 : m0 = l0
        · subst c2
          have im : isMin (nxt F) ys m0 := fun m hm => least m (by rw [← ech]; exact hm)
          rw [decide_eq_true rfl]
          refine iteT ?_
          refine ⟨_, rfl, .inl ⟨rfl, _, SqL.of ec'⟩, _, rfl, cy, _, rfl, .inl ⟨SqL.of ey, fun tp htp => ?_⟩⟩
          have S4 := Same.new (o := .tup (ch.map V.str)) htp
          have etp : (upd G' tp (.tup (ch.map V.str))) tp = some (.tup (ch.map V.str)) := upd_same
          have ec4 := S4 _ _ ec'
          have el4 := S4 _ _ el'
          have cts4 := cts'.keep (KT.same S4)
          have SG4 := Same.trans SG' S4
          generalize upd G' tp (.tup (ch.map V.str)) = G4 at S4 etp ec4 el4 cts4 SG4 ⊢
          refine ⟨cl, _, _, rfl, rfl, ec4, by rw [List.length_map, sizeLine_eq]; omega, ?_⟩
          have SG5 : Same H (upd G4 cl (.lst (as.map V.ref ++ [.ref tp]))) := Same.at hcl SG4
          have ec5 : (upd G4 cl (.lst (as.map V.ref ++ [.ref tp]))) cl = some (.lst ((as ++ [tp]).map V.ref)) := by rw [upd_same, List.map_append]; rfl
          have kt5 : KT G4 (upd G4 cl (.lst (as.map V.ref ++ [.ref tp]))) := KT.put ec4 (fun _ z => by cases z)
          have el5 := (upd_ne (H := G4) (o := .lst (as.map V.ref ++ [.ref tp])) ncl).trans el4
          have cts5 := (cts4.snoc etp).keep kt5
          refine ⟨as ++ [tp], _, _, rfl, SG5, ec5, el5, ?_, by rw [List.length_append, List.length_singleton]; omega⟩
          rw [tk, cycs_one im, ech]
          exact cts5
        · have nim : ¬ isMin (nxt F) ys l0 := fun im => by
            rw [show isMin (nxt F) ys l0 = ∀ m ∈ K43.cy (nxt F) ys l0, ¬ m.cps.toList < l0.cps.toList from rfl, ech] at im
            have h1 := im m0 hm0
            have h2 := least l0 hcyc.self
            exact c2 (str_ext (List.le_antisymm (List.not_lt.mp h2) (List.not_lt.mp h1)))
          rw [decide_eq_false (show ¬ V.str m0 = V.str l0 from fun z => c2 (V.str.inj z))]
          refine iteF ?_
          refine ⟨as, _, _, rfl, SG', ec', el', ?_, by omega⟩
          rw [tk, cycs_nil (A := [l0]) (fun n hn => by rw [List.mem_singleton.mp hn]; exact nim), List.append_nil]
          exact cts'
      · rw [decide_eq_false (show ¬ V.str (fol F l).1 = V.str l0 from fun z => c (V.str.inj z))]
        refine iteT ⟨_, fun σ' H' h => h, ?_⟩
        have chn' := chn.ext pmt hl c
        have cl' := chn_len chn'
        rw [List.length_append, List.length_singleton] at cl'
        refine ⟨_, rfl, .inl ⟨rfl, _, SqL.of ey⟩, _, rfl, _, rfl, _, rfl, .inl ⟨_, _, _, _, rfl, rfl, SqL.of ey, hat, d, _, rfl, dg, .inr (.inl ⟨_, _, _, _, rfl, rfl, SqT.of ha, rfl, cy, _, _, rfl, rfl, ey, by rw [List.length_map, sizeLine_eq]; omega, ?_⟩)⟩⟩
        exact ⟨ys.length - (ch.length + 1), by omega, ch ++ [nxt F l], by rw [List.length_append, List.length_singleton], rfl, But.trans B But.upd, by rw [upd_same, List.map_append]; rfl, chn'⟩
    · rintro σ G ⟨as, v2, v3, rfl, SG, ec, el, cts, la⟩
      rw [List.length_map, List.take_length] at cts
      exact ⟨_, rfl, k cl as G SG hcl ec cts⟩
end
end K43
namespace K43
open PySem L2
open PyProof.Rows PySem.Spec
theorem in_turns {t b e i v : Int} (h : 0 < t) : (b ≤ i - t * v ∧ i - t * v < e) ↔ ((i - e) / t < v ∧ v ≤ (i - b) / t) := by
  rw [Int.le_ediv_iff_mul_le h, Int.ediv_lt_iff_lt_mul h, Int.mul_comm v t]
  omega
/-- the turns up to some place of a range -/
def kT (lo q2 q1 : Int) (j : Nat) : Nat := (min (lo + (j : Int) - 1 - q2) (q1 - q2)).toNat
theorem kT_in {lo q2 q1 : Int} {j : Nat} (h1 : q2 < lo + j) (h2 : lo + j ≤ q1) : kT lo q2 q1 (j + 1) = kT lo q2 q1 j + 1 := by
  unfold kT
  omega
theorem kT_out {lo q2 q1 : Int} {j : Nat} (h : ¬(q2 < lo + j ∧ lo + j ≤ q1)) (h0 : q2 ≤ q1) : kT lo q2 q1 (j + 1) = kT lo q2 q1 j := by
  unfold kT
  omega
/-- how often a value is alive in a tick -/
def alR (t τ : Int) (r : Str × Int × Int) : Int := (τ - r.2.1) / t - (τ - r.2.2) / t
def aSum (t τ : Int) (R : Rws) : Int := (R.map (alR t τ)).sum
section
variable {P : Program} {w : World} {K : PySem.W.Frag}
                                                      {mg : Str → Option Value} {base : Heap}
def sp_w_alive (K : PySem.W.Frag) : Sp := fun vs H Q _ => ∃ (d : Addr) (L : List (Str × Addr)) (R : Rws) (t i : Int), vs = [.ref d, .int t, .int i] ∧ H d = some (.dK (Kvs L)) ∧ Tups H L R ∧ Good t R ∧ (∀ x ∈ R, Fin1 t x) ∧ (0 ≤ i ∧ i < t) ∧
  ∀ H', Same H H' → Q (.int (aSum t i R)) H'
theorem ok_w_alive (T : T K mg) : FnOk P w K mg base CX0 1 T.f_w_alive T.d_w_alive ["rows", "interval", "tick"] (sp_w_alive K) := by
  refine T.F_w_alive.ok sc_w_alive (fun vs H Q E h => ?_) (fun cdv A outer s H vs Q E hr h => ?_)
  · obtain ⟨d, L, R, t, i, rfl, _⟩ := h
    rfl
  · obtain ⟨d, L, R, t, i, rfl, hd, ts, g, fin, hi, k⟩ := h
    have hu := hu_of hr
    refine ⟨_, PSs.nox (pss_cons (ps_set (i := 3) sc_w_alive.nd rfl (Or.inl rfl) pe_int)
      (pss_cons (ps_lock (ps_for PassesOwn.never rfl (pi_keys (pv 0)) (pg_name (i := 4) sc_w_alive.nd rfl (Or.inl rfl))
      (pss_cons (ps_asg (pe_dget (by exact hu) (pv 0) (pv 4) (fun _ _ => rfl)) (pg_tup rfl (pgs_cons (pg_name (i := 5) sc_w_alive.nd rfl (Or.inr rfl)) (pgs_cons (pg_name (i := 6) sc_w_alive.nd rfl (Or.inr rfl)) pgs_nil))))
      (pss_one (ps_set (i := 3) sc_w_alive.nd rfl (Or.inl rfl) (pe_op op_add (pv 3) (pe_callB call_len_seq (by rfl) T.z_len (by decide +kernel) (pa_cons (pe_lc (own := [("turn", 7)]) (g := gName 7) rfl sc_w_alive.nd (pi_range2 (by rfl) T.z_range (pa_cons (pe_un un_neg pe_int) (pa_cons pe_int pa_nil))) (blkOk_by (N := ["rows", "interval", "tick", "found", "name", "begin", "end", "turn"]) (sc := defScope s_w_alive) (by decide +kernel)) (fun _ _ _ _ _ => (pg_name (i := 7) sc_w_alive.nd rfl (Or.inl rfl))) (fun _ _ _ _ _ => pts_one (pt_chain op_le op_lt (pv 5) (pe_op op_sub (pv 2) (pe_op op_mul (pv 1) (pv 7))) (pv 6))) (fun _ _ _ _ _ => (pv 7))) pa_nil))))))))
      (pss_one (ps_ret (pv 3))))), ?_⟩
    have t1 := g.t1
    have t2 := g.t2
    refine ⟨d, _, hd, True.intro, fun od => ?_⟩
    have lk : (upd H d (.frz od (.dK (Kvs L)))) d = some (.frz od (.dK (Kvs L))) := upd_same
    have ktl : KT H (upd H d (.frz od (.dK (Kvs L)))) := KT.put hd (fun _ z => by cases z)
    refine ⟨_, rfl, d, od, rfl, .inl ⟨Kvs L, lk, ?_⟩⟩
    refine for_it walk_keys (fun j σ H' => Same (upd H d (.frz od (.dK (Kvs L)))) H' ∧ ∃ v4 v5 v6 v7, σ = [some (.ref d), some (.int t), some (.int i), some (.int (aSum t i (R.take j))), v4, v5, v6, v7]) ⟨fun _ _ e => e, none, none, none, none, rfl⟩ (fun j σ H' _ h => h.1 _ _ lk) ?_ ?_
    · rintro j x σ Ha Hb hj ⟨Sa, v4, v5, v6, v7, rfl⟩ ⟨rfl, kk, vv, ek, rfl⟩
      obtain ⟨n, u, b, e, hvv, er, htu, el⟩ := tups_at (ts.keep (KT.trans ktl (KT.same Sa))) j vv (by rw [ek]; rfl)
      subst hvv
      have ekk : kk = Sum.inr n := by
        unfold Kvs at ek
        rw [List.getElem?_map, el] at ek
        exact (Prod.mk.inj (Option.some.inj ek)).1.symm
      subst ekk
      have hm := List.mem_of_getElem? er
      have g1 := fin _ hm
      have g2 := g.sp _ hm
      unfold Fin1 Near at g1
      unfold SpOk at g2
      simp only at g1 g2
      have q1 : (i - b) / t ≤ 8 := Int.ediv_le_of_le_mul (by omega) (by omega)
      have q2 : -15 ≤ (i - e) / t := Int.le_ediv_of_mul_le (by omega) (by omega)
      have qq : (i - e) / t ≤ (i - b) / t := Int.ediv_le_ediv (by omega) (by omega)
      have hv : valV (Kvs L) (.inr n) = some (.ref u) := valV_self (by rw [ts.names]; exact g.nd) (.inr n, .ref u) (List.mem_of_getElem? ek)
      refine ⟨_, rfl, _, rfl, d, V.ref u, rfl, ?_, u, _, rfl, SqT.of htu, rfl, _, _, rfl, _, _, rfl, rfl, ?_⟩
      · exact .inl ⟨Kvs L, .inr n, .inr ⟨od, Sa _ _ lk⟩, rfl, hv.symm⟩
      refine ⟨_, rfl, _, rfl, _, _, rfl, ⟨by omega, by omega, by omega, by omega⟩, fun G hG => ?_⟩
      refine lc_range (lo := -16) (vs := [7]) (n := 28) (fun j2 H' => Same Hb H' ∧ ∃ xs, H' G = some (.lst xs) ∧ xs.length = kT (-16) ((i - e) / t) ((i - b) / t) j2) ⟨Same.new hG, [], upd_same, by unfold kT; simp; omega⟩ ?_ ?_
      · rintro j2 Hd hj2 ⟨Sd, xs, eG, lx⟩
        refine ⟨rfl, ?_⟩
        have iff := in_turns (t := t) (b := b) (e := e) (i := i) (v := -16 + (j2 : Int)) (by omega)
        have fin2 : ∀ {c : Bool}, (c = true ↔ ((i - e) / t < -16 + (j2 : Int) ∧ -16 + (j2 : Int) ≤ (i - b) / t)) → if c = true then (∃ v, (some (some (V.int (-16 + (j2 : Int)))) : Option (Option V)) = some (some v) ∧ ∃ acc, Hd G = some (.lst acc) ∧ acc.length < sizeLine ∧ (Same Hb (upd Hd G (.lst (acc ++ [v]))) ∧ ∃ xs, (upd Hd G (.lst (acc ++ [v]))) G = some (.lst xs) ∧ xs.length = kT (-16) ((i - e) / t) ((i - b) / t) (j2 + 1))) else (Same Hb Hd ∧ ∃ xs, Hd G = some (.lst xs) ∧ xs.length = kT (-16) ((i - e) / t) ((i - b) / t) (j2 + 1)) := by
          intro c hc
          by_cases h : (i - e) / t < -16 + (j2 : Int) ∧ -16 + (j2 : Int) ≤ (i - b) / t
          · have z1 := kT_in h.1 h.2
            rw [if_pos (hc.mpr h)]
            refine ⟨_, rfl, _, eG, ?_, Same.at hG Sd, _, upd_same, by rw [List.length_append, List.length_singleton, lx, z1]⟩
            rw [lx, sizeLine_eq]
            unfold kT
            omega
          · rw [if_neg (fun z => h (hc.mp z)), kT_out h qq]
            exact ⟨Sd, xs, eG, lx⟩
        refine ⟨_, rfl, _, rfl, _, rfl, _, rfl, _, _, rfl, rfl, ?_, _, _, rfl, rfl, _, _, rfl, rfl, _, rfl, ?_⟩
        · exact .inl ⟨by omega, by omega⟩
        by_cases hb : b ≤ i - t * (-16 + (j2 : Int))
        · rw [if_pos (decide_eq_true hb)]
          refine ⟨_, rfl, _, _, rfl, rfl, _, rfl, ?_⟩
          exact fin2 ⟨fun z => iff.mp ⟨hb, of_decide_eq_true z⟩, fun z => decide_eq_true (iff.mpr z).2⟩
        · rw [if_neg (by rw [decide_eq_false hb]; exact Bool.false_ne_true)]
          refine ⟨_, rfl, ?_⟩
          exact fin2 ⟨fun z => (by cases z), fun z => absurd (iff.mpr z).1 hb⟩
      · rintro Hd ⟨Sd, xs, eG, lx⟩
        have ek2 : ((kT (-16) ((i - e) / t) ((i - b) / t) 28 : Nat) : Int) = (i - b) / t - (i - e) / t := by unfold kT; omega
        refine ⟨G, xs, rfl, .inl (SqL.of eG), _, _, rfl, rfl, ?_⟩
        have es : aSum t i (R.take (j + 1)) = aSum t i (R.take j) + (xs.length : Nat) := by
          unfold aSum
          rw [List.take_add_one, er, List.map_append, List.sum_append, lx, ek2]
          show _ + List.sum [alR t i (n, b, e)] = _
          rw [List.sum_cons, List.sum_nil, Int.add_zero]
          rfl
        refine ⟨Same.trans Sa Sd, some (.str n), some (.int b), some (.int e), v7, ?_⟩
        rw [es]
        rfl
    · rintro σ H' ⟨Sa, v4, v5, v6, v7, rfl⟩
      rw [kvs_len, ts.len, List.take_length]
      exact ⟨Sa _ _ lk, _, rfl, k _ (same_lock hd Sa)⟩
end
end K43
namespace K43
open PySem L2
open PyProof.Rows PySem.Spec
/-- a dict of names by its values -/
def Gvs (M : List (Str × V)) : List (Key × V) := M.map fun q => (Sum.inr q.1, q.2)
theorem kvs_gvs (L : List (Str × Addr)) : Kvs L = Gvs (L.map fun p => (p.1, V.ref p.2)) := by
  unfold Kvs Gvs
  rw [List.map_map]
  rfl
theorem gvs_keys (M : List (Str × V)) : (Gvs M).map (·.1) = (M.map (·.1)).map Sum.inr := by
  unfold Gvs
  rw [List.map_map, List.map_map]
  rfl
theorem gvs_len (M : List (Str × V)) : (Gvs M).length = M.length := List.length_map ..
theorem valV_gvs_none {M : List (Str × V)} {n : Str} (h : n ∉ M.map (·.1)) : valV (Gvs M) (.inr n) = none := by
  cases e : valV (Gvs M) (.inr n) with
  | none => rfl
  | some v =>
    refine absurd ?_ h
    have := valV_in e
    unfold Gvs at this
    rw [List.map_map] at this
    obtain ⟨p, hp, q⟩ := List.mem_map.mp this
    exact List.mem_map.mpr ⟨p, hp, Sum.inr.inj q⟩
theorem putK_gvs {M : List (Str × V)} {n : Str} {v : V} (h : n ∉ M.map (·.1)) : putK (Gvs M) (.inr n) v = Gvs (M ++ [(n, v)]) := by
  rw [putK_new _ (valV_gvs_none h)]
  unfold Gvs
  rw [List.map_append]
  rfl
theorem mergeK_gvs : ∀ (M L : List (Str × V)), ((L ++ M).map (·.1)).Nodup → mergeK (Gvs L) (Gvs M) = Gvs (L ++ M)
  | [], L, _ => by rw [List.append_nil]; rfl
  | (n, t) :: M, L, nd => by
    have hn : n ∉ L.map (·.1) := fun h => by
      rw [List.map_append, List.map_cons] at nd
      have := (List.nodup_append.mp nd).2.2 n h n List.mem_cons_self
      exact this rfl
    have e : mergeK (Gvs L) (Gvs ((n, t) :: M)) = mergeK (putK (Gvs L) (.inr n) t) (Gvs M) := rfl
    rw [e, putK_gvs hn, mergeK_gvs M (L ++ [(n, t)]) (by rw [List.append_assoc]; exact nd), List.append_assoc]
    rfl
theorem valV_gvs : ∀ {M : List (Str × V)} {n : Str} {v : V}, (M.map (·.1)).Nodup → (n, v) ∈ M → valV (Gvs M) (.inr n) = some v
  | [], _, _, _, h => by cases h
  | (m, u) :: M, n, v, nd, h => by
    rw [List.map_cons, List.nodup_cons] at nd
    rcases List.mem_cons.mp h with h | h
    · cases h
      exact valV_pos (p := ((Sum.inr m : Key), u)) rfl
    · refine (valV_neg (p := ((Sum.inr m : Key), u)) (fun z => nd.1 ?_)).trans (valV_gvs nd.2 h)
      rw [Sum.inr.inj z]
      exact List.mem_map.mpr ⟨_, h, rfl⟩
/-- pairs (name, value) -/
def PairsG (H : Hp) (ps : List Addr) (M : List (Str × V)) : Prop := Paired (fun p q => H p = some (.tup [.str q.1, q.2])) ps M
theorem PairsG.keep {H H' : Hp} (k : KT H H') {ps : List Addr} {M : List (Str × V)} (h : PairsG H ps M) : PairsG H' ps M := by
  unfold PairsG at h ⊢
  induction h with
  | nil => exact .nil
  | cons a b ih => exact .cons (k _ _ a) ih
theorem PairsG.snoc {H : Hp} {ps : List Addr} {M : List (Str × V)} (h : PairsG H ps M) {p : Addr} {n : Str} {v : V} (q : H p = some (.tup [.str n, v])) : PairsG H (ps ++ [p]) (M ++ [(n, v)]) := by
  unfold PairsG at h ⊢
  induction h with
  | nil => exact .cons q .nil
  | cons a b ih => exact .cons a ih
theorem PairsG.len {H : Hp} {ps : List Addr} {M : List (Str × V)} (h : PairsG H ps M) : ps.length = M.length := by
  unfold PairsG at h
  induction h with
  | nil => rfl
  | cons a b ih => rw [List.length_cons, List.length_cons, ih]
theorem PairsG.pd {K : PySem.W.Frag} {H : Hp} {ps : List Addr} {M : List (Str × V)} (h : PairsG H ps M) : Paired (fun p kv => SqT K H p [kV kv.1, kv.2]) ps (Gvs M) := by
  unfold PairsG at h
  induction h with
  | nil => exact .nil
  | cons a b ih => exact .cons (SqT.of a) ih
/-- a comprehension of pairs (name, value) -/
theorem lc_pairs {J : It} {G : Hp → Prop} {Y : Nat → Hp → V → Hp → Prop} {ns : List Str} (w : Walk J ns.length G Y) {g : TG} {tt : TT} {te : TE} {vs : List Nat} {σ : L2.St} {H1 : Hp} {D : Addr} {Qd : Hp → Prop} (gv : Str → V)
    (hY : ∀ i H x H', Y i H x H' → H' = H ∧ ∃ n, ns[i]? = some n ∧ x = .str n) (hG : ∀ H', Same H1 H' → G H') (h63 : ns.length ≤ 63) (hD : H1 D = none)
    (hs : ∀ n H', n ∈ ns → Same H1 H' → ∀ (C : VK) (N : Hp → Prop), (∀ q, H' q = none → C (.ref q) (upd H' q (.tup [.str n, gv n]))) → g (.str n) (wipe σ vs) H' fun σ2 H2 => wipe σ2 vs = wipe σ vs ∧ tt σ2 H2 fun b H3 => if b = true then te σ2 H3 C else N H3)
    (hd : ∀ H' ps, Same H1 H' → H' D = some (.lst (ps.map V.ref)) → PairsG H' ps (ns.map fun n => (n, gv n)) → Qd H') :
    ∃ W : Nat → Nat → Hp → Prop, (∃ m, W 0 m
                                             (upd H1 D (.lst []))) ∧ ∀ i m H, W i m H →
      (J.stop i H ∧ Qd H) ∨ (J.go i H ∧ ∃ Nx : Hp → Prop, (∀ H', Nx H' → ∃ m', m' < m ∧ W
                                                                                          (i + 1) m' H') ∧ ∀ x H', J.yld i H x H' → g x (wipe σ vs) H' fun σ2 H2 => wipe σ2 vs = wipe σ vs ∧ tt σ2 H2 fun b H3 =>
        if b = true then te σ2 H3 fun y H4 => ∃ acc, H4 D = some
                                                                 (.lst acc) ∧ acc.length < sizeLine ∧ Nx (upd H4 D (.lst (acc ++ [y]))) else Nx H3) := by
  refine lc_it w (fun i H' => Same H1 H' ∧ ∃ ps : List Addr, H' D = some (.lst (ps.map V.ref)) ∧ PairsG H' ps ((ns.take i).map fun n => (n, gv n))) ⟨Same.new hD, [], upd_same, .nil⟩ (fun i H' _ h => hG H' h.1) ?_ (fun H' h => by
    obtain ⟨S, ps, e, pg⟩ := h
    rw [List.take_length] at pg
    exact hd H' ps S e pg)
  rintro i x Ha Hb hi ⟨Sa, ps, eD, pg⟩ hy
  obtain ⟨rfl, n, hn, rfl⟩ := hY _ _ _ _ hy
  refine hs n _ (List.mem_of_getElem? hn) Sa _ _ fun q hq => ?_
  have nDq : D ≠ q := ne_of_none eD hq
  have lp := pg.len
  rw [List.length_map, List.length_take] at lp
  refine ⟨ps.map V.ref, by rw [upd_ne nDq]; exact eD, by rw [List.length_map, sizeLine_eq]; omega, Same.at hD (Same.trans Sa (Same.new hq)), ps ++ [q], by rw [upd_same, List.map_append]; rfl, ?_⟩
  rw [List.take_add_one, hn, Option.toList_some, List.map_append]
  have kt : KT Hb (upd (upd Hb q (.tup [.str n, gv n])) D (.lst (ps.map V.ref ++ [.ref q]))) := KT.trans (KT.new hq) (KT.put (u := .lst (ps.map V.ref)) (by rw [upd_ne nDq]; exact eD) (fun _ z => by cases z))
  exact (pg.keep kt).snoc (by rw [upd_ne nDq.symm, upd_same])
theorem yat_str {ns : List Str} : ∀ i H x H', YAt (ns.map V.str) i H x H' → H' = H ∧ ∃ n, ns[i]? = some n ∧ x = .str n := by
  rintro i H x H' ⟨rfl, hx⟩
  rw [List.getElem?_map] at hx
  cases e : ns[i]? with
  | none => rw [e] at hx; cases hx
  | some n =>
    rw [e] at hx
    exact ⟨rfl, n, rfl, (Option.some.inj hx).symm⟩
end K43
namespace K43
open PySem L2
open PyProof.Rows PySem.Spec
/-- a tuple (int, text) by its place -/
abbrev IS := Addr × Int × Str
def encIS (b : IS) : PyData := .tuple [.int b.2.1, .str b.2.2]
theorem each_refs : ∀ {bs : List IS} {us : List Value}, Vals (bs.map fun b => V.ref b.1) us → PySem.W.EachIs (fun v (b : IS) => v = Value.ref b.1) us bs
  | [], _, r => by cases r; exact .nil
  | b :: bs, _, r => by
    cases r with
    | cons r t => exact .cons r (each_refs t)
theorem refs_each : ∀ {bs : List IS} {us : List Value}, PySem.W.EachIs (fun v (b : IS) => v = Value.ref b.1) us bs → Vals (bs.map fun b => V.ref b.1) us
  | _, _, .nil => .nil
  | _, _, .cons r t => .cons r (refs_each t)
theorem each_with {R R' : Value → IS → Prop} : ∀ {us : List Value} {bs : List IS}, PySem.W.EachIs R us bs → (∀ v, ∀ b ∈ bs, R v b → R' v b) → PySem.W.EachIs R' us bs
  | _, _, .nil, _ => .nil
  | _, _, .cons r t, h => .cons (h _ _ List.mem_cons_self r) (each_with t fun v b hb => h v b (List.mem_cons_of_mem _ hb))
section
variable {X : Cx}
/-- sorted(xs), xs a list of tuples (int, text) -/
def rSortIS (K : PySem.W.Frag) : List V → Hp → VK → Prop := fun vs H Q => ∃ (a : Addr) (bs : List IS), vs = [V.ref a] ∧ SqL K H a (bs.map fun b => V.ref b.1) ∧ (∀ b ∈ bs, H b.1 = some (.tup [.int b.2.1, .str b.2.2])) ∧ bs.length < 64 ∧
  ∀ p, H p = none → Q (.ref p) (upd H p (.lst ((bs.mergeSort (PySem.W.dataLe false encIS)).map fun b => V.ref b.1)))
theorem cr_sortIS (hu : X.A.units + 64 < cLine) : CallR X (.builtin "sorted") (rSortIS X.K) := by
  intro pins s σ H vs us Q I r h
  obtain ⟨a, bs, rfl, hs, ht, h64, q⟩ := h
  obtain ⟨its, rv, hl, _⟩ := I.list hs
  rw [Vals.ref1 r]
  have e := each_refs rv
  refine PySem.W.sorted_data (R := fun v (b : IS) => v = Value.ref b.1) (enc := encIS) hl.isList e (each_with e fun v b hb ev => ?_) (PySem.W.AllAlike.of fun b b' => ?_) (PySem.W.Sortable.tuples fun b => ⟨_, _, rfl⟩) (small64 h64) (fun b _ => ?_) fun out ho eo => ?_
  · exact Dp.reads I (encIS b) (.ref b.1) v (.tup (SqT.of (ht b hb)) (.cons (.int _) (.cons (.str _) .nil))) ev
  · simp [PySem.W.alike, PySem.W.alikeAll, encIS]
  · have : (encIS b).depth ≤ 2 := by simp [encIS, PyData.depth, PyData.depthAll]
    omega
  · obtain ⟨ep, he'⟩ := PyProof.Rows.sortedAll_at s.heap its out.toArray
    have hlen : ((bs.mergeSort (PySem.W.dataLe false encIS)).map fun b => V.ref b.1).length ≤ sizeLine := by rw [List.length_map, List.length_mergeSort]; exact small64 h64
    exact ⟨.ref _, upd H (s.heap.objs.size + 1) (.lst ((bs.mergeSort (PySem.W.dataLe false encIS)).map fun b => V.ref b.1)), I.laid (t' := s.toks) (fun _ _ => PyProof.Rows.sortedAll_old) (Nat.le_succ _) ⟨hlen, out, ep, refs_each eo, he'⟩, rfl, q _ (I.hok.fresh (Nat.le_succ _))⟩
end
theorem dataLe_is (b c : IS) (h : PySem.W.dataLe false encIS b c = true) : b.2.1 ≤ c.2.1 := by
  rw [PySem.W.dataLe_eq] at h
  have h' : (!PySem.W.dataLt (.tuple [.int c.2.1, .str c.2.2]) (.tuple [.int b.2.1, .str b.2.2])) = true := h
  rw [PySem.W.dataLt_pair (by simp [PySem.W.alike]) (by simp [PySem.W.alike]), PySem.W.dataLt_int] at h'
  rcases Int.lt_or_le c.2.1 b.2.1 with w | w
  · rw [show PyData.eqv (.int c.2.1) (.int b.2.1) = false by simp [PyData.eqv]; omega] at h'
    simp [w] at h'
  · exact w
end K43
namespace K43
open PySem L2
open PyProof.Rows PySem.Spec
/-- the moment behind the first peak -/
def Cut (t : Int) (R : Rws) (c : Int) : Prop := ∃ m : Nat, (m : Int) < t ∧ c = (m : Int) + 1 ∧ (∀ τ : Nat, (τ : Int) < t → aSum t τ R ≤ aSum t m R) ∧ ∀ τ : Nat, τ < m → aSum t τ R ≠ aSum t m R
theorem Cut.eq {t : Int} {R : Rws} {c c' : Int} (h : Cut t R c) (h' : Cut t R c') : c = c' := by
  obtain ⟨m, m1, rfl, m2, m3⟩ := h
  obtain ⟨n, n1, rfl, n2, n3⟩ := h'
  have e : aSum t m R = aSum t n R := by have := m2 n n1; have := n2 m m1; omega
  rcases Nat.lt_trichotomy m n with q | q | q
  · exact absurd e (n3 m q)
  · rw [q]
  · exact absurd e.symm (m3 n q)
theorem first_at {m : Int} : ∀ {l : List Int}, m ∈ l → ∃ j : Nat, l[j]? = some m ∧ ∀ (i : Nat) (z : Int), i < j → l[i]? = some z → z ≠ m
  | a :: l, h => by
    by_cases c : a = m
    · exact ⟨0, by rw [← c]; rfl, fun i z hi _ => absurd hi (Nat.not_lt_zero _)⟩
    · have h2 : m ∈ l := by
        rcases List.mem_cons.mp h with h | h
        · exact absurd h.symm c
        · exact h
      obtain ⟨j, h3, h4⟩ := first_at h2
      refine ⟨j + 1, h3, fun i z hi hz => ?_⟩
      cases i with
      | zero => rw [← Option.some.inj (show some a = some z from hz)]; exact c
      | succ i => exact h4 i z (by omega) hz
def sel (ix : Int) (r : Str × Int × Int) : Int := if ix = 0 then r.2.1 else r.2.2
/-- the places of the beginnings or the ends -/
def plM (t c ix : Int) (R : Rws) : List (Str × V) := R.map fun r => (r.1, V.int ((sel ix r - c) % t))
section
variable {P : Program} {w : World} {K : PySem.W.Frag}
                                                      {mg : Str → Option Value} {base : Heap}
def sp_w_places (K : PySem.W.Frag) : Sp := fun vs H Q _ => ∃ (d : Addr) (L : List (Str × Addr)) (R : Rws) (t ix : Int), vs = [.ref d, .int t, .int ix] ∧ H d = some (.dK (Kvs L)) ∧ Tups H L R ∧ Good t R ∧ (∀ x ∈ R, Fin1 t x) ∧ (ix = 0 ∨ ix = 1) ∧
  ∀ c p H', Cut t R c → Same H H' → H p = none → H' p = some (.dK (Gvs (plM t c ix R))) → Q (.ref p) H'
theorem ok_w_places (T : T K mg) : FnOk P w K mg base CX0 2 T.f_w_places T.d_w_places ["rows", "interval", "index"] (sp_w_places K) := by
  have G_w_alive : FnOk P w K mg base CX0 1 T.f_w_alive T.d_w_alive ["rows", "interval", "tick"] (sp_w_alive K) := ok_w_alive T
  refine T.F_w_places.ok sc_w_places (fun vs H Q E h => ?_) (fun cdv A outer s H vs Q E hr h => ?_)
  · obtain ⟨d, L, R, t, ix, rfl, _⟩ := h
    rfl
  · obtain ⟨d, L, R, t, ix, rfl, hd, ts, g, fin, hix, k⟩ := h
    have hu := hu_of hr
    have hr_w_alive : Room 1 _ := hr.mono (by decide)
    refine ⟨_, (pss_cons (ps_setLc (i := 3) (own := [("tick", 5)]) (g := gName 5) rfl sc_w_places.nd rfl rfl (sw_true rfl rfl rfl (by decide +kernel)) (pi_range1 (by rfl) T.z_range (pa_cons (pv 1) pa_nil)) (blkOk_by (N := ["rows", "interval", "index", "sizes", "cut", "tick", "name"]) (sc := defScope s_w_places) (by decide +kernel)) (fun _ _ _ _ _ => (pg_name (i := 5) sc_w_places.nd rfl (Or.inl rfl))) (fun _ _ _ _ _ => pts_nil) (fun _ _ _ _ _ => (pe_call G_w_alive hr_w_alive rfl T.m_w_alive T.F_w_alive.kp T.b_w_alive .nil pass0 (pa_cons (pv 0) (pa_cons (pv 1) (pa_cons (pv 5) pa_nil))))))
      (pss_cons (ps_set (i := 4) sc_w_places.nd rfl (Or.inr rfl) (pe_op op_add (pe_bm PySem.F.plainAttrs_list PySem.F.slot_list_index PySem.F.type_list_index mt_index (pv 3) (pa_cons (pe_callB (cr_max rfl) (by rfl) T.z_max (by decide +kernel) (pa_cons (pv 3) pa_nil)) pa_nil)) pe_int))
      (pss_one (ps_ret (pe_callTy (call_dictP rfl) (by rfl) T.z_dict (by decide +kernel) (pa_cons (pe_lock (pe_lc (own := [("name", 6)]) (g := gName 6) rfl sc_w_places.nd (pi_keys (pv 0)) (blkOk_by (N := ["rows", "interval", "index", "sizes", "cut", "tick", "name"]) (sc := defScope s_w_places) (by decide +kernel)) (fun _ _ _ _ _ => (pg_name (i := 6) sc_w_places.nd rfl (Or.inl rfl))) (fun _ _ _ _ _ => pts_nil) (fun _ _ _ _ _ => (pe_tup (pa_cons (pv 6) (pa_cons (pe_op op_mod (pe_callTy call_int1 (by rfl) T.z_int (by decide +kernel) (pa_cons (pe_op op_sub (pe_ix (r := rIx K) ix_seq (pe_dget (by exact hu) (pv 0) (pv 6) (fun _ _ => rfl)) (pv 2) (fun _ _ => rfl)) (pv 4)) pa_nil)) (pv 1)) pa_nil)))))) pa_nil)))))), ?_⟩
    have t1 := g.t1
    have t2 := g.t2
    have l8 := g.l8
    refine ⟨_, rfl, t, rfl, by omega, by omega, fun D hD => ?_⟩
    refine lc_range (n := t.toNat) (fun j H' => Same H H' ∧ H' D = some (.lst ((List.range j).map fun (s : Nat) => V.int (aSum t s R)))) ⟨Same.new hD, upd_same⟩ ?_ ?_
    · rintro j Ha hj ⟨Sa, eD⟩
      refine ⟨rfl, ?_⟩
      unfold tYes
      dsimp only
      rw [if_pos rfl]
      refine ⟨_, rfl, _, rfl, _, rfl, d, L, R, t, 0 + (j : Int), rfl, Sa _ _ hd, ts.keep (KT.same Sa), g, fin, ⟨by omega, by omega⟩, fun H2 S2 => ?_⟩
      have e0 : (0 : Int) + (j : Int) = j := Int.zero_add _
      refine ⟨_, S2 _ _ eD, by rw [List.length_map, List.length_range, sizeLine_eq]; omega, Same.at hD (Same.trans Sa S2), ?_⟩
      rw [upd_same, List.range_succ, List.map_append, e0]
      rfl
    rintro H1 ⟨S1, eD⟩
    have sqD : SqL K H1 D (((List.range t.toNat).map fun (s : Nat) => aSum t s R).map V.int) := SqL.of (by rw [eD, List.map_map]; rfl)
    have at_ : ∀ (i : Nat) (z : Int), ((List.range t.toNat).map fun (s : Nat) => aSum t s R)[i]? = some z ↔ i < t.toNat ∧ z = aSum t i R := by
      intro i z
      rw [List.getElem?_map]
      by_cases c : i < t.toNat
      · rw [List.getElem?_range c]
        simp [c, eq_comm]
      · rw [List.getElem?_eq_none (by rw [List.length_range]; omega)]
        simp [c]
    refine ⟨_, rfl, .inl ⟨rfl, _, sqD⟩, _, rfl, D, _, rfl, sqD, by rw [List.length_map, List.length_range]; omega, fun mx hmx hle => ?_⟩
    obtain ⟨j, hj, hfirst⟩ := first_at hmx
    obtain ⟨jt, ej⟩ := (at_ j mx).mp hj
    refine ⟨D, _, .int mx, j, .int mx, rfl, rfl, sqD, rfl, List.all_eq_true.mpr fun x hx => (by obtain ⟨_, _, rfl⟩ := List.mem_map.mp hx; rfl), by rw [List.getElem?_map, hj]; rfl, by show (mx == mx) = true; simp, fun i z' hi hz => ?_, ?_⟩
    · rw [List.getElem?_map] at hz
      cases e : ((List.range t.toNat).map fun (s : Nat) => aSum t s R)[i]? with
      | none => rw [e] at hz; cases hz
      | some z =>
        rw [e] at hz
        cases hz
        show (z == mx) = false
        simpa using hfirst i z hi e
    have cut : Cut t R ((j : Int) + 1) := by
      refine ⟨j, by omega, rfl, fun τ hτ => ?_, fun τ hτ => ?_⟩
      · rw [← ej]
        exact hle _ (List.mem_iff_getElem?.mpr ⟨τ, (at_ τ _).mpr ⟨by omega, rfl⟩⟩)
      · rw [← ej]
        exact hfirst τ _ hτ ((at_ τ _).mpr ⟨by omega, rfl⟩)
    refine ⟨_, _, rfl, rfl, ?_⟩
    have hd1 := S1 _ _ hd
    have ts1 := ts.keep (KT.same S1)
    refine ⟨d, _, hd1, True.intro, fun od => ?_⟩
    have lk : (upd H1 d (.frz od (.dK (Kvs L)))) d = some (.frz od (.dK (Kvs L))) := upd_same
    have ktl : KT H1 (upd H1 d (.frz od (.dK (Kvs L)))) := KT.put hd1 (fun _ z => by cases z)
    refine ⟨_, rfl, d, od, rfl, .inl ⟨Kvs L, lk, fun G hG => ?_⟩⟩
    have nGd : G ≠ d := fun z => by rw [z, upd_same] at hG; cases hG
    have lw : (Kvs L).length = (L.map (·.1)).length := by rw [kvs_len, List.length_map]
    have W := walk_keys (d := d) (o := od) (kvs := Kvs L)
    rw [lw] at W
    refine lc_pairs (ns := L.map (·.1)) W (fun n => V.int ((sel ix (n, spn R n) - ((j : Int) + 1)) % t)) ?_ (fun H' s => s _ _ lk) (by rw [List.length_map, ts.len]; omega) hG ?_ ?_
    · rintro i Ha x Hb ⟨rfl, kk, vv, ek, rfl⟩
      refine ⟨rfl, ?_⟩
      unfold Kvs at ek
      rw [List.getElem?_map] at ek
      rw [List.getElem?_map]
      cases e : L[i]? with
      | none => rw [e] at ek; cases ek
      | some p =>
        rw [e] at ek
        obtain ⟨e1, e2⟩ := Prod.mk.inj (Option.some.inj ek)
        exact ⟨p.1, rfl, by rw [← e1]; rfl⟩
    · intro n Ha hn Sa C N kC
      refine ⟨rfl, ?_⟩
      unfold tYes
      dsimp only
      rw [if_pos rfl]
      rw [ts.names] at hn
      obtain ⟨u, b, e, hv, ht, hm⟩ := (ts1.keep (KT.trans ktl (KT.same Sa))).get hn
      have es : spn R n = (b, e) := spn_at g.nd hm
      rw [es] at kC
      refine ⟨_, rfl, _, rfl, _, rfl, d, V.ref u, rfl, .inl ⟨Kvs L, .inr n, .inr ⟨od, Sa _ _ lk⟩, rfl, hv.symm⟩, _, rfl, ?_⟩
      have fin : ∀ z, sel ix (n, b, e) = z → atI [V.int b, V.int e] ix = some (.int z) := by
        rintro z rfl
        rcases hix with rfl | rfl <;> rfl
      refine .inr (.inl ⟨_, _, _, _, rfl, rfl, SqT.of ht, fin _ rfl, _, rfl, _, _, rfl, rfl, .inl ⟨_, rfl, _, rfl, _, _, rfl, rfl, by omega, by show 2 ≤ sizeLine; decide, fun q hq => kC q hq⟩⟩)
    · intro H2 ps S2 e2 pg
      refine ⟨S2 _ _ lk, G, ps, Gvs ((L.map (·.1)).map fun n => (n, V.int ((sel ix (n, spn R n) - ((j : Int) + 1)) % t))), rfl, SqL.of ((upd_ne nGd).trans e2), ?_, fun q hq => ?_⟩
      · have ktu : KT H2 (upd H2 d (.dK (Kvs L))) := KT.put (S2 _ _ lk) (fun _ z => by cases z)
        exact (pg.keep ktu).pd
      have eM : (L.map (·.1)).map (fun n => (n, V.int ((sel ix (n, spn R n) - ((j : Int) + 1)) % t))) = plM t ((j : Int) + 1) ix R := by
        rw [ts.names]
        unfold plM
        rw [List.map_map]
        refine List.map_congr_left fun r hr => ?_
        show (r.1, V.int ((sel ix (r.1, spn R r.1) - ((j : Int) + 1)) % t)) = _
        rw [spn_at (p := r.2) g.nd hr]
      have e0 : mergeK [] (Gvs (plM t ((j : Int) + 1) ix R)) = Gvs (plM t ((j : Int) + 1) ix R) := mergeK_gvs (plM t ((j : Int) + 1) ix R) [] (by rw [List.nil_append]; unfold plM; rw [List.map_map]; exact g.nd)
      rw [eM, e0]
      refine k ((j : Int) + 1) q _ cut (Same.trans S1 (Same.trans (same_lock hd1 S2) (Same.new hq))) ?_ upd_same
      cases z : H q with
      | none => rfl
      | some o =>
        have := same_lock hd1 S2 _ _ (S1 _ _ z)
        rw [hq] at this
        cases this
end
end K43
namespace K43
open PySem L2
open PyProof.Rows PySem.Spec
/-- 1 if a moment has come -/
def came (t c p x : Int) : Int := if (x - c) % t ≤ p then 1 else 0
theorem came_of {t c p x : Int} (ht : 1 ≤ t) (h0 : 0 ≤ p) (h1 : p < t) : (c + p - x) / t - (c - 1 - x) / t = came t c p x := by
  have e := Int.mul_ediv_add_emod (x - c) t
  have r0 := Int.emod_nonneg (x - c) (show t ≠ 0 by omega)
  have r1 := Int.emod_lt_of_pos (x - c) (show 0 < t by omega)
  unfold came
  generalize (x - c) % t = ρ at e r0 r1 ⊢
  generalize (x - c) / t = k at e
  have e1 : c + p - x = (p - ρ) + t * (-k) := by rw [Int.mul_neg]; omega
  have e2 : c - 1 - x = (-1 - ρ) + t * (-k) := by rw [Int.mul_neg]; omega
  have d2 : (-1 - ρ) / t = -1 := by
    rw [show -1 - ρ = (t - 1 - ρ) + t * (-1) by omega, Int.add_mul_ediv_left _ _ (by omega), Int.ediv_eq_zero_of_lt (by omega) (by omega)]
    omega
  rw [e1, e2, Int.add_mul_ediv_left _ _ (by omega), Int.add_mul_ediv_left _ _ (by omega), d2]
  split
  · rename_i h
    rw [Int.ediv_eq_zero_of_lt (by omega) (by omega)]
    omega
  · rename_i h
    rw [show p - ρ = (t + p - ρ) + t * (-1) by omega, Int.add_mul_ediv_left _ _ (by omega), Int.ediv_eq_zero_of_lt (by omega) (by omega)]
    omega
theorem aSum_per {t τ : Int} (ht : 1 ≤ t) (R : Rws) : aSum t (τ + t) R = aSum t τ R := by
  unfold aSum
  refine congrArg List.sum (List.map_congr_left fun r _ => ?_)
  unfold alR
  rw [show τ + t - r.2.1 = (τ - r.2.1) + t * 1 by omega, show τ + t - r.2.2 = (τ - r.2.2) + t * 1 by omega, Int.add_mul_ediv_left _ _ (by omega), Int.add_mul_ediv_left _ _ (by omega)]
  omega
theorem peak {t c p : Int} {R : Rws} (ht : 1 ≤ t) (h : Cut t R c) (h0 : 0 ≤ p) (h1 : p < t) : aSum t (c + p) R ≤ aSum t (c - 1) R := by
  obtain ⟨m, m1, rfl, m2, _⟩ := h
  rw [show (m : Int) + 1 - 1 = m by omega]
  by_cases q : (m : Int) + 1 + p < t
  · have := m2 (m + 1 + p.toNat) (by omega)
    rw [show ((m + 1 + p.toNat : Nat) : Int) = (m : Int) + 1 + p by omega] at this
    exact this
  · have := m2 (m + 1 + p.toNat - t.toNat) (by omega)
    rw [show ((m + 1 + p.toNat - t.toNat : Nat) : Int) = (m : Int) + 1 + p - t by omega] at this
    rw [← aSum_per ht] at this
    rw [show (m : Int) + 1 + p - t + t = (m : Int) + 1 + p by omega] at this
    exact this
theorem came_sum {t c p : Int} (ht : 1 ≤ t) (h0 : 0 ≤ p) (h1 : p < t) : ∀ R : Rws, aSum t (c + p) R - aSum t (c - 1) R = (R.map fun r => came t c p r.2.1).sum - (R.map fun r => came t c p r.2.2).sum
  | [] => rfl
  | r :: R => by
    have ih := came_sum (c := c) ht h0 h1 R
    have e1 := came_of (t := t) (c := c) (p := p) (x := r.2.1) ht h0 h1
    have e2 := came_of (t := t) (c := c) (p := p) (x := r.2.2) ht h0 h1
    unfold aSum at ih ⊢
    rw [List.map_cons, List.map_cons, List.map_cons, List.map_cons, List.sum_cons, List.sum_cons, List.sum_cons, List.sum_cons]
    unfold alR at ih ⊢
    omega
theorem came_count {t c p : Int} (ix : Int) (f : Str × Int × Int → Int) (hf : ∀ r, f r = sel ix r) : ∀ R : Rws, (R.map fun r => came t c p (f r)).sum = ((R.countP fun r => decide ((sel ix r - c) % t ≤ p) : Nat) : Int)
  | [] => rfl
  | r :: R => by
    rw [List.map_cons, List.sum_cons, came_count ix f hf R, List.countP_cons, hf]
    unfold came
    by_cases q : (sel ix r - c) % t ≤ p
    · rw [if_pos q, if_pos (decide_eq_true q)]
      omega
    · rw [if_neg q, if_neg (by rw [decide_eq_false q]; decide)]
      omega
theorem peak_count {t c p : Int} {R : Rws} (ht : 1 ≤ t) (h : Cut t R c) (h0 : 0 ≤ p) (h1 : p < t) : (R.countP fun r => decide ((sel 0 r - c) % t ≤ p)) ≤ R.countP fun r => decide ((sel 1 r - c) % t ≤ p) := by
  have a := peak ht h h0 h1
  have b := came_sum (c := c) ht h0 h1 R
  have c0 := came_count (t := t) (c := c) (p := p) 0 (fun r => r.2.1) (fun _ => rfl) R
  have c1 := came_count (t := t) (c := c) (p := p) 1 (fun r => r.2.2) (fun _ => rfl) R
  omega
/-- where a value ends -/
def endP (S : Rws) (t c : Int) (n : Str) : Int := ((spn S n).2 - c) % t
def begP (S : Rws) (t c : Int) (n : Str) : Int := ((spn S n).1 - c) % t
theorem free_ex {t c : Int} {R S : Rws} (g : Good t S) (srd : Srd R S) (cut : Cut t R c) {bs : List IS} (pm : (bs.map (·.2)).Perm (S.map fun r => ((sel 0 r - c) % t, r.1))) (so : bs.Pairwise fun a b => a.2.1 ≤ b.2.1) {i : Nat} {b : IS} (hb : bs[i]? = some b) {ns : List Str} (ln : ns.length = i) :
    0 ≤ b.2.1 ∧ b.2.1 < t ∧ ∃ n ∈ S.map (·.1), n ∉ ns ∧ endP S t c n ≤ b.2.1 := by
  have t1 := g.t1
  have bm : b.2 ∈ S.map fun r => ((sel 0 r - c) % t, r.1) := pm.mem_iff.mp (List.mem_map.mpr ⟨b, List.mem_of_getElem? hb, rfl⟩)
  obtain ⟨r, _, er⟩ := List.mem_map.mp bm
  have e0 : b.2.1 = (sel 0 r - c) % t := by rw [← er]
  have p0 : 0 ≤ b.2.1 := by rw [e0]; exact Int.emod_nonneg _ (by omega)
  have p1 : b.2.1 < t := by rw [e0]; exact Int.emod_lt_of_pos _ (by omega)
  refine ⟨p0, p1, ?_⟩
  have il : i < bs.length := (List.getElem?_eq_some_iff.mp hb).1
  have k1 : i + 1 ≤ bs.countP fun a => decide (a.2.1 ≤ b.2.1) := by
    have all : ∀ a ∈ bs.take (i + 1), decide (a.2.1 ≤ b.2.1) = true := by
      intro a ha
      rw [List.take_add_one, hb] at ha
      have so2 := so
      rw [← List.take_append_drop (i + 1) bs, List.take_add_one, hb] at so2
      have so3 := (List.pairwise_append.mp so2).1
      rcases List.mem_append.mp ha with ha | ha
      · exact decide_eq_true ((List.pairwise_append.mp so3).2.2 a ha b (by simp))
      · have : a = b := by simpa using ha
        rw [this]
        exact decide_eq_true (Int.le_refl _)
    have c1 := List.countP_eq_length.mpr all
    have c2 := (List.take_sublist (i + 1) bs).countP_le (p := fun a => decide (a.2.1 ≤ b.2.1))
    rw [List.length_take] at c1
    omega
  have k2 : (bs.countP fun a => decide (a.2.1 ≤ b.2.1)) = S.countP fun r => decide ((sel 0 r - c) % t ≤ b.2.1) := by
    have := pm.countP_eq (fun q : Int × Str => decide (q.1 ≤ b.2.1))
    rw [List.countP_map, List.countP_map] at this
    exact this
  have k3 := peak_count t1 cut p0 p1
  rw [← srd.pm.countP_eq, ← srd.pm.countP_eq] at k3
  rcases Classical.em (∃ n ∈ S.map (·.1), n ∉ ns ∧ endP S t c n ≤ b.2.1) with h | h
  · exact h
  · exfalso
    have sub : ∀ n ∈ (S.filter fun r => decide ((sel 1 r - c) % t ≤ b.2.1)).map (·.1), n ∈ ns := by
      intro n hn
      obtain ⟨r, hr, rfl⟩ := List.mem_map.mp hn
      obtain ⟨h1, h2⟩ := List.mem_filter.mp hr
      rcases Classical.em (r.1 ∈ ns) with q | q
      · exact q
      · refine absurd ⟨r.1, List.mem_map.mpr ⟨r, h1, rfl⟩, q, ?_⟩ h
        unfold endP
        rw [spn_at (p := r.2) g.nd h1]
        exact of_decide_eq_true h2
    have nd : ((S.filter fun r => decide ((sel 1 r - c) % t ≤ b.2.1)).map (·.1)).Nodup := (List.filter_sublist.map _).nodup g.nd
    have := nd.length_le_of_subset sub
    rw [List.length_map, ← List.countP_eq_length_filter] at this
    omega
end K43
namespace K43
open PySem L2
open PyProof.Rows PySem.Spec
theorem perm_of_sub : ∀ {a b : List Str}, a.Nodup → (∀ x ∈ a, x ∈ b) → b.length = a.length → a.Perm b
  | [], b, _, _, h => by rw [List.length_eq_zero_iff.mp h]
  | x :: a, b, nd, sb, h => by
    rw [List.nodup_cons] at nd
    have hx := sb x List.mem_cons_self
    have p := List.perm_cons_erase hx
    have l := p.length_eq
    rw [List.length_cons] at l h
    refine (List.Perm.cons x (perm_of_sub (b := b.erase x) nd.2 (fun y hy => ?_) (by omega))).trans p.symm
    exact (List.mem_erase_of_ne (show y ≠ x from fun z => nd.1 (by rw [← z]; exact hy))).mpr (sb y (List.mem_cons_of_mem _ hy))
theorem swept_dv {t c b e : Int} : (e + ((b - c) % t - (e - c) % t) - b) % t = 0 := by
  have h1 := Int.mul_ediv_add_emod (b - c) t
  have h2 := Int.mul_ediv_add_emod (e - c) t
  have : e + ((b - c) % t - (e - c) % t) - b = t * ((e - c) / t - (b - c) / t) := by
    rw [Int.mul_sub]
    omega
  rw [this]
  exact Int.mul_emod_right _ _
theorem plM_at {t c ix : Int} {R S : Rws} (gR : (R.map (·.1)).Nodup) (g : Good t S) (srd : Srd R S) {n : Str} (hn : n ∈ S.map (·.1)) : valV (Gvs (plM t c ix R)) (.inr n) = some (.int ((sel ix (n, spn S n) - c) % t)) := by
  refine valV_gvs (by unfold plM; rw [List.map_map]; exact gR) ?_
  have h := srd.pm.mem_iff.mp (spn_in g.nd hn)
  exact List.mem_map.mpr ⟨_, h, rfl⟩
/-- what the sweep has found -/
structure Swp (t c : Int) (S : Rws) (bs : List IS) (F : Flw) : Prop where
  tg : F.map (·.2.1) = (bs.take F.length).map (·.2.2)
  nd : (F.map (·.1)).Nodup
  sb : ∀ n ∈ F.map (·.1), n ∈ S.map (·.1)
  wt : ∀ x ∈ F, x.2.2 = begP S t c x.2.1 - endP S t c x.1 ∧ 0 ≤ x.2.2
theorem Swp.ok {t c : Int} {R S : Rws} (g : Good t S) (srd : Srd R S) {bs : List IS} (pm : (bs.map (·.2)).Perm (S.map fun r => ((sel 0 r - c) % t, r.1))) (l6 : S.length ≤ 6) {F : Flw} (h : Swp t c S bs F) (lf : F.length = bs.length) : FOk t S F := by
  have lb : bs.length = S.length := by have := pm.length_eq; rw [List.length_map, List.length_map] at this; exact this
  have t1 := g.t1
  refine ⟨?_, ?_, fun x hx => ?_, fun x hx => ?_, by omega⟩
  · exact perm_of_sub h.nd h.sb (by rw [List.length_map, List.length_map]; omega)
  · rw [h.tg, lf, List.take_length]
    have := pm.map (·.2)
    rw [List.map_map, List.map_map] at this
    exact this
  · obtain ⟨h1, h2⟩ := h.wt x hx
    have b1 := Int.emod_lt_of_pos ((spn S x.2.1).1 - c) (show 0 < t by omega)
    have e1 := Int.emod_nonneg ((spn S x.1).2 - c) (show t ≠ 0 by omega)
    unfold begP endP at h1
    omega
  · obtain ⟨h1, _⟩ := h.wt x hx
    rw [h1]
    exact swept_dv
section
variable {P : Program} {w : World} {K : PySem.W.Frag}
                                                      {mg : Str → Option Value} {base : Heap}
def sp_w_follows (K : PySem.W.Frag) : Sp := fun vs H Q _ => ∃ (r d : Addr) (t : Int) (L : List (Str × Addr)) (R S : Rws), vs = [.ref r, .ref d, .int t] ∧ Rl H r ∧ H d = some (.dK (Kvs L)) ∧ Tups H L R ∧ Good t R ∧ (∀ x ∈ R, Fin1 t x) ∧ R.length ≤ 6 ∧ Srd R S ∧
  ∀ fd L' F H', Rl H' r → Only r H H' → H fd = none → H' fd = some (.dK (Kvs L')) → FTs H' L' F → FOk t S F → (∀ x ∈ F, x.2.2 ≤ 3 * t) → Q (.ref fd) H'
theorem ok_w_swept (T : T K mg) : FnOk P w K mg base CX0 3 T.f_w_swept T.d_w_swept ["tray", "rows", "interval"] (sp_w_follows K) := by
  have G_w_pick : FnOk P w K mg base CX0 2 T.f_w_pick T.d_w_pick ["tray", "items"] (sp_w_pick K) := ok_w_pick T
  have G_w_places : FnOk P w K mg base CX0 2 T.f_w_places T.d_w_places ["rows", "interval", "index"] (sp_w_places K) := ok_w_places T
  refine T.F_w_swept.ok sc_w_swept (fun vs H Q E h => ?_) (fun cdv A outer s H vs Q E hr h => ?_)
  · obtain ⟨r, d, t, L, R, S, rfl, _⟩ := h
    rfl
  · obtain ⟨r, d, t, L, R, S, rfl, hR, hd, ts, gR, fin, l6, srd, k⟩ := h
    have hu := hu_of hr
    have hr_w_pick : Room 2 _ := hr.mono (by decide)
    have hr_w_places : Room 2 _ := hr.mono (by decide)
    refine ⟨_, PSs.nox (pss_cons (ps_asg (pe_tup (pa_cons (pe_call G_w_places hr_w_places rfl T.m_w_places T.F_w_places.kp T.b_w_places .nil pass0 (pa_cons (pv 1) (pa_cons (pv 2) (pa_cons pe_int pa_nil)))) (pa_cons (pe_call G_w_places hr_w_places rfl T.m_w_places T.F_w_places.kp T.b_w_places .nil pass0 (pa_cons (pv 1) (pa_cons (pv 2) (pa_cons pe_int pa_nil)))) (pa_cons pe_dnewK pa_nil)))) (pg_tup rfl (pgs_cons (pg_name (i := 3) sc_w_swept.nd rfl (Or.inr rfl)) (pgs_cons (pg_name (i := 4) sc_w_swept.nd rfl (Or.inr rfl)) (pgs_cons (pg_name (i := 5) sc_w_swept.nd rfl (Or.inr rfl)) pgs_nil)))))
      (pss_cons (ps_for PassesOwn.never rfl (pi_list (pe_callB (cr_sortIS (un64 hr)) (by rfl) T.z_sorted (by decide +kernel) (pa_cons (pe_lc (own := [("name", 7)]) (g := gName 7) rfl sc_w_swept.nd (pi_list (pe_callB (call_sortedD rfl) (by rfl) T.z_sorted (by decide +kernel) (pa_cons (pv 1) pa_nil))) (blkOk_by (N := ["tray", "rows", "interval", "begins", "ends", "found", "place", "name", "free", "one", "other"]) (sc := defScope s_w_swept) (by decide +kernel)) (fun _ _ _ _ _ => (pg_name (i := 7) sc_w_swept.nd rfl (Or.inl rfl))) (fun _ _ _ _ _ => pts_nil) (fun _ _ _ _ _ => (pe_tup (pa_cons (pe_dget (by exact hu) (pv 3) (pv 7) (fun _ _ => rfl)) (pa_cons (pv 7) pa_nil))))) pa_nil))) (pg_tup rfl (pgs_cons (pg_name (i := 6) sc_w_swept.nd rfl (Or.inr rfl)) (pgs_cons (pg_name (i := 7) sc_w_swept.nd rfl (Or.inl rfl)) pgs_nil)))
      (pss_cons (ps_setLc (i := 8) (own := [("other", 10)]) (g := gName 10) rfl sc_w_swept.nd rfl rfl (sw_true rfl rfl rfl (by decide +kernel)) (pi_list (pe_callB (call_sortedD rfl) (by rfl) T.z_sorted (by decide +kernel) (pa_cons (pv 1) pa_nil))) (blkOk_by (N := ["tray", "rows", "interval", "begins", "ends", "found", "place", "name", "free", "one", "other"]) (sc := defScope s_w_swept) (by decide +kernel)) (fun _ _ _ _ _ => (pg_name (i := 10) sc_w_swept.nd rfl (Or.inl rfl))) (fun _ _ _ _ _ => pts_one (PW.pt (pw_and (pt_cmp (pc_dnotin (by exact hu) (pv 10) (pv 5)) (by rfl)) (pw_and1 (pt_cmpR op_le (pe_dget (by exact hu) (pv 4) (pv 10) (fun _ _ => rfl)) (pv 6) (nomark _)))))) (fun _ _ _ _ _ => (pv 10)))
      (pss_cons (ps_set (i := 9) sc_w_swept.nd rfl (Or.inl rfl) (pe_call G_w_pick hr_w_pick rfl T.m_w_pick T.F_w_pick.kp T.b_w_pick .nil pass0 (pa_cons (pv 0) (pa_cons (pv 8) pa_nil))))
      (pss_one (ps_dput (by exact hu) (pv 5) (pv 9) (pe_tup (pa_cons (pv 7) (pa_cons (pe_op op_sub (pv 6) (pe_dget (by exact hu) (pv 4) (pv 9) (fun _ _ => rfl))) pa_nil))) rfl)))))
      (pss_one (ps_ret (pv 5))))), ?_⟩
    have t1 := gR.t1
    have t2 := gR.t2
    have gS : Good t S := gR.perm srd.pm
    have lS : S.length ≤ 6 := by rw [srd.pm.length_eq]; exact l6
    refine ⟨_, rfl, _, rfl, d, L, R, t, 0, rfl, hd, ts, gR, fin, .inl rfl, fun c bd H1 cut S1 hbd eb1 => ?_⟩
    refine ⟨_, rfl, _, rfl, d, L, R, t, 1, rfl, S1 _ _ hd, ts.keep (KT.same S1), gR, fin, .inr rfl, fun c' ed H2 cut' S2 hed ee2 => ?_⟩
    obtain rfl := Cut.eq cut cut'
    intro fd hfd
    refine ⟨by show 3 ≤ sizeLine; decide, fun tq htq => ?_⟩
    have S3 : Same H2 (upd (upd H2 fd (.dK [])) tq (.tup [.ref bd, .ref ed, .ref fd])) := Same.trans (Same.new hfd) (Same.new htq)
    have etq : (upd (upd H2 fd (.dK [])) tq (.tup [.ref bd, .ref ed, .ref fd])) tq = some (.tup [.ref bd, .ref ed, .ref fd]) := upd_same
    have nft : fd ≠ tq := fun z => by rw [← z, upd_same] at htq; cases htq
    have efd : (upd (upd H2 fd (.dK [])) tq (.tup [.ref bd, .ref ed, .ref fd])) fd = some (.dK (Kvs [])) := (upd_ne nft).trans upd_same
    have hfH : H fd = none := by
      cases z : H fd with
      | none => rfl
      | some o => rw [S2 _ _ (S1 _ _ z)] at hfd; cases hfd
    generalize upd (upd H2 fd (.dK [])) tq (.tup [.ref bd, .ref ed, .ref fd]) = H3 at S3 etq efd ⊢
    have S03 := Same.trans (Same.trans S1 S2) S3
    have eb3 := S3 _ _ (S2 _ _ eb1)
    have ee3 := S3 _ _ ee2
    refine ⟨tq, _, rfl, SqT.of etq, rfl, _, _, rfl, _, _, rfl, _, _, rfl, rfl, ?_⟩
    have nef : ed ≠ fd := ne_of_none ee2 hfd
    clear S1 S2 S3 eb1 ee2 htq nft etq
    have hd3 := S03 _ _ hd
    refine ⟨_, rfl, d, _, L.map (·.1), rfl, .inl hd3, kvs_keys L, by rw [List.length_map, ts.len]; omega, fun ys pl pm so2 hpl => ?_⟩
    have enm : (L.map (·.1)).Perm (S.map (·.1)) := by rw [ts.names]; exact (srd.pm.map (·.1)).symm
    obtain rfl : ys = S.map (·.1) := sort_to pm so2 enm srd.so
    have S4 := Same.new (o := .lst ((S.map (·.1)).map V.str)) hpl
    have epl : (upd H3 pl (.lst ((S.map (·.1)).map V.str))) pl = some (.lst ((S.map (·.1)).map V.str)) := upd_same
    generalize upd H3 pl (.lst ((S.map (·.1)).map V.str)) = H4 at S4 epl ⊢
    have lN : (S.map (·.1)).length ≤ 6 := by rw [List.length_map]; exact lS
    refine ⟨pl, rfl, ⟨_, SqL.of epl⟩, fun D hD => ?_⟩
    refine lc_it (walk_list (K := K) (a := pl) (xs := (S.map (·.1)).map V.str)) (fun i H' => Same H4 H' ∧ ∃ bs : List IS, H' D = some (.lst (bs.map fun b => V.ref b.1)) ∧ (∀ b ∈ bs, H' b.1 = some (.tup [.int b.2.1, .str b.2.2])) ∧ bs.map (·.2) = ((S.map (·.1)).take i).map fun n => (begP S t c n, n)) ⟨Same.new hD, [], upd_same, (fun b hb => by cases hb), rfl⟩ (fun i H' _ h => SqL.of (h.1 _ _ epl)) ?_ ?_
    · rintro i x Ha Hb hi ⟨Sa, bs, eD, tb, eb⟩ ⟨rfl, hx⟩
      rw [List.getElem?_map] at hx
      cases e2 : (S.map (·.1))[i]? with
      | none => rw [e2] at hx; cases hx
      | some n =>
      rw [e2] at hx
      cases hx
      have hn := List.mem_of_getElem? e2
      refine ⟨rfl, ?_⟩
      unfold tYes
      dsimp only
      rw [if_pos rfl]
      have dg : DGet Hb bd (.str n) (some (.int (begP S t c n))) := by
        have := DGet.k (k := Sum.inr n) (Sa _ _ (S4 _ _ eb3))
        rw [plM_at gR.nd gS srd hn] at this
        exact this
      refine ⟨_, rfl, _, rfl, bd, _, rfl, dg, _, rfl, by show 2 ≤ sizeLine; decide, fun q hq => ?_⟩
      have nDq : D ≠ q := ne_of_none eD hq
      have lb : bs.length = i := by
        have := congrArg List.length eb
        rw [List.length_map, List.length_map, List.length_take] at this
        have := (List.getElem?_eq_some_iff.mp e2).1
        omega
      have i6 := (List.getElem?_eq_some_iff.mp e2).1
      refine ⟨_, (upd_ne nDq).trans eD, by rw [List.length_map, sizeLine_eq]; omega, Same.at hD (Same.trans Sa (Same.new hq)), bs ++ [(q, begP S t c n, n)], by rw [upd_same, List.map_append]; rfl, fun b hb => ?_, ?_⟩
      · have kt : KT Hb (upd (upd Hb q (.tup [.int (begP S t c n), .str n])) D (.lst ((bs.map fun b => V.ref b.1) ++ [.ref q]))) := KT.trans (KT.new hq) (KT.put (u := .lst (bs.map fun b => V.ref b.1)) ((upd_ne nDq).trans eD) (fun _ z => by cases z))
        rcases List.mem_append.mp hb with hb | hb
        · exact kt _ _ (tb b hb)
        · rw [List.mem_singleton.mp hb]
          exact (upd_ne nDq.symm).trans upd_same
      · rw [List.map_append, eb, List.take_add_one, e2, List.map_append]
        rfl
    rintro H5 ⟨S5, bs, eD, tb, eb⟩
    rw [List.length_map, List.take_length] at eb
    have lbs : bs.length = S.length := by
      have := congrArg List.length eb
      rw [List.length_map, List.length_map, List.length_map] at this
      exact this
    refine ⟨D, bs, rfl, SqL.of eD, tb, by omega, fun sl hsl => ?_⟩
    have S6 := Same.new (o := .lst ((bs.mergeSort (PySem.W.dataLe false encIS)).map fun b => V.ref b.1)) hsl
    have esl : (upd H5 sl (.lst ((bs.mergeSort (PySem.W.dataLe false encIS)).map fun b => V.ref b.1))) sl = some (.lst ((bs.mergeSort (PySem.W.dataLe false encIS)).map fun b => V.ref b.1)) := upd_same
    have pmb := List.mergeSort_perm bs (PySem.W.dataLe false encIS)
    have sob : (bs.mergeSort (PySem.W.dataLe false encIS)).Pairwise fun a b => a.2.1 ≤ b.2.1 := (PySem.W.sort_pairwise (PySem.W.sortLe_total _ _ _) bs).imp fun {a b} h => dataLe_is a b h
    have tb6 : ∀ b ∈ bs.mergeSort (PySem.W.dataLe false encIS), (upd H5 sl (.lst ((bs.mergeSort (PySem.W.dataLe false encIS)).map fun b => V.ref b.1))) b.1 = some (.tup [.int b.2.1, .str b.2.2]) := fun b hb => S6 _ _ (tb b (pmb.mem_iff.mp hb))
    generalize upd H5 sl (.lst ((bs.mergeSort (PySem.W.dataLe false encIS)).map fun b => V.ref b.1)) = H6 at S6 esl tb6 ⊢
    have pb : ((bs.mergeSort (PySem.W.dataLe false encIS)).map (·.2)).Perm (S.map fun r => ((sel 0 r - c) % t, r.1)) := by
      refine (pmb.map (·.2)).trans ?_
      rw [eb, List.map_map]
      refine List.Perm.of_eq (List.map_congr_left fun r hr => ?_)
      show (begP S t c r.1, r.1) = _
      unfold begP
      rw [spn_at (p := r.2) gS.nd hr]
      rfl
    generalize bs.mergeSort (PySem.W.dataLe false encIS) = bo at esl pmb sob tb6 pb ⊢
    have lbo : bo.length = S.length := by rw [pmb.length_eq]; exact lbs
    have S06 : Same H H6 := Same.trans S03 (Same.trans S4 (Same.trans S5 S6))
    have S36 : Same H3 H6 := Same.trans S4 (Same.trans S5 S6)
    have efd6 := S36 _ _ efd
    have ee6 := S36 _ _ ee3
    have nsr : sl ≠ r := (Same.rl (Same.trans S03 (Same.trans S4 S5)) hR).ne hsl
    clear S03 S4 S5 S6 S36 efd ee3 eb3 hd3 epl hpl hD eD tb eb lbs pmb bs hsl D pl
    refine ⟨sl, rfl, ⟨_, SqL.of esl⟩, ?_⟩
    have nfr : fd ≠ r := fun z => by obtain ⟨_, _, _, q⟩ := Same.rl S06 hR; rw [← z, efd6] at q; cases q
    have ner : ed ≠ r := fun z => by obtain ⟨_, _, _, q⟩ := Same.rl S06 hR; rw [← z, ee6] at q; cases q
    refine for_it (walk_list (K := K) (a := sl) (xs := bo.map fun b => V.ref b.1)) (fun i σ G => ∃ (v6 v7 v8 v9 v10 : Option V) (L' : List (Str × Addr)) (F : Flw), σ = [some (.ref r), some (.ref d), some (.int t), some (.ref bd), some (.ref ed), some (.ref fd), v6, v7, v8, v9, v10] ∧ Rl G r ∧ Only r H G ∧ G ed = some (.dK (Gvs (plM t c 1 R))) ∧ G sl = some (.lst (bo.map fun b => V.ref b.1)) ∧ (∀ b ∈ bo, G b.1 = some (.tup [.int b.2.1, .str b.2.2])) ∧ G fd = some (.dK (Kvs L')) ∧ FTs G L' F ∧ Swp t c S bo F ∧ F.length = i) ⟨none, none, none, none, none, [], [], rfl, Same.rl S06 hR, fun b o _ e => S06 b o e, ee6, esl, tb6, efd6, .nil, ⟨rfl, List.nodup_nil, (fun n h => by cases h), (fun x h => by cases h)⟩, rfl⟩ (fun i σ G _ h => by obtain ⟨_, _, _, _, _, _, _, _, _, _, _, e, _⟩ := h; exact SqL.of e) ?_ ?_
    · rintro i x σ Ga G hi ⟨v6, v7, v8, v9, v10, L', F, rfl, RG, OG, ee, esl', tbG, eF, fts, sw, lF⟩ ⟨rfl, hx⟩
      rw [List.getElem?_map] at hx
      cases e2 : bo[i]? with
      | none => rw [e2] at hx; cases hx
      | some b =>
      rw [e2] at hx
      cases hx
      obtain ⟨p0, p1, n0, hn0, nn0, ne0⟩ := free_ex gS srd cut pb sob e2 (ns := F.map (·.1)) (by rw [List.length_map]; exact lF)
      have bm := List.mem_of_getElem? e2
      have tG := tbG b bm
      have bS : b.2 ∈ S.map fun r => ((sel 0 r - c) % t, r.1) := pb.mem_iff.mp (List.mem_map.mpr ⟨b, bm, rfl⟩)
      obtain ⟨rw0, hrw, erw⟩ := List.mem_map.mp bS
      have hbp : b.2.1 = begP S t c b.2.2 := by
        rw [← erw]
        unfold begP
        rw [spn_at (p := rw0.2) gS.nd hrw]
        rfl
      have ndr : d ≠ r := fun z => by obtain ⟨_, _, _, q⟩ := hR; rw [← z, hd] at q; cases q
      have hdG := OG _ _ ndr hd
      have il := (List.getElem?_eq_some_iff.mp e2).1
      refine ⟨b.1, _, rfl, SqT.of tG, rfl, _, _, rfl, _, _, rfl, rfl, ?_⟩
      refine ⟨_, rfl, d, _, L.map (·.1), rfl, .inl hdG, kvs_keys L, by rw [List.length_map, ts.len]; omega, fun ys2 pl pm so2 hpl => ?_⟩
      obtain rfl : ys2 = S.map (·.1) := sort_to pm so2 enm srd.so
      have S1 := Same.new (o := .lst ((S.map (·.1)).map V.str)) hpl
      have epl : (upd G pl (.lst ((S.map (·.1)).map V.str))) pl = some (.lst ((S.map (·.1)).map V.str)) := upd_same
      generalize upd G pl (.lst ((S.map (·.1)).map V.str)) = G1 at S1 epl ⊢
      refine ⟨pl, rfl, ⟨_, SqL.of epl⟩, fun D hD => ?_⟩
      refine lc_it (walk_list (K := K) (a := pl) (xs := (S.map (·.1)).map V.str)) (fun j H' => Same G1 H' ∧ H' D = some (.lst ((((S.map (·.1)).take j).filter fun n => !decide (n ∈ F.map (·.1)) && decide (endP S t c n ≤ b.2.1)).map V.str))) ⟨Same.new hD, upd_same⟩ (fun j H' _ h => SqL.of (h.1 _ _ epl)) ?_ ?_
      · rintro j x Ha Hb hj ⟨Sa, eD⟩ ⟨rfl, hx⟩
        rw [List.getElem?_map] at hx
        cases e3 : (S.map (·.1))[j]? with
        | none => rw [e3] at hx; cases hx
        | some n =>
        rw [e3] at hx
        cases hx
        have hn := List.mem_of_getElem? e3
        have Sab := Same.trans S1 Sa
        refine ⟨rfl, ?_⟩
        have tk : ∀ cb : Bool, cb = (!decide (n ∈ F.map (·.1)) && decide (endP S t c n ≤ b.2.1)) → ((S.map (·.1)).take (j + 1)).filter (fun n => !decide (n ∈ F.map (·.1)) && decide (endP S t c n ≤ b.2.1)) = ((S.map (·.1)).take j).filter (fun n => !decide (n ∈ F.map (·.1)) && decide (endP S t c n ≤ b.2.1)) ++ (if cb = true then [n] else []) := by
          intro cb h
          rw [List.take_add_one, e3, List.filter_append, h]
          congr 1
          show List.filter _ [n] = _
          rw [List.filter_cons]
          rfl
        have fin : ∀ cb : Bool, cb = (!decide (n ∈ F.map (·.1)) && decide (endP S t c n ≤ b.2.1)) → if cb = true then (∃ v, (some (some (V.str n)) : Option (Option V)) = some (some v) ∧ ∃ acc, Hb D = some (.lst acc) ∧ acc.length < sizeLine ∧ Same G1 (upd Hb D (.lst (acc ++ [v]))) ∧ (upd Hb D (.lst (acc ++ [v]))) D = some (.lst ((((S.map (·.1)).take (j + 1)).filter fun n => !decide (n ∈ F.map (·.1)) && decide (endP S t c n ≤ b.2.1)).map V.str))) else (Same G1 Hb ∧ Hb D = some (.lst ((((S.map (·.1)).take (j + 1)).filter fun n => !decide (n ∈ F.map (·.1)) && decide (endP S t c n ≤ b.2.1)).map V.str))) := by
          intro cb h
          rw [tk cb h]
          cases cb with
          | true =>
            rw [if_pos rfl, if_pos rfl]
            refine ⟨_, rfl, _, eD, ?_, Same.at hD Sa, by rw [upd_same, List.map_append]; rfl⟩
            rw [List.length_map, sizeLine_eq]
            have := List.length_filter_le (fun n => !decide (n ∈ F.map (·.1)) && decide (endP S t c n ≤ b.2.1)) ((S.map (·.1)).take j)
            rw [List.length_take] at this
            omega
          | false =>
            rw [if_neg (by decide), if_neg (by decide), List.append_nil]
            exact ⟨Sa, eD⟩
        have ftb := fts.keep (KT.same Sab)
        by_cases q : n ∈ F.map (·.1)
        · obtain ⟨a, va, _⟩ := ftb.get q
          have dg : DGet Hb fd (.str n) (some (.ref a)) := by
            have := DGet.k (k := Sum.inr n) (Sab _ _ eF)
            rw [va] at this
            exact this
          refine ⟨_, rfl, _, rfl, fd, _, rfl, dg, _, rfl, ?_⟩
          exact fin false (by rw [decide_eq_true q]; rfl)
        · have dg : DGet Hb fd (.str n) none := by
            have := DGet.k (k := Sum.inr n) (Sab _ _ eF)
            rw [valV_none (by rw [fts.names]; exact q)] at this
            exact this
          have dge : DGet Hb ed (.str n) (some (.int (endP S t c n))) := by
            have := DGet.k (k := Sum.inr n) (Sab _ _ ee)
            rw [plM_at gR.nd gS srd hn] at this
            exact this
          refine ⟨_, rfl, _, rfl, fd, _, rfl, dg, _, rfl, ?_⟩
          refine ⟨_, rfl, _, rfl, ed, _, rfl, dge, _, rfl, _, _, rfl, rfl, _, rfl, ?_⟩
          exact fin _ (by rw [decide_eq_false q]; rfl)
      · rintro G2 ⟨S2, eD⟩
        rw [List.length_map, List.take_length] at eD
        have S12 := Same.trans S1 S2
        have RG2 := Same.rl S12 RG
        have nDr : D ≠ r := (Same.rl S1 RG).ne hD
        generalize hfr : (S.map (·.1)).filter (fun n => !decide (n ∈ F.map (·.1)) && decide (endP S t c n ≤ b.2.1)) = fr at eD
        have memfr : ∀ n, n ∈ fr ↔ n ∈ S.map (·.1) ∧ n ∉ F.map (·.1) ∧ endP S t c n ≤ b.2.1 := by
          intro n
          rw [← hfr, List.mem_filter, Bool.and_eq_true, decide_eq_true_eq]
          simp
        have lfr : fr.length ≤ 6 := by
          rw [← hfr]
          exact Nat.le_trans (List.length_filter_le _ _) lN
        have lfr0 : 0 < fr.length := List.length_pos_of_mem ((memfr n0).mpr ⟨hn0, nn0, ne0⟩)
        refine ⟨_, rfl, _, rfl, r, .ref D, fr.map V.str, rfl, RG2, .inl ⟨D, rfl, nDr, .inl (SqL.of eD)⟩, by rw [List.length_map]; exact lfr0, by rw [List.length_map, sizeLine_eq]; omega, fun v G3 hv RG3 O3 => ?_⟩
        obtain ⟨one, ho, rfl⟩ := List.mem_map.mp hv
        obtain ⟨ho1, ho2, ho3⟩ := (memfr one).mp ho
        have ee3 := O3 _ _ ner (S12 _ _ ee)
        have eF3 := O3 _ _ nfr (S12 _ _ eF)
        have k3 : KT G G3 := KT.trans (KT.same S12) (KT.only O3 RG2)
        have fts3 := fts.keep k3
        have dge : DGet G3 ed (.str one) (some (.int (endP S t c one))) := by
          have := DGet.k (k := Sum.inr one) ee3
          rw [plM_at gR.nd gS srd ho1] at this
          exact this
        refine ⟨_, rfl, _, rfl, _, rfl, _, rfl, ed, _, rfl, dge, _, _, rfl, rfl, by show 2 ≤ sizeLine; decide, fun q hq => ?_⟩
        have hoL : one ∉ L'.map (·.1) := by rw [fts.names]; exact ho2
        have nfq : fd ≠ q := ne_of_none eF3 hq
        have eF4 : (upd G3 q (.tup [.str b.2.2, .int (b.2.1 - endP S t c one)])) fd = some (.dK (Kvs L')) := (upd_ne nfq).trans eF3
        have k5 : KT G3 (upd (upd G3 q (.tup [.str b.2.2, .int (b.2.1 - endP S t c one)])) fd (.dK (putK (Kvs L') (.inr one) (.ref q)))) := KT.trans (KT.new hq) (KT.put eF4 (fun _ z => by cases z))
        have lL : L'.length ≤ 6 := by rw [fts.len, lF]; omega
        refine ⟨_, rfl, _, rfl, fd, _, rfl, .inl ⟨Kvs L', .inr one, eF4, rfl, by rw [kvs_len, sizeLine_eq]; omega, rfl⟩, ?_⟩
        have old : ∀ a o, a ≠ r → a ≠ fd → G a = some o → (upd (upd G3 q (.tup [.str b.2.2, .int (b.2.1 - endP S t c one)])) fd (.dK (putK (Kvs L') (.inr one) (.ref q)))) a = some o := fun a o n1 n2 e => by
          have e3 := O3 _ _ n1 (S12 _ _ e)
          rw [upd_ne n2, upd_ne (ne_of_none e3 hq)]
          exact e3
        have R5 : Rl (upd (upd G3 q (.tup [.str b.2.2, .int (b.2.1 - endP S t c one)])) fd (.dK (putK (Kvs L') (.inr one) (.ref q)))) r := by
          obtain ⟨x, y, z, e⟩ := RG3
          exact ⟨x, y, z, by rw [upd_ne nfr.symm, upd_ne (ne_of_none e hq)]; exact e⟩
        refine ⟨some (.int b.2.1), some (.str b.2.2), some (.ref D), some (.str one), v10, L' ++ [(one, q)], F ++ [(one, b.2.2, b.2.1 - endP S t c one)], rfl, R5, ?_, old _ _ ner nef ee, old _ _ nsr (fun z => by rw [z, eF] at esl'; cases esl') esl', fun b' hb' => k5 _ _ (k3 _ _ (tbG b' hb')), ?_, ?_, ?_, by rw [List.length_append, lF]; rfl⟩
        · intro a o n1 e
          exact old a o n1 (fun z => by rw [z, hfH] at e; cases e) (OG a o n1 e)
        · rw [upd_same, putK_kvs hoL]
        · exact (fts3.keep k5).snoc ((upd_ne nfq.symm).trans upd_same)
        · refine ⟨?_, ?_, fun n hn => ?_, fun x hx => ?_⟩
          · rw [List.map_append, List.length_append, List.length_singleton, lF, List.take_add_one, e2, List.map_append, sw.tg, lF]
            rfl
          · rw [List.map_append]
            refine List.nodup_append.mpr ⟨sw.nd, by simp, fun x hx y hy => ?_⟩
            rw [show y = one by simpa using hy]
            exact fun z => ho2 (z ▸ hx)
          · rw [List.map_append] at hn
            rcases List.mem_append.mp hn with hn | hn
            · exact sw.sb n hn
            · rw [show n = one by simpa using hn]
              exact ho1
          · rcases List.mem_append.mp hx with hx | hx
            · exact sw.wt x hx
            · rw [List.mem_singleton.mp hx]
              dsimp only
              rw [← hbp]
              exact ⟨rfl, by omega⟩
    · rintro σ G ⟨v6, v7, v8, v9, v10, L', F, rfl, RG, OG, ee, esl', tbG, eF, fts, sw, lF⟩
      rw [List.length_map] at lF
      refine ⟨_, rfl, k fd L' F G RG OG hfH eF fts (sw.ok gS srd pb lS lF) fun x hx => ?_⟩
      obtain ⟨h1, h2⟩ := sw.wt x hx
      have b1 := Int.emod_lt_of_pos ((spn S x.2.1).1 - c) (show 0 < t by omega)
      have e1 := Int.emod_nonneg ((spn S x.1).2 - c) (show t ≠ 0 by omega)
      unfold begP endP at h1
      omega
end
end K43
namespace K43
open PySem L2
open PyProof.Rows PySem.Spec
theorem drawn_dv {t b e k : Int} : (e + ((b - e) % t + t * k) - b) % t = 0 := by
  have h1 := Int.mul_ediv_add_emod (b - e) t
  have : e + ((b - e) % t + t * k) - b = t * (k - (b - e) / t) := by
    rw [Int.mul_sub]
    omega
  rw [this]
  exact Int.mul_emod_right _ _
section
variable {P : Program} {w : World} {K : PySem.W.Frag}
                                                      {mg : Str → Option Value} {base : Heap}
theorem ok_w_drawn (T : T K mg) : FnOk P w K mg base CX0 3 T.f_w_drawn T.d_w_drawn ["tray", "rows", "interval"] (sp_w_follows K) := by
  have G_w_few : FnOk P w K mg base CX0 2 T.f_w_few T.d_w_few ["tray", "items", "many"] (sp_w_few K) := ok_w_few T
  have G_w_pick : FnOk P w K mg base CX0 2 T.f_w_pick T.d_w_pick ["tray", "items"] (sp_w_pick K) := ok_w_pick T
  refine T.F_w_drawn.ok sc_w_drawn (fun vs H Q E h => ?_) (fun cdv A outer s H vs Q E hr h => ?_)
  · obtain ⟨r, d, t, L, R, S, rfl, _⟩ := h
    rfl
  · obtain ⟨r, d, t, L, R, S, rfl, hR, hd, ts, gR, fin, l6, srd, k⟩ := h
    have hu := hu_of hr
    have hr_w_few : Room 2 _ := hr.mono (by decide)
    have hr_w_pick : Room 2 _ := hr.mono (by decide)
    refine ⟨_, PSs.nox (pss_cons (ps_par (i := 3) (j := 4) (by rfl) sc_w_drawn.nd rfl rfl (by decide) rfl rfl (pa_cons pe_dnewK (pa_cons (pe_callB (call_sortedD rfl) (by rfl) T.z_sorted (by decide +kernel) (pa_cons (pv 1) pa_nil)) pa_nil)) (by rfl))
      (pss_cons (ps_for PassesOwn.never rfl (pi_zip (by rfl) T.z_zip (pa_cons (pv 4) (pa_cons (pe_call G_w_few hr_w_few rfl T.m_w_few T.F_w_few.kp T.b_w_few .nil pass0 (pa_cons (pv 0) (pa_cons (pv 4) (pa_cons (pe_callB call_len_seq (by rfl) T.z_len (by decide +kernel) (pa_cons (pv 4) pa_nil)) pa_nil)))) pa_nil))) (pg_tup rfl (pgs_cons (pg_name (i := 5) sc_w_drawn.nd rfl (Or.inl rfl)) (pgs_cons (pg_name (i := 6) sc_w_drawn.nd rfl (Or.inl rfl)) pgs_nil)))
      (pss_cons (ps_set (i := 7) sc_w_drawn.nd rfl (Or.inl rfl) (pe_op op_mod (pe_callTy call_int1 (by rfl) T.z_int (by decide +kernel) (pa_cons (pe_op op_sub (pe_ix ix_seq (pe_dget (by exact hu) (pv 1) (pv 6) (fun _ _ => rfl)) pe_int (fun _ _ => rfl)) (pe_ix ix_seq (pe_dget (by exact hu) (pv 1) (pv 5) (fun _ _ => rfl)) pe_int (fun _ _ => rfl))) pa_nil)) (pv 2)))
      (pss_one (ps_dput (by exact hu) (pv 3) (pv 5) (pe_tup (pa_cons (pv 6) (pa_cons (pe_op op_add (pv 7) (pe_op op_mul (pv 2) (pe_call G_w_pick hr_w_pick rfl T.m_w_pick T.F_w_pick.kp T.b_w_pick .nil pass0 (pa_cons (pv 0) (pa_cons (pe_lst (pa_cons pe_int (pa_cons pe_int (pa_cons pe_int (pa_cons pe_int (pa_cons pe_int (pa_cons pe_int pa_nil))))))) pa_nil))))) pa_nil))) rfl))))
      (pss_one (ps_ret (pv 3))))), ?_⟩
    have t1 := gR.t1
    have t2 := gR.t2
    have gS : Good t S := gR.perm srd.pm
    have lS : S.length ≤ 6 := by rw [srd.pm.length_eq]; exact l6
    have lN : (S.map (·.1)).length ≤ 6 := by rw [List.length_map]; exact lS
    intro fd hfd
    have ndr : d ≠ r := fun z => by obtain ⟨_, _, _, q⟩ := hR; rw [← z, hd] at q; cases q
    have nfd : d ≠ fd := ne_of_none hd hfd
    refine ⟨_, rfl, d, _, L.map (·.1), rfl, .inl ((upd_ne nfd).trans hd), kvs_keys L, by rw [List.length_map, ts.len]; omega, fun ys pl pm so2 hpl => ?_⟩
    have enm : (L.map (·.1)).Perm (S.map (·.1)) := by rw [ts.names]; exact (srd.pm.map (·.1)).symm
    obtain rfl : ys = S.map (·.1) := sort_to pm so2 enm srd.so
    have S1 : Same H (upd (upd H fd (.dK [])) pl (.lst ((S.map (·.1)).map V.str))) := Same.trans (Same.new hfd) (Same.new hpl)
    have nfp : fd ≠ pl := fun z => by rw [← z, upd_same] at hpl; cases hpl
    have efd : (upd (upd H fd (.dK [])) pl (.lst ((S.map (·.1)).map V.str))) fd = some (.dK (Kvs [])) := (upd_ne nfp).trans upd_same
    have epl : (upd (upd H fd (.dK [])) pl (.lst ((S.map (·.1)).map V.str))) pl = some (.lst ((S.map (·.1)).map V.str)) := upd_same
    have nfr : fd ≠ r := hR.ne hfd
    have npr : pl ≠ r := fun z => by
      obtain ⟨x, y, w, q⟩ := hR
      rw [z, upd_ne nfr.symm, q] at hpl
      cases hpl
    generalize upd (upd H fd (.dK [])) pl (.lst ((S.map (·.1)).map V.str)) = H1 at S1 efd epl ⊢
    refine ⟨_, _, rfl, ?_⟩
    have R1 := Same.rl S1 hR
    refine ⟨_, rfl, _, rfl, _, rfl, _, rfl, pl, _, rfl, .inl (SqL.of epl), r, pl, (S.map (·.1)).map V.str, _, rfl, R1, .inl (SqL.of epl), by rw [List.length_map]; omega, by omega, by rw [List.length_map]; omega, fun ol ys rest H2 R2 O2 hol eol pf lys => ?_⟩
    obtain ⟨os, rfl, mos, ndos⟩ := few_of (f := V.str) (xs := S.map (·.1)) (fun a _ b _ h => V.str.inj h) gS.nd pf
    have los : os.length = (S.map (·.1)).length := by
      rw [List.length_map, List.length_map] at lys
      rw [if_neg (by omega)] at lys
      omega
    have pos : os.Perm (S.map (·.1)) := perm_of_sub ndos mos los.symm
    have nor : ol ≠ r := R1.ne hol
    have nfo : fd ≠ ol := ne_of_none efd hol
    have ep2 := O2 _ _ npr epl
    have ef2 := O2 _ _ nfr efd
    have OH2 : Only r H H2 := fun b o n e => O2 b o n (S1 b o e)
    refine ⟨pl, ol, _, _, rfl, SqL.of ep2, SqL.of eol, ?_⟩
    refine RZ.for_zipL (xs := (S.map (·.1)).map V.str) (ys := os.map V.str) (by simpa using los.symm) (fun i σ G => ∃ (v5 v6 v7 : Option V) (L' : List (Str × Addr)) (F : Flw), σ = [some (.ref r), some (.ref d), some (.int t), some (.ref fd), some (.ref pl), v5, v6, v7] ∧ Rl G r ∧ Only r H G ∧ G pl = some (.lst ((S.map (·.1)).map V.str)) ∧ G ol = some (.lst (os.map V.str)) ∧ G fd = some (.dK (Kvs L')) ∧ FTs G L' F ∧ F.map (·.1) = (S.map (·.1)).take i ∧ F.map (·.2.1) = os.take i ∧ ∀ x ∈ F, (0 ≤ x.2.2 ∧ x.2.2 ≤ 3 * t) ∧ ((spn S x.1).2 + x.2.2 - (spn S x.2.1).1) % t = 0) ⟨none, none, none, [], [], rfl, R2, OH2, ep2, eol, ef2, .nil, rfl, rfl, fun x hx => (by cases hx)⟩ (fun i σ G h => by obtain ⟨_, _, _, _, _, _, _, _, e1, e2, _⟩ := h; exact ⟨SqL.of e1, SqL.of e2⟩) ?_ ?_
    · rintro i x y TT σ G hx hy ⟨v5, v6, v7, L', F, rfl, RG, OG, ep, eo, eF, fts, f1, f2, wt⟩ hT
      rw [List.getElem?_map] at hx hy
      cases e1 : (S.map (·.1))[i]? with
      | none => rw [e1] at hx; cases hx
      | some n =>
      cases e2 : os[i]? with
      | none => rw [e2] at hy; cases hy
      | some m =>
      rw [e1] at hx
      rw [e2] at hy
      cases hx
      cases hy
      have hn := List.mem_of_getElem? e1
      have hm := mos m (List.mem_of_getElem? e2)
      have il := (List.getElem?_eq_some_iff.mp e1).1
      have S3 := Same.new (o := .tup [V.str n, V.str m]) hT
      have eT : (upd G TT (.tup [V.str n, V.str m])) TT = some (.tup [V.str n, V.str m]) := upd_same
      generalize upd G TT (.tup [V.str n, V.str m]) = G1 at S3 eT ⊢
      have OG1 : Only r H G1 := fun b o q e => S3 _ _ (OG b o q e)
      have R1' := Same.rl S3 RG
      have ep1 := S3 _ _ ep
      have eo1 := S3 _ _ eo
      have eF1 := S3 _ _ eF
      have fts1 := fts.keep (KT.same S3)
      refine ⟨TT, _, rfl, SqT.of eT, rfl, _, _, rfl, _, _, rfl, rfl, ?_⟩
      have hd1 := OG1 _ _ ndr hd
      have ts1 := ts.keep (KT.only OG1 hR)
      obtain ⟨u1, b1, en1, hv1, ht1, hm1⟩ := ts1.get ((srd.pm.map (·.1)).mem_iff.mp hn)
      obtain ⟨u2, b2, en2, hv2, ht2, hm2⟩ := ts1.get ((srd.pm.map (·.1)).mem_iff.mp hm)
      have es1 := spn_srd gS srd hm1
      have es2 := spn_srd gS srd hm2
      have dg1 : DGet G1 d (.str n) (some (.ref u1)) := by
        have := DGet.k (k := Sum.inr n) hd1
        rw [hv1] at this
        exact this
      have dg2 : DGet G1 d (.str m) (some (.ref u2)) := by
        have := DGet.k (k := Sum.inr m) hd1
        rw [hv2] at this
        exact this
      refine ⟨_, rfl, _, rfl, d, _, rfl, dg2, .inr (.inl ⟨_, _, _, _, rfl, rfl, SqT.of ht2, rfl, ?_⟩)⟩
      refine ⟨_, rfl, _, rfl, d, _, rfl, dg1, .inr (.inl ⟨_, _, _, _, rfl, rfl, SqT.of ht1, rfl, _, _, rfl, rfl, ?_⟩)⟩
      refine .inl ⟨_, rfl, _, rfl, _, _, rfl, rfl, by omega, ?_⟩
      refine ⟨_, rfl, _, rfl, _, rfl, _, rfl, by show 6 ≤ sizeLine; decide, fun q hq => ?_⟩
      have S4 := Same.new (o := .lst [V.int 0, .int 0, .int 0, .int 0, .int 1, .int 2]) hq
      have eq4 : (upd G1 q (.lst [V.int 0, .int 0, .int 0, .int 0, .int 1, .int 2])) q = some (.lst [V.int 0, .int 0, .int 0, .int 0, .int 1, .int 2]) := upd_same
      refine ⟨r, .ref q, _, rfl, Same.rl S4 R1', .inl ⟨q, rfl, R1'.ne hq, .inl (SqL.of eq4)⟩, by decide, by show 6 ≤ sizeLine; decide, fun v G2 hv RG2 O4 => ?_⟩
      obtain ⟨k0, rfl, k1, k2⟩ : ∃ k0 : Int, v = .int k0 ∧ 0 ≤ k0 ∧ k0 ≤ 2 := by
        simp only [List.mem_cons, List.not_mem_nil, or_false] at hv
        rcases hv with h | h | h | h | h | h
        all_goals subst h; exact ⟨_, rfl, by decide, by decide⟩
      have o12 : ∀ a o, a ≠ r → G1 a = some o → G2 a = some o := fun a o n e => O4 a o n (S4 _ _ e)
      have k12 : KT G1 G2 := KT.trans (KT.same S4) (KT.only O4 (Same.rl S4 R1'))
      have m0 := Int.emod_nonneg (b2 - en1) (show t ≠ 0 by omega)
      have m1 := Int.emod_lt_of_pos (b2 - en1) (show 0 < t by omega)
      have tk : 0 ≤ t * k0 ∧ t * k0 ≤ t * 2 := ⟨Int.mul_nonneg (by omega) k1, Int.mul_le_mul_of_nonneg_left k2 (by omega)⟩
      refine ⟨_, _, rfl, rfl, .inl ⟨by omega, by omega⟩, _, _, rfl, rfl, by show 2 ≤ sizeLine; decide, fun q2 hq2 => ?_⟩
      have eF2 := o12 _ _ nfr eF1
      have nfq : fd ≠ q2 := ne_of_none eF2 hq2
      have eF3 : (upd G2 q2 (.tup [.str m, .int ((b2 - en1) % t + t * k0)])) fd = some (.dK (Kvs L')) := (upd_ne nfq).trans eF2
      have k23 : KT G2 (upd (upd G2 q2 (.tup [.str m, .int ((b2 - en1) % t + t * k0)])) fd (.dK (putK (Kvs L') (.inr n) (.ref q2)))) := KT.trans (KT.new hq2) (KT.put eF3 (fun _ z => by cases z))
      have hnL : n ∉ L'.map (·.1) := by
        rw [fts.names, f1]
        intro hm2
        have nd2 := gS.nd
        rw [← List.take_append_drop i (S.map (·.1))] at nd2
        have hd2 : n ∈ (S.map (·.1)).drop i := by
          rw [List.mem_iff_getElem?]
          exact ⟨0, by rw [List.getElem?_drop]; exact e1⟩
        exact (List.nodup_append.mp nd2).2.2 n hm2 n hd2 rfl
      have lL : L'.length ≤ 6 := by
        have := congrArg List.length f1
        rw [List.length_map, List.length_take] at this
        rw [fts.len]
        omega
      refine ⟨_, rfl, _, rfl, fd, _, rfl, .inl ⟨Kvs L', .inr n, eF3, rfl, by rw [kvs_len, sizeLine_eq]; omega, rfl⟩, ?_⟩
      have old : ∀ a o, a ≠ r → a ≠ fd → G1 a = some o → (upd (upd G2 q2 (.tup [.str m, .int ((b2 - en1) % t + t * k0)])) fd (.dK (putK (Kvs L') (.inr n) (.ref q2)))) a = some o := fun a o n1 n2 e => by
        have e3 := o12 _ _ n1 e
        rw [upd_ne n2, upd_ne (ne_of_none e3 hq2)]
        exact e3
      have R5 : Rl (upd (upd G2 q2 (.tup [.str m, .int ((b2 - en1) % t + t * k0)])) fd (.dK (putK (Kvs L') (.inr n) (.ref q2)))) r := by
        obtain ⟨x, y, z, e⟩ := RG2
        exact ⟨x, y, z, by rw [upd_ne nfr.symm, upd_ne (ne_of_none e hq2)]; exact e⟩
      refine ⟨some (.str n), some (.str m), some (.int ((b2 - en1) % t)), L' ++ [(n, q2)], F ++ [(n, m, (b2 - en1) % t + t * k0)], rfl, R5, ?_, old _ _ npr (fun z => by rw [z, eF1] at ep1; cases ep1) ep1, old _ _ nor (fun z => by rw [z, eF1] at eo1; cases eo1) eo1, ?_, ?_, ?_, ?_, fun x hx => ?_⟩
      · intro a o n1 e
        exact old a o n1 (fun z => by rw [z, hfd] at e; cases e) (OG1 a o n1 e)
      · rw [upd_same, putK_kvs hnL]
      · exact (fts1.keep (KT.trans k12 k23)).snoc ((upd_ne nfq.symm).trans upd_same)
      · rw [List.map_append, f1, List.take_add_one, e1]
        rfl
      · rw [List.map_append, f2, List.take_add_one, e2]
        rfl
      · rcases List.mem_append.mp hx with hx | hx
        · exact wt x hx
        · rw [List.mem_singleton.mp hx]
          dsimp only
          rw [es1, es2]
          exact ⟨⟨by omega, by omega⟩, drawn_dv⟩
    · rintro σ G ⟨v5, v6, v7, L', F, rfl, RG, OG, ep, eo, eF, fts, f1, f2, wt⟩
      rw [List.length_map, List.take_length] at f1
      rw [List.length_map, ← los, List.take_length] at f2
      refine ⟨_, rfl, k fd L' F G RG OG hfd eF fts ⟨by rw [f1], by rw [f2]; exact pos, fun x hx => ⟨(wt x hx).1.1, by have := (wt x hx).1.2; omega⟩, fun x hx => (wt x hx).2, ?_⟩ fun x hx => (wt x hx).1.2⟩
      have := congrArg List.length f1
      rw [List.length_map, List.length_map] at this
      omega
theorem ok_w_follows (T : T K mg) : FnOk P w K mg base CX0 4 T.f_w_follows T.d_w_follows ["tray", "rows", "interval"] (sp_w_follows K) := by
  have G_w_drawn : FnOk P w K mg base CX0 3 T.f_w_drawn T.d_w_drawn ["tray", "rows", "interval"] (sp_w_follows K) := ok_w_drawn T
  have G_w_roll : FnOk P w K mg base CX0 1 T.f_w_roll T.d_w_roll ["tray", "total"] (sp_w_roll K) := ok_w_roll T
  have G_w_swept : FnOk P w K mg base CX0 3 T.f_w_swept T.d_w_swept ["tray", "rows", "interval"] (sp_w_follows K) := ok_w_swept T
  refine T.F_w_follows.ok sc_w_follows (fun vs H Q E h => ?_) (fun cdv A outer s H vs Q E hr h => ?_)
  · obtain ⟨r, d, t, L, R, S, rfl, _⟩ := h
    rfl
  · obtain ⟨r, d, t, L, R, S, rfl, hR, hd, ts, gR, fin, l6, srd, k⟩ := h
    have hu := hu_of hr
    have hr_w_drawn : Room 3 _ := hr.mono (by decide)
    have hr_w_roll : Room 1 _ := hr.mono (by decide)
    have hr_w_swept : Room 3 _ := hr.mono (by decide)
    refine ⟨_, (pss_cons (ps_if (pt_cmpR op_eq (pe_call G_w_roll hr_w_roll rfl T.m_w_roll T.F_w_roll.kp T.b_w_roll .nil pass0 (pa_cons (pv 0) (pa_cons pe_int pa_nil))) pe_int (nomark _))
      (pss_one (ps_ret (pe_call G_w_swept hr_w_swept rfl T.m_w_swept T.F_w_swept.kp T.b_w_swept .nil pass0 (pa_cons (pv 0) (pa_cons (pv 1) (pa_cons (pv 2) pa_nil))))))
      pss_nil)
      (pss_one (ps_ret (pe_call G_w_drawn hr_w_drawn rfl T.m_w_drawn T.F_w_drawn.kp T.b_w_drawn .nil pass0 (pa_cons (pv 0) (pa_cons (pv 1) (pa_cons (pv 2) pa_nil))))))), ?_⟩
    refine ⟨_, rfl, r, 2, rfl, hR, by decide, by decide +kernel, fun v H1 _ _ R1 O1 => ⟨rfl, _, rfl, ?_⟩⟩
    have ndr : d ≠ r := fun z => by obtain ⟨_, _, _, q⟩ := hR; rw [← z, hd] at q; cases q
    have hd1 := O1 _ _ ndr hd
    have ts1 := ts.keep (KT.only O1 hR)
    have k' : ∀ fd L' F H', Rl H' r → Only r H1 H' → H1 fd = none → H' fd = some (.dK (Kvs L')) → FTs H' L' F → FOk t S F → (∀ x ∈ F, x.2.2 ≤ 3 * t) → Q (.ref fd) H' := fun fd L' F H' RH OH hf eF fF ok w3 => by
      refine k fd L' F H' RH (fun b o n e => OH b o n (O1 b o n e)) ?_ eF fF ok w3
      cases z : H fd with
      | none => rfl
      | some o =>
        have nfr : fd ≠ r := R1.ne hf
        rw [O1 _ _ nfr z] at hf
        cases hf
    cases decide (V.int v = V.int 0) with
    | true => exact iteT ⟨_, rfl, _, rfl, _, rfl, r, d, t, L, R, S, rfl, R1, hd1, ts1, gR, fin, l6, srd, k'⟩
    | false => exact iteF ⟨_, rfl, _, rfl, _, rfl, r, d, t, L, R, S, rfl, R1, hd1, ts1, gR, fin, l6, srd, k'⟩
end
end K43
namespace K43
open PySem L2
open PyProof.Rows PySem.Spec
def adr (L : List (Str × Addr)) (n : Str) : Addr := match valV (Kvs L) (.inr n) with
  | some (.ref a) => a
  | _ => 0
/-- the follows of some names -/
def folN (F : Flw) (ns : List Str) : Flw := ns.map fun n => (n, fol F n)
def adrN (L : List (Str × Addr)) (ns : List Str) : List (Str × Addr) := ns.map fun n => (n, adr L n)
theorem FTs.adr {H : Hp} {L : List (Str × Addr)} {F : Flw} (h : FTs H L F) {n : Str} (hn : n ∈ F.map (·.1)) : valV (Kvs L) (.inr n) = some (.ref (adr L n)) ∧ FAt H (adr L n) (fol F n).1 (fol F n).2 := by
  obtain ⟨a, va, ha, _⟩ := h.get hn
  have : K43.adr L n = a := by unfold K43.adr; rw [va]
  rw [this]
  exact ⟨va, ha⟩
theorem fts_names {H : Hp} {L : List (Str × Addr)} {F : Flw} : ∀ {ns : List Str}, (∀ n ∈ ns, FAt H (adr L n) (fol F n).1 (fol F n).2) → FTs H (adrN L ns) (folN F ns)
  | [], _ => .nil
  | n :: ns, h => .cons (h n List.mem_cons_self) (fts_names fun m hm => h m (List.mem_cons_of_mem _ hm))
theorem gvs_adr (L : List (Str × Addr)) (ns : List Str) : Gvs (ns.map fun n => (n, V.ref (adr L n))) = Kvs (adrN L ns) := by
  unfold adrN
  rw [kvs_gvs, List.map_map]
  rfl
theorem adrN_names (L : List (Str × Addr)) (ns : List Str) : (adrN L ns).map (·.1) = ns := by
  unfold adrN
  rw [List.map_map]
  exact List.map_id' _
section
variable {P : Program} {w : World} {K : PySem.W.Frag}
                                                      {mg : Str → Option Value} {base : Heap}
def sp_w_sortedF (K : PySem.W.Frag) : Sp := fun vs H Q _ => ∃ (d : Addr) (t : Int) (S : Rws) (L : List (Str × Addr)) (F : Flw), vs = [.ref d] ∧ Good t S ∧ sortedS (S.map (·.1)) = true ∧ H d = some (.dK (Kvs L)) ∧ FTs H L F ∧ FOk t S F ∧
  ∀ d' L' H', Same H H' → H d' = none → H' d' = some (.dK (Kvs L')) → FTs H' L' (ordF S F) → Q (.ref d') H'
theorem ok_w_sortedF (T : T K mg) : FnOk P w K mg base CX0 1 T.f_w_sorted T.d_w_sorted ["rows"] (sp_w_sortedF K) := by
  refine T.F_w_sorted.ok sc_w_sorted (fun vs H Q E h => ?_) (fun cdv A outer s H vs Q E hr h => ?_)
  · obtain ⟨d, t, S, L, F, rfl, _⟩ := h
    rfl
  · obtain ⟨d, t, S, L, F, rfl, g, so, hd, fts, fok, k⟩ := h
    have hu := hu_of hr
    have l6 := fok.len
    refine ⟨_, (pss_one (ps_ret (pe_callTy (call_dictP rfl) (by rfl) T.z_dict (by decide +kernel) (pa_cons (pe_lc (own := [("name", 1)]) (g := gName 1) rfl sc_w_sorted.nd (pi_list (pe_callB (call_sortedD rfl) (by rfl) T.z_sorted (by decide +kernel) (pa_cons (pv 0) pa_nil))) (blkOk_by (N := ["rows", "name"]) (sc := defScope s_w_sorted) (by decide +kernel)) (fun _ _ _ _ _ => (pg_name (i := 1) sc_w_sorted.nd rfl (Or.inl rfl))) (fun _ _ _ _ _ => pts_nil) (fun _ _ _ _ _ => (pe_tup (pa_cons (pv 1) (pa_cons (pe_dget (by exact hu) (pv 0) (pv 1) (fun _ _ => rfl)) pa_nil))))) pa_nil)))), ?_⟩
    refine ⟨_, rfl, d, _, L.map (·.1), rfl, .inl hd, kvs_keys L, by rw [List.length_map, fts.len]; omega, fun ys pl pm so2 hpl => ?_⟩
    obtain rfl : ys = S.map (·.1) := sort_to pm so2 (by rw [fts.names]; exact fok.nm) so
    have S1 := Same.new (o := .lst ((S.map (·.1)).map V.str)) hpl
    have epl : (upd H pl (.lst ((S.map (·.1)).map V.str))) pl = some (.lst ((S.map (·.1)).map V.str)) := upd_same
    generalize upd H pl (.lst ((S.map (·.1)).map V.str)) = H1 at S1 epl ⊢
    refine ⟨pl, rfl, ⟨_, SqL.of epl⟩, fun D hD => ?_⟩
    have W := walk_list (K := K) (a := pl) (xs := (S.map (·.1)).map V.str)
    rw [List.length_map] at W
    refine lc_pairs W (fun n => V.ref (adr L n)) yat_str (fun H' s => SqL.of (s _ _ epl)) (by rw [List.length_map]; omega) hD ?_ ?_
    · intro n Ha hn Sa C N kC
      refine ⟨rfl, ?_⟩
      unfold tYes
      dsimp only
      rw [if_pos rfl]
      obtain ⟨va, _⟩ := fts.adr (fok.at hn)
      have dg : DGet Ha d (.str n) (some (.ref (adr L n))) := by
        have := DGet.k (k := Sum.inr n) (Sa _ _ (S1 _ _ hd))
        rw [va] at this
        exact this
      exact ⟨_, rfl, _, rfl, _, rfl, d, _, rfl, dg, by show 2 ≤ sizeLine; decide, fun q hq => kC q hq⟩
    · intro H2 ps S2 e2 pg
      refine ⟨D, ps, Gvs ((S.map (·.1)).map fun n => (n, V.ref (adr L n))), rfl, SqL.of e2, pg.pd, fun q hq => ?_⟩
      have e0 : mergeK [] (Gvs ((S.map (·.1)).map fun n => (n, V.ref (adr L n)))) = Gvs ((S.map (·.1)).map fun n => (n, V.ref (adr L n))) := mergeK_gvs _ [] (by rw [List.nil_append, List.map_map]; have e9 : ((S.map (·.1)).map ((fun x : Str × V => x.1) ∘ fun n => (n, V.ref (adr L n)))) = S.map (·.1) := List.map_id' _; rw [e9]; exact g.nd)
      rw [e0, gvs_adr]
      have S3 := Same.trans S1 (Same.trans S2 (Same.new (o := .dK (Kvs (adrN L (S.map (·.1))))) hq))
      refine k q _ _ S3 ?_ upd_same (fts_names fun n hn => ?_)
      · cases z : H q with
        | none => rfl
        | some o =>
          rw [S2 _ _ (S1 _ _ z)] at hq
          cases hq
      · exact KT.same S3 _ _ (fts.adr (fok.at hn)).2
end
end K43
namespace K43
open PySem L2
open PyProof.Rows PySem.Spec
/-- data whose text is short -/
structure TL (d : PyData) (n : Nat) : Prop where
  sh : d.showable = true
  ls : d.leavesShort 13 = true
  bk : d.bulk ≤ n
  dp : d.depth ≤ 10
structure TLs (k : Nat) (ds : List PyData) (n : Nat) : Prop where
  sh : PyData.showableAll ds = true
  ls : PyData.leavesShortAll 13 ds = true
  bk : PyData.bulkAll ds ≤ n
  dp : PyData.depthAll ds ≤ k
structure TD (k : Nat) (d : PyData) (n : Nat) : Prop where
  sh : d.showable = true
  ls : d.leavesShort 13 = true
  bk : d.bulk ≤ n
  dp : d.depth ≤ k
theorem TLs.nil {k : Nat} : TLs k [] 0 := ⟨by simp [PyData.showableAll], by simp [PyData.leavesShortAll], by simp [PyData.bulkAll], by simp [PyData.depthAll]⟩
theorem TLs.cons {k : Nat} {d : PyData} {ds : List PyData} {a b : Nat} (h : TD k d a) (t : TLs k ds b) : TLs k (d :: ds) (a + 1 + b) := by
  obtain ⟨h1, h2, h3, h4⟩ := h
  obtain ⟨t1, t2, t3, t4⟩ := t
  refine ⟨by simp [PyData.showableAll, h1, t1], by simp [PyData.leavesShortAll, h2, t2], ?_, ?_⟩
  · simp only [PyData.bulkAll]
    omega
  · simp only [PyData.depthAll]
    omega
theorem TD.list {k : Nat} {ds : List PyData} {a : Nat} (t : TLs k ds a) : TD (k + 1) (.list ds) a := by
  obtain ⟨t1, t2, t3, t4⟩ := t
  exact ⟨by simpa [PyData.showable] using t1, by simpa [PyData.leavesShort] using t2, by simpa [PyData.bulk] using t3, by simp only [PyData.depth]; omega⟩
theorem TD.tup {k : Nat} {ds : List PyData} {a : Nat} (t : TLs k ds a) : TD (k + 1) (.tuple ds) a := by
  obtain ⟨t1, t2, t3, t4⟩ := t
  exact ⟨by simpa [PyData.showable] using t1, by simpa [PyData.leavesShort] using t2, by simpa [PyData.bulk] using t3, by simp only [PyData.depth]; omega⟩
theorem TD.up {k : Nat} {d : PyData} {a : Nat} (t : TD k d a) : TD (k + 1) d a := ⟨t.sh, t.ls, t.bk, Nat.le_succ_of_le t.dp⟩
theorem TD.int {i : Int} (h1 : -999999999999 ≤ i) (h2 : i ≤ 999999999999) : TD 0 (.int i) 0 := by
  refine ⟨?_, ?_, by simp [PyData.bulk], by simp [PyData.depth]⟩
  · simp only [PyData.showable, decide_eq_true_eq]
    have : i.natAbs.log2 < 40 := by
      refine PySem.Flt.log2_lt_of (by decide) ?_
      omega
    omega
  · simp only [PyData.leavesShort, decide_eq_true_eq]
    exact PyData.shown_int_le2 h1 h2
theorem TD.name {z : Str} (h : nmC z = true) : TD 0 (.str z) 8 := by
  have nl := nmC_len h
  refine ⟨by simp [PyData.showable], ?_, ?_, by simp [PyData.depth]⟩
  · simp only [PyData.leavesShort, List.all_eq_true, decide_eq_true_eq]
    have ok := nm_ok h
    unfold PyData.strOk at ok
    rw [← Array.all_toList, List.all_eq_true] at ok
    intro c hc
    have := of_decide_eq_true (ok c hc)
    have e : (16 : Nat) ^ 8 = 4294967296 := by decide
    omega
  · simp only [PyData.bulk]
    exact nl.2
theorem TD.span {b e : Int} (h : Near 900000000000 (n, b, e)) (h2 : 1 ≤ e - b) : TD 1 (.tuple [.int b, .int e]) 2 := by
  unfold Near at h
  simp only at h
  exact TD.tup (TLs.cons (TD.int (by omega) (by omega)) (TLs.cons (TD.int (by omega) (by omega)) TLs.nil))
theorem TLs.mapd {α : Type} {k m : Nat} {f : α → PyData} : ∀ {xs : List α}, (∀ x ∈ xs, TD k (f x) m) → TLs k (xs.map f) ((m + 1) * xs.length)
  | [], _ => TLs.nil
  | x :: xs, h => by
    have t := TLs.cons (h x List.mem_cons_self) (TLs.mapd (f := f) (xs := xs) fun y hy => h y (List.mem_cons_of_mem _ hy))
    refine ⟨t.sh, t.ls, Nat.le_trans t.bk ?_, t.dp⟩
    rw [List.length_cons, Nat.mul_add]
    omega
theorem TD.names {ns : List Str} (h : ∀ n ∈ ns, nmC n = true) : TD 1 (.tuple (ns.map PyData.str)) (9 * ns.length) := TD.tup (TLs.mapd fun x hx => TD.name (h x hx))
theorem TD.tell {k n : Nat} {d : PyData} (t : TD k d n) (h1 : n ≤ 1000) (h2 : k ≤ 60) : d.showable = true ∧ d.shown.length ≤ sizeLine ∧ d.depth ≤ 60 :=
  ⟨t.sh, PyData.shown_fits_bulk (by decide) (by decide) t.ls (Nat.le_trans (Nat.le_trans t.bk h1) (by decide)), Nat.le_trans t.dp h2⟩
theorem dss_app1 {K : PySem.W.Frag} {H : Hp} {v : V} {d : PyData} (h : RL.DS K H v d) : ∀ {vs : List V} {ds : List PyData}, RL.DSs K H vs ds → RL.DSs K H (vs ++ [v]) (ds ++ [d])
  | _, _, .nil => .cons h .nil
  | _, _, .cons a t => .cons a (dss_app1 h t)

theorem TD.mono {k a b : Nat} {d : PyData} (t : TD k d a) (h : a ≤ b) : TD k d b := ⟨t.sh, t.ls, Nat.le_trans t.bk h, t.dp⟩
theorem TD.upk {k l a : Nat} {d : PyData} (t : TD k d a) (h : k ≤ l) : TD l d a := ⟨t.sh, t.ls, t.bk, Nat.le_trans t.dp h⟩
/-- what a wiring tells -/
def cycD (cs : List (List Str)) : PyData := .tuple (cs.map fun c => .tuple (c.map PyData.str))
noncomputable def toldD (S : Rws) (t : Int) (F : Flw) : PyData := .list [cycD (cyA S F), .tuple ((szs S t F).map PyData.int), .int (szs S t F).sum, .int (cpy S t F (szs S t F).length : Nat), .int (cyA S F).length]
theorem dss_ints {K : PySem.W.Frag} {H : Hp} : ∀ zs : List Int, RL.DSs K H (zs.map V.int) (zs.map PyData.int)
  | [] => .nil
  | z :: zs => .cons (.int z) (dss_ints zs)
theorem dss_strs {K : PySem.W.Frag} {H : Hp} : ∀ zs : List Str, RL.DSs K H (zs.map V.str) (zs.map PyData.str)
  | [] => .nil
  | z :: zs => .cons (.str z) (dss_strs zs)
theorem CTs.dss {K : PySem.W.Frag} {H : Hp} {as : List Addr} {cs : List (List Str)} (h : CTs H as cs) : RL.DSs K H (as.map V.ref) (cs.map fun c => .tuple (c.map PyData.str)) := by
  induction h with
  | nil => exact .nil
  | cons h _ ih => exact .cons (.tup (SqT.of h) (dss_strs _)) ih
theorem FTs.ds {K : PySem.W.Frag} {H : Hp} {a : Addr} {L : List (Str × Addr)} {F : Flw} (h : FTs H L F) (e : H a = some (.dK (Kvs L))) : RL.DS K H (.ref a) (flowsD F) := .dic e h.dsk
theorem FOk.nms {t : Int} {S : Rws} {F : Flw} (g : Good t S) (h : FOk t S F) : ∀ x ∈ F, nmC x.1 = true ∧ nmC x.2.1 = true := fun x hx => by
  have key : ∀ n ∈ S.map (·.1), nmC n = true := fun n hn => by
    obtain ⟨y, hy, rfl⟩ := List.mem_map.mp hn
    exact g.nm y hy
  exact ⟨key _ (h.nm.mem_iff.mp (List.mem_map.mpr ⟨x, hx, rfl⟩)), key _ (h.to hx)⟩
theorem TD.flow {m : Str} {w : Int} (h : nmC m = true) (h0 : 0 ≤ w) (h1 : w ≤ 1000) : TD 1 (.tuple [.str m, .int w]) 10 :=
  TD.tup (TLs.cons (TD.name h) (TLs.cons (TD.int (by omega) (by omega)) TLs.nil))
theorem TD.flows {F : Flw} (hn : ∀ x ∈ F, nmC x.1 = true ∧ nmC x.2.1 = true) (hw : ∀ x ∈ F, 0 ≤ x.2.2 ∧ x.2.2 ≤ 1000) (l6 : F.length ≤ 6) : TD 2 (flowsD F) 120 := by
  have key : ∀ F : Flw, (∀ x ∈ F, nmC x.1 = true ∧ nmC x.2.1 = true) → (∀ x ∈ F, 0 ≤ x.2.2 ∧ x.2.2 ≤ 1000) → PyData.showableKv (F.map flowD) = true ∧ PyData.leavesShortKv 13 (F.map flowD) = true ∧ PyData.bulkKv (F.map flowD) ≤ 20 * F.length ∧ PyData.depthKv (F.map flowD) ≤ 1 := by
    intro R
    induction R with
    | nil => intro _ _; exact ⟨by simp [PyData.showableKv], by simp [PyData.leavesShortKv], by simp [PyData.bulkKv], by simp [PyData.depthKv]⟩
    | cons x R ih =>
      intro h1 h2
      obtain ⟨i1, i2, i3, i4⟩ := ih (fun y hy => h1 y (List.mem_cons_of_mem _ hy)) (fun y hy => h2 y (List.mem_cons_of_mem _ hy))
      have a := TD.name (h1 x List.mem_cons_self).1
      have b := TD.flow (h1 x List.mem_cons_self).2 (h2 x List.mem_cons_self).1 (h2 x List.mem_cons_self).2
      refine ⟨?_, ?_, ?_, ?_⟩
      · simp only [List.map_cons, flowD, PyData.showableKv, a.sh, b.sh, Bool.true_and]
        exact i1
      · simp only [List.map_cons, flowD, PyData.leavesShortKv, a.ls, b.ls, Bool.true_and]
        exact i2
      · have := a.bk
        have := b.bk
        simp only [List.map_cons, flowD, PyData.bulkKv, List.length_cons]
        omega
      · have := a.dp
        have := b.dp
        simp only [List.map_cons, flowD, PyData.depthKv]
        omega
  obtain ⟨k1, k2, k3, k4⟩ := key F hn hw
  unfold flowsD
  exact ⟨by simpa [PyData.showable] using k1, by simpa [PyData.leavesShort] using k2, by simp only [PyData.bulk]; omega, by simp only [PyData.depth]; omega⟩
theorem td_flows {t : Int} {S : Rws} {F : Flw} (g : Good t S) (h : FOk t S F) : TD 2 (flowsD (ordF S F)) 120 := by
  have h2 := h.perm (ordF_perm g h)
  have t2 := g.t2
  exact TD.flows (h2.nms g) (fun x hx => by have := h2.wt x hx; omega) h2.l6
theorem td_told {t : Int} {S : Rws} {F : Flw} (g : Good t S) (h : FOk t S F) : TD 3 (toldD S t F) 600 := by
  have lc := cyA_len h
  have ls := szs_len h (t := t)
  have sb := szs_sum g h
  have zb := szs_bd g h
  have cb : cpy S t F (szs S t F).length ≤ 72 ^ 6 := by
    have b := LC_pos (b := 72) (by decide) (ms := ((szs S t F).take (szs S t F).length).map Int.toNat) fun n hn => by
      obtain ⟨z, hz, rfl⟩ := List.mem_map.mp hn
      have := zb z (List.mem_of_mem_take hz)
      omega
    refine Nat.le_trans b.2 (Nat.pow_le_pow_right (by decide) ?_)
    rw [List.length_map, List.length_take]
    omega
  have e6 : (72 : Nat) ^ 6 = 139314069504 := by decide
  have cyc : TD 2 (cycD (cyA S F)) 400 := by
    refine (TD.tup (TLs.mapd (k := 1) (m := 54) fun c hc => ?_)).mono (by omega)
    obtain ⟨_, sb, l6, _⟩ := cyA_in g h hc
    refine (TD.names fun n hn => ?_).mono (by omega)
    obtain ⟨y, hy, rfl⟩ := List.mem_map.mp (sb n hn)
    exact g.nm y hy
  have siz : TD 1 (.tuple ((szs S t F).map PyData.int)) 6 := (TD.tup (TLs.mapd (k := 0) (m := 0) fun z hz => by have := zb z hz; exact TD.int (by omega) (by omega))).mono (by omega)
  have i1 : TD 0 (.int (szs S t F).sum) 0 := TD.int (by omega) (by omega)
  have i2 : TD 0 (.int (cpy S t F (szs S t F).length : Nat)) 0 := TD.int (by omega) (by omega)
  have i3 : TD 0 (.int (cyA S F).length) 0 := TD.int (by omega) (by omega)
  exact (TD.list (TLs.cons cyc (TLs.cons (siz.upk (by decide)) (TLs.cons (i1.upk (by decide)) (TLs.cons (i2.upk (by decide)) (TLs.cons (i3.upk (by decide)) TLs.nil)))))).mono (by omega)
end K43
namespace K43
open PySem L2
open PyProof.Rows PySem.Spec
theorem kv_vals : ∀ {kvs : List (Key × V)} {vs : List (Key × Value)}, KV kvs vs → Vals (kvs.map (·.2)) (vs.map (·.2))
  | _, _, .nil => .nil
  | _, _, .cons r t => .cons r.2 (kv_vals t)
/-- list(d.values()) -/
def tListVals (te : TE) : TE := fun σ H Q => te σ H fun x H1 => ∃ (d : Addr) (kvs : List (Key × V)), x = .ref d ∧ H1 d = some (.dK kvs) ∧ ∀ p, H1 p = none → Q (.ref p) (upd H1 p (.lst (kvs.map (·.2))))
section
variable {X : Cx} {e : Expr}
                             {te : TE} {p apos cpos pos : Pos}
theorem pe_listVals (hc : X.calm = true) (he : PE X e te) (hg : Gl X "list") (hm : X.mg "list" = none) (hv : bootBuiltins "list" = some (.type "list")) (hbase : attributeBase e "values" X.env (eval e X.env) = eval e X.env := by rfl) (hline : (apos.endLine == cpos.line) = true := by rfl)
    (hs : starEach [.Call (.Attribute e "values" apos) [] [] cpos] X.env = (false, eval (.Call (.Attribute e "values" apos) [] [] cpos) X.env) :: starEach [] X.env := by rfl) :
    PE X (.Call (.Name "list" p) [.Call (.Attribute e "values" apos) [] [] cpos] [] pos) (tListVals te) := by
  refine ⟨fun pins s σ H Q I hq => ?_⟩
  refine wpAny_Call_Name_kw (ld_blt I hg hm hv ?_)
  refine PyProof.Rows.callWith_type1 ?_ hs rfl
  rw [hs]
  show wpAny _ _ (spliced ((false, eval (.Call (.Attribute e "values" apos) [] [] cpos) X.env) :: backTo pos (starEach [] X.env))) _ _ s
  refine Calls.spliced_cons ?_
  refine wpAny_Call_method (T := "dict") (id := "dict.values") hbase rfl hline F.plainAttrs_dict F.slot_dict_values F.type_dict_values (thn (he.run pins s σ H _ I hq) fun u s1 ⟨x, H1, I1, rx, d, kvs, ex, hd, q⟩ => ?_)
  subst ex
  obtain rfl : u = Value.ref d := rx
  obtain ⟨hz, hs0, vs, kv, hdo⟩ := I1.hok d _ hd
  obtain ⟨ep, hat⟩ := hdo.dictAt
  have lk : kvs.length = vs.length := Paired.length kv
  have I2 : Inv X pins σ H1 { s1 with heap := s1.heap.push
                                                           { cls := .type "dict_values", data := .fields #[.ref d] } } := I1.kept (t' := s1.toks) fun b ob q => Heap.get?_push_of_some _ q
  refine ⟨hdo.typeIs, hdo.mapOf.noDict, ?_⟩
  show wpAny _ _ (callWith cpos
                                (.builtin "dict.values") [.ref d] [] []) _ X.xe s1
  refine method_meetsIn F.slot_dict_values F.entry_dict_values rfl (PySem.evalArgs_none ⟨rfl, hdo.typeIs, F.args_dict_values_1 _, _, meets_dict_values (mixKind X.prog X.w) d hs0, ⟨vs, hdo⟩, ?_⟩)
  refine Calls.spliced_nil ?_
  refine PySem.W.kdl_call (PySem.W.kdl_values (knd := mixKind X.prog X.w) (kvs := vs) (ep := ep)) (I1.ok.hd hc) ⟨⟨_, Heap.get?_push_size _ rfl, rfl, rfl⟩, hat.push _⟩ (by omega) fun h' tk acc' c' hk hS hacc => ?_
  have eacc : acc'.toList = vs.map (·.2) := PySem.W.kdl_vals_eq acc'.toList (by rw [Array.length_toList]; exact hacc.1) fun j v e => hacc.2 j v (by rw [← Array.getElem?_toList]; exact e)
  have hlen : (kvs.map (·.2)).length ≤ sizeLine := by rw [List.length_map]; omega
  exact ⟨.ref _, upd H1 (s1.heap.push { cls := .type "dict_values", data := .fields #[.ref d] }).objs.size (.lst (kvs.map (·.2))), I2.laid (t' := tk) hk (Nat.le_refl _) ⟨hlen, acc'.toList, c', by rw [eacc]; exact kv_vals kv, by rw [Array.toArray_toList]; exact hS⟩, rfl, q _ (I2.hok.fresh (Nat.le_refl _))⟩
end
end K43
/-! promises kept where nothing is being told of itself, and a law called for one -/
namespace GW
open PySem PySem.Spec PyProof.Rows L2
open LamX in
/-- a def whose promise is kept where nothing is being told of itself -/
structure FnG (P : Program) (w : World) (K : PySem.W.Frag) (mg : Str → Option Value) (base : Heap) (CX : CXT) (k : Nat) (f : Addr) (fd : FuncData) (ps : List Str) (sp : Sp) : Prop where
  len : ∀ vs H Q E, sp vs H Q E → vs.length = ps.length
  run : ∀ (A : Around) (outer : List Env) (s : Shared) (H : Hp) (args : Args) (us : List Value) (vs : List V) (Q : VK) (E : XK), A.guards = some [] → Room k A → Env0 P w K mg base A outer s H → BindsTo s fd args (ps.zip us) → Vals vs us → sp vs H Q E →
    codeAny (model P w) A (.call
                                 (.ref f) args) (CR CX outer P w H s Q E) s
theorem FunG.okG {P : Program} {w : World} {K : PySem.W.Frag} {mg : Str → Option Value} {base : Heap} {x qual : Str} {st : Stmt} {f : Addr} {fd : FuncData} {N ps : List Str} {k : Nat} {sp : Sp} (F : Fun K x qual st f fd) (S : FnScope N ps (defScope st)) (len : ∀ vs H Q E, sp vs H Q E → vs.length = ps.length)
    (hbody : ∀ (cdv : Value) (A : Around) (outer : List Env) (s : Shared) (H : Hp) (vs : List V) (Q : VK) (E : XK), A.guards = some [] → Room k (A.deeper (PyProof.Rows.envOfC qual (defScope st) s.heap.objs.size f cdv)) → sp vs H Q E →
      ∃ t, PSs (cxOf CX0 P w K mg base N qual (defScope st) f cdv A outer s H E).nox (defBody st) t ∧ t { nx := fun _ H' => Q .non H', rt := Q } (L2.start N vs) H) : FnG P w K mg base CX0 (k + 1) f fd ps sp := by
  obtain ⟨oc, od, kV, doc, pm, an, cdv, ct, osl, rfl, lk, hcd⟩ := F.ex
  refine ⟨len, fun A outer s H args us vs Q E hg hr e0 hb r hsp => ?_⟩
  exact LamX.run_ofS lk hcd S hr e0 hb r (len _ _ _ _ hsp) fun hr' => by
    obtain ⟨t, h, q⟩ := hbody cdv A outer s H vs Q E hg hr' hsp
    exact ⟨t, h.nox, q⟩
section
variable {X : Cx} {CX : CXT} {k : Nat} {f : Addr} {fd : FuncData} {ps : List Str} {sp : Sp} {dvs : List V} {ds : List Value} {E : XK} {x : Str} {p pos : Pos} {e : Expr} {es : List Expr} {t : TA}
theorem pe_callG (F : FnG X.prog X.w X.K X.mg X.base CX k f fd ps sp) (hgd : X.A.guards = some []) (hr : Room k X.A) (hg : Gl X x) (hm : X.mg x = some (.ref f)) (hk : PySem.W.keepIn X.K (.ref f) = true) (hb : Binds X.K fd ps ds) (hd : Vals dvs ds) (hx : Passes CX X E)
    (ha : PA X (e :: es) t) (hdb : (x == ("__debug__" : Str)) = false := by decide) (he : starEach (e :: es) X.env =
                                                                                                                     (false, eval e X.env) :: starEach es X.env := by rfl) (hpl : (backTo pos (starEach es X.env)).any (·.1) = false := by rfl) :
    PE X (.Call (.Name x p)
                            (e :: es) [] pos) (tCall sp dvs E t) := by
  refine ⟨fun pins s σ H Q I h => wpAny_Call_Name_kw (ld_glob I hg hm ?_ hdb)⟩
  refine PySem.W.callWith_K (h₀ := X.base) I.ok.mod.kin hk (thn
                                                                (ha.run pos pins s σ H _ I h) fun us s1 ⟨vs, H1, I1, r, q⟩ => ⟨I1.kIn, ?_⟩) he hpl
  have r2 : Vals (vs ++ dvs) (us ++ ds) := r.append hd
  have hl : (us ++ ds).length = ps.length := by
    rw [← r2.length]
    exact F.len _ _ _ _ q
  have run := F.run X.A X.stack s1 H1 ⟨us, []⟩ (us ++ ds) (vs ++ dvs) Q E hgd hr I1.env0 (hb s1 us I1.kIn hl) r2 q
  refine wpAny_call (codeAny_mono run fun w' s' z => ?_)
  cases w' with
  | error er => exact hx pins σ H1 s1 er s' I1 z
  | ok fl =>
    cases fl with
    | ret u => exact I1.after z
    | next => exact False.elim z
    | brk => exact False.elim z
    | cont => exact False.elim z
end
/-! ### the law's call, of a promise that is kept where nothing is being told of itself -/
section
open PySem.Spec PyProof.Rows LamX
variable {P : Program} {w : World} {K : PySem.W.Frag} {mg mb : Str → Option Value} {CX : CXT} {k : Nat} {fa a : Addr} {cs : List (Addr × Addr)} {fd : FuncData} {x : Str} {sp : Sp} {s1 : Shared} {vs : List Value} {ns : List Int}
/-- the heap ahead of the call, with the script and the tables -/
structure Ahead (K : PySem.W.Frag) (mg mb : Str → Option Value) (cs : List (Addr × Addr)) (a : Addr) (vs : List Value) (s1 : Shared) : Prop where
  kin : K.In s1.heap
  glob : s1.heap.Ns mainGlobals mg
  blt : s1.heap.Ns builtinsNs mb
  boot : ∀ y : Str, y ≠ "__name__" → mb y = bootBuiltins y
  lim : s1.heap.NoLimit
  gens : s1.gens = #[]
  tab : ∀ p ∈ cs, s1.heap.get? p.2 = some { cls := .none, data := .fields #[] }
  offK : ∀ p ∈ cs, K.lookup p.2 = none
  code : ∀ p ∈ cs, PySem.W.CodeHd s1.heap p.1 p.2
  main : ∃ (bm : Addr) (ob : Obj), mg "__builtins__" = some (.ref bm) ∧ bm ≠ builtinsNs ∧ s1.heap.get? bm = some ob ∧ ob.cls = .type "module" ∧ ob.dict = some builtinsNs ∧ ob.data = .plain
  scr : s1.heap.get? a = some { cls := .type "list", data := .seq vs.toArray }
/-- what is tracked: the script at most, and the tables -/
structure Seen (K : PySem.W.Frag) (cs : List (Addr × Addr)) (a : Addr) (H : Hp) : Prop where
  tbl : ∀ p ∈ cs, H p.2 = some (.tbl #[])
  kind : ∀ b, H b = none ∨ (∃ p ∈ cs, p.2 = b) ∨ ∃ o xs, H b = some (.frz o (.lst xs))
  none_ : ∀ b, H b ≠ none → b = a ∨ ∃ p ∈ cs, p.2 = b
  scrK : H a ≠ none → K.lookup a = none
theorem Ahead.free {H : Hp} (h : Ahead K mg mb cs a vs s1) (z : Seen K cs a H) {b : Addr} {o : Obj} (e : s1.heap.get? b = some o) (n1 : ∀ us n, o.data ≠ .seq us n) (n2 : o.data ≠ .fields #[]) : H b = none := by
  cases q : H b with
  | none => rfl
  | some u =>
    rcases z.none_ b (by rw [q]; simp) with rfl | ⟨p, hp, rfl⟩
    · rw [h.scr] at e
      cases e
      exact absurd rfl (n1 _ _)
    · rw [h.tab p hp] at e
      cases e
      exact absurd rfl n2
theorem Ahead.dict {H : Hp} (h : Ahead K mg mb cs a vs s1) (z : Seen K cs a H) {b : Addr} {o : Obj} {es : Array DictEntry} {ep : Nat} (e : s1.heap.get? b = some o) (d : o.data = .dict es ep) : H b = none := by
  refine h.free z e (fun us n y => ?_) fun y => ?_
  · rw [d] at y
    cases y
  · rw [d] at y
    cases y
theorem Ahead.nsp {H : Hp} (h : Ahead K mg mb cs a vs s1) (z : Seen K cs a H) {b : Addr} {m : Str → Option Value} (y : s1.heap.Ns b m) : (hidT s1.heap H).Ns b m := by
  obtain ⟨o, es, ep, e, d, r⟩ := y
  exact ⟨o, es, ep, hidT_get e (h.dict z e d), d, r⟩
theorem Ahead.inK {H : Hp} (h : Ahead K mg mb cs a vs s1) (z : Seen K cs a H) : K.In (hidT s1.heap H) := fun b o e => by
  refine hidT_get (h.kin b o e) ?_
  cases q : H b with
  | none => rfl
  | some u =>
    rcases z.none_ b (by rw [q]; simp) with rfl | ⟨p, hp, rfl⟩
    · rw [z.scrK (by rw [q]; simp)] at e
      cases e
    · rw [h.offK p hp] at e
      cases e
theorem Ahead.mod {H : Hp} (h : Ahead K mg mb cs a vs s1) (z : Seen K cs a H) : L2.Mod K mg (hidT s1.heap H) := by
  obtain ⟨mc, h1, h2⟩ := h.lim
  exact ⟨h.inK z, h.nsp z h.glob, ⟨mb, h.nsp z h.blt, h.boot⟩, mc, h.nsp z h1, h2⟩
theorem Ahead.tabB {H : Hp} (h : Ahead K mg mb cs a vs s1) (z : Seen K cs a H) : ∀ p ∈ cs, TabB (hidT s1.heap H) mg p.1 p.2 := fun p hp => by
  have tp := h.tab p hp
  obtain ⟨oG, esG, epG, eG, dG, _⟩ := h.glob
  refine ⟨?_, ?_, fun y => ?_⟩
  · obtain ⟨o, us, f1, f2, g1, g2, inF, t1, t2, e1, r1, r2, r3, r4, r5, r6, r7, r8, r9⟩ := h.code p hp
    refine ⟨o, us, f1, f2, g1, g2, inF, t1, t2, hidT_get e1 (h.free z e1 (fun v n y => ?_) fun y => ?_), r1, r2, r3, r4, r5, r6, r7, r8, r9⟩
    · rw [r2] at y
      cases y
    · rw [r2] at y
      cases y
      simp at r3
  · obtain ⟨bm, ob, b1, b2, b3, b4, b5, b6⟩ := h.main
    refine ⟨bm, ob, b1, b2, fun y => ?_, fun y => ?_, hidT_get b3 (h.free z b3 (fun v n y => ?_) fun y => ?_), b4, b5, b6⟩
    · rw [y, eG] at b3
      cases b3
      rw [dG] at b6
      cases b6
    · rw [y, tp] at b3
      cases b3
      cases b6
    · rw [b6] at y
      cases y
    · rw [b6] at y
      cases y
  · rw [y, tp] at eG
    cases eG
    cases dG
theorem Ahead.run {H : Hp} (h : Ahead K mg mb cs a vs s1) (z : Seen K cs a H) (hok : HOk P w H s1.heap) (hr : Room k callerA) (F : ∀ base : Heap, K.In base → base.Ns mainGlobals mg → (∀ p ∈ cs, TabB base mg p.1 p.2) → FnG P w K mg base CX k fa fd [x] sp)
    (hbind : ∀ (s : Shared) (u : Value), BindsTo s fd ⟨[u], []⟩ [(x, u)]) (hsp : sp [.ref a] H (fun v _ => v = .bl true) fun _ _ _ => False) (hCX : ∀ e s', CX [] H s1 (fun _ _ _ => False) e s' → False) :
    codeAny (model P w) callerA (.call (.ref fa) ⟨[.ref a], []⟩) (fun r s' => r = .ok (.ret (.bool true)) ∧ OldK s1.heap s'.heap ∧ s'.os = s1.os ∧ AllBare s'.gens) s1 := by
  have e0 : Env0 P w K mg (hidT s1.heap H) callerA [] s1 H :=
    ⟨rfl, h.mod z, fun b o e => of_hidT e, Nat.le_of_eq (hidT_size _ _), trivial, fun b hb => absurd (show b ∈ ([] : List Addr) from hb) (by simp), hok, .of_eq h.gens⟩
  have go := (F _ (h.inK z) (h.nsp z h.glob) (h.tabB z)).run callerA [] s1 H ⟨[.ref a], []⟩ [.ref a] [.ref a] _ _ rfl hr e0 (hbind s1 (.ref a)) (.cons rfl .nil) hsp
  refine codeAny_mono go fun r s' y => ?_
  cases r with
  | error e => exact (hCX e s' y).elim
  | ok fl =>
    cases fl with
    | next => exact False.elim y
    | brk => exact False.elim y
    | cont => exact False.elim y
    | ret u =>
      obtain ⟨v, H', os, bare, un, hok', rv, q⟩ := y
      cases (show v = V.bl true from q)
      cases (show u = Value.bool true from rv)
      have there : ∀ p ∈ cs, ∃ more : Array Value, s'.heap.get? p.2 = some { cls := .none, data := .fields more } := fun p hp => by
        obtain ⟨more, q⟩ := un.tbls p.2 #[] (z.tbl p hp)
        exact ⟨_, hok' p.2 _ q⟩
      have same : ∀ b o, (¬ ∃ p ∈ cs, p.2 = b) → s1.heap.get? b = some o → s'.heap.get? b = some o := fun b o nb e => by
        rcases z.kind b with q | q | ⟨ob, xs, q⟩
        · exact un.keep b o e q (by intro y; exact absurd (show b ∈ ([] : List Addr) from y) (by simp)) (by simp)
        · exact absurd q nb
        · obtain ⟨e1, _⟩ := hok b _ q
          obtain ⟨e2, _⟩ := hok' b _ (un.frzs b ob _ q)
          rw [e] at e1
          cases e1
          exact e2
      refine ⟨rfl, ⟨fun b o e => ?_, fun b o e => ?_⟩, os, bare⟩
      · by_cases c : ∃ p ∈ cs, p.2 = b
        · obtain ⟨p, hp, rfl⟩ := c
          obtain ⟨more, hm⟩ := there p hp
          rw [h.tab p hp] at e
          cases e
          exact .inr (.inl ⟨((h.code p hp).tab (h.tab p hp)).isCodeTable, rfl, #[], more, rfl, by rw [Array.empty_append]; exact hm⟩)
        · exact .inl (same b o c e)
      · by_cases c : ∃ p ∈ cs, p.2 = b
        · obtain ⟨p, hp, rfl⟩ := c
          obtain ⟨more, hm⟩ := there p hp
          exact ⟨_, hm⟩
        · exact ⟨o, same b o c e⟩
/-- the two ways of tracking -/
theorem Ahead.call (h : Ahead K mg mb cs a vs s1) (hi : IntsAre vs ns) (hl : ns.length ≤ sizeLine) (hr : Room k callerA) (F : ∀ base : Heap, K.In base → base.Ns mainGlobals mg → (∀ p ∈ cs, TabB base mg p.1 p.2) → FnG P w K mg base CX k fa fd [x] sp)
    (hbind : ∀ (s : Shared) (u : Value), BindsTo s fd ⟨[u], []⟩ [(x, u)]) (hsp : ∀ H : Hp, (∀ p ∈ cs, H p.2 = some (.tbl #[])) → SqL K H a (ns.map V.int) → sp [.ref a] H (fun v _ => v = .bl true) fun _ _ _ => False)
    (hCX : ∀ H e s', CX [] H s1 (fun _ _ _ => False) e s' → False) :
    codeAny (model P w) callerA (.call (.ref fa) ⟨[.ref a], []⟩) (fun r s' => r = .ok (.ret (.bool true)) ∧ OldK s1.heap s'.heap ∧ s'.os = s1.os ∧ AllBare s'.gens) s1 := by
  classical
  have rv := vals_ints hi
  have off : ¬ ∃ p ∈ cs, p.2 = a := fun ⟨p, hp, e⟩ => by
    have q := h.tab p hp
    rw [e, h.scr] at q
    have q2 : Data.seq vs.toArray _ = Data.fields #[] := congrArg Obj.data (Option.some.inj q)
    cases q2
  let o : HO := .frz { cls := .type "list", data := .seq vs.toArray } (.lst (ns.map V.int))
  cases hk : K.lookup a with
  | some oa =>
    have e := h.kin a oa hk
    rw [h.scr] at e
    cases e
    let H : Hp := fun b => if ∃ p ∈ cs, p.2 = b then some (.tbl #[]) else none
    have Ht : ∀ p ∈ cs, H p.2 = some (.tbl #[]) := fun p hp => if_pos ⟨p, hp, rfl⟩
    have Hn : ∀ {b}, (¬ ∃ p ∈ cs, p.2 = b) → H b = none := fun c => if_neg c
    refine h.run (H := H) ⟨Ht, fun b => ?_, fun b y => ?_, fun y => absurd (Hn off) y⟩ (fun b u q => ?_) hr F hbind (hsp H Ht (.inr ⟨_, vs.toArray, _, hk, rfl, rfl, rfl, by rw [List.size_toArray, hi.length]; exact hl, by simpa using rv⟩)) fun e s' => hCX H e s'
    · by_cases c : ∃ p ∈ cs, p.2 = b
      · exact .inr (.inl c)
      · exact .inl (Hn c)
    · by_cases c : ∃ p ∈ cs, p.2 = b
      · exact .inr c
      · exact absurd (Hn c) y
    · by_cases c : ∃ p ∈ cs, p.2 = b
      · obtain ⟨p, hp, rfl⟩ := c
        rw [Ht p hp] at q
        cases q
        exact h.tab p hp
      · rw [Hn c] at q
        cases q
  | none =>
    let H : Hp := fun b => if b = a then some o else if ∃ p ∈ cs, p.2 = b then some (.tbl #[]) else none
    have Ha : H a = some o := if_pos rfl
    have Ht : ∀ p ∈ cs, H p.2 = some (.tbl #[]) := fun p hp => (if_neg (fun y => off ⟨p, hp, y⟩)).trans (if_pos ⟨p, hp, rfl⟩)
    have Hn : ∀ {b}, b ≠ a → (¬ ∃ p ∈ cs, p.2 = b) → H b = none := fun n c => (if_neg n).trans (if_neg c)
    refine h.run (H := H) ⟨Ht, fun b => ?_, fun b y => ?_, fun _ => hk⟩ (fun b u q => ?_) hr F hbind (hsp H Ht (.inl (.inr ⟨_, Ha⟩))) fun e s' => hCX H e s'
    · by_cases n : b = a
      · exact .inr (.inr ⟨_, _, by rw [n]; exact Ha⟩)
      · by_cases c : ∃ p ∈ cs, p.2 = b
        · exact .inr (.inl c)
        · exact .inl (Hn n c)
    · by_cases n : b = a
      · exact .inl n
      · by_cases c : ∃ p ∈ cs, p.2 = b
        · exact .inr c
        · exact absurd (Hn n c) y
    · by_cases n : b = a
      · rw [n, Ha] at q
        cases q
        rw [n]
        exact ⟨h.scr, by rw [List.length_map]; exact hl, vs, _, rv, h.scr⟩
      · by_cases c : ∃ p ∈ cs, p.2 = b
        · obtain ⟨p, hp, rfl⟩ := c
          rw [Ht p hp] at q
          cases q
          exact h.tab p hp
        · rw [Hn n c] at q
          cases q
/-- what is known of the law's promise at the head's heap -/
def LawG (l : PySem.W.OpenLaw) (w : World) (K : PySem.W.Frag) (CX : CXT) (k n : Nat) (x : Str) (mg : Str → Option Value) (fa : Addr) (h : Heap) : Prop :=
  ∃ (fd : FuncData) (cs : List (Addr × Addr)) (sp : Sp), (∀ p ∈ cs, h.get? p.2 = some { cls := .none, data := .fields #[] }) ∧
                                                                                                                               (∀ p ∈ cs, K.lookup p.2 = none) ∧ (∀ p ∈ cs, PySem.W.CodeHd h p.1 p.2) ∧ (∀ (s : Shared) (u : Value), BindsTo s fd ⟨[u], []⟩ [(x, u)]) ∧
    (∀ (H : Hp) (a : Addr) (ns : List Int), ns.length ≤ n → (∀ p ∈ cs, H p.2 = some (.tbl #[])) → SqL K H a (ns.map V.int) → sp [.ref a] H (fun v _ => v = .bl true) fun _ _ _ => False) ∧
    ∀ base : Heap, K.In base → base.Ns mainGlobals mg → (∀ p ∈ cs, TabB base mg p.1 p.2) → FnG l.prog w K mg base CX k fa fd [x] sp
theorem walkG {l : PySem.W.OpenLaw} {n k : Nat} {q : Program} {loose : List Str} {XP : (Str → Option Value) → Heap → Prop} {YP : World → Heap → Prop} {d : DefRec} {K : Params → PySem.W.Frag} {x : Str}
    (hn : l.most = some n) (hn2 : n ≤ sizeLine) (hdf : d.params.defaults = [])
                                                                               (hr : Room k callerA) (hY : ∀ (w : World) (h : Heap), YP w h → (K w.params).In h)
    (F : ∀ (w : World) (mg : Str → Option Value) (fa : Addr) (h : Heap), YP w h → (K w.params).In h → h.Ns mainGlobals mg → mg d.name = some (.ref fa) → LawG l w (K w.params) CX0 k n x mg fa h) :
    PySem.W.WalkO q loose XP YP l.row.toRowW d []
                                                  (fun f vs => PySem.call f vs) := by
  refine Att.attach_callB hn hdf fun w s₀ s₁ mg mb fa o pm cd doc a vs ns G Y ho hd hcd hmg hobj hints hlen hbits hg => ?_
  have KX := hY w _ Y
  obtain ⟨fd, cs, sp, hT, nT, C, hb, hsp, hF⟩ := F w mg fa _ Y KX G.T.g hmg
  exact (Ahead.mk KX G.T.g G.T.b G.T.builtins G.T.nolimit hg hT nT C G.T.bmain hobj).call hints (Nat.le_trans hlen hn2) hr hF hb (fun H hH hS => hsp H a ns hlen hH hS) fun H e s' z => z.elim
end
end GW
namespace K43
open PySem L2
open PyProof.Rows PySem.Spec
theorem str_assoc (a b c d e : Str) : a ++ b ++ (c ++ d ++ e) = a ++ b ++ c ++ d ++ e := by
  refine str_ext ?_
  show ((a.cps ++ b.cps) ++ ((c.cps ++ d.cps) ++ e.cps)).toList = ((((a.cps ++ b.cps) ++ c.cps) ++ d.cps) ++ e.cps).toList
  simp only [Array.toList_append, List.append_assoc]
section
variable {P : Program} {w : World} {K : PySem.W.Frag}
                                                      {mg : Str → Option Value} {base : Heap}
/-- what follows, by the places of its tuples -/
inductive FAs (H : Hp) (F : Flw) : List Addr → List Str → Prop
  | nil : FAs H F [] []
  | cons {a : Addr} {n : Str} {as : List Addr} {ns : List Str} (h : FAt H a (fol F n).1 (fol F n).2) (t : FAs H F as ns) : FAs H F (a :: as) (n :: ns)
theorem FAs.keep {H H' : Hp} {F : Flw} (k : KT H H') {as : List Addr} {ns : List Str} (h : FAs H F as ns) : FAs H' F as ns := by
  induction h with
  | nil => exact .nil
  | cons h _ ih => exact .cons (k _ _ h) ih
theorem FAs.snoc {H : Hp} {F : Flw} {as : List Addr} {ns : List Str} (h : FAs H F as ns) {a : Addr} {n : Str} (ha : FAt H a (fol F n).1 (fol F n).2) : FAs H F (as ++ [a]) (ns ++ [n]) := by
  induction h with
  | nil => exact .cons ha .nil
  | cons h _ ih => exact .cons h ih
theorem FAs.len {H : Hp} {F : Flw} {as : List Addr} {ns : List Str} (h : FAs H F as ns) : as.length = ns.length := by
  induction h with
  | nil => rfl
  | cons h _ ih => rw [List.length_cons, List.length_cons, ih]
def pairD (F : Flw) (n : Str) : PyData := .tuple [.str (fol F n).1, .int (fol F n).2]
theorem FAs.dss {K : PySem.W.Frag} {H : Hp} {F : Flw} {as : List Addr} {ns : List Str} (h : FAs H F as ns) : RL.DSs K H (as.map V.ref) (ns.map (pairD F)) := by
  induction h with
  | nil => exact .nil
  | cons h _ ih => exact .cons (fat_ds h) ih
theorem fts_vals {K : PySem.W.Frag} {H : Hp} : ∀ {L : List (Str × Addr)} {F : Flw}, FTs H L F → RL.DSs K H ((Kvs L).map (·.2)) (F.map fun x => .tuple [.str x.2.1, .int x.2.2])
  | _, _, .nil => .nil
  | _, _, .cons h t => .cons (fat_ds h) (fts_vals t)
theorem td_pairs {t : Int} {S : Rws} {F : Flw} (g : Good t S) (h : FOk t S F) : TD 2 (.list ((S.map (·.1)).map (pairD F))) 72 := by
  have t2 := g.t2
  have l6 := h.len
  refine (TD.list (TLs.mapd (k := 1) (m := 10) fun n hn => ?_)).mono (by rw [List.length_map]; omega)
  have hm := h.in g hn
  have hw : 0 ≤ (fol F n).2 ∧ (fol F n).2 ≤ 4 * t := h.wt _ hm
  exact TD.flow (h.nms g _ hm).2 hw.1 (by omega)
def sp_w_is_told (K : PySem.W.Frag) (C D : Addr) : Sp := fun vs H Q _ => ∃ (q p r d : Addr) (t : Int) (R S : Rws) (L0 L : List (Str × Addr)) (F : Flw), vs = [.ref q, .ref r, .int t, .ref d] ∧ WgAt H C D q p t S F ∧ H r = some (.dK (Kvs L0)) ∧ Tups H L0 R ∧ Srd R S ∧ H d = some (.dK (Kvs L)) ∧ FTs H L F ∧ ∀ H', Same H H' → Q (.bl true) H'
theorem ok_w_is_told (T : T K mg) (U : UX K mg) : GW.FnG P w K mg base CX0 12 T.f_w_is_told T.d_w_is_told ["wiring", "rows", "interval", "follows"] (sp_w_is_told K U.C U.D) := by
  have G_w_cycles : FnOk P w K mg base CX0 2 T.f_w_cycles T.d_w_cycles ["follows"] (sp_w_cycles K) := ok_w_cycles T
  have G_w_multiple : FnOk P w K mg base CX0 2 T.f_w_multiple T.d_w_multiple ["numbers"] (sp_w_multiple K) := ok_w_multiple T
  have G_w_size : FnOk P w K mg base CX0 2 T.f_w_size T.d_w_size ["rows", "interval", "follows", "names"] (sp_w_size K) := ok_w_size T
  have G_w_sorted : FnOk P w K mg base CX0 1 T.f_w_sorted T.d_w_sorted ["rows"] (sp_w_sortedF K) := ok_w_sortedF T
  have Gc : FnOk P w K mg base CX0 1 U.pc.g U.pc.d ["self"] (getSp U.D "_cycles") := ok_get U.clD U.pc sc_Wiring_cycles U.k3 ⟨_, _, _, rfl⟩
  have Gz : FnOk P w K mg base CX0 4 U.pz.g U.pz.d ["self"] (sp_sizes K U.C U.D) := ok_sizes T U
  have Gr : FnOk P w K mg base CX0 6 U.pr.g U.pr.d ["self"] (sp_regs K U.C U.D) := ok_regs T U
  have Gp : FnOk P w K mg base CX0 6 U.pp.g U.pp.d ["self"] (sp_copies K U.C U.D) := ok_copies T U
  have Gl : FnOk P w K mg base CX0 1 U.wl.f U.wl.d ["self"] (sp_wlen U.C U.D) := ok_wlen T U
  have Gf : FnOk P w K mg base CX0 1 U.pf.g U.pf.d ["self"] (sp_wfol U.C U.D) := ok_wfol T U
  have Gw : FnOk P w K mg base CX0 3 U.wg.f U.wg.d ["self", "name"] (sp_wget U.C U.D) := ok_wget T U
  have Gs : FnOk P w K mg base CX0 8 U.ws.f U.ws.d ["self"] (sp_wstr U.C U.D) := ok_wstr T U
  refine GW.FunG.okG T.F_w_is_told sc_w_is_told (fun vs H Q E h => ?_) (fun cdv A outer s H vs Q E hg hr h => ?_)
  · obtain ⟨q, p, r, d, t, R, S, L0, L, F, rfl, _⟩ := h
    rfl
  · obtain ⟨q, p, r, d, t, R, S, L0, L, F, rfl, wg, hr0, ts, srd, hd, fts, k⟩ := h
    have hu := hu_of hr
    have hr_w_cycles : Room 2 _ := hr.mono (by decide)
    have hr_w_multiple : Room 2 _ := hr.mono (by decide)
    have hr_w_size : Room 2 _ := hr.mono (by decide)
    have hr_w_sorted : Room 1 _ := hr.mono (by decide)
    have hgd : (cxOf CX0 P w K mg base ["wiring", "rows", "interval", "follows", "due", "cycles", "sizes", "told", "wanted", "more", "text", "cycle", "name"] "_law_is_told" (defScope s_w_is_told) T.f_w_is_told cdv A outer s H E).nox.A.guards = some [] := hg
    obtain ⟨sp, fok, dx, fd, ca, Lw, asw, h1, h2, h3, h4, h5⟩ := id wg
    obtain ⟨g, so, _⟩ := id sp
    refine ⟨_, (pss_cons (ps_par (i := 4) (j := 5) (by rfl) sc_w_is_told.nd rfl rfl (by decide) rfl rfl (pa_cons (pe_call G_w_sorted hr_w_sorted rfl T.m_w_sorted T.F_w_sorted.kp T.b_w_sorted .nil pass0 (pa_cons (pv 3) pa_nil)) (pa_cons (pe_call G_w_cycles hr_w_cycles rfl T.m_w_cycles T.F_w_cycles.kp T.b_w_cycles .nil pass0 (pa_cons (pv 3) pa_nil)) pa_nil)) (by rfl))
      (pss_cons (ps_setLc (i := 6) (own := [("cycle", 11)]) (g := gName 11) rfl sc_w_is_told.nd rfl rfl (sw_true rfl rfl rfl (by decide +kernel)) (pi_list (pv 5)) (blkOk_by (N := ["wiring", "rows", "interval", "follows", "due", "cycles", "sizes", "told", "wanted", "more", "text", "cycle", "name"]) (sc := defScope s_w_is_told) (by decide +kernel)) (fun _ _ _ _ _ => (pg_name (i := 11) sc_w_is_told.nd rfl (Or.inl rfl))) (fun _ _ _ _ _ => pts_nil) (fun _ _ _ _ _ => (pe_call G_w_size hr_w_size rfl T.m_w_size T.F_w_size.kp T.b_w_size .nil pass0 (pa_cons (pv 1) (pa_cons (pv 2) (pa_cons (pv 3) (pa_cons (pv 11) pa_nil)))))))
      (pss_cons (ps_set (i := 7) sc_w_is_told.nd rfl (Or.inl rfl) (pe_lst (pa_cons (pe_prop (pv 0) U.clD U.pc.pr Gc (hr.mono (by decide)) U.pc.b .nil pass0 rfl) (pa_cons (pe_prop (pv 0) U.clD U.pz.pr Gz (hr.mono (by decide)) U.pz.b .nil pass0 rfl) (pa_cons (pe_prop (pv 0) U.clD U.pr.pr Gr (hr.mono (by decide)) U.pr.b .nil pass0 rfl) (pa_cons (pe_prop (pv 0) U.clD U.pp.pr Gp (hr.mono (by decide)) U.pp.b .nil pass0 rfl) (pa_cons (pe_callB (OW.cr_ownLen Gl ⟨U.wl.m.at_, U.wl.m.fn⟩ (hr.mono (by decide)) U.wl.b pass0) (by rfl) T.z_len (by decide +kernel) (pa_cons (pv 0) pa_nil)) pa_nil)))))))
      (pss_cons (ps_set (i := 8) sc_w_is_told.nd rfl (Or.inl rfl) (pe_lst (pa_cons (pe_callTy call_tuple_of (by rfl) T.z_tuple (by decide +kernel) (pa_cons (pv 5) pa_nil)) (pa_cons (pe_callTy call_tuple_of (by rfl) T.z_tuple (by decide +kernel) (pa_cons (pv 6) pa_nil)) (pa_cons (pe_callB (cr_sum rfl) (by rfl) T.z_sum (by decide +kernel) (pa_cons (pv 6) pa_nil)) (pa_cons (pe_call G_w_multiple hr_w_multiple rfl T.m_w_multiple T.F_w_multiple.kp T.b_w_multiple .nil pass0 (pa_cons (pv 6) pa_nil)) (pa_cons (pe_callB call_len_seq (by rfl) T.z_len (by decide +kernel) (pa_cons (pv 5) pa_nil)) pa_nil)))))))
      (pss_cons (ps_set (i := 9) sc_w_is_told.nd rfl (Or.inl rfl) (pe_prop (pv 0) U.clD U.pf.pr Gf (hr.mono (by decide)) U.pf.b .nil pass0 rfl))
      (pss_cons (ps_if (pt_cmpR op_ne (pe_callB (RL.cr_reprD hgd (un64 hr)) (by rfl) T.z_repr (by decide +kernel) (pa_cons (pe_lst (pa_cons (pv 9) (pa_cons (pv 7) pa_nil))) pa_nil)) (pe_callB (RL.cr_reprD hgd (un64 hr)) (by rfl) T.z_repr (by decide +kernel) (pa_cons (pe_lst (pa_cons (pv 4) (pa_cons (pv 8) pa_nil))) pa_nil)) (nomark _))
      (pss_one (ps_ret pe_bl))
      pss_nil)
      (pss_cons (ps_dput (by exact hu) (pv 9) (pe_ix ix_seq (pe_callB (call_sortedD rfl) (by rfl) T.z_sorted (by decide +kernel) (pa_cons (pv 1) pa_nil)) pe_int (fun _ _ => rfl)) (pe_tup (pa_cons pe_str (pa_cons pe_int pa_nil))) rfl)
      (pss_cons (ps_dput (by exact hu) (pv 9) (pe_op RL.op_mulS pe_str pe_int) (pe_tup (pa_cons pe_str (pa_cons pe_int pa_nil))) rfl)
      (pss_cons (ps_if (pt_cmpR op_ne (pe_callB (RL.cr_reprD hgd (un64 hr)) (by rfl) T.z_repr (by decide +kernel) (pa_cons (pe_lst (pa_cons (pe_prop (pv 0) U.clD U.pf.pr Gf (hr.mono (by decide)) U.pf.b .nil pass0 rfl) (pa_cons (pe_lock (pe_lc (own := [("name", 12)]) (g := gName 12) rfl sc_w_is_told.nd (pi_keys (pv 4)) (blkOk_by (N := ["wiring", "rows", "interval", "follows", "due", "cycles", "sizes", "told", "wanted", "more", "text", "cycle", "name"]) (sc := defScope s_w_is_told) (by decide +kernel)) (fun _ _ _ _ _ => (pg_name (i := 12) sc_w_is_told.nd rfl (Or.inl rfl))) (fun _ _ _ _ _ => pts_nil) (fun _ _ _ _ _ => (OW.pe_ownItem (pv 0) (pv 12) Gw ⟨U.wg.m.at_, U.wg.m.fn⟩ U.fnW (hr.mono (by decide)) U.wg.b pass0 (fun _ _ => rfl))))) pa_nil))) pa_nil)) (pe_callB (RL.cr_reprD hgd (un64 hr)) (by rfl) T.z_repr (by decide +kernel) (pa_cons (pe_lst (pa_cons (pv 4) (pa_cons (pe_listVals rfl (pv 4) (by rfl) T.z_list (by decide +kernel)) pa_nil))) pa_nil)) (nomark _))
      (pss_one (ps_ret pe_bl))
      pss_nil)
      (pss_cons (ps_set (i := 10) sc_w_is_told.nd rfl (Or.inl rfl) (pe_op op_add_str (pe_op op_add_str pe_str (pe_callTy call_str_int (by rfl) T.z_str (by decide +kernel) (pa_cons (pe_callB call_len_seq (by rfl) T.z_len (by decide +kernel) (pa_cons (pv 5) pa_nil)) pa_nil))) pe_str))
      (pss_one (ps_ret (pe_cmpR op_eq (pe_callTy (OW.cr_ownStr Gs ⟨U.ws.m.at_, U.ws.m.fn⟩ (hr.mono (by decide)) U.ws.b pass0) (by rfl) T.z_str (by decide +kernel) (pa_cons (pv 0) pa_nil)) (pe_op op_add_str (pe_op op_add_str pe_str (pe_callTy call_str_int (by rfl) T.z_str (by decide +kernel) (pa_cons (pe_callB (cr_sum rfl) (by rfl) T.z_sum (by decide +kernel) (pa_cons (pv 6) pa_nil)) pa_nil))) (pv 10)) (nomark _)))))))))))))), ?_⟩
    have lc := cyA_len fok
    have lz := szs_len fok (t := t)
    -- due, cycles
    refine ⟨_, rfl, d, t, S, L, F, rfl, g, so, hd, fts, fok, fun du L1 H1 S1 hdu edu fdu => ?_⟩
    refine ⟨_, rfl, d, t, S, L, F, rfl, g, so, S1 _ _ hd, fts.keep (KT.same S1), fok, fun cl as H2 S2 hcl ecl cts => ?_⟩
    refine ⟨_, _, rfl, ?_⟩
    have S02 := Same.trans S1 S2
    have edu2 := S2 _ _ edu
    have fdu2 := fdu.keep (KT.same S2)
    -- sizes
    have la : as.length ≤ 6 := by rw [cts.len]; exact lc
    have lcas := cts.len
    refine ⟨_, rfl, cl, rfl, ⟨_, SqL.of ecl⟩, fun D hD => ?_⟩
    refine lc_map (walk_list (K := K) (a := cl) (xs := as.map V.ref)) (szAt H2 S t F) (fun H' s => SqL.of (s _ _ ecl)) (by rw [List.length_map]; omega) hD ?_ ?_
    · intro x Ha hx Sa C N kC
      obtain ⟨a, ha, rfl⟩ := List.mem_map.mp hx
      obtain ⟨c, hc, ec⟩ := cts.at a ha
      obtain ⟨_, sb, l6, _⟩ := cyA_in g fok hc
      refine ⟨rfl, ?_⟩
      unfold tYes
      dsimp only
      rw [if_pos rfl]
      rw [szAt_of ec] at kC
      have Sb := Same.trans S02 Sa
      exact ⟨_, rfl, _, rfl, _, rfl, _, rfl, r, d, a, t, R, S, L0, L, F, c, rfl, Sb _ _ hr0, ts.keep (KT.same Sb), srd, g, Sb _ _ hd, fts.keep (KT.same Sb), fok, SqT.of (Sa _ _ ec), l6, sb, kC⟩
    intro H3 S3 eD
    rw [szAt_all cts] at eD
    replace eD : H3 D = some (.lst ((szs S t F).map V.int)) := eD
    have S03 := Same.trans S02 S3
    have edu3 := S3 _ _ edu2
    have fdu3 := fdu2.keep (KT.same S3)
    have ecl3 := S3 _ _ ecl
    have cts3 := cts.keep (KT.same S3)
    clear edu fdu edu2 fdu2 ecl cts S1 S2 S3 hD hcl
    -- told
    have h13 := S03 _ _ h1
    refine ⟨_, rfl, q, dx, _, rfl, h13, q, dx, _, .ref ca, rfl, h13, rfl, ?_⟩
    refine ⟨_, rfl, q, dx, _, rfl, h13, q, p, t, S, F, rfl, wg.same S03, fun sz H4 S4 esz => ?_⟩
    have S04 := Same.trans S03 S4
    refine ⟨_, rfl, q, dx, _, rfl, S04 _ _ h1, q, p, t, S, F, rfl, wg.same S04, fun H5 S5 => ?_⟩
    have S05 := Same.trans S04 S5
    refine ⟨_, rfl, q, dx, _, rfl, S05 _ _ h1, q, p, t, S, F, rfl, wg.same S05, fun H6 S6 => ?_⟩
    have S06 := Same.trans S05 S6
    refine ⟨_, rfl, q, dx, _, rfl, S06 _ _ h1, q, p, t, S, F, rfl, wg.same S06, _, rfl, by omega, by omega, ?_⟩
    refine ⟨by show 5 ≤ sizeLine; decide, fun td htd => ?_⟩
    have S7 := Same.new (o := .lst [.ref ca, .ref sz, .int (szs S t F).sum, .int (cpy S t F (szs S t F).length : Nat), .int (cyA S F).length]) htd
    have etd : (upd H6 td (.lst [.ref ca, .ref sz, .int (szs S t F).sum, .int (cpy S t F (szs S t F).length : Nat), .int (cyA S F).length])) td = some (.lst [.ref ca, .ref sz, .int (szs S t F).sum, .int (cpy S t F (szs S t F).length : Nat), .int (cyA S F).length]) := upd_same
    generalize upd H6 td (.lst [.ref ca, .ref sz, .int (szs S t F).sum, .int (cpy S t F (szs S t F).length : Nat), .int (cyA S F).length]) = H7 at S7 etd ⊢
    have S37 := Same.trans S4 (Same.trans S5 (Same.trans S6 S7))
    have S07 := Same.trans S03 S37
    have esz7 := S7 _ _ (S6 _ _ (S5 _ _ esz))
    have ecl7 := S37 _ _ ecl3
    have eD7 := S37 _ _ eD
    have edu7 := S37 _ _ edu3
    have fdu7 := fdu3.keep (KT.same S37)
    have cts7 := cts3.keep (KT.same S37)
    clear S04 S05 S06 S37 S4 S5 S6 S7 esz ecl3 eD edu3 fdu3 cts3 h13 S03 htd
    -- wanted
    refine ⟨_, rfl, cl, _, rfl, .inl ⟨SqL.of ecl7, fun tc htc => ?_⟩⟩
    have S8 := Same.new (o := .tup (as.map V.ref)) htc
    have etc : (upd H7 tc (.tup (as.map V.ref))) tc = some (.tup (as.map V.ref)) := upd_same
    generalize upd H7 tc (.tup (as.map V.ref)) = H8 at S8 etc ⊢
    refine ⟨_, rfl, D, _, rfl, .inl ⟨SqL.of (S8 _ _ eD7), fun tz htz => ?_⟩⟩
    have S9 := Same.new (o := .tup ((szs S t F).map V.int)) htz
    have etz : (upd H8 tz (.tup ((szs S t F).map V.int))) tz = some (.tup ((szs S t F).map V.int)) := upd_same
    generalize upd H8 tz (.tup ((szs S t F).map V.int)) = H9 at S9 etz ⊢
    have S79 := Same.trans S8 S9
    have eD9 := S79 _ _ eD7
    have ecl9 := S79 _ _ ecl7
    refine ⟨_, rfl, D, _, rfl, SqL.of eD9, _, rfl, D, szs S t F, rfl, SqL.of eD9, szs_bd g fok, lz, ?_⟩
    refine ⟨_, rfl, cl, _, rfl, .inl (SqL.of ecl9), by show 5 ≤ sizeLine; decide, fun wd hwd => ?_⟩
    have S10 := Same.new (o := .lst [.ref tc, .ref tz, .int (szs S t F).sum, .int (LC ((szs S t F).map Int.toNat) : Nat), .int ((as.map V.ref).length : Nat)]) hwd
    have ewd : (upd H9 wd (.lst [.ref tc, .ref tz, .int (szs S t F).sum, .int (LC ((szs S t F).map Int.toNat) : Nat), .int ((as.map V.ref).length : Nat)])) wd = some (.lst [.ref tc, .ref tz, .int (szs S t F).sum, .int (LC ((szs S t F).map Int.toNat) : Nat), .int ((as.map V.ref).length : Nat)]) := upd_same
    generalize upd H9 wd (.lst [.ref tc, .ref tz, .int (szs S t F).sum, .int (LC ((szs S t F).map Int.toNat) : Nat), .int ((as.map V.ref).length : Nat)]) = H10 at S10 ewd ⊢
    have ecp : LC ((szs S t F).map Int.toNat) = cpy S t F (szs S t F).length := by unfold cpy; rw [List.take_length]
    rw [ecp, List.length_map, cts7.len] at ewd
    have S710 := Same.trans S79 S10
    have S010 := Same.trans S07 S710
    -- more
    refine ⟨_, rfl, q, dx, _, rfl, S010 _ _ h1, q, p, t, S, F, rfl, wg.same S010, fun mo Lm hmo fmo => ?_⟩
    have S710' := S710
    have edu7' := edu7
    have ecl7' := ecl7
    have eD7' := eD7
    have S11 := Same.new (o := .dK (Kvs Lm)) hmo
    have emo : (upd H10 mo (.dK (Kvs Lm))) mo = some (.dK (Kvs Lm)) := upd_same
    have fmo1 := fmo.keep (KT.same S11)
    generalize upd H10 mo (.dK (Kvs Lm)) = H11 at S11 emo fmo1 ⊢
    have S011 := Same.trans S010 S11
    have S711 := Same.trans S710 S11
    have hmoH : H mo = none := by
      cases z : H mo with
      | none => rfl
      | some o => rw [S010 _ _ z] at hmo; cases hmo
    have td1 : TD 4 (.list [flowsD (ordF S F), toldD S t F]) 730 := (TD.list (TLs.cons ((td_flows g fok).upk (by decide)) (TLs.cons (td_told g fok) TLs.nil))).mono (by omega)
    have tt1 := td1.tell (by omega) (by decide)
    refine ⟨_, rfl, _, rfl, by show 2 ≤ sizeLine; decide, fun l1 hl1 => ?_⟩
    have S12 := Same.new (o := .lst [.ref mo, .ref td]) hl1
    have el1 : (upd H11 l1 (.lst [.ref mo, .ref td])) l1 = some (.lst [.ref mo, .ref td]) := upd_same
    generalize upd H11 l1 (.lst [.ref mo, .ref td]) = H12 at S12 el1 ⊢
    have S712 := Same.trans S711 S12
    have S012 := Same.trans S011 S12
    refine ⟨l1, .list [flowsD (ordF S F), toldD S t F], rfl, .lst (SqL.of el1) (.cons ((fmo1.keep (KT.same S12)).ds (S12 _ _ emo)) (.cons (.lst (SqL.of (S712 _ _ etd)) (.cons (.tup (SqT.of (S012 _ _ h4)) (h5.keep (KT.same S012)).dss) (.cons (.tup (SqT.of (S712 _ _ esz7)) (dss_ints _)) (.cons (.int _) (.cons (.int _) (.cons (.int _) .nil)))))) .nil)), tt1.1, tt1.2.1, tt1.2.2, ?_⟩
    refine ⟨_, rfl, _, rfl, by show 2 ≤ sizeLine; decide, fun l2 hl2 => ?_⟩
    have S13 := Same.new (o := .lst [.ref du, .ref wd]) hl2
    have el2 : (upd H12 l2 (.lst [.ref du, .ref wd])) l2 = some (.lst [.ref du, .ref wd]) := upd_same
    generalize upd H12 l2 (.lst [.ref du, .ref wd]) = H13 at S13 el2 ⊢
    have S1113 := Same.trans S12 S13
    have S1013 := Same.trans S11 S1113
    have S913 := Same.trans S10 S1013
    have S813 := Same.trans S9 S913
    have S713 := Same.trans S712 S13
    have S013 := Same.trans S012 S13
    refine ⟨l2, .list [flowsD (ordF S F), toldD S t F], rfl, .lst (SqL.of el2) (.cons ((fdu7.keep (KT.same S713)).ds (S713 _ _ edu7)) (.cons (.lst (SqL.of (S1013 _ _ ewd)) (.cons (.tup (SqT.of (S813 _ _ etc)) (cts7.keep (KT.same S713)).dss) (.cons (.tup (SqT.of (S913 _ _ etz)) (dss_ints _)) (.cons (.int _) (.cons (.int _) (.cons (.int _) .nil)))))) .nil)), tt1.1, tt1.2.1, tt1.2.2, ?_⟩
    refine ⟨rfl, _, rfl, ?_⟩
    rw [decide_eq_true rfl]
    refine iteF ?_
    have emo13 := S1113 _ _ emo
    have edu13 := S713 _ _ edu7
    have fdu13 := fdu7.keep (KT.same S713)
    have ecl13 := S713 _ _ ecl7
    have eD13 := S713 _ _ eD7
    clear el1 el2 etd esz7 ewd etc etz S8 S9 S79 S10 S710 S010 S711 S011 S12 S712 S012 S13 S1113 S1013 S913 S813 S713 emo fmo1 S11 edu7 fdu7 ecl7 eD7 eD9 ecl9 cts7 tt1 td1
    -- more[sorted(rows)[0]]
    refine ⟨by show 2 ≤ sizeLine; decide, fun a1 ha1 => ?_⟩
    have S14 := Same.new (o := .tup [V.str "q", .int 0]) ha1
    have emo14 := S14 _ _ emo13
    generalize upd H13 a1 (.tup [V.str "q", .int 0]) = H14 at S14 emo14 ⊢
    have S014 := Same.trans S013 S14
    have nS : (L0.map (·.1)).Perm (S.map (·.1)) := by rw [ts.names]; exact (srd.pm.map (·.1)).symm
    have l6 := fok.len
    have l1' := g.l1
    refine ⟨_, rfl, _, rfl, r, _, L0.map (·.1), rfl, .inl (S014 _ _ hr0), kvs_keys L0, by rw [nS.length_eq, List.length_map]; omega, fun ys pl pm so2 hpl => ?_⟩
    obtain rfl : ys = S.map (·.1) := sort_to pm so2 nS so
    have S15 := Same.new (o := .lst ((S.map (·.1)).map V.str)) hpl
    have epl : (upd H14 pl (.lst ((S.map (·.1)).map V.str))) pl = some (.lst ((S.map (·.1)).map V.str)) := upd_same
    have emo15 := S15 _ _ emo14
    generalize upd H14 pl (.lst ((S.map (·.1)).map V.str)) = H15 at S15 epl emo15 ⊢
    obtain ⟨n0, hn0⟩ : ∃ n0, (S.map (·.1))[0]? = some n0 := ⟨_, List.getElem?_eq_getElem (by rw [List.length_map]; omega)⟩
    have hn0' : ((S.map (·.1)).map V.str)[0]? = some (V.str n0) := by rw [List.getElem?_map, hn0]; rfl
    have lLm : (Kvs Lm).length ≤ 6 := by
      rw [kvs_len, fmo.len]
      unfold ordF
      rw [List.length_map, List.length_map]
      omega
    refine .inl ⟨pl, _, _, .str n0, rfl, rfl, SqL.of epl, atI_nat (j := 0) hn0', mo, _, rfl, DPut.k (k := Sum.inr n0) emo15 (by rw [sizeLine_eq]; omega), ?_⟩
    have lt9 := length_putK (Kvs Lm) (Sum.inr n0 : Key) (.ref a1)
    have kt16 : KT H15 (upd H15 mo (.dK (putK (Kvs Lm) (.inr n0) (.ref a1)))) := KT.put emo15 (fun _ z => by cases z)
    have S016 : Same H (upd H15 mo (.dK (putK (Kvs Lm) (.inr n0) (.ref a1)))) := Same.at hmoH (Same.trans S014 S15)
    have emo16 : (upd H15 mo (.dK (putK (Kvs Lm) (.inr n0) (.ref a1)))) mo = some (.dK (putK (Kvs Lm) (.inr n0) (.ref a1))) := upd_same
    have S1315 := Same.trans S14 S15
    have ndm : du ≠ mo := ne_of_none (S710' _ _ edu7') hmo
    have ncm : cl ≠ mo := ne_of_none (S710' _ _ ecl7') hmo
    have nDm : D ≠ mo := ne_of_none (S710' _ _ eD7') hmo
    have edu16 : (upd H15 mo (.dK (putK (Kvs Lm) (.inr n0) (.ref a1)))) du = _ := (upd_ne ndm).trans (S1315 _ _ edu13)
    have ecl16 : (upd H15 mo (.dK (putK (Kvs Lm) (.inr n0) (.ref a1)))) cl = _ := (upd_ne ncm).trans (S1315 _ _ ecl13)
    have eD16 : (upd H15 mo (.dK (putK (Kvs Lm) (.inr n0) (.ref a1)))) D = _ := (upd_ne nDm).trans (S1315 _ _ eD13)
    have fdu16 := (fdu13.keep (KT.same S1315)).keep kt16
    generalize putK (Kvs Lm) (.inr n0) (.ref a1) = k2 at lt9 kt16 S016 emo16 edu16 ecl16 eD16 fdu16 ⊢
    generalize upd H15 mo (.dK k2) = H16 at S016 emo16 edu16 ecl16 eD16 fdu16 ⊢
    clear S14 S014 S15 S1315 kt16 emo13 emo14 emo15 edu13 ecl13 eD13 fdu13 epl S013
    refine ⟨by show 2 ≤ sizeLine; decide, fun a2 ha2 => ?_⟩
    have S17 := Same.new (o := .tup [V.str "q", .int 0]) ha2
    generalize upd H16 a2 (.tup [V.str "q", .int 0]) = H17 at S17 ⊢
    have emo17 := S17 _ _ emo16
    refine ⟨_, rfl, _, _, rfl, rfl, ?_, mo, _, rfl, DPut.k (k := Sum.inr _) emo17 (by rw [sizeLine_eq]; omega), ?_⟩
    · exact ⟨by decide, fun _ _ => by decide +kernel, fun _ _ => by decide +kernel⟩
    generalize putK k2 _ _ = k3
    have S018 : Same H (upd H17 mo (.dK k3)) := Same.at hmoH (Same.trans S016 S17)
    have edu18 : (upd H17 mo (.dK k3)) du = _ := (upd_ne ndm).trans (S17 _ _ edu16)
    have ecl18 : (upd H17 mo (.dK k3)) cl = _ := (upd_ne ncm).trans (S17 _ _ ecl16)
    have eD18 : (upd H17 mo (.dK k3)) D = _ := (upd_ne nDm).trans (S17 _ _ eD16)
    have fdu18 := (fdu16.keep (KT.same S17)).keep (KT.put (o := .dK k3) emo17 (fun _ z => by cases z))
    generalize upd H17 mo (.dK k3) = H18 at S018 edu18 ecl18 eD18 fdu18 ⊢
    clear S016 S17 emo16 emo17 edu16 ecl16 eD16 fdu16
    -- the second text
    refine ⟨_, rfl, q, dx, _, rfl, S018 _ _ h1, q, p, t, S, F, rfl, wg.same S018, fun m2 Lm2 hm2 fm2 => ?_⟩
    have S19 := Same.new (o := .dK (Kvs Lm2)) hm2
    have em2 : (upd H18 m2 (.dK (Kvs Lm2))) m2 = some (.dK (Kvs Lm2)) := upd_same
    have fm3 := fm2.keep (KT.same S19)
    generalize upd H18 m2 (.dK (Kvs Lm2)) = H19 at S19 em2 fm3 ⊢
    have S019 := Same.trans S018 S19
    have edu19 := S19 _ _ edu18
    refine ⟨du, _, edu19, True.intro, fun od => ?_⟩
    have lk : (upd H19 du (.frz od (.dK (Kvs L1)))) du = some (.frz od (.dK (Kvs L1))) := upd_same
    have SL : Same H (upd H19 du (.frz od (.dK (Kvs L1)))) := Same.at hdu S019
    have ktl : KT H19 (upd H19 du (.frz od (.dK (Kvs L1)))) := KT.put edu19 (fun _ z => by cases z)
    refine ⟨_, rfl, du, od, rfl, .inl ⟨Kvs L1, lk, fun G hG => ?_⟩⟩
    have nGd : G ≠ du := fun z => by rw [z, upd_same] at hG; cases hG
    have nmL : L1.map (·.1) = S.map (·.1) := by rw [fdu18.names, ordF_names]
    refine lc_it walk_keys (fun i H' => Same (upd H19 du (.frz od (.dK (Kvs L1)))) H' ∧ ∃ as2 : List Addr, H' G = some (.lst (as2.map V.ref)) ∧ FAs H' F as2 ((S.map (·.1)).take i)) ⟨Same.new hG, [], upd_same, .nil⟩ (fun i H' _ h => h.1 _ _ lk) ?_ ?_
    · rintro i x Ha Hb hi ⟨Sa, as2, eG, fa⟩ ⟨rfl, kk, vv, ek, rfl⟩
      unfold Kvs at ek
      rw [List.getElem?_map] at ek
      cases e2 : L1[i]? with
      | none => rw [e2] at ek; cases ek
      | some na =>
      rw [e2] at ek
      obtain ⟨e4, e5⟩ := Prod.mk.inj (Option.some.inj ek)
      subst e4 e5
      have e3 : (S.map (·.1))[i]? = some na.1 := by rw [← nmL, List.getElem?_map, e2]; rfl
      have hn := List.mem_of_getElem? e3
      have i6 := (List.getElem?_eq_some_iff.mp e3).1
      rw [List.length_map] at i6
      refine ⟨rfl, ?_⟩
      unfold tYes
      dsimp only
      rw [if_pos rfl]
      have Sb := Same.trans SL Sa
      refine ⟨_, rfl, _, rfl, q, dx, _, rfl, Sb _ _ h1, q, p, t, S, F, na.1, rfl, wg.same Sb, hn, fun a ha => ?_⟩
      have lf := fa.len
      rw [List.length_take] at lf
      refine ⟨_, eG, by rw [List.length_map, sizeLine_eq]; omega, Same.at hG Sa, as2 ++ [a], by rw [upd_same, List.map_append]; rfl, ?_⟩
      have kt : KT Hb (upd Hb G (.lst (as2.map V.ref ++ [.ref a]))) := KT.put eG (fun _ z => by cases z)
      rw [List.take_add_one, e3]
      exact (fa.keep kt).snoc (kt _ _ ha)
    rintro H20 ⟨S20, as2, eG, fa⟩
    have lk1 : (Kvs L1).length = (S.map (·.1)).length := by rw [kvs_len, ← nmL, List.length_map]
    rw [lk1, List.take_length] at fa
    have SU := same_lock edu19 S20
    have edu21 : (upd H20 du (.dK (Kvs L1))) du = some (.dK (Kvs L1)) := upd_same
    have eG21 : (upd H20 du (.dK (Kvs L1))) G = some (.lst (as2.map V.ref)) := (upd_ne nGd).trans eG
    have fa21 := fa.keep (KT.put (o := .dK (Kvs L1)) (S20 _ _ lk) (fun _ z => by cases z))
    refine ⟨S20 _ _ lk, ?_⟩
    generalize upd H20 du (.dK (Kvs L1)) = H21 at SU edu21 eG21 fa21 ⊢
    have S021 := Same.trans S019 SU
    have em21 := SU _ _ em2
    have fm21 := fm3.keep (KT.same SU)
    have ecl21 := SU _ _ (S19 _ _ ecl18)
    have eD21 := SU _ _ (S19 _ _ eD18)
    have fdu21 := (fdu18.keep (KT.same S19)).keep (KT.same SU)
    clear S20 eG fa lk SL ktl hG S19 em2 fm3 S018 edu18 ecl18 eD18 fdu18 edu19 SU S019
    have td2 : TD 3 (.list [flowsD (ordF S F), .list ((S.map (·.1)).map (pairD F))]) 200 := (TD.list (TLs.cons (td_flows g fok) (TLs.cons (td_pairs g fok) TLs.nil))).mono (by omega)
    have tt2 := td2.tell (by omega) (by decide)
    clear td2
    obtain ⟨D2, hD2⟩ : ∃ D2, D2 = PyData.list [flowsD (ordF S F), .list ((S.map (·.1)).map (pairD F))] := ⟨_, rfl⟩
    rw [← hD2] at tt2
    refine ⟨by show 2 ≤ sizeLine; decide, fun l3 hl3 => ?_⟩
    have S22 := Same.new (o := .lst [.ref m2, .ref G]) hl3
    have el3 : (upd H21 l3 (.lst [.ref m2, .ref G])) l3 = some (.lst [.ref m2, .ref G]) := upd_same
    generalize upd H21 l3 (.lst [.ref m2, .ref G]) = H22 at S22 el3 ⊢
    have fa22 : FAs H22 F as2 (S.map (·.1)) := FAs.keep (KT.same S22) fa21
    have da : RL.DSs K H22 (as2.map V.ref) ((S.map (·.1)).map (pairD F)) := FAs.dss fa22
    have dg : RL.DS K H22 (.ref G) (.list ((S.map (·.1)).map (pairD F))) := .lst (SqL.of (S22 _ _ eG21)) da
    have dm : RL.DS K H22 (.ref m2) (flowsD (ordF S F)) := FTs.ds (fm21.keep (KT.same S22)) (S22 _ _ em21)
    have ds1 : RL.DS K H22 (.ref l3) D2 := by
      rw [hD2]
      exact .lst (SqL.of el3) (.cons dm (.cons dg .nil))
    refine ⟨l3, D2, rfl, ds1, tt2.1, tt2.2.1, tt2.2.2, ?_⟩
    refine ⟨_, rfl, _, rfl, du, Kvs L1, rfl, S22 _ _ edu21, fun vl hvl => ?_⟩
    have S23 := Same.new (o := .lst ((Kvs L1).map (·.2))) hvl
    have evl : (upd H22 vl (.lst ((Kvs L1).map (·.2)))) vl = some (.lst ((Kvs L1).map (·.2))) := upd_same
    generalize upd H22 vl (.lst ((Kvs L1).map (·.2))) = H23 at S23 evl ⊢
    refine ⟨by show 2 ≤ sizeLine; decide, fun l4 hl4 => ?_⟩
    have S24 := Same.new (o := .lst [.ref du, .ref vl]) hl4
    have el4 : (upd H23 l4 (.lst [.ref du, .ref vl])) l4 = some (.lst [.ref du, .ref vl]) := upd_same
    generalize upd H23 l4 (.lst [.ref du, .ref vl]) = H24 at S24 el4 ⊢
    have S2124 := Same.trans S22 (Same.trans S23 S24)
    have S024 := Same.trans S021 S2124
    have fdu24 := fdu21.keep (KT.same S2124)
    have evs : (ordF S F).map (fun x => PyData.tuple [.str x.2.1, .int x.2.2]) = (S.map (·.1)).map (pairD F) := by
      unfold ordF
      rw [List.map_map]
      rfl
    have dv : RL.DSs K H24 ((Kvs L1).map (·.2)) ((S.map (·.1)).map (pairD F)) := by
      rw [← evs]
      exact fts_vals fdu24
    have dl : RL.DS K H24 (.ref vl) (.list ((S.map (·.1)).map (pairD F))) := .lst (SqL.of (S24 _ _ evl)) dv
    have dm4 : RL.DS K H24 (.ref du) (flowsD (ordF S F)) := FTs.ds fdu24 (S2124 _ _ edu21)
    have ds2 : RL.DS K H24 (.ref l4) D2 := by
      rw [hD2]
      exact .lst (SqL.of el4) (.cons dm4 (.cons dl .nil))
    refine ⟨l4, D2, rfl, ds2, tt2.1, tt2.2.1, tt2.2.2, ?_⟩
    refine ⟨rfl, _, rfl, ?_⟩
    rw [decide_eq_true rfl]
    refine iteF ?_
    have ecl24 := S2124 _ _ ecl21
    have eD24 := S2124 _ _ eD21
    have sb := szs_sum g fok
    have il := int_len3 sb.1 (by omega)
    have it := int_len (i := ((cyA S F).length : Int)) (by omega) (by omega)
    have b1 : (Str.ofString "wiring of ").length = 10 := by decide +kernel
    have b2 : (Str.ofString " registers in ").length = 14 := by decide +kernel
    have b3 : (Str.ofString " cycles").length = 7 := by decide +kernel
    have lca : ((as.map V.ref).length : Int) = ((cyA S F).length : Int) := by rw [List.length_map, lcas]
    refine ⟨_, rfl, cl, _, rfl, .inl (SqL.of ecl24), ?_⟩
    rw [lca]
    refine ⟨_, rfl, it.2, _, _, rfl, rfl, by rw [b2, sizeLine_eq]; omega, ?_⟩
    refine ⟨_, _, rfl, rfl, by rw [len_app, b2, b3, sizeLine_eq]; omega, ?_⟩
    refine ⟨_, rfl, q, dx, _, rfl, S024 _ _ h1, q, p, t, S, F, rfl, wg.same S024, fun H25 S25 => ⟨_, rfl, ?_⟩⟩
    refine ⟨_, rfl, D, szs S t F, rfl, SqL.of (S25 _ _ eD24), _, rfl, il.2, _, _, rfl, rfl, by rw [b1, sizeLine_eq]; omega, ?_⟩
    refine ⟨_, rfl, _, _, rfl, rfl, by rw [len_app, len_app, len_app, b1, b2, b3, sizeLine_eq]; omega, ?_⟩
    refine ⟨rfl, ?_⟩
    refine bl_to (decide_eq_true (congrArg V.str ?_)) (k _ (Same.trans S024 S25))
    exact (str_assoc _ _ _ _ _).symm
end
end K43
namespace K43
open PySem L2
open PyProof.Rows PySem.Spec OW
section
variable {X : Cx} {CX : CXT} {n : Nat} {C f : Addr} {fd : FuncData} {ps : List Str} {sp : Sp} {E : XK}
/-- o + i, i an int -/
def rOwnAddI (C : Addr) (sp : Sp) (E : XK) : R2 := fun x y H Q => ∃ a dx fs i, x = .ref a ∧ H a = some (.ins C dx fs) ∧ y = .int i ∧ sp [x, y] H Q E
/-- what the machine asks first -/
structure AddI (K : PySem.W.Frag) (C : Addr) : Prop where
  rc : PySem.W.findIn K (.ref C) "__radd__" = some none
  fo : PySem.W.findIn K (.type "int") "__add__" = some (some (.builtin "int.__add__"))
  ro : PySem.W.findIn K (.type "int") "__radd__" = some (some (.builtin "int.__radd__"))
  sb : PySem.W.subIn K (.type "int") (.ref C) = some false
theorem op_ownAddI (F : FnOk X.prog X.w X.K X.mg X.base CX n f fd ps sp) (o : OwnM X C "__add__" f) (hc : PySem.W.selfFirst X.K C = true) (ai : AddI X.K C) (hr : Room n X.A) (hb : Binds X.K fd ps []) (hx : Passes CX X E) : OpR X (binaryOp .Add) (rOwnAddI C sp E) := by
  intro pins s σ H x y u v Q I rx ry h
  obtain ⟨a, dx, fs, i, rfl, ha, rfl, q⟩ := h
  cases rx
  obtain ⟨t, rfl⟩ := ry
  obtain ⟨ox, od, J⟩ := inst_at I ha
  obtain ⟨m, hF⟩ := I.fr
  refine PySem.W.ksp_binT (T := "int") hF I.ok.mod.kin J rfl hc o.fs o.fn ai.rc (.inl rfl) ai.fo ai.ro ai.sb (wpAny_mono (run_at F ⟨hr, rfl⟩ hb hx I (vs := [.ref a, .int i]) (.cons rfl (.cons ⟨t, rfl⟩ .nil)) q) (fun v s' z => ?_) fun _ _ e => e)
  obtain ⟨zv, H', I', r', q'⟩ := z
  refine not_ni r' fun ne => ?_
  cases v <;> first | exact absurd rfl ne | exact ⟨zv, H', I', r', q'⟩
end
end K43
namespace K43
open PySem L2
open PyProof.Rows PySem.Spec
theorem rising_of : ∀ (p : Str) (l : List Str), (∀ y ∈ l, ltCps y.cps.toList p.cps.toList = false) → l.Pairwise (fun a b => ltCps b.cps.toList a.cps.toList = false) → risingS p l = true
  | p, [], _, _ => rfl
  | p, x :: r, h, q => by
    obtain ⟨q1, q2⟩ := List.pairwise_cons.mp q
    show (!ltCps x.cps.toList p.cps.toList && risingS x r) = true
    rw [h x List.mem_cons_self, rising_of x r q1 q2]
    rfl
theorem sorted_of {l : List Str} (q : l.Pairwise fun a b => ltCps b.cps.toList a.cps.toList = false) : sortedS l = true := by
  cases l with
  | nil => rfl
  | cons x r =>
    obtain ⟨q1, q2⟩ := List.pairwise_cons.mp q
    exact rising_of x r q1 q2
theorem sort_ex (ns : List Str) : ∃ ys : List Str, ys.Perm ns ∧ sortedS ys = true := by
  refine ⟨ns.mergeSort fun a b => !ltCps b.cps.toList a.cps.toList, List.mergeSort_perm _ _, sorted_of ?_⟩
  refine (List.pairwise_mergeSort (le := fun a b : Str => !ltCps b.cps.toList a.cps.toList) (fun a b c h1 h2 => ?_) (fun a b => ?_) ns).imp fun {a b} h => by simpa using h
  · simp only [Bool.not_eq_true', ltCps_eq, decide_eq_false_iff_not] at h1 h2 ⊢
    exact List.not_lt.mpr (List.le_trans (List.not_lt.mp h1) (List.not_lt.mp h2))
  · simp only [Bool.or_eq_true, Bool.not_eq_true', ltCps_eq, decide_eq_false_iff_not]
    rcases List.le_total a.cps.toList b.cps.toList with h | h
    · exact .inl (List.not_lt.mpr h)
    · exact .inr (List.not_lt.mpr h)
theorem srd_ex {R : Rws} (nd : (R.map (·.1)).Nodup) : ∃ S, Srd R S := by
  obtain ⟨ys, p, s⟩ := sort_ex (R.map (·.1))
  exact ⟨pickR R ys, pickR_perm nd p, by rw [pickR_names]; exact s⟩
theorem good_rows {t : Int} {R : Rws} {ns : List Str} (pm : (R.map (·.1)).Perm ns) (nd : ns.Nodup) (l1 : 1 ≤ ns.length) (l8 : ns.length ≤ 8) (nm : ∀ n ∈ ns, nmC n = true) (t1 : 1 ≤ t) (t2 : t ≤ 32) (fin : ∀ x ∈ R, SpOk t x ∧ Fin1 t x) : Good t R := by
  have e := pm.length_eq
  rw [List.length_map] at e
  refine ⟨pm.nodup_iff.mpr nd, by omega, by omega, fun x hx => nm _ (pm.mem_iff.mp (List.mem_map.mpr ⟨x, hx, rfl⟩)), fun x hx => (fin x hx).1, fun x hx => ?_, t1, t2⟩
  have := (fin x hx).2.1
  unfold Near at *
  omega
theorem mk_same {H H' : Hp} {p dx : Addr} {o : HO} (hp : H p = none) (hd : H dx = none) (n : dx ≠ p) (B : But p (upd (upd H dx (.own p)) p o) H') : Same H H' := fun b u e => by
  have n1 : b ≠ p := ne_of_none e hp
  refine B b u n1 ?_
  rw [upd_ne n1, upd_ne (ne_of_none e hd)]
  exact e
theorem fol_lookup {F G : Flw} (nd : (F.map (·.1)).Nodup) (nd2 : (G.map (·.1)).Nodup) (h : ∀ x, x ∈ F ↔ x ∈ G) (n : Str) : fol F n = fol G n := by
  by_cases q : n ∈ F.map (·.1)
  · obtain ⟨x, hx, rfl⟩ := List.mem_map.mp q
    rw [fol_at (q := x.2) nd hx, fol_at (q := x.2) nd2 ((h x).mp hx)]
  · have q2 : n ∉ G.map (·.1) := fun z => by
      obtain ⟨x, hx, rfl⟩ := List.mem_map.mp z
      exact q (List.mem_map.mpr ⟨x, (h x).mpr hx, rfl⟩)
    have out : ∀ {F : Flw}, n ∉ F.map (·.1) → fol F n = (n, 0) := by
      intro F h
      have : F.lookup n = none := by
        induction F with
        | nil => rfl
        | cons a F ih =>
          rw [List.map_cons, List.mem_cons, not_or] at h
          rw [List.lookup_cons, show (n == a.1) = false from by simpa using h.1]
          exact ih h.2
      unfold fol
      rw [this]
      rfl
    rw [out q, out q2]
theorem fol_perm {F G : Flw} (nd : (F.map (·.1)).Nodup) (p : G.Perm F) (n : Str) : fol G n = fol F n :=
  fol_lookup ((p.map (·.1)).nodup_iff.mpr nd) nd (fun x => p.mem_iff) n
theorem WgAt.to {H : Hp} {C D q p : Addr} {t : Int} {S : Rws} {F G : Flw} (nd : (F.map (·.1)).Nodup) (pm : G.Perm F) (h : WgAt H C D q p t S G) : WgAt H C D q p t S F := by
  obtain ⟨sp, fok, dx, fd, ca, L, as, h1, h2, h3, h4, h5⟩ := h
  have e : nxt G = nxt F := funext fun n => by unfold nxt; rw [fol_perm nd pm]
  have eo : ordF S G = ordF S F := by unfold ordF; exact List.map_congr_left fun n _ => by rw [fol_perm nd pm]
  rw [eo] at h3
  unfold cyA at h5
  rw [e] at h5
  exact ⟨sp, fok.perm pm.symm, dx, fd, ca, L, as, h1, h2, h3, h4, h5⟩
theorem folN_perm {t : Int} {S : Rws} {F : Flw} (g : Good t S) (h : FOk t S F) {cs : List Str} (p : cs.Perm (S.map (·.1))) : (folN F cs).Perm F := (p.map fun n => (n, fol F n)).trans (ordF_perm g h)
theorem spn_far {f : Int} {S : Rws} (nd : (S.map (·.1)).Nodup) {n : Str} (hn : n ∈ S.map (·.1)) : spn (farR f S) n = ((spn S n).1 + f, (spn S n).2 + f) := by
  refine spn_at (by rw [farR_names]; exact nd) ?_
  exact List.mem_map.mpr ⟨_, spn_in nd hn, rfl⟩
theorem fok_far {t f : Int} {S : Rws} {F : Flw} (g : Good t S) (h : FOk t S F) : FOk t (farR f S) F := by
  refine ⟨by rw [farR_names]; exact h.nm, by rw [farR_names]; exact h.tg, h.wt, fun x hx => ?_, h.l6⟩
  have h1 : x.1 ∈ S.map (·.1) := h.nm.mem_iff.mp (List.mem_map.mpr ⟨x, hx, rfl⟩)
  have h2 := h.to hx
  rw [spn_far g.nd h1, spn_far g.nd h2]
  have := h.dv x hx
  dsimp only
  rw [show (spn S x.1).2 + f + x.2.2 - ((spn S x.2.1).1 + f) = (spn S x.1).2 + x.2.2 - (spn S x.2.1).1 by omega]
  exact this
theorem far_ne {t f : Int} {S : Rws} (g : Good t S) (hf : f ≠ 0) : farR f S ≠ S := fun e => by
  have l1 := g.l1
  cases S with
  | nil => simp at l1
  | cons x r =>
    have h := (List.cons.inj (show farR f (x :: r) = x :: r from e)).1
    have := congrArg (fun z : Str × Int × Int => z.2.1) h
    simp only at this
    omega
theorem ordF_far (f : Int) (S : Rws) (F : Flw) : ordF (farR f S) F = ordF S F := by
  unfold ordF
  rw [farR_names]
theorem pd_of {K : PySem.W.Frag} {H : Hp} : ∀ {ts : List Addr} {kvs : List (Key × V)}, Paired (fun (t : Addr) (q : Key × V) => H t = some (.tup [kV q.1, q.2])) ts kvs → Paired (fun p kv => SqT K H p [kV kv.1, kv.2]) ts kvs
  | _, _, .nil => .nil
  | _, _, .cons h t => .cons (SqT.of h) (pd_of t)
/-- the follows with a longer wait behind one name -/
def lonF (F : Flw) (n : Str) (k : Int) : Flw := F.map fun x => if x.1 = n then (x.1, x.2.1, x.2.2 + k) else x
def lonL (L : List (Str × Addr)) (n : Str) (a : Addr) : List (Str × Addr) := L.map fun x => if x.1 = n then (x.1, a) else x
theorem putK_old {L : List (Str × Addr)} {n : Str} {a : Addr} (h : n ∈ L.map (·.1)) : putK (Kvs L) (.inr n) (.ref a) = Kvs (lonL L n a) := by
  obtain ⟨x, hx, rfl⟩ := List.mem_map.mp h
  have hany : ((Kvs L).any fun kv => decide (kv.1 = (Sum.inr x.1 : Key))) = true := List.any_eq_true.mpr ⟨((Sum.inr x.1 : Key), V.ref x.2), List.mem_map.mpr ⟨x, hx, rfl⟩, decide_eq_true rfl⟩
  unfold putK
  rw [if_pos hany]
  unfold Kvs lonL
  rw [List.map_map, List.map_map]
  refine List.map_congr_left fun y _ => ?_
  show (if (Sum.inr y.1 : Key) = Sum.inr x.1 then ((Sum.inr y.1 : Key), V.ref a) else ((Sum.inr y.1 : Key), V.ref y.2)) = ((Sum.inr (if y.1 = x.1 then (y.1, a) else y).1 : Key), V.ref (if y.1 = x.1 then (y.1, a) else y).2)
  by_cases c : y.1 = x.1
  · rw [if_pos (congrArg Sum.inr c), if_pos c]
  · rw [if_neg (fun z => c (Sum.inr.inj z)), if_neg c]
theorem fts_lon {H : Hp} {n m : Str} {w k : Int} {a : Addr} (ha : FAt H a m (w + k)) : ∀ {L : List (Str × Addr)} {F : Flw}, FTs H L F → (∀ x ∈ F, x.1 = n → x.2 = (m, w)) → FTs H (lonL L n a) (lonF F n k)
  | _, _, .nil, _ => .nil
  | _, _, .cons (n := n') (a := a') (m := m') (w := w') (L := L) (F := F) h t, e => by
    have ih := fts_lon ha t fun x hx => e x (List.mem_cons_of_mem _ hx)
    unfold lonL lonF at ih ⊢
    rw [List.map_cons, List.map_cons]
    by_cases c : n' = n
    · subst c
      have := e (n', m', w') List.mem_cons_self rfl
      cases this
      rw [if_pos rfl, if_pos rfl]
      exact .cons ha ih
    · rw [if_neg c, if_neg c]
      exact .cons h ih
theorem lonF_names (F : Flw) (n : Str) (k : Int) : (lonF F n k).map (·.1) = F.map (·.1) := by
  unfold lonF
  rw [List.map_map]
  refine List.map_congr_left fun x _ => ?_
  show (if x.1 = n then (x.1, x.2.1, x.2.2 + k) else x).1 = x.1
  split <;> rfl
theorem lonF_next (F : Flw) (n : Str) (k : Int) : (lonF F n k).map (·.2.1) = F.map (·.2.1) := by
  unfold lonF
  rw [List.map_map]
  refine List.map_congr_left fun x _ => ?_
  show (if x.1 = n then (x.1, x.2.1, x.2.2 + k) else x).2.1 = x.2.1
  split <;> rfl
theorem fok_lon {t : Int} {S : Rws} {F : Flw} (g : Good t S) (h : FOk t S F) (h3 : ∀ x ∈ F, x.2.2 ≤ 3 * t) (n : Str) : FOk t S (lonF F n t) := by
  have t1 := g.t1
  refine ⟨by rw [lonF_names]; exact h.nm, by rw [lonF_next]; exact h.tg, fun x hx => ?_, fun x hx => ?_, by unfold lonF; rw [List.length_map]; exact h.l6⟩
  · obtain ⟨y, hy, rfl⟩ := List.mem_map.mp hx
    have a := h.wt y hy
    have b := h3 y hy
    split
    · exact ⟨by dsimp only; omega, by dsimp only; omega⟩
    · exact a
  · obtain ⟨y, hy, rfl⟩ := List.mem_map.mp hx
    have a := h.dv y hy
    split
    · dsimp only
      rw [show (spn S y.1).2 + (y.2.2 + t) - (spn S y.2.1).1 = ((spn S y.1).2 + y.2.2 - (spn S y.2.1).1) + t by omega, Int.add_emod, a, Int.emod_self]
      rfl
    · exact a
theorem fol_lon {F : Flw} (nd : (F.map (·.1)).Nodup) (n : Str) (k : Int) {m : Str} (hm : m ∈ F.map (·.1)) : fol (lonF F n k) m = if m = n then ((fol F m).1, (fol F m).2 + k) else fol F m := by
  obtain ⟨x, hx, rfl⟩ := List.mem_map.mp hm
  have e := fol_at (q := x.2) nd hx
  refine fol_at (by rw [lonF_names]; exact nd) ?_
  refine List.mem_map.mpr ⟨x, hx, ?_⟩
  rw [e]
  split <;> rfl
end K43
namespace K43
open PySem L2
open PyProof.Rows PySem.Spec
theorem found_ex {nx : Str → Str} {N : List Str} (p : Pmt nx N) (so : N.Pairwise fun a b => a.cps.toList < b.cps.toList) : ∃ found, Found nx N [] found := by
  have key : ∀ k : Nat, ∀ left found, left.length ≤ k → Found nx N left found → ∃ found, Found nx N [] found := by
    intro k
    induction k with
    | zero =>
      intro left found h f
      rw [List.length_eq_zero_iff.mp (Nat.le_zero.mp h)] at f
      exact ⟨found, f⟩
    | succ k ih =>
      intro left found h f
      cases left with
      | nil => exact ⟨found, f⟩
      | cons l0 rest =>
        obtain ⟨l0N, f'⟩ := Found.step p so f
        refine ih _ _ ?_ f'
        have lt : ((l0 :: rest).filter fun n => decide (n ∉ cy nx N l0)).length < (l0 :: rest).length := by
          refine List.length_filter_lt_length_iff_exists.mpr ⟨l0, List.mem_cons_self, ?_⟩
          rw [decide_eq_false (fun z => z (cy_is p l0N).self)]
          decide
        omega
  exact key N.length N [] (Nat.le_refl _) Found.start
theorem cover {nx : Str → Str} {N : List Str} (p : Pmt nx N) (so : N.Pairwise fun a b => a.cps.toList < b.cps.toList) {n : Str} (hn : n ∈ N) : ∃ m ∈ N, isMin nx N m ∧ n ∈ cy nx N m := by
  obtain ⟨found, pre, post, e, _, cov, q, el, hq⟩ := found_ex p so
  rw [e] at hn
  rcases List.mem_append.mp hn with h | h
  · obtain ⟨m, hm, im, hc⟩ := cov n h
    exact ⟨m, by rw [e]; exact List.mem_append_left _ hm, im, hc⟩
  · have h1 : ¬ q n = true := List.filter_eq_nil_iff.mp el.symm n h
    have h2 : ¬ ∀ m ∈ pre, isMin nx N m → n ∉ cy nx N m := fun w => h1 ((hq n h).mpr w)
    obtain ⟨m, h3⟩ := Classical.not_forall.mp h2
    obtain ⟨hm, h4⟩ := Classical.not_imp.mp h3
    obtain ⟨im, h5⟩ := Classical.not_imp.mp h4
    exact ⟨m, by rw [e]; exact List.mem_append_left _ hm, im, Classical.not_not.mp h5⟩
theorem cover_one {nx : Str → Str} {N : List Str} (p : Pmt nx N) {n m m' : Str} (hn : n ∈ N) (hm : m ∈ N) (hm' : m' ∈ N) (im : isMin nx N m) (im' : isMin nx N m') (h : n ∈ cy nx N m) (h' : n ∈ cy nx N m') : m = m' := by
  have s1 := (cy_is p hm).same h (cy_is p hn)
  have s2 := (cy_is p hm').same h' (cy_is p hn)
  have a : m ∈ cy nx N m' := (s2 m).mp ((s1 m).mpr (cy_is p hm).self)
  have b : m' ∈ cy nx N m := (s1 m').mp ((s2 m').mpr (cy_is p hm').self)
  exact str_ext (List.le_antisymm (List.not_lt.mp (im m' b)) (List.not_lt.mp (im' m a)))
theorem fol_out {F : Flw} {n : Str} (h : n ∉ F.map (·.1)) : fol F n = (n, 0) := by
  have : F.lookup n = none := by
    induction F with
    | nil => rfl
    | cons a F ih =>
      rw [List.map_cons, List.mem_cons, not_or] at h
      rw [List.lookup_cons, show (n == a.1) = false from by simpa using h.1]
      exact ih h.2
  unfold fol
  rw [this]
  rfl
theorem nxt_lon {F : Flw} (nd : (F.map (·.1)).Nodup) (n : Str) (k : Int) : nxt (lonF F n k) = nxt F := funext fun m => by
  unfold nxt
  by_cases h : m ∈ F.map (·.1)
  · rw [fol_lon nd n k h]
    split <;> rfl
  · rw [fol_out h, fol_out (by rw [lonF_names]; exact h)]
theorem sum_lon {t : Int} {S : Rws} {F : Flw} (g : Good t S) (h : FOk t S F) (n : Str) : ∀ {c : List Str}, c.Nodup → (∀ m ∈ c, m ∈ S.map (·.1)) → (c.map (lw S (lonF F n t))).sum = (c.map (lw S F)).sum + (if n ∈ c then t else 0)
  | [], _, _ => rfl
  | m :: c, nd, sb => by
    rw [List.nodup_cons] at nd
    have ih := sum_lon g h n nd.2 fun x hx => sb x (List.mem_cons_of_mem _ hx)
    have hm := h.at (sb m List.mem_cons_self)
    rw [List.map_cons, List.map_cons, List.sum_cons, List.sum_cons, ih]
    have el : lw S (lonF F n t) m = lw S F m + (if m = n then t else 0) := by
      unfold lw
      rw [fol_lon (h.nd g) n t hm]
      split
      · dsimp only
        omega
      · omega
    rw [el]
    by_cases e : m = n
    · subst e
      rw [if_pos rfl, if_neg nd.1, if_pos List.mem_cons_self]
      omega
    · rw [if_neg e]
      by_cases q : n ∈ c
      · rw [if_pos q, if_pos (List.mem_cons_of_mem _ q)]
        omega
      · have q' : n ∉ m :: c := fun z => by
          rcases List.mem_cons.mp z with z | z
          · exact e z.symm
          · exact q z
        rw [if_neg q, if_neg q']
        omega
theorem nd_sub {S : Rws} {t : Int} {F : Flw} (g : Good t S) (h : FOk t S F) {c : List Str} (hc : c ∈ cyA S F) : c.Nodup := by
  obtain ⟨⟨n, hn, cyc⟩, _⟩ := cyA_in g h hc
  exact cyc.ch.nd
theorem size_lon {t : Int} {S : Rws} {F : Flw} (g : Good t S) (h : FOk t S F) (n : Str) {c : List Str} (hc : c ∈ cyA S F) : sizeV S t (lonF F n t) c = sizeV S t F c + (if n ∈ c then 1 else 0) := by
  obtain ⟨_, sb, _, _⟩ := cyA_in g h hc
  unfold sizeV
  rw [sum_lon g h n (nd_sub g h hc) sb]
  have t1 := g.t1
  split
  · rw [show (c.map (lw S F)).sum + t = (c.map (lw S F)).sum + t * 1 by omega, Int.add_mul_ediv_left _ _ (by omega)]
  · rw [Int.add_zero, Int.add_zero]
open Classical in
theorem one_sum {P : Str → Prop} : ∀ {A : List Str}, A.Nodup → (∃ m ∈ A, P m) → (∀ m ∈ A, ∀ m' ∈ A, P m → P m' → m = m') → (A.map fun m => if P m then (1 : Int) else 0).sum = 1
  | [], _, h, _ => by obtain ⟨m, hm, _⟩ := h; cases hm
  | a :: A, nd, h, u => by
    rw [List.nodup_cons] at nd
    rw [List.map_cons, List.sum_cons]
    by_cases q : P a
    · have z : (A.map fun m => if P m then (1 : Int) else 0).sum = 0 := by
        have : ∀ m ∈ A, ¬ P m := fun m hm pm => nd.1 (by rw [u a List.mem_cons_self m (List.mem_cons_of_mem _ hm) q pm]; exact hm)
        have e : (A.map fun m => if P m then (1 : Int) else 0) = A.map fun _ => 0 := List.map_congr_left fun m hm => if_neg (this m hm)
        rw [e]
        clear e this u h nd
        induction A with
        | nil => rfl
        | cons b A ih => rw [List.map_cons, List.sum_cons, ih]; rfl
      rw [if_pos q, z]
      rfl
    · have h2 : ∃ m ∈ A, P m := by
        obtain ⟨m, hm, pm⟩ := h
        rcases List.mem_cons.mp hm with e | hm
        · rw [e] at pm
          exact absurd pm q
        · exact ⟨m, hm, pm⟩
      rw [if_neg q, one_sum nd.2 h2 (fun m hm m' hm' => u m (List.mem_cons_of_mem _ hm) m' (List.mem_cons_of_mem _ hm'))]
      rfl
open Classical in
/-- one register more -/
theorem regs_lon {t : Int} {S : Rws} {F : Flw} (g : Good t S) (so : sortedS (S.map (·.1)) = true) (h : FOk t S F) {n : Str} (hn : n ∈ S.map (·.1)) : cyA S (lonF F n t) = cyA S F ∧ (szs S t (lonF F n t)).sum = (szs S t F).sum + 1 := by
  have nd := h.nd g
  have ec : cyA S (lonF F n t) = cyA S F := by
    unfold cyA
    rw [nxt_lon nd]
  refine ⟨ec, ?_⟩
  have pmt := h.pmt g
  have swl := pw_lt g.nd so
  have e1 : szs S t (lonF F n t) = (cyA S F).map fun c => sizeV S t F c + (if n ∈ c then 1 else 0) := by
    unfold szs
    rw [ec]
    exact List.map_congr_left fun c hc => size_lon g h n hc
  have add : ∀ l : List (List Str), (l.map fun c => sizeV S t F c + (if n ∈ c then (1 : Int) else 0)).sum = (l.map (sizeV S t F)).sum + (l.map fun c => if n ∈ c then (1 : Int) else 0).sum := by
    intro l
    induction l with
    | nil => rfl
    | cons c l ih =>
      rw [List.map_cons, List.map_cons, List.map_cons, List.sum_cons, List.sum_cons, List.sum_cons, ih]
      omega
  rw [e1, add]
  have e2 : ((cyA S F).map fun c => if n ∈ c then (1 : Int) else 0).sum = 1 := by
    obtain ⟨N, hN⟩ : ∃ N, N = S.map (·.1) := ⟨_, rfl⟩
    have gnd : N.Nodup := by rw [hN]; exact g.nd
    unfold cyA cycs
    rw [← hN] at pmt swl hn ⊢
    rw [List.map_map]
    refine (congrArg List.sum (List.map_congr_left fun m _ => ?_)).trans (one_sum (P := fun m => n ∈ cy (nxt F) N m) (A := N.filter fun n => decide (isMin (nxt F) N n)) (List.Pairwise.filter _ gnd) ?_ ?_)
    · show (if n ∈ cy (nxt F) N m then (1 : Int) else 0) = _
      congr
    · obtain ⟨m, hm, im, hc⟩ := cover pmt swl hn
      exact ⟨m, List.mem_filter.mpr ⟨hm, decide_eq_true im⟩, hc⟩
    · intro m hm m' hm' h1 h2
      obtain ⟨a1, a2⟩ := List.mem_filter.mp hm
      obtain ⟨b1, b2⟩ := List.mem_filter.mp hm'
      exact cover_one pmt hn a1 b1 (of_decide_eq_true a2) (of_decide_eq_true b2) h1 h2
  rw [e2]
  rfl
theorem CTs.dp {K : PySem.W.Frag} {H : Hp} {as : List Addr} {cs : List (List Str)} (h : CTs H as cs) : DpAll K H (as.map V.ref) (cs.map fun c => .tuple (c.map PyData.str)) := by
  induction h with
  | nil => exact .nil
  | cons h _ ih => exact .cons (.tup (SqT.of h) (dp_allS _)) ih
theorem lay_strs {c : List Str} (h : ∀ n ∈ c, nmC n = true) : PyData.canLayAll0 (c.map PyData.str) = true ∧ PyData.depthAll (c.map PyData.str) ≤ 1 := by
  have := shaped_names h
  unfold SeqAt.shaped at this
  rw [Bool.and_eq_true, decide_eq_true_eq] at this
  refine ⟨by simpa [PyData.canLay0] using this.1, ?_⟩
  clear this
  induction c with
  | nil => simp [PyData.depthAll]
  | cons a c ih =>
    have := ih fun n hn => h n (List.mem_cons_of_mem _ hn)
    simp only [List.map_cons, PyData.depthAll, PyData.depth]
    omega
theorem shaped_cyc : ∀ {cs : List (List Str)}, (∀ c ∈ cs, ∀ n ∈ c, nmC n = true) → PyData.canLayAll0 (cs.map fun c => PyData.tuple (c.map PyData.str)) = true ∧ PyData.depthAll (cs.map fun c => PyData.tuple (c.map PyData.str)) ≤ 2
  | [], _ => ⟨by simp [PyData.canLayAll0], by simp [PyData.depthAll]⟩
  | c :: cs, h => by
    obtain ⟨a1, a2⟩ := lay_strs (h c List.mem_cons_self)
    obtain ⟨b1, b2⟩ := shaped_cyc fun d hd => h d (List.mem_cons_of_mem _ hd)
    refine ⟨by simpa [PyData.canLayAll0, PyData.canLay0, a1] using b1, ?_⟩
    simp only [List.map_cons, PyData.depthAll, PyData.depth]
    omega
theorem cyc_shape {t : Int} {S : Rws} {F : Flw} (g : Good t S) (h : FOk t S F) : SeqAt.shaped (cycD (cyA S F)) = true ∧ (cycD (cyA S F)).canLay0 = true := by
  obtain ⟨a, b⟩ := shaped_cyc (cs := cyA S F) fun c hc n hn => by
    obtain ⟨_, sb, _, _⟩ := cyA_in g h hc
    obtain ⟨y, hy, rfl⟩ := List.mem_map.mp (sb n hn)
    exact g.nm y hy
  have l : (cycD (cyA S F)).canLay0 = true := by simpa [cycD, PyData.canLay0] using a
  refine ⟨?_, l⟩
  unfold SeqAt.shaped
  rw [l, Bool.true_and, decide_eq_true_eq]
  simp only [cycD, PyData.depth]
  omega
theorem lon_ne {t : Int} {S : Rws} {F : Flw} (g : Good t S) (h : FOk t S F) {n : Str} (hn : n ∈ S.map (·.1)) : ordF S (lonF F n t) ≠ ordF S F := fun e => by
  unfold ordF at e
  have := List.map_inj_left.mp e n hn
  have e2 := (Prod.mk.inj this).2
  rw [fol_lon (h.nd g) n t (h.at hn), if_pos rfl] at e2
  have e3 : (fol F n).2 + t = (fol F n).2 := congrArg Prod.snd e2
  have := g.t1
  omega
end K43
namespace K43
open PySem L2
open PyProof.Rows PySem.Spec
section
variable {P : Program} {w : World} {K : PySem.W.Frag}
                                                      {mg : Str → Option Value} {base : Heap}
def sp_w_right (K : PySem.W.Frag) : Sp := fun vs H Q _ => ∃ r : Addr, vs = [.ref r] ∧ Rl H r ∧ ∀ H', Rl H' r → Only r H H' → Q (.bl true) H'
theorem ok_w_right (T : T K mg) (U : UX K mg) (ai : AddI K U.C) : GW.FnG P w K mg base CX0 16 T.f_w_right T.d_w_right ["tray"] (sp_w_right K) := by
  have G_w_few : FnOk P w K mg base CX0 2 T.f_w_few T.d_w_few ["tray", "items", "many"] (sp_w_few K) := ok_w_few T
  have G_w_follows : FnOk P w K mg base CX0 4 T.f_w_follows T.d_w_follows ["tray", "rows", "interval"] (sp_w_follows K) := ok_w_follows T
  have G_w_is_told : GW.FnG P w K mg base CX0 12 T.f_w_is_told T.d_w_is_told ["wiring", "rows", "interval", "follows"] (sp_w_is_told K U.C U.D) := ok_w_is_told T U
  have G_w_names : FnOk P w K mg base CX0 3 T.f_w_names T.d_w_names ["tray", "many"] (sp_w_names K) := ok_w_names T
  have G_w_pick : FnOk P w K mg base CX0 2 T.f_w_pick T.d_w_pick ["tray", "items"] (sp_w_pick K) := ok_w_pick T
  have G_w_roll : FnOk P w K mg base CX0 1 T.f_w_roll T.d_w_roll ["tray", "total"] (sp_w_roll K) := ok_w_roll T
  have G_w_rows : FnOk P w K mg base CX0 4 T.f_w_rows T.d_w_rows ["tray", "interval", "names"] (sp_w_rows K) := ok_w_rows T (ok_w_rings T)
  have G_w_sorted : FnOk P w K mg base CX0 1 T.f_w_sorted T.d_w_sorted ["rows"] (sp_w_sorted K) := ok_w_sorted T
  have G_w_sortedF : FnOk P w K mg base CX0 1 T.f_w_sorted T.d_w_sorted ["rows"] (sp_w_sortedF K) := ok_w_sortedF T
  have G_init : FnOk P w K mg base CX0 6 U.fI U.dI ["self", "interval", "rows"] (sp_init K U.C) := ok_init T U
  have G_winit : FnOk P w K mg base CX0 6 U.fJ U.dJ ["self", "spans", "follows"] (sp_winit U.C U.D) := ok_winit T U
  have G_add : FnOk P w K mg base CX0 8 U.ma.f U.ma.d ["self", "other"] (sp_add K U.C) := ok_add T U
  have G_eq : FnOk P w K mg base CX0 3 U.me.f U.me.d ["self", "other"] (sp_eq K U.C) := ok_eq T U
  have G_weq : FnOk P w K mg base CX0 5 U.we.f U.we.d ["self", "other"] (sp_weq U.C U.D) := ok_weq T U
  have Gps : FnOk P w K mg base CX0 1 U.ps.g U.ps.d ["self"] (getSp U.D "_spans") := ok_get U.clD U.ps sc_Wiring_spans U.k1 ⟨_, _, _, rfl⟩
  have Gc : FnOk P w K mg base CX0 1 U.pc.g U.pc.d ["self"] (getSp U.D "_cycles") := ok_get U.clD U.pc sc_Wiring_cycles U.k3 ⟨_, _, _, rfl⟩
  have Gr : FnOk P w K mg base CX0 6 U.pr.g U.pr.d ["self"] (sp_regs K U.C U.D) := ok_regs T U
  have Gf : FnOk P w K mg base CX0 1 U.pf.g U.pf.d ["self"] (sp_wfol U.C U.D) := ok_wfol T U
  have Ga : FnOk P w K mg base CX0 5 U.wa.f U.wa.d ["self", "name", "turn"] (sp_after U.C U.D) := ok_after T U
  refine GW.FunG.okG T.F_w_right sc_w_right (fun vs H Q E h => ?_) (fun cdv A outer s H vs Q E hg hr h => ?_)
  · obtain ⟨r, rfl, _⟩ := h
    rfl
  · obtain ⟨r, rfl, R0, k⟩ := h
    have hu := hu_of hr
    have hr_w_few : Room 2 _ := hr.mono (by decide)
    have hr_w_follows : Room 4 _ := hr.mono (by decide)
    have hr_w_is_told : Room 12 _ := hr.mono (by decide)
    have hr_w_names : Room 3 _ := hr.mono (by decide)
    have hr_w_pick : Room 2 _ := hr.mono (by decide)
    have hr_w_roll : Room 1 _ := hr.mono (by decide)
    have hr_w_rows : Room 4 _ := hr.mono (by decide)
    have hr_w_sorted : Room 1 _ := hr.mono (by decide)
    have hgd : (cxOf CX0 P w K mg base ["tray", "interval", "names", "rows", "follows", "spans", "passed", "wiring", "like", "name", "turn", "other", "wait", "rounds", "far", "moved", "longer", "more"] "_law_right" (defScope s_w_right) T.f_w_right cdv A outer s H E).nox.A.guards = some [] := hg
    refine ⟨_, PSs.nox (pss_cons (ps_set (i := 1) sc_w_right.nd rfl (Or.inl rfl) (pe_call G_w_pick hr_w_pick rfl T.m_w_pick T.F_w_pick.kp T.b_w_pick .nil pass0 (pa_cons (pv 0) (pa_cons (pe_lst (pa_cons pe_int (pa_cons pe_int (pa_cons pe_int (pa_cons pe_int (pa_cons pe_int (pa_cons pe_int pa_nil))))))) pa_nil))))
      (pss_cons (ps_set (i := 2) sc_w_right.nd rfl (Or.inl rfl) (pe_call G_w_names hr_w_names rfl T.m_w_names T.F_w_names.kp T.b_w_names .nil pass0 (pa_cons (pv 0) (pa_cons (pe_op op_add pe_int (pe_call G_w_roll hr_w_roll rfl T.m_w_roll T.F_w_roll.kp T.b_w_roll .nil pass0 (pa_cons (pv 0) (pa_cons pe_int pa_nil)))) pa_nil))))
      (pss_cons (ps_set (i := 3) sc_w_right.nd rfl (Or.inl rfl) (pe_call G_w_rows hr_w_rows rfl T.m_w_rows T.F_w_rows.kp T.b_w_rows .nil pass0 (pa_cons (pv 0) (pa_cons (pv 1) (pa_cons (pv 2) pa_nil)))))
      (pss_cons (ps_asg (pe_tup (pa_cons (pe_call G_w_follows hr_w_follows rfl T.m_w_follows T.F_w_follows.kp T.b_w_follows .nil pass0 (pa_cons (pv 0) (pa_cons (pv 3) (pa_cons (pv 1) pa_nil)))) (pa_cons (pe_make U.mkI G_init (hr.mono (by decide)) rfl U.mC U.bI .nil pass0 (pa_cons (pv 1) (pa_cons (pv 3) pa_nil))) pa_nil))) (pg_tup rfl (pgs_cons (pg_name (i := 4) sc_w_right.nd rfl (Or.inr rfl)) (pgs_cons (pg_name (i := 5) sc_w_right.nd rfl (Or.inl rfl)) pgs_nil))))
      (pss_cons (ps_set (i := 6) sc_w_right.nd rfl (Or.inl rfl) (pe_callTy (call_dictP rfl) (by rfl) T.z_dict (by decide +kernel) (pa_cons (pe_lc (own := [("name", 9)]) (g := gName 9) rfl sc_w_right.nd (pi_list (pe_call G_w_few hr_w_few rfl T.m_w_few T.F_w_few.kp T.b_w_few .nil pass0 (pa_cons (pv 0) (pa_cons (pv 2) (pa_cons pe_int pa_nil))))) (blkOk_by (N := ["tray", "interval", "names", "rows", "follows", "spans", "passed", "wiring", "like", "name", "turn", "other", "wait", "rounds", "far", "moved", "longer", "more"]) (sc := defScope s_w_right) (by decide +kernel)) (fun _ _ _ _ _ => (pg_name (i := 9) sc_w_right.nd rfl (Or.inl rfl))) (fun _ _ _ _ _ => pts_nil) (fun _ _ _ _ _ => (pe_tup (pa_cons (pv 9) (pa_cons (pe_dget (by exact hu) (pv 4) (pv 9) (fun _ _ => rfl)) pa_nil))))) pa_nil)))
      (pss_cons (ps_set (i := 7) sc_w_right.nd rfl (Or.inl rfl) (pe_make U.mkJ G_winit (hr.mono (by decide)) rfl U.mD U.bJ .nil pass0 (pa_cons (pv 5) (pa_cons (pv 6) pa_nil))))
      (pss_cons (ps_set (i := 8) sc_w_right.nd rfl (Or.inl rfl) (pe_make U.mkJ G_winit (hr.mono (by decide)) rfl U.mD U.bJ .nil pass0 (pa_cons (pe_make U.mkI G_init (hr.mono (by decide)) rfl U.mC U.bI .nil pass0 (pa_cons (pv 1) (pa_cons (pe_call G_w_sorted hr_w_sorted rfl T.m_w_sorted T.F_w_sorted.kp T.b_w_sorted .nil pass0 (pa_cons (pv 3) pa_nil)) pa_nil))) (pa_cons (pe_call G_w_sortedF hr_w_sorted rfl T.m_w_sorted T.F_w_sorted.kp T.b_w_sorted .nil pass0 (pa_cons (pv 4) pa_nil)) pa_nil))))
      (pss_cons (ps_expr (pe_dclear (pv 6)))
      (pss_cons (ps_if (PW.pt (pw_or (pt_cmpR (OW.op_ownNe G_eq ⟨U.me.m.at_, U.me.m.fn⟩ U.mo U.ne (hr.mono (by decide)) U.me.b pass0) (pe_prop (pv 7) U.clD U.ps.pr Gps (hr.mono (by decide)) U.ps.b .nil pass0 rfl) (pv 5) (nomark _)) (pw_or1 (pt_not (pt_val (GW.pe_callG G_w_is_told hgd hr_w_is_told rfl T.m_w_is_told T.F_w_is_told.kp T.b_w_is_told .nil pass0 (pa_cons (pv 7) (pa_cons (pv 3) (pa_cons (pv 1) (pa_cons (pv 4) pa_nil))))))))))
      (pss_one (ps_ret pe_bl))
      pss_nil)
      (pss_cons (ps_for PassesOwn.never rfl (pi_list (pv 2)) (pg_name (i := 9) sc_w_right.nd rfl (Or.inl rfl))
      (pss_cons (ps_set (i := 10) sc_w_right.nd rfl (Or.inl rfl) (pe_call G_w_pick hr_w_pick rfl T.m_w_pick T.F_w_pick.kp T.b_w_pick .nil pass0 (pa_cons (pv 0) (pa_cons (pe_lst (pa_cons pe_int (pa_cons pe_int (pa_cons (pe_un un_neg pe_int) (pa_cons pe_int (pa_cons (pe_op op_pow pe_int pe_int) (pa_cons (pe_un un_neg (pe_op op_pow pe_int pe_int)) pa_nil))))))) pa_nil))))
      (pss_cons (ps_asg (pe_dget (by exact hu) (pv 4) (pv 9) (fun _ _ => rfl)) (pg_tup rfl (pgs_cons (pg_name (i := 11) sc_w_right.nd rfl (Or.inl rfl)) (pgs_cons (pg_name (i := 12) sc_w_right.nd rfl (Or.inl rfl)) pgs_nil))))
      (pss_cons (ps_set (i := 13) sc_w_right.nd rfl (Or.inl rfl) (pe_op op_fdivW (pe_op op_sub (pe_op op_add (pe_ix ix_seq (pe_dget (by exact hu) (pv 3) (pv 9) (fun _ _ => rfl)) pe_int (fun _ _ => rfl)) (pv 12)) (pe_ix ix_seq (pe_dget (by exact hu) (pv 3) (pv 11) (fun _ _ => rfl)) pe_int (fun _ _ => rfl))) (pv 1)))
      (pss_one (ps_if (pt_cmpR op_ne (pe_callB (RL.cr_reprD hgd (un64 hr)) (by rfl) T.z_repr (by decide +kernel) (pa_cons (pe_meth (pv 7) U.clD U.wa.m Ga (hr.mono (by decide)) U.wa.b .nil pass0 (pa_cons (pv 9) (pa_cons (pv 10) pa_nil))) pa_nil)) (pe_callB (RL.cr_reprD hgd (un64 hr)) (by rfl) T.z_repr (by decide +kernel) (pa_cons (pe_tup (pa_cons (pv 11) (pa_cons (pe_op op_add (pv 13) (pv 10)) pa_nil))) pa_nil)) (nomark _))
      (pss_one (ps_ret pe_bl))
      pss_nil))))))
      (pss_cons (ps_if (PW.pt (pw_or (pt_cmpR (OW.op_ownNe G_weq ⟨U.we.m.at_, U.we.m.fn⟩ U.moD U.neD (hr.mono (by decide)) U.we.b pass0) (pv 7) (pv 8) (nomark _)) (pw_or1 (pt_not (pt_cmpR (OW.op_ownEq G_weq ⟨U.we.m.at_, U.we.m.fn⟩ (hr.mono (by decide)) U.we.b pass0) (pv 7) (pv 8) (nomark _))))))
      (pss_one (ps_ret pe_bl))
      pss_nil)
      (pss_cons (ps_if (PW.pt (pw_or (pt_cmpR (RL.op_ownEqD G_weq ⟨U.we.m.at_, U.we.m.fn⟩ (hr.mono (by decide)) U.we.b pass0) (pv 7) (pv 4) (nomark _)) (pw_or1 (pt_cmpR (OW.op_ownEq G_weq ⟨U.we.m.at_, U.we.m.fn⟩ (hr.mono (by decide)) U.we.b pass0) (pv 7) (pv 5) (nomark _)))))
      (pss_one (ps_ret pe_bl))
      pss_nil)
      (pss_cons (ps_par (i := 14) (j := 9) (by rfl) sc_w_right.nd rfl rfl (by decide) rfl rfl (pa_cons (pe_op (op_ownAddI G_add ⟨U.ma.m.at_, U.ma.m.fn⟩ U.sf ai (hr.mono (by decide)) U.ma.b pass0) (pe_make U.mkI G_init (hr.mono (by decide)) rfl U.mC U.bI .nil pass0 (pa_cons (pv 1) (pa_cons (pv 3) pa_nil))) (pv 1)) (pa_cons (pe_call G_w_pick hr_w_pick rfl T.m_w_pick T.F_w_pick.kp T.b_w_pick .nil pass0 (pa_cons (pv 0) (pa_cons (pv 2) pa_nil))) pa_nil)) (by rfl))
      (pss_cons (ps_set (i := 15) sc_w_right.nd rfl (Or.inl rfl) (pe_make U.mkJ G_winit (hr.mono (by decide)) rfl U.mD U.bJ .nil pass0 (pa_cons (pv 14) (pa_cons (pv 4) pa_nil))))
      (pss_cons (ps_if (PW.pt (pw_or (pt_cmpR (OW.op_ownEq G_weq ⟨U.we.m.at_, U.we.m.fn⟩ (hr.mono (by decide)) U.we.b pass0) (pv 15) (pv 7) (nomark _)) (pw_or1 (pt_cmpR op_ne (pe_callB (RL.cr_reprD hgd (un64 hr)) (by rfl) T.z_repr (by decide +kernel) (pa_cons (pe_prop (pv 15) U.clD U.pf.pr Gf (hr.mono (by decide)) U.pf.b .nil pass0 rfl) pa_nil)) (pe_callB (RL.cr_reprD hgd (un64 hr)) (by rfl) T.z_repr (by decide +kernel) (pa_cons (pe_prop (pv 7) U.clD U.pf.pr Gf (hr.mono (by decide)) U.pf.b .nil pass0 rfl) pa_nil)) (nomark _)))))
      (pss_one (ps_ret pe_bl))
      pss_nil)
      (pss_cons (ps_set (i := 16) sc_w_right.nd rfl (Or.inl rfl) (pe_callTy (call_dictP rfl) (by rfl) T.z_dict (by decide +kernel) (pa_cons (LiI.pe_listItems rfl (pv 4) (by rfl) T.z_list (by decide +kernel)) pa_nil)))
      (pss_cons (ps_dput (by exact hu) (pv 16) (pv 9) (pe_tup (pa_cons (pe_ix ix_seq (pe_dget (by exact hu) (pv 4) (pv 9) (fun _ _ => rfl)) pe_int (fun _ _ => rfl)) (pa_cons (pe_op op_add (pe_ix ix_seq (pe_dget (by exact hu) (pv 4) (pv 9) (fun _ _ => rfl)) pe_int (fun _ _ => rfl)) (pv 1)) pa_nil))) rfl)
      (pss_cons (ps_set (i := 17) sc_w_right.nd rfl (Or.inl rfl) (pe_make U.mkJ G_winit (hr.mono (by decide)) rfl U.mD U.bJ .nil pass0 (pa_cons (pv 5) (pa_cons (pv 16) pa_nil))))
      (pss_one (ps_ret (pe_and (pe_cmpR (OW.op_ownNe G_weq ⟨U.we.m.at_, U.we.m.fn⟩ U.moD U.neD (hr.mono (by decide)) U.we.b pass0) (pv 17) (pv 7) (nomark _)) (pe_and (pe_cmpR op_eq (pe_prop (pv 17) U.clD U.pr.pr Gr (hr.mono (by decide)) U.pr.b .nil pass0 rfl) (pe_op op_add (pe_prop (pv 7) U.clD U.pr.pr Gr (hr.mono (by decide)) U.pr.b .nil pass0 rfl) pe_int) (nomark _)) (pe_one (pe_cmpR (op_eqD (un64 hr)) (pe_prop (pv 17) U.clD U.pc.pr Gc (hr.mono (by decide)) U.pc.b .nil pass0 rfl) (pe_prop (pv 7) U.clD U.pc.pr Gc (hr.mono (by decide)) U.pc.b .nil pass0 rfl) (nomark _))))))))))))))))))))))))), ?_⟩
    -- interval
    refine ⟨_, rfl, by show 6 ≤ sizeLine; decide, fun q0 hq0 => ?_⟩
    have A0 := Same.new (o := .lst [V.int 1, .int 2, .int 3, .int 4, .int 5, .int 6]) hq0
    have e0 : (upd H q0 (.lst [V.int 1, .int 2, .int 3, .int 4, .int 5, .int 6])) q0 = some (.lst [V.int 1, .int 2, .int 3, .int 4, .int 5, .int 6]) := upd_same
    generalize upd H q0 (.lst [V.int 1, .int 2, .int 3, .int 4, .int 5, .int 6]) = Ha at A0 e0 ⊢
    refine ⟨r, .ref q0, _, rfl, Same.rl A0 R0, .inl ⟨q0, rfl, R0.ne hq0, .inl (SqL.of e0)⟩, by decide, by show 6 ≤ sizeLine; decide, fun v H1 hv R1 O1 => ?_⟩
    obtain ⟨t, rfl, t1, t6⟩ : ∃ t : Int, v = .int t ∧ 1 ≤ t ∧ t ≤ 6 := by
      simp only [List.mem_cons, List.not_mem_nil, or_false] at hv
      rcases hv with h | h | h | h | h | h
      all_goals subst h; exact ⟨_, rfl, by decide, by decide⟩
    have P1 : Only r H H1 := fun b o n e => O1 b o n (A0 b o e)
    clear hv e0 A0 O1 hq0
    -- names
    refine ⟨_, rfl, _, rfl, r, 6, rfl, R1, by decide, by decide +kernel, fun u H2 u0 u1 R2 O2 => ⟨_, _, rfl, rfl, ?_⟩⟩
    obtain ⟨many, em, m1, m6⟩ : ∃ many : Nat, (1 : Int) + u = (many : Int) ∧ 1 ≤ many ∧ many ≤ 6 := ⟨(1 + u).toNat, by omega, by omega, by omega⟩
    dsimp only
    rw [em]
    refine ⟨r, many, rfl, R2, m1, by omega, fun nl ns H3 R3 O3 hnl enl nd lns nmn => ?_⟩
    have P3 : Only r H H3 := fun b o n e => O3 b o n (O2 b o n (P1 b o n e))
    have nnl := R2.ne hnl
    clear O2 O3 P1 R2 R1 hnl
    -- rows
    refine ⟨_, rfl, _, rfl, _, rfl, r, nl, t, ns, rfl, R3, nnl, SqL.of enl, t1, by omega, nd, by omega, nmn, fun rd L0 R H4 R4 O4 hrd erd ts pmR fin => ?_⟩
    have gR := good_rows pmR nd (by omega) (by omega) nmn t1 (by omega) fin
    obtain ⟨S, srd⟩ := srd_ex gR.nd
    have gS := gR.perm srd.pm
    have lR : R.length = many := by rw [← List.length_map (f := (·.1)) (as := R), pmR.length_eq, lns]
    have P4 : Only r H H4 := fun b o n e => O4 b o n (P3 b o n e)
    have enl4 := O4 _ _ nnl enl
    have nrd := R3.ne hrd
    clear O4 P3 R3 enl
    -- follows, spans
    refine ⟨_, rfl, _, rfl, _, rfl, r, rd, t, L0, R, S, rfl, R4, erd, ts, gR, fun x hx => (fin x hx).2, by omega, srd, fun fd Lf F H5 R5 O5 hfd efd fts fok w3 => ?_⟩
    have P5 : Only r H H5 := fun b o n e => O5 b o n (P4 b o n e)
    have enl5 := O5 _ _ nnl enl4
    have erd5 := O5 _ _ nrd erd
    have ts5 := ts.keep (KT.only O5 R4)
    have nfd := R4.ne hfd
    clear O5 P4 enl4 erd ts hrd hfd
    refine ⟨_, rfl, _, rfl, fun p dxp hp hdxp ndp => ?_⟩
    have An : Same H5 (upd (upd H5 dxp (.own p)) p (.ins U.C dxp [])) := Same.trans (Same.new hdxp) (Same.new (by rw [upd_ne ndp.symm]; exact hp))
    refine ⟨p, rd, dxp, t, L0, R, rfl, upd_same, An _ _ erd5, ts5.keep (KT.same An), gR, fun S' H6 B6 sp6 srd' st6 => ⟨rfl, ?_⟩⟩
    obtain rfl : S' = S := Srd.eq gR.nd srd' srd
    have S56 := mk_same hp hdxp ndp B6
    refine ⟨by show 2 ≤ sizeLine; decide, fun tq htq => ?_⟩
    have A7 := Same.new (o := .tup [.ref fd, .ref p]) htq
    have e7 : (upd H6 tq (.tup [.ref fd, .ref p])) tq = some (.tup [.ref fd, .ref p]) := upd_same
    have S57 := Same.trans S56 A7
    have sp7 := sp6.same A7
    generalize upd H6 tq (.tup [.ref fd, .ref p]) = H7 at A7 e7 S57 sp7 ⊢
    refine ⟨tq, _, rfl, SqT.of e7, rfl, _, _, rfl, _, _, rfl, rfl, ?_⟩
    have P7 : Only r H H7 := fun b o n e => S57 _ _ (P5 b o n e)
    have R7 := Same.rl S57 R5
    have enl7 := S57 _ _ enl5
    have erd7 := S57 _ _ erd5
    have ts7 := ts5.keep (KT.same S57)
    have efd7 := S57 _ _ efd
    have fts7 := fts.keep (KT.same S57)
    clear An B6 sp6 st6 S56 A7 e7 S57 P5 R5 R4 enl5 erd5 ts5 efd fts htq hdxp ndp
    -- passed
    refine ⟨_, rfl, _, rfl, r, nl, ns.map V.str, 6, rfl, R7, .inl (SqL.of enl7), by rw [List.length_map]; omega, by decide, by decide, fun fl ys rest H8 R8 O8 hfl efl pf lys => ?_⟩
    obtain ⟨cs, rfl, mcs, ndcs⟩ := few_of (f := V.str) (xs := ns) (fun a _ b _ h => V.str.inj h) nd pf
    have lcs : cs.length = ns.length := by
      rw [List.length_map, List.length_map] at lys
      split at lys <;> omega
    have pns : ns.Perm (S'.map (·.1)) := pmR.symm.trans (srd.pm.map (·.1)).symm
    have pcs : cs.Perm (S'.map (·.1)) := (perm_of_sub ndcs mcs lcs.symm).trans pns
    have P8 : Only r H H8 := fun b o n e => O8 b o n (P7 b o n e)
    have enl8 := O8 _ _ nnl enl7
    have erd8 := O8 _ _ nrd erd7
    have efd8 := O8 _ _ nfd efd7
    have k78 := KT.only O8 R7
    have ts8 := ts7.keep k78
    have fts8 := fts7.keep k78
    have sp8 := sp7.only O8 R7
    clear O8 P7 R7 enl7 erd7 efd7 ts7 fts7 sp7 k78 lys pf hfl
    refine ⟨fl, rfl, ⟨_, SqL.of efl⟩, fun D hD => ?_⟩
    have W := walk_list (K := K) (a := fl) (xs := cs.map V.str)
    rw [List.length_map] at W
    refine lc_pairs W (fun n => V.ref (adr Lf n)) yat_str (fun H' s => SqL.of (s _ _ efl)) (by omega) hD ?_ ?_
    · intro n Ha hn Sa C N kC
      refine ⟨rfl, ?_⟩
      unfold tYes
      dsimp only
      rw [if_pos rfl]
      obtain ⟨va, _⟩ := fts8.adr (fok.at (pcs.mem_iff.mp hn))
      have dg : DGet Ha fd (.str n) (some (.ref (adr Lf n))) := by
        have := DGet.k (k := Sum.inr n) (Sa _ _ efd8)
        rw [va] at this
        exact this
      exact ⟨_, rfl, _, rfl, _, rfl, fd, _, rfl, dg, by show 2 ≤ sizeLine; decide, fun q hq => kC q hq⟩
    intro H9 ps S9 e9 pg
    refine ⟨D, ps, Gvs (cs.map fun n => (n, V.ref (adr Lf n))), rfl, SqL.of e9, pg.pd, fun pd hpd => ?_⟩
    have e0 : mergeK [] (Gvs (cs.map fun n => (n, V.ref (adr Lf n)))) = Gvs (cs.map fun n => (n, V.ref (adr Lf n))) := mergeK_gvs _ [] (by rw [List.nil_append, List.map_map]; have e9 : (cs.map ((fun x : Str × V => x.1) ∘ fun n => (n, V.ref (adr Lf n)))) = cs := List.map_id' _; rw [e9]; exact ndcs)
    rw [e0, gvs_adr]
    have S810 : Same H8 (upd H9 pd (.dK (Kvs (adrN Lf cs)))) := Same.trans S9 (Same.new hpd)
    have epd : (upd H9 pd (.dK (Kvs (adrN Lf cs)))) pd = some (.dK (Kvs (adrN Lf cs))) := upd_same
    have hpd8 : H8 pd = none := by
      cases z : H8 pd with
      | none => rfl
      | some o => rw [S9 _ _ z] at hpd; cases hpd
    generalize upd H9 pd (.dK (Kvs (adrN Lf cs))) = H10 at S810 epd ⊢
    have fts10 : FTs H10 (adrN Lf cs) (folN F cs) := fts_names fun n hn => KT.same S810 _ _ (fts8.adr (fok.at (pcs.mem_iff.mp hn))).2
    have pfN := folN_perm gS fok pcs
    have fokN : FOk t S' (folN F cs) := fok.perm pfN
    clear W S9 e9 pg hpd e0 hD efl
    -- wiring
    refine ⟨_, rfl, _, rfl, fun q dxq hq hdxq ndq => ?_⟩
    have Aq : Same H10 (upd (upd H10 dxq (.own q)) q (.ins U.D dxq [])) := Same.trans (Same.new hdxq) (Same.new (by rw [upd_ne ndq.symm]; exact hq))
    refine ⟨q, p, pd, dxq, t, S', adrN Lf cs, folN F cs, rfl, upd_same, (sp8.same S810).same Aq, Aq _ _ epd, fts10.keep (KT.same Aq), fokN, fun H11 B11 wg0 st => ⟨rfl, ?_⟩⟩
    have S1011 := mk_same hq hdxq ndq B11
    have S811 := Same.trans S810 S1011
    have nqpd : pd ≠ q := ne_of_none epd hq
    have xpd : (upd (upd H10 dxq (.own q)) q (.ins U.D dxq [])) pd ≠ none := by rw [Aq _ _ epd]; exact fun z => by cases z
    have epd11 := S1011 _ _ epd
    -- like
    refine ⟨_, rfl, _, rfl, rd, L0, R, rfl, S811 _ _ erd8, ts8.keep (KT.same S811), gR.nd, gR.l8, fun sd Ls Ss H12 S12 hsd esd tss srds p2 dxp2 hp2 hdxp2 ndp2 => ?_⟩
    obtain rfl : Ss = S' := Srd.eq gR.nd srds srd
    have A12 : Same H12 (upd (upd H12 dxp2 (.own p2)) p2 (.ins U.C dxp2 [])) := Same.trans (Same.new hdxp2) (Same.new (by rw [upd_ne ndp2.symm]; exact hp2))
    refine ⟨p2, sd, dxp2, t, Ls, Ss, rfl, upd_same, A12 _ _ esd, tss.keep (KT.same A12), gS, fun S2 H13 B13 sp13 srd2 st13 => ⟨rfl, ?_⟩⟩
    obtain rfl : S2 = Ss := Srd.eq gS.nd srd2 ⟨List.Perm.refl _, srd.so⟩
    have S1213 := mk_same hp2 hdxp2 ndp2 B13
    have S813 := Same.trans S811 (Same.trans S12 S1213)
    refine ⟨_, rfl, fd, t, S2, Lf, F, rfl, gS, srd.so, S813 _ _ efd8, fts8.keep (KT.same S813), fok, fun sf Lsf H14 S14 hsf esf ftsf q2 dxq2 hq2 hdxq2 ndq2 => ?_⟩
    have A14 : Same H14 (upd (upd H14 dxq2 (.own q2)) q2 (.ins U.D dxq2 [])) := Same.trans (Same.new hdxq2) (Same.new (by rw [upd_ne ndq2.symm]; exact hq2))
    have S1114 := Same.trans (Same.trans S12 S1213) S14
    refine ⟨q2, p2, sf, dxq2, t, S2, Lsf, ordF S2 F, rfl, upd_same, (sp13.same S14).same A14, A14 _ _ esf, ftsf.keep (KT.same A14), fok.perm (ordF_perm gS fok), fun H15 B15 wl0 st2 => ⟨rfl, ?_⟩⟩
    have S1415 := mk_same hq2 hdxq2 ndq2 B15
    have S1115 := Same.trans S1114 S1415
    have S815 := Same.trans S811 S1115
    have epd15 := S1115 _ _ epd11
    have xpd2 : (upd (upd H14 dxq2 (.own q2)) q2 (.ins U.D dxq2 [])) pd ≠ none := by rw [A14 _ _ (S1114 _ _ epd11)]; exact fun z => by cases z
    have nq2 : pd ≠ q2 := ne_of_none (S1114 _ _ epd11) hq2
    -- clear
    refine ⟨_, rfl, .inr (.inr (.inl ⟨rfl, .inl ⟨_, epd15⟩⟩)), pd, _, rfl, rfl, epd15, ?_⟩
    have kc : KT H15 (upd H15 pd (.dK [])) := KT.put epd15 (fun _ z => by cases z)
    have S816 : Same H8 (upd H15 pd (.dK [])) := Same.at hpd8 S815
    have sp16 := sp8.same S816
    have wg16 : WgAt (upd H15 pd (.dK [])) U.C U.D q p t S2 F := by
      refine (st _ (fun b o hb e => ?_) (KT.trans (KT.same S1115) kc) sp16).to (fok.nd gS) pfN
      have nb : b ≠ pd := fun z => by
        rcases hb with hb | hb
        · exact xpd (by rw [← z]; exact hb)
        · exact nqpd (by rw [← z, hb])
      rw [upd_ne nb]
      exact S1115 _ _ e
    have xpd3 : (upd (upd H12 dxp2 (.own p2)) p2 (.ins U.C dxp2 [])) pd ≠ none := by rw [A12 _ _ (S12 _ _ epd11)]; exact fun z => by cases z
    have np2 : pd ≠ p2 := ne_of_none (S12 _ _ epd11) hp2
    have sp216 : SpAt (upd H15 pd (.dK [])) U.C p2 t S2 := by
      refine st13 _ (fun b o hb e => ?_) (KT.trans (KT.same (Same.trans S14 S1415)) kc)
      have nb : b ≠ pd := fun z => by
        rcases hb with hb | hb
        · exact xpd3 (by rw [← z]; exact hb)
        · exact np2 (by rw [← z, hb])
      rw [upd_ne nb]
      exact S1415 _ _ (S14 _ _ e)
    have wl16 : WgAt (upd H15 pd (.dK [])) U.C U.D q2 p2 t S2 F := by
      refine (st2 _ (fun b o hb e => ?_) kc sp216).to (fok.nd gS) (ordF_perm gS fok)
      have nb : b ≠ pd := fun z => by
        rcases hb with hb | hb
        · exact xpd2 (by rw [← z]; exact hb)
        · exact nq2 (by rw [← z, hb])
      rw [upd_ne nb]
      exact e
    have enl16 := S816 _ _ enl8
    have erd16 := S816 _ _ erd8
    have ts16 := ts8.keep (KT.same S816)
    have efd16 := S816 _ _ efd8
    have fts16 := fts8.keep (KT.same S816)
    have R16 := Same.rl S816 R8
    have P16 : Only r H (upd H15 pd (.dK [])) := fun b o n e => S816 _ _ (P8 b o n e)
    generalize upd H15 pd (.dK []) = H16 at wg16 wl16 sp16 enl16 erd16 ts16 efd16 fts16 R16 P16 ⊢
    clear kc S816 sp216 xpd3 np2 st13 xpd2 nq2 epd15 S815 S1115 S1415 wl0 st2 B15 S1114 A14 hq2 hdxq2 ndq2 esf ftsf hsf S14 S813 S1213 sp13 srd2 B13 A12 hp2 hdxp2 ndp2 srds tss esd hsd S12 epd11 xpd nqpd S811 S1011 wg0 st B11 Aq hq hdxq ndq fts10 fokN pfN epd S810 hpd8 enl8 erd8 ts8 efd8 fts8 sp8 R8 P8
    -- spans, is_told
    obtain ⟨_, _, dx, fdw, caw, Lw, asw, w1, w2, w3, w4, w5⟩ := id wg16
    refine ⟨_, rfl, q, dx, _, rfl, w1, q, dx, _, .ref p, rfl, w1, rfl, ?_⟩
    obtain ⟨dxp, fsp, ep⟩ := sp16.ins
    refine ⟨_, rfl, p, dxp, fsp, _, rfl, ep, sp16.tyd, self_nf, p, t, S2, p, t, S2, rfl, sp16, sp16, fun _ => rfl, _, rfl, _, rfl, ?_⟩
    rw [decide_eq_true rfl, decide_eq_true rfl]
    refine iteF ?_
    refine ⟨_, rfl, _, rfl, _, rfl, _, rfl, q, p, rd, fd, t, R, S2, L0, Lf, F, rfl, wg16, erd16, ts16, srd, efd16, fts16, fun H17 S17 => ⟨_, rfl, iteF ?_⟩⟩
    have wg17 := wg16.same S17
    have wl17 := wl16.same S17
    have sp17 := sp16.same S17
    have enl17 := S17 _ _ enl16
    have erd17 := S17 _ _ erd16
    have ts17 := ts16.keep (KT.same S17)
    have efd17 := S17 _ _ efd16
    have fts17 := fts16.keep (KT.same S17)
    have R17 := Same.rl S17 R16
    have P17 : Only r H H17 := fun b o n e => S17 _ _ (P16 b o n e)
    clear wg16 wl16 sp16 enl16 erd16 ts16 efd16 fts16 R16 P16 S17 w1 w2 w3 w4 w5 ep
    -- the loop
    refine ⟨_, rfl, nl, rfl, ⟨_, SqL.of enl17⟩, ?_⟩
    refine for_it (walk_list (K := K) (a := nl) (xs := ns.map V.str)) (fun i σ G => Rl G r ∧ Only r H17 G ∧ ∃ v9 v10 v11 v12 v13 : Option V, σ = [some (.ref r), some (.int t), some (.ref nl), some (.ref rd), some (.ref fd), some (.ref p), some (.ref pd), some (.ref q), some (.ref q2), v9, v10, v11, v12, v13, none, none, none, none]) ⟨R17, fun b o _ e => e, none, none, none, none, none, rfl⟩ (fun i σ G _ h => SqL.of (h.2.1 _ _ nnl enl17)) ?_ ?_
    · rintro i x σ Ga G hi ⟨RG, OG, v9, v10, v11, v12, v13, rfl⟩ ⟨rfl, hx⟩
      rw [List.getElem?_map] at hx
      cases en : ns[i]? with
      | none => rw [en] at hx; cases hx
      | some n =>
      rw [en] at hx
      cases hx
      have hn : n ∈ S2.map (·.1) := pns.mem_iff.mp (List.mem_of_getElem? en)
      refine ⟨_, rfl, _, rfl, _, _, rfl, rfl, ⟨by decide, by decide, by decide⟩, _, _, rfl, rfl, ⟨by decide, by decide, by decide⟩, _, rfl, by show 6 ≤ sizeLine; decide, fun q0 hq0 => ?_⟩
      have A1 := Same.new (o := .lst [V.int 0, .int 1, .int (-1), .int 7, .int (10 ^ (9 : Int).toNat), .int (-(10 ^ (9 : Int).toNat))]) hq0
      refine ⟨r, .ref q0, _, rfl, Same.rl A1 RG, .inl ⟨q0, rfl, RG.ne hq0, .inl (SqL.of upd_same)⟩, by show 0 < 6; decide, by show 6 ≤ sizeLine; decide, fun v G1 hv R1 O1 => ?_⟩
      obtain ⟨k0, rfl, k1, k2⟩ : ∃ k0 : Int, v = .int k0 ∧ -1000000000 ≤ k0 ∧ k0 ≤ 1000000000 := by
        simp only [List.mem_cons, List.not_mem_nil, or_false] at hv
        rcases hv with h | h | h | h | h | h
        all_goals subst h; exact ⟨_, rfl, by decide, by decide⟩
      have O17 : Only r H17 G1 := fun b o n e => O1 b o n (A1 b o (OG b o n e))
      clear hv O1 A1 hq0 OG RG
      have wg1 := wg17.only O17 R17
      have efd1 := O17 _ _ nfd efd17
      have erd1 := O17 _ _ nrd erd17
      have kt1 := KT.only O17 R17
      have fts1 := fts17.keep kt1
      have ts1 := ts17.keep kt1
      obtain ⟨va, ha⟩ := fts1.adr (fok.at hn)
      have dg : DGet G1 fd (.str n) (some (.ref (adr Lf n))) := by
        have := DGet.k (k := Sum.inr n) efd1
        rw [va] at this
        exact this
      refine ⟨_, rfl, _, rfl, fd, _, rfl, dg, adr Lf n, _, rfl, SqT.of ha, rfl, _, _, rfl, _, _, rfl, rfl, ?_⟩
      have hmm := fok.in gS hn
      have hm : nxt F n ∈ S2.map (·.1) := fok.to hmm
      obtain ⟨u1, b1, en1, hv1, ht1, hm1⟩ := ts1.get ((srd.pm.map (·.1)).mem_iff.mp hn)
      obtain ⟨u2, b2, en2, hv2, ht2, hm2⟩ := ts1.get ((srd.pm.map (·.1)).mem_iff.mp hm)
      have es1 := spn_srd gS srd hm1
      have es2 := spn_srd gS srd hm2
      have dr1 : DGet G1 rd (.str n) (some (.ref u1)) := by
        have := DGet.k (k := Sum.inr n) erd1
        rw [hv1] at this
        exact this
      have dr2 : DGet G1 rd (.str (nxt F n)) (some (.ref u2)) := by
        have := DGet.k (k := Sum.inr (nxt F n)) erd1
        rw [hv2] at this
        exact this
      have er : rnd S2 t F n = (en1 + (fol F n).2 - b2) / t := by unfold rnd; rw [es1, es2]
      have hw : 0 ≤ (fol F n).2 ∧ (fol F n).2 ≤ 4 * t := fok.wt _ hmm
      have f1 := fin _ hm1
      have f2 := fin _ hm2
      unfold Fin1 SpOk at f1 f2
      simp only at f1 f2
      have r1 : rnd S2 t F n ≤ 1000 := by rw [er]; exact Int.ediv_le_of_le_mul (by omega) (by omega)
      have r2 : -1000 ≤ rnd S2 t F n := by rw [er]; exact Int.le_ediv_of_mul_le (by omega) (by omega)
      refine ⟨_, rfl, _, rfl, rd, _, rfl, dr1, .inr (.inl ⟨_, _, _, _, rfl, rfl, SqT.of ht1, rfl, _, rfl, _, _, rfl, rfl, ?_⟩)⟩
      refine ⟨_, rfl, _, rfl, rd, _, rfl, dr2, .inr (.inl ⟨_, _, _, _, rfl, rfl, SqT.of ht2, rfl, _, _, rfl, rfl, ?_⟩)⟩
      refine ⟨_, rfl, _, _, rfl, rfl, ⟨by omega, Nat.lt_of_le_of_lt (Nat.log2_le_self _) (by omega)⟩, ?_⟩
      obtain ⟨_, _, dx, fdw, caw, Lw, asw, w1, _⟩ := id wg1
      refine ⟨_, rfl, q, dx, _, rfl, w1, rfl, _, rfl, _, rfl, q, p, t, S2, F, n, k0, rfl, wg1, hn, by omega, fun a G2 S2' ea => ?_⟩
      have nmN : nmC (nxt F n) = true := (fok.nms gS _ hmm).2
      have td1 : TD 1 (.tuple [.str (nxt F n), .int (k0 + rnd S2 t F n)]) 10 := TD.tup (TLs.cons (TD.name nmN) (TLs.cons (TD.int (by omega) (by omega)) TLs.nil))
      have tt1 := td1.tell (by omega) (by decide)
      refine ⟨a, _, rfl, .tup (SqT.of ea) (.cons (.str _) (.cons (.int _) .nil)), tt1.1, tt1.2.1, tt1.2.2, ?_⟩
      refine ⟨_, rfl, _, rfl, _, rfl, _, _, rfl, rfl, by show 2 ≤ sizeLine; decide, fun a2 ha2 => ?_⟩
      have ec : (en1 + (fol F n).2 - b2) / t + k0 = k0 + rnd S2 t F n := by rw [er]; omega
      have dsb : RL.DS K (upd G2 a2 (.tup [.str (fol F n).1, .int ((en1 + (fol F n).2 - b2) / t + k0)])) (.ref a2) (.tuple [.str (nxt F n), .int (k0 + rnd S2 t F n)]) := by
        rw [← ec]
        exact .tup (SqT.of upd_same) (.cons (.str _) (.cons (.int _) .nil))
      have S3' : Same G1 (upd G2 a2 (.tup [.str (fol F n).1, .int ((en1 + (fol F n).2 - b2) / t + k0)])) := Same.trans S2' (Same.new ha2)
      refine ⟨a2, _, rfl, dsb, tt1.1, tt1.2.1, tt1.2.2, ?_⟩
      refine ⟨rfl, _, rfl, ?_⟩
      rw [decide_eq_true rfl]
      refine iteF ?_
      exact ⟨Same.rl S3' R1, fun b o m e => S3' _ _ (O17 b o m e), some (.str n), some (.int k0), some (.str (fol F n).1), some (.int (fol F n).2), some (.int ((en1 + (fol F n).2 - b2) / t)), rfl⟩
    · rintro σ G ⟨RG, OG, v9, v10, v11, v12, v13, rfl⟩
      have wgG := wg17.only OG R17
      have wlG := wl17.only OG R17
      have spG := sp17.only OG R17
      have efdG := OG _ _ nfd efd17
      have erdG := OG _ _ nrd erd17
      have enlG := OG _ _ nnl enl17
      have ktG := KT.only OG R17
      have ftsG := fts17.keep ktG
      have tsG := ts17.keep ktG
      have PG : Only r H G := fun b o m e => OG b o m (P17 b o m e)
      clear wg17 wl17 sp17 efd17 erd17 enl17 fts17 ts17 ktG OG P17 R17
      obtain ⟨_, _, dx, fdw, caw, Lw, asw, w1, _⟩ := id wgG
      obtain ⟨_, _, dx2, fdw2, caw2, Lw2, asw2, w12, _⟩ := id wlG
      have ty2 : OW.Tyd K G (.ref q2) (.ref U.D) := .inr (.inr ⟨U.D, dx2, _, w12, rfl⟩)
      refine ⟨_, rfl, _, rfl, q, dx, _, _, rfl, w1, ty2, self_nf, q, p, t, S2, F, .ref q2, rfl, wgG, .inl ⟨q2, p2, t, S2, F, rfl, wlG, rfl, _, rfl, _, rfl, ?_⟩⟩
      rw [decide_eq_true (show t = t ∧ S2 = S2 ∧ ordF S2 F = ordF S2 F from ⟨rfl, rfl, rfl⟩)]
      refine iteF ?_
      refine ⟨_, rfl, _, rfl, q, dx, _, _, rfl, w1, ty2, self_nf, q, p, t, S2, F, .ref q2, rfl, wgG, .inl ⟨q2, p2, t, S2, F, rfl, wlG, rfl, _, rfl, ?_⟩⟩
      rw [decide_eq_true (show t = t ∧ S2 = S2 ∧ ordF S2 F = ordF S2 F from ⟨rfl, rfl, rfl⟩)]
      refine iteF ?_
      refine ⟨_, rfl, _, rfl, q, dx, _, fd, _, rfl, w1, rfl, efdG, U.tdD.1, q, p, t, S2, F, .ref fd, rfl, wgG, .inr (.inl ⟨fd, _, rfl, efdG, _, rfl, iteF ?_⟩)⟩
      refine ⟨_, rfl, _, rfl, q, dx, _, _, rfl, w1, spG.tyd, U.tsD.1, q, p, t, S2, F, .ref p, rfl, wgG, .inr (.inr ⟨p, t, S2, rfl, spG, _, rfl, iteF ?_⟩)⟩
      -- far, name
      refine ⟨_, rfl, _, rfl, fun p3 dxp3 hp3 hdxp3 ndp3 => ?_⟩
      have A3 : Same G (upd (upd G dxp3 (.own p3)) p3 (.ins U.C dxp3 [])) := Same.trans (Same.new hdxp3) (Same.new (by rw [upd_ne ndp3.symm]; exact hp3))
      refine ⟨p3, rd, dxp3, t, L0, R, rfl, upd_same, A3 _ _ erdG, tsG.keep (KT.same A3), gR, fun S3 G1 B3 sp3 srd3 _ => ⟨rfl, ?_⟩⟩
      obtain rfl : S3 = S2 := Srd.eq gR.nd srd3 srd
      have SG1 := mk_same hp3 hdxp3 ndp3 B3
      obtain ⟨dx3, fs3, e3⟩ := sp3.ins
      refine ⟨_, rfl, p3, dx3, fs3, t, rfl, e3, rfl, p3, t, t, S3, rfl, sp3, fun x hx => ?_, ⟨by omega, by omega⟩, fun p4 G2 SG2 sp4 => ?_⟩
      · have := (fin x (srd.pm.mem_iff.mp hx)).2
        unfold Fin1 at this
        omega
      have SGG := Same.trans SG1 SG2
      have RG2 := Same.rl SGG RG
      refine ⟨_, rfl, _, rfl, r, .ref nl, ns.map V.str, rfl, RG2, .inl ⟨nl, rfl, nnl, .inl (SqL.of (SGG _ _ enlG))⟩, by rw [List.length_map]; omega, by rw [List.length_map, sizeLine_eq]; omega, fun v G3 hv R3 O3 => ?_⟩
      obtain ⟨m0, hm0, rfl⟩ := List.mem_map.mp hv
      have hm0S := pns.mem_iff.mp hm0
      refine ⟨_, _, rfl, ?_⟩
      have sp43 := sp4.only O3 RG2
      have wg3 := (wgG.same SGG).only O3 RG2
      have spp3 := (spG.same SGG).only O3 RG2
      have efd3 := O3 _ _ nfd (SGG _ _ efdG)
      have kt3 := KT.trans (KT.same SGG) (KT.only O3 RG2)
      have fts3 := ftsG.keep kt3
      have P3 : Only r H G3 := fun b o m e => O3 b o m (SGG _ _ (PG b o m e))
      clear wgG wlG spG efdG erdG enlG ftsG tsG PG RG hv kt3 O3 RG2 SGG SG2 SG1 sp4 sp3 e3 B3 srd3 A3 hp3 hdxp3 ndp3 w1 w12 ty2
      -- moved
      refine ⟨_, rfl, _, rfl, fun q3 dxq3 hq3 hdxq3 ndq3 => ?_⟩
      have A4 : Same G3 (upd (upd G3 dxq3 (.own q3)) q3 (.ins U.D dxq3 [])) := Same.trans (Same.new hdxq3) (Same.new (by rw [upd_ne ndq3.symm]; exact hq3))
      refine ⟨q3, p4, fd, dxq3, t, farR t S3, Lf, F, rfl, upd_same, sp43.same A4, A4 _ _ efd3, fts3.keep (KT.same A4), fok_far gS fok, fun G4 B4 wm _ => ⟨rfl, ?_⟩⟩
      have S34 := mk_same hq3 hdxq3 ndq3 B4
      have wg4 := wg3.same S34
      have spp4 := spp3.same S34
      have efd4 := S34 _ _ efd3
      have fts4 := fts3.keep (KT.same S34)
      have R4' := Same.rl S34 R3
      have P4 : Only r H G4 := fun b o m e => S34 _ _ (P3 b o m e)
      clear A4 B4 S34 wg3 spp3 efd3 fts3 R3 P3 hq3 hdxq3 ndq3 sp43
      obtain ⟨_, _, dx, fdw, caw, Lw, asw, w1, _⟩ := id wg4
      obtain ⟨_, _, dxm, fdm, cam, Lm, asm, wm1, _⟩ := id wm
      have tyg : OW.Tyd K G4 (.ref q) (.ref U.D) := .inr (.inr ⟨U.D, dx, _, w1, rfl⟩)
      refine ⟨_, rfl, _, rfl, q3, dxm, _, _, rfl, wm1, tyg, self_nf, q3, p4, t, farR t S3, F, .ref q, rfl, wm, .inl ⟨q, p, t, S3, F, rfl, wg4, farR_names _ _, _, rfl, ?_⟩⟩
      rw [decide_eq_false (show ¬ (t = t ∧ farR t S3 = S3 ∧ ordF (farR t S3) F = ordF S3 F) from fun z => far_ne gS (by omega) z.2.1)]
      refine iteF ?_
      have tt := (td_flows gS fok).tell (by omega) (by decide)
      refine ⟨_, rfl, q3, dxm, _, rfl, wm1, q3, p4, t, farR t S3, F, rfl, wm, fun a1 L1 ha1 f1 => ?_⟩
      rw [ordF_far] at f1
      have B1 := Same.new (o := .dK (Kvs L1)) ha1
      have ds1 : RL.DS K (upd G4 a1 (.dK (Kvs L1))) (.ref a1) (flowsD (ordF S3 F)) := FTs.ds (f1.keep (KT.same B1)) upd_same
      refine ⟨a1, _, rfl, ds1, tt.1, tt.2.1, tt.2.2, ?_⟩
      generalize upd G4 a1 (.dK (Kvs L1)) = G5 at B1 ds1 ⊢
      refine ⟨_, rfl, q, dx, _, rfl, B1 _ _ w1, q, p, t, S3, F, rfl, wg4.same B1, fun a2 L2 ha2 f2 => ?_⟩
      have B2 := Same.new (o := .dK (Kvs L2)) ha2
      have ds2 : RL.DS K (upd G5 a2 (.dK (Kvs L2))) (.ref a2) (flowsD (ordF S3 F)) := FTs.ds (f2.keep (KT.same B2)) upd_same
      refine ⟨a2, _, rfl, ds2, tt.1, tt.2.1, tt.2.2, ?_⟩
      generalize upd G5 a2 (.dK (Kvs L2)) = G6 at B2 ds2 ⊢
      refine ⟨rfl, _, rfl, ?_⟩
      rw [decide_eq_true rfl]
      refine iteF ?_
      have S46 := Same.trans B1 B2
      -- longer
      refine ⟨_, rfl, fd, Kvs Lf, rfl, S46 _ _ efd4, fun G7 lp tl SG7 hlp htl nlp elp pr => ?_⟩
      refine ⟨lp, tl, Kvs Lf, rfl, SqL.of elp, pd_of pr, fun ld hld => ?_⟩
      have ndL : (Lf.map (·.1)).Nodup := by rw [fts4.names]; exact fok.nd gS
      have em : mergeK [] (Kvs Lf) = Kvs Lf := mergeK_kvs Lf [] (by rw [List.nil_append]; exact ndL)
      rw [em]
      have S47 : Same G4 G7 := Same.trans S46 SG7
      have B8 := Same.new (o := .dK (Kvs Lf)) hld
      have eld : (upd G7 ld (.dK (Kvs Lf))) ld = some (.dK (Kvs Lf)) := upd_same
      have hld4 : G4 ld = none := by
        cases z : G4 ld with
        | none => rfl
        | some o => rw [S47 _ _ z] at hld; cases hld
      generalize upd G7 ld (.dK (Kvs Lf)) = G8 at B8 eld ⊢
      have S48 := Same.trans S47 B8
      have efd8 := S48 _ _ efd4
      have fts8 := fts4.keep (KT.same S48)
      obtain ⟨va, ha⟩ := fts8.adr (fok.at hm0S)
      have dg : DGet G8 fd (.str m0) (some (.ref (adr Lf m0))) := by
        have := DGet.k (k := Sum.inr m0) efd8
        rw [va] at this
        exact this
      refine ⟨_, rfl, _, rfl, fd, _, rfl, dg, .inr (.inl ⟨_, _, _, _, rfl, rfl, SqT.of ha, rfl, ?_⟩)⟩
      refine ⟨_, rfl, _, rfl, fd, _, rfl, dg, .inr (.inl ⟨_, _, _, _, rfl, rfl, SqT.of ha, rfl, _, rfl, _, _, rfl, rfl, by show 2 ≤ sizeLine; decide, fun tq htq => ?_⟩)⟩
      have B9 := Same.new (o := .tup [.str (fol F m0).1, .int ((fol F m0).2 + t)]) htq
      have etq : (upd G8 tq (.tup [.str (fol F m0).1, .int ((fol F m0).2 + t)])) tq = some (.tup [.str (fol F m0).1, .int ((fol F m0).2 + t)]) := upd_same
      generalize upd G8 tq (.tup [.str (fol F m0).1, .int ((fol F m0).2 + t)]) = G9 at B9 etq ⊢
      have eld9 := B9 _ _ eld
      have lLf : (Kvs Lf).length ≤ 6 := by rw [kvs_len, fts4.len]; exact fok.l6
      refine ⟨_, rfl, _, rfl, ld, _, rfl, DPut.k (k := Sum.inr m0) eld9 (by rw [sizeLine_eq]; omega), ?_⟩
      rw [putK_old (by rw [fts4.names]; exact fok.at hm0S)]
      have k10 : KT G9 (upd G9 ld (.dK (Kvs (lonL Lf m0 tq)))) := KT.put eld9 (fun _ z => by cases z)
      have S410 : Same G4 (upd G9 ld (.dK (Kvs (lonL Lf m0 tq)))) := Same.at hld4 (Same.trans S48 B9)
      have eld10 : (upd G9 ld (.dK (Kvs (lonL Lf m0 tq)))) ld = some (.dK (Kvs (lonL Lf m0 tq))) := upd_same
      have ftl : FTs (upd G9 ld (.dK (Kvs (lonL Lf m0 tq)))) (lonL Lf m0 tq) (lonF F m0 t) := fts_lon (m := (fol F m0).1) (w := (fol F m0).2) (k10 _ _ etq) ((fts8.keep (KT.same B9)).keep k10) fun x hx e => by
        rw [← e, fol_at (q := x.2) (fok.nd gS) hx]
      generalize upd G9 ld (.dK (Kvs (lonL Lf m0 tq))) = G10 at S410 eld10 ftl ⊢
      -- more
      have fokl := fok_lon gS fok w3 m0
      refine ⟨_, rfl, _, rfl, fun q5 dxq5 hq5 hdxq5 ndq5 => ?_⟩
      have A5 : Same G10 (upd (upd G10 dxq5 (.own q5)) q5 (.ins U.D dxq5 [])) := Same.trans (Same.new hdxq5) (Same.new (by rw [upd_ne ndq5.symm]; exact hq5))
      refine ⟨q5, p, ld, dxq5, t, S3, lonL Lf m0 tq, lonF F m0 t, rfl, upd_same, (spp4.same S410).same A5, A5 _ _ eld10, ftl.keep (KT.same A5), fokl, fun G11 B11 wo _ => ⟨rfl, ?_⟩⟩
      have S411 := Same.trans S410 (mk_same hq5 hdxq5 ndq5 B11)
      have wg11 := wg4.same S411
      obtain ⟨_, _, dxo, fdo, cao, Lo, aso, wo1, wo2, wo3, wo4, wo5⟩ := id wo
      obtain ⟨_, _, dxg, fdg, cag, Lg, asg, wg1', wg2', wg3', wg4', wg5'⟩ := id wg11
      have ty11 : OW.Tyd K G11 (.ref q) (.ref U.D) := .inr (.inr ⟨U.D, dxg, _, wg1', rfl⟩)
      obtain ⟨ec, es⟩ := regs_lon gS srd.so fok hm0S
      have gWo := lon_ne gS fok hm0S
      refine ⟨_, rfl, _, rfl, q5, dxo, _, _, rfl, wo1, ty11, self_nf, q5, p, t, S3, lonF F m0 t, .ref q, rfl, wo, .inl ⟨q, p, t, S3, F, rfl, wg11, rfl, _, rfl, _, rfl, ?_⟩⟩
      rw [decide_eq_false (show ¬ (t = t ∧ S3 = S3 ∧ ordF S3 (lonF F m0 t) = ordF S3 F) from fun z => gWo z.2.2)]
      refine iteT ?_
      refine ⟨_, rfl, q5, dxo, _, rfl, wo1, q5, p, t, S3, lonF F m0 t, rfl, wo, fun G12 S12 => ?_⟩
      refine ⟨_, rfl, q, dxg, _, rfl, S12 _ _ wg1', q, p, t, S3, F, rfl, wg11.same S12, fun G13 S13 => ?_⟩
      have S1113 := Same.trans S12 S13
      refine ⟨_, _, rfl, rfl, rfl, _, rfl, ?_⟩
      rw [decide_eq_true (congrArg V.int es)]
      refine iteT ?_
      have wo13 := S1113 _ _ wo1
      have wg13 := S1113 _ _ wg1'
      refine ⟨_, rfl, q5, dxo, _, rfl, wo13, q5, dxo, _, .ref cao, rfl, wo13, rfl, ?_⟩
      refine ⟨_, rfl, q, dxg, _, rfl, wg13, q, dxg, _, .ref cag, rfl, wg13, rfl, ?_⟩
      rw [ec] at wo5
      obtain ⟨sh, ly⟩ := cyc_shape gS fok
      have dpo : Dp K G13 (.ref cao) (cycD (cyA S3 F)) := .tup (SqT.of (S1113 _ _ wo4)) (CTs.dp (wo5.keep (KT.same S1113)))
      have dpg : Dp K G13 (.ref cag) (cycD (cyA S3 F)) := .tup (SqT.of (S1113 _ _ wg4')) (CTs.dp (wg5'.keep (KT.same S1113)))
      refine ⟨_, _, dpo, dpg, sh, sh, ?_⟩
      rw [PySem.SeqAt.eqv_refl _ ly]
      exact k _ (Same.rl (Same.trans S411 S1113) R4') fun b o m e => Same.trans S411 S1113 _ _ (P4 b o m e)
end
end K43
namespace K43
open PySem L2
open PyProof.Rows PySem.Spec
/-- the written rows and follows of the law -/
def wR : Rws := [("p", 0, 2), ("q", 4, 9), ("r", -3, 21)]
def wF : Flw := [("r", "r", 3), ("q", "p", 0), ("p", "q", 2)]
theorem wR_good : Good 3 wR := by
  refine ⟨by decide +kernel, by decide, by decide, fun x hx => ?_, fun x hx => ?_, fun x hx => ?_, by decide, by decide⟩
  all_goals
    simp only [wR, List.mem_cons, List.not_mem_nil, or_false] at hx
  · rcases hx with h | h | h
    all_goals subst h; decide +kernel
  · rcases hx with h | h | h
    all_goals subst h; unfold SpOk; decide +kernel
  · rcases hx with h | h | h
    all_goals subst h; unfold Near; decide +kernel
theorem wR_sorted : sortedS (wR.map (·.1)) = true := by decide +kernel
theorem wF_ok : FOk 3 wR wF := by
  refine ⟨by decide +kernel, by decide +kernel, fun x hx => ?_, fun x hx => ?_, by decide⟩
  all_goals
    simp only [wF, List.mem_cons, List.not_mem_nil, or_false] at hx
  · rcases hx with h | h | h
    all_goals subst h; decide +kernel
  · rcases hx with h | h | h
    all_goals subst h; decide +kernel
theorem wR_names : wR.map (·.1) = (["p", "q", "r"] : List Str) := rfl
theorem w_cyc_p : Cyc (nxt wF) (wR.map (·.1)) "p" ["p", "q"] := by
  refine ⟨⟨rfl, fun i x y h1 h2 => ?_, by decide +kernel, by decide +kernel⟩, fun l h => ?_⟩
  · match i, h1, h2 with
    | 0, h1, h2 =>
      cases h1
      cases h2
      decide +kernel
    | 1, h1, h2 => cases h2
    | i + 2, h1, h2 => cases h2
  · cases h
    decide +kernel
theorem w_cyc_q : Cyc (nxt wF) (wR.map (·.1)) "q" ["q", "p"] := by
  refine ⟨⟨rfl, fun i x y h1 h2 => ?_, by decide +kernel, by decide +kernel⟩, fun l h => ?_⟩
  · match i, h1, h2 with
    | 0, h1, h2 =>
      cases h1
      cases h2
      decide +kernel
    | 1, h1, h2 => cases h2
    | i + 2, h1, h2 => cases h2
  · cases h
    decide +kernel
theorem w_cyc_r : Cyc (nxt wF) (wR.map (·.1)) "r" ["r"] := by
  refine ⟨⟨rfl, fun i x y h1 h2 => ?_, by decide +kernel, by decide +kernel⟩, fun l h => ?_⟩
  · match i, h1, h2 with
    | 0, h1, h2 => cases h2
    | i + 1, h1, h2 => cases h2
  · cases h
    decide +kernel
open Classical in
theorem w_cyA : cyA wR wF = ([["p", "q"], ["r"]] : List (List Str)) := by
  unfold cyA cycs
  have ip : isMin (nxt wF) (wR.map (·.1)) "p" := by
    unfold isMin
    rw [cy_of w_cyc_p]
    decide +kernel
  have iq : ¬ isMin (nxt wF) (wR.map (·.1)) "q" := by
    unfold isMin
    rw [cy_of w_cyc_q]
    decide +kernel
  have ir : isMin (nxt wF) (wR.map (·.1)) "r" := by
    unfold isMin
    rw [cy_of w_cyc_r]
    decide +kernel
  have e : (wR.map (·.1)).filter (fun n => decide (isMin (nxt wF) (wR.map (·.1)) n)) = (["p", "r"] : List Str) := by
    conv => lhs; arg 2; rw [wR_names]
    rw [List.filter_cons_of_pos (by exact decide_eq_true ip), List.filter_cons_of_neg (by exact fun z => iq (of_decide_eq_true z)), List.filter_cons_of_pos (by exact decide_eq_true ir)]
    rfl
  rw [e]
  show [cy _ _ "p", cy _ _ "r"] = _
  rw [cy_of w_cyc_p, cy_of w_cyc_r]
theorem w_szs : szs wR 3 wF = [3, 9] := by
  unfold szs
  rw [w_cyA]
  decide +kernel
theorem w_cpy : cpy wR 3 wF (szs wR 3 wF).length = 9 := by
  unfold cpy
  rw [w_szs]
  decide +kernel
theorem w_rnd : rnd wR 3 wF "q" = 3 ∧ rnd wR 3 wF "p" = 0 ∧ rnd wR 3 wF "r" = 9 ∧ nxt wF "q" = "p" ∧ nxt wF "p" = "q" ∧ nxt wF "r" = "r" := by decide +kernel
end K43
namespace K43
open PySem L2
open PyProof.Rows PySem.Spec
section
variable {P : Program} {w : World} {K : PySem.W.Frag}
                                                      {mg : Str → Option Value} {base : Heap}
def sp_law (K : PySem.W.Frag) : Sp := fun vs H Q _ => ∃ (a : Addr) (ns : List Int), vs = [.ref a] ∧ SqL K H a (ns.map V.int) ∧ ns.length ≤ 63 ∧ ∀ H', Q (.bl true) H'
theorem ok_law (T : T K mg) (U : UX K mg) (ai : AddI K U.C) : GW.FnG P w K mg base CX0 17 T.f_law T.d_law ["script"] (sp_law K) := by
  have G_w_right : GW.FnG P w K mg base CX0 16 T.f_w_right T.d_w_right ["tray"] (sp_w_right K) := ok_w_right T U ai
  have G_w_tray : FnOk P w K mg base CX0 1 T.f_w_tray T.d_w_tray ["script", "spot"] (sp_w_tray K) := ok_w_tray T
  have G_init : FnOk P w K mg base CX0 6 U.fI U.dI ["self", "interval", "rows"] (sp_init K U.C) := ok_init T U
  have G_winit : FnOk P w K mg base CX0 6 U.fJ U.dJ ["self", "spans", "follows"] (sp_winit U.C U.D) := ok_winit T U
  have Gc : FnOk P w K mg base CX0 1 U.pc.g U.pc.d ["self"] (getSp U.D "_cycles") := ok_get U.clD U.pc sc_Wiring_cycles U.k3 ⟨_, _, _, rfl⟩
  have Gz : FnOk P w K mg base CX0 4 U.pz.g U.pz.d ["self"] (sp_sizes K U.C U.D) := ok_sizes T U
  have Gr : FnOk P w K mg base CX0 6 U.pr.g U.pr.d ["self"] (sp_regs K U.C U.D) := ok_regs T U
  have Gp : FnOk P w K mg base CX0 6 U.pp.g U.pp.d ["self"] (sp_copies K U.C U.D) := ok_copies T U
  have Gl : FnOk P w K mg base CX0 1 U.wl.f U.wl.d ["self"] (sp_wlen U.C U.D) := ok_wlen T U
  have Ga : FnOk P w K mg base CX0 5 U.wa.f U.wa.d ["self", "name", "turn"] (sp_after U.C U.D) := ok_after T U
  refine GW.FunG.okG T.F_law sc_law (fun vs H Q E h => ?_) (fun cdv A outer s H vs Q E hg hr h => ?_)
  · obtain ⟨a, ns, rfl, _⟩ := h
    rfl
  · obtain ⟨a, ns, rfl, hS, hl, k⟩ := h
    have hu := hu_of hr
    have hgd : (cxOf CX0 P w K mg base ["script", "spot", "spans", "wiring", "told", "due"] "law" (defScope s_law) T.f_law cdv A outer s H E).nox.A.guards = some [] := hg
    have hr_w_right : Room 16 _ := hr.mono (by decide)
    have hr_w_tray : Room 1 _ := hr.mono (by decide)
    obtain ⟨_, c_MAX_WIRED⟩ := T.c_MAX_WIRED
    refine ⟨_, PSs.nox (pss_cons (ps_for PassesOwn.never rfl (pi_range1 (by rfl) T.z_range (pa_cons (pe_callB (call_max2 rfl) (by rfl) T.z_max (by decide +kernel) (pa_cons pe_int (pa_cons (pe_callB (call_min2 rfl) (by rfl) T.z_min (by decide +kernel) (pa_cons pe_int (pa_cons (pe_callB call_len (by rfl) T.z_len (by decide +kernel) (pa_cons (pv 0) pa_nil)) pa_nil))) pa_nil))) pa_nil)) (pg_name (i := 1) sc_law.nd rfl (Or.inl rfl))
      (pss_one (ps_if (pt_not (pt_val (GW.pe_callG G_w_right hgd hr_w_right rfl T.m_w_right T.F_w_right.kp T.b_w_right .nil pass0 (pa_cons (pe_call G_w_tray hr_w_tray rfl T.m_w_tray T.F_w_tray.kp T.b_w_tray .nil pass0 (pa_cons (pv 0) (pa_cons (pv 1) pa_nil))) pa_nil))))
      (pss_one (ps_ret pe_bl))
      pss_nil)))
      (pss_cons (ps_set (i := 2) sc_law.nd rfl (Or.inl rfl) (pe_make U.mkI G_init (hr.mono (by decide)) rfl U.mC U.bI .nil pass0 (pa_cons pe_int (pa_cons (pe_disp (pps_cons pe_str (pe_tup (pa_cons pe_int (pa_cons pe_int pa_nil))) (pps_cons pe_str (pe_tup (pa_cons pe_int (pa_cons pe_int pa_nil))) (pps_cons pe_str (pe_tup (pa_cons (pe_un un_neg pe_int) (pa_cons pe_int pa_nil))) pps_nil))) rfl rfl (by decide) (by decide)) pa_nil))))
      (pss_cons (ps_set (i := 3) sc_law.nd rfl (Or.inl rfl) (pe_make U.mkJ G_winit (hr.mono (by decide)) rfl U.mD U.bJ .nil pass0 (pa_cons (pv 2) (pa_cons (pe_disp (pps_cons pe_str (pe_tup (pa_cons pe_str (pa_cons pe_int pa_nil))) (pps_cons pe_str (pe_tup (pa_cons pe_str (pa_cons pe_int pa_nil))) (pps_cons pe_str (pe_tup (pa_cons pe_str (pa_cons pe_int pa_nil))) pps_nil))) rfl rfl (by decide) (by decide)) pa_nil))))
      (pss_cons (ps_set (i := 4) sc_law.nd rfl (Or.inl rfl) (pe_lst (pa_cons (pe_prop (pv 3) U.clD U.pc.pr Gc (hr.mono (by decide)) U.pc.b .nil pass0 rfl) (pa_cons (pe_prop (pv 3) U.clD U.pz.pr Gz (hr.mono (by decide)) U.pz.b .nil pass0 rfl) (pa_cons (pe_prop (pv 3) U.clD U.pr.pr Gr (hr.mono (by decide)) U.pr.b .nil pass0 rfl) (pa_cons (pe_prop (pv 3) U.clD U.pp.pr Gp (hr.mono (by decide)) U.pp.b .nil pass0 rfl) (pa_cons (pe_meth (pv 3) U.clD U.wa.m Ga (hr.mono (by decide)) U.wa.b .nil pass0 (pa_cons pe_str (pa_cons pe_int pa_nil))) (pa_cons (pe_meth (pv 3) U.clD U.wa.m Ga (hr.mono (by decide)) U.wa.b .nil pass0 (pa_cons pe_str (pa_cons pe_int pa_nil))) pa_nil))))))))
      (pss_cons (ps_set (i := 5) sc_law.nd rfl (Or.inl rfl) (pe_lst (pa_cons (pe_tup (pa_cons (pe_tup (pa_cons pe_str (pa_cons pe_str pa_nil))) (pa_cons (pe_tup (pa_cons pe_str pa_nil)) pa_nil))) (pa_cons (pe_tup (pa_cons pe_int (pa_cons pe_int pa_nil))) (pa_cons pe_int (pa_cons pe_int (pa_cons (pe_tup (pa_cons pe_str (pa_cons pe_int pa_nil))) (pa_cons (pe_tup (pa_cons pe_str (pa_cons pe_int pa_nil))) pa_nil))))))))
      (pss_one (ps_ret (pe_and (pe_cmpR op_eq (pe_callB (RL.cr_reprD hgd (un64 hr)) (by rfl) T.z_repr (by decide +kernel) (pa_cons (pv 4) pa_nil)) (pe_callB (RL.cr_reprD hgd (un64 hr)) (by rfl) T.z_repr (by decide +kernel) (pa_cons (pv 5) pa_nil)) (nomark _)) (pe_one (pe_cmpR (op_eqD (un64 hr)) (pe_lst (pa_cons (pe_meth (pv 3) U.clD U.wa.m Ga (hr.mono (by decide)) U.wa.b .nil pass0 (pa_cons pe_str (pa_cons (pe_un un_neg pe_int) pa_nil))) (pa_cons (pe_callB (OW.cr_ownLen Gl ⟨U.wl.m.at_, U.wl.m.fn⟩ (hr.mono (by decide)) U.wl.b pass0) (by rfl) T.z_len (by decide +kernel) (pa_cons (pv 3) pa_nil)) (pa_cons (pe_glob (v := V.int 72) rfl c_MAX_WIRED ⟨_, rfl⟩) pa_nil)))) (pe_lst (pa_cons (pe_tup (pa_cons pe_str (pa_cons pe_int pa_nil))) (pa_cons pe_int (pa_cons pe_int pa_nil)))) (nomark _))))))))))), ?_⟩
    refine ⟨_, rfl, _, _, rfl, .inl ⟨_, hS, rfl⟩, _, _, rfl, _, _, rfl, ?_⟩
    have hb := cells_n (ns.map V.int).length 7
    refine ⟨_, rfl, Int.le_trans (by decide) hb.2, Int.lt_of_le_of_lt hb.1 (by decide), ?_⟩
    refine for_range (fun i σ H' => ∃ v, σ = [some (.ref a), v, none, none, none, none] ∧ SqL K H' a (ns.map V.int)) ⟨none, rfl, hS⟩ ?_ ?_
    · rintro i σ H' hi ⟨v, rfl, hS'⟩
      refine ⟨_, rfl, _, rfl, a, ns, i, congrArg (fun z => [V.ref a, V.int z]) (Int.zero_add _), hS', fun p x y z hp => ?_⟩
      refine ⟨p, rfl, ⟨x, y, z, upd_same⟩, fun H2 _ O2 => ⟨_, rfl, iteF ?_⟩⟩
      refine ⟨_, rfl, ?_⟩
      rcases hS' with (h | ⟨u, h⟩) | h
      · exact .inl (.inl (O2 _ _ (ne_of_none h hp) ((upd_ne (ne_of_none h hp)).trans h)))
      · exact .inl (.inr ⟨u, O2 _ _ (ne_of_none h hp) ((upd_ne (ne_of_none h hp)).trans h)⟩)
      · exact .inr h
    · rintro σ H0 ⟨v, rfl, hS'⟩
      refine fun pd hpd => ?_
      have C0 := Same.new (o := .dK []) hpd
      have e0 : (upd H0 pd (.dK [])) pd = some (.dK []) := upd_same
      generalize upd H0 pd (.dK []) = H1 at C0 e0 ⊢
      refine ⟨by show 2 ≤ sizeLine; decide, fun a1 ha1 => ?_⟩
      have C1 := Same.new (o := .tup [V.int 0, .int 2]) ha1
      have x1 : (upd H1 a1 (.tup [V.int 0, .int 2])) a1 = some (.tup [V.int 0, .int 2]) := upd_same
      generalize upd H1 a1 (.tup [V.int 0, .int 2]) = H2 at C1 x1 ⊢
      refine ⟨by show 2 ≤ sizeLine; decide, fun a2 ha2 => ?_⟩
      have C2 := Same.new (o := .tup [V.int 4, .int 9]) ha2
      have x2 : (upd H2 a2 (.tup [V.int 4, .int 9])) a2 = some (.tup [V.int 4, .int 9]) := upd_same
      generalize upd H2 a2 (.tup [V.int 4, .int 9]) = H3 at C2 x2 ⊢
      refine ⟨_, rfl, by show 2 ≤ sizeLine; decide, fun a3 ha3 => ?_⟩
      have C3 := Same.new (o := .tup [V.int (-3), .int 21]) ha3
      have x3 : (upd H3 a3 (.tup [V.int (-3), .int 21])) a3 = some (.tup [V.int (-3), .int 21]) := upd_same
      have e3 := C3 _ _ (C2 _ _ (C1 _ _ e0))
      generalize upd H3 a3 (.tup [V.int (-3), .int 21]) = H4 at C3 x3 e3 ⊢
      refine ⟨e3, Kvs [("p", a1), ("q", a2), ("r", a3)], rfl, by show 3 ≤ 15; decide, ?_⟩
      have mk : mergeK [] (Kvs [(Str.ofString "p", a1), (Str.ofString "q", a2), (Str.ofString "r", a3)]) = Kvs [(Str.ofString "p", a1), (Str.ofString "q", a2), (Str.ofString "r", a3)] := mergeK_kvs [(Str.ofString "p", a1), (Str.ofString "q", a2), (Str.ofString "r", a3)] [] (by show [Str.ofString "p", Str.ofString "q", Str.ofString "r"].Nodup; decide +kernel)
      rw [mk]
      have kt5 : KT H4 (upd H4 pd (.dK (Kvs [(Str.ofString "p", a1), (Str.ofString "q", a2), (Str.ofString "r", a3)]))) := KT.put e3 (fun _ z => by cases z)
      have ep5 : (upd H4 pd (.dK (Kvs [(Str.ofString "p", a1), (Str.ofString "q", a2), (Str.ofString "r", a3)]))) pd = some (.dK (Kvs [(Str.ofString "p", a1), (Str.ofString "q", a2), (Str.ofString "r", a3)])) := upd_same
      have tp5 : Tups (upd H4 pd (.dK (Kvs [(Str.ofString "p", a1), (Str.ofString "q", a2), (Str.ofString "r", a3)]))) [(Str.ofString "p", a1), (Str.ofString "q", a2), (Str.ofString "r", a3)] wR := .cons (kt5 _ _ (C3 _ _ (C2 _ _ x1))) (.cons (kt5 _ _ (C3 _ _ x2)) (.cons (kt5 _ _ x3) .nil))
      generalize upd H4 pd (.dK (Kvs [(Str.ofString "p", a1), (Str.ofString "q", a2), (Str.ofString "r", a3)])) = H5 at ep5 tp5 ⊢
      clear C0 C1 C2 C3 e0 e3 x1 x2 x3 mk kt5 ha1 ha2 ha3 hpd
      refine fun p dxp hp hdxp ndp => ?_
      have An : Same H5 (upd (upd H5 dxp (.own p)) p (.ins U.C dxp [])) := Same.trans (Same.new hdxp) (Same.new (by rw [upd_ne ndp.symm]; exact hp))
      refine ⟨p, pd, dxp, 3, _, wR, rfl, upd_same, An _ _ ep5, tp5.keep (KT.same An), wR_good, fun S' H6 B6 sp6 srd' _ => ⟨rfl, ?_⟩⟩
      obtain rfl : S' = wR := Srd.eq wR_good.nd srd' ⟨List.Perm.refl _, wR_sorted⟩
      clear An B6 ep5 tp5 hp hdxp ndp srd'
      -- wiring
      refine ⟨_, rfl, fun fd hfd => ?_⟩
      have C0 := Same.new (o := .dK []) hfd
      have e0 : (upd H6 fd (.dK [])) fd = some (.dK []) := upd_same
      generalize upd H6 fd (.dK []) = H7 at C0 e0 ⊢
      refine ⟨by show 2 ≤ sizeLine; decide, fun b1 hb1 => ?_⟩
      have C1 := Same.new (o := .tup [V.str "r", V.int 3]) hb1
      have x1 : (upd H7 b1 (.tup [V.str "r", V.int 3])) b1 = some (.tup [V.str "r", V.int 3]) := upd_same
      generalize upd H7 b1 (.tup [V.str "r", V.int 3]) = H8 at C1 x1 ⊢
      refine ⟨by show 2 ≤ sizeLine; decide, fun b2 hb2 => ?_⟩
      have C2 := Same.new (o := .tup [V.str "p", V.int 0]) hb2
      have x2 : (upd H8 b2 (.tup [V.str "p", V.int 0])) b2 = some (.tup [V.str "p", V.int 0]) := upd_same
      generalize upd H8 b2 (.tup [V.str "p", V.int 0]) = H9 at C2 x2 ⊢
      refine ⟨by show 2 ≤ sizeLine; decide, fun b3 hb3 => ?_⟩
      have C3 := Same.new (o := .tup [V.str "q", V.int 2]) hb3
      have x3 : (upd H9 b3 (.tup [V.str "q", V.int 2])) b3 = some (.tup [V.str "q", V.int 2]) := upd_same
      generalize upd H9 b3 (.tup [V.str "q", V.int 2]) = H10 at C3 x3 ⊢
      have e3 := C3 _ _ (C2 _ _ (C1 _ _ e0))
      refine ⟨e3, Kvs [(Str.ofString "r", b1), (Str.ofString "q", b2), (Str.ofString "p", b3)], rfl, by show 3 ≤ 15; decide, ?_⟩
      have mk : mergeK [] (Kvs [(Str.ofString "r", b1), (Str.ofString "q", b2), (Str.ofString "p", b3)]) = Kvs [(Str.ofString "r", b1), (Str.ofString "q", b2), (Str.ofString "p", b3)] := mergeK_kvs [(Str.ofString "r", b1), (Str.ofString "q", b2), (Str.ofString "p", b3)] [] (by show [Str.ofString "r", Str.ofString "q", Str.ofString "p"].Nodup; decide +kernel)
      rw [mk]
      have kt5 : KT H10 (upd H10 fd (.dK (Kvs [(Str.ofString "r", b1), (Str.ofString "q", b2), (Str.ofString "p", b3)]))) := KT.put e3 (fun _ z => by cases z)
      have ep5 : (upd H10 fd (.dK (Kvs [(Str.ofString "r", b1), (Str.ofString "q", b2), (Str.ofString "p", b3)]))) fd = some (.dK (Kvs [(Str.ofString "r", b1), (Str.ofString "q", b2), (Str.ofString "p", b3)])) := upd_same
      have tp5 : FTs (upd H10 fd (.dK (Kvs [(Str.ofString "r", b1), (Str.ofString "q", b2), (Str.ofString "p", b3)]))) [(Str.ofString "r", b1), (Str.ofString "q", b2), (Str.ofString "p", b3)] wF := .cons (kt5 _ _ (C3 _ _ (C2 _ _ x1))) (.cons (kt5 _ _ (C3 _ _ x2)) (.cons (kt5 _ _ x3) .nil))
      have S611 : Same H6 (upd H10 fd (.dK (Kvs [(Str.ofString "r", b1), (Str.ofString "q", b2), (Str.ofString "p", b3)]))) := Same.at hfd (Same.trans C0 (Same.trans C1 (Same.trans C2 C3)))
      have sp11 := sp6.same S611
      generalize upd H10 fd (.dK (Kvs [(Str.ofString "r", b1), (Str.ofString "q", b2), (Str.ofString "p", b3)])) = H11 at ep5 tp5 S611 sp11 ⊢
      clear C0 C1 C2 C3 e0 e3 x1 x2 x3 mk kt5 hb1 hb2 hb3 hfd sp6 S611
      refine fun q dxq hq hdxq ndq => ?_
      have An : Same H11 (upd (upd H11 dxq (.own q)) q (.ins U.D dxq [])) := Same.trans (Same.new hdxq) (Same.new (by rw [upd_ne ndq.symm]; exact hq))
      refine ⟨q, p, fd, dxq, 3, wR, _, wF, rfl, upd_same, sp11.same An, An _ _ ep5, tp5.keep (KT.same An), wF_ok, fun H12 B12 wg _ => ⟨rfl, ?_⟩⟩
      clear An B12 ep5 tp5 hq hdxq ndq sp11
      -- told
      obtain ⟨_, _, dx, fdw, ca, Lw, asw, w1, w2, w3, w4, w5⟩ := id wg
      obtain ⟨rq, rp, rr, nq, np, nr⟩ := w_rnd
      have hnm : ∀ n ∈ ([Str.ofString "p", Str.ofString "q", Str.ofString "r"] : List Str), n ∈ wR.map (·.1) := fun n h => h
      refine ⟨_, rfl, q, dx, _, rfl, w1, q, dx, _, .ref ca, rfl, w1, rfl, ?_⟩
      refine ⟨_, rfl, q, dx, _, rfl, w1, q, p, 3, wR, wF, rfl, wg, fun sz H13 S13 esz => ?_⟩
      refine ⟨_, rfl, q, dx, _, rfl, S13 _ _ w1, q, p, 3, wR, wF, rfl, wg.same S13, fun H14 S14 => ?_⟩
      have T14 := Same.trans S13 S14
      refine ⟨_, rfl, q, dx, _, rfl, T14 _ _ w1, q, p, 3, wR, wF, rfl, wg.same T14, fun H15 S15 => ?_⟩
      have T15 := Same.trans T14 S15
      refine ⟨_, rfl, q, dx, _, rfl, T15 _ _ w1, rfl, q, p, 3, wR, wF, "q", 0, rfl, wg.same T15, hnm _ (by decide +kernel), by decide, fun c1 H16 S16 ec1 => ?_⟩
      have T16 := Same.trans T15 S16
      refine ⟨_, rfl, q, dx, _, rfl, T16 _ _ w1, rfl, q, p, 3, wR, wF, "p", 0, rfl, wg.same T16, hnm _ (by decide +kernel), by decide, fun c2 H17 S17 ec2 => ?_⟩
      have T17 := Same.trans T16 S17
      refine ⟨by show 6 ≤ sizeLine; decide, fun td htd => ?_⟩
      have S18 := Same.new (o := .lst [.ref ca, .ref sz, .int (szs wR 3 wF).sum, .int (cpy wR 3 wF (szs wR 3 wF).length : Nat), .ref c1, .ref c2]) htd
      have etd : (upd H17 td (.lst [.ref ca, .ref sz, .int (szs wR 3 wF).sum, .int (cpy wR 3 wF (szs wR 3 wF).length : Nat), .ref c1, .ref c2])) td = some (.lst [.ref ca, .ref sz, .int (szs wR 3 wF).sum, .int (cpy wR 3 wF (szs wR 3 wF).length : Nat), .ref c1, .ref c2]) := upd_same
      generalize upd H17 td (.lst [.ref ca, .ref sz, .int (szs wR 3 wF).sum, .int (cpy wR 3 wF (szs wR 3 wF).length : Nat), .ref c1, .ref c2]) = H18 at S18 etd ⊢
      have T18 := Same.trans T17 S18
      have esz8 := S18 _ _ (S17 _ _ (S16 _ _ (S15 _ _ (S14 _ _ esz))))
      have ec18 := S18 _ _ (S17 _ _ ec1)
      have ec28 := S18 _ _ ec2
      rw [rq, nq] at ec18
      rw [rp, np] at ec28
      rw [w_cpy, w_szs] at etd
      rw [w_szs] at esz8
      unfold cyA at w5
      have w5' : CTs H12 asw [[Str.ofString "p", Str.ofString "q"], [Str.ofString "r"]] := by
        have := w5
        rw [show cycs (nxt wF) (wR.map (·.1)) (wR.map (·.1)) = cyA wR wF from rfl, w_cyA] at this
        exact this
      -- due
      refine ⟨by show 2 ≤ sizeLine; decide, fun u1 hu1 => ?_⟩
      have D1 := Same.new (o := .tup [V.str "p", .str "q"]) hu1
      have y1 : (upd H18 u1 (.tup [V.str "p", .str "q"])) u1 = some (.tup [V.str "p", .str "q"]) := upd_same
      generalize upd H18 u1 (.tup [V.str "p", .str "q"]) = H19 at D1 y1 ⊢
      refine ⟨by show 1 ≤ sizeLine; decide, fun u2 hu2 => ?_⟩
      have D2 := Same.new (o := .tup [V.str "r"]) hu2
      have y2 : (upd H19 u2 (.tup [V.str "r"])) u2 = some (.tup [V.str "r"]) := upd_same
      generalize upd H19 u2 (.tup [V.str "r"]) = H20 at D2 y2 ⊢
      refine ⟨by show 2 ≤ sizeLine; decide, fun u3 hu3 => ?_⟩
      have D3 := Same.new (o := .tup [V.ref u1, .ref u2]) hu3
      have y3 : (upd H20 u3 (.tup [V.ref u1, .ref u2])) u3 = some (.tup [V.ref u1, .ref u2]) := upd_same
      generalize upd H20 u3 (.tup [V.ref u1, .ref u2]) = H21 at D3 y3 ⊢
      refine ⟨by show 2 ≤ sizeLine; decide, fun u4 hu4 => ?_⟩
      have D4 := Same.new (o := .tup [V.int 3, .int 9]) hu4
      have y4 : (upd H21 u4 (.tup [V.int 3, .int 9])) u4 = some (.tup [V.int 3, .int 9]) := upd_same
      generalize upd H21 u4 (.tup [V.int 3, .int 9]) = H22 at D4 y4 ⊢
      refine ⟨by show 2 ≤ sizeLine; decide, fun u5 hu5 => ?_⟩
      have D5 := Same.new (o := .tup [V.str "p", .int 3]) hu5
      have y5 : (upd H22 u5 (.tup [V.str "p", .int 3])) u5 = some (.tup [V.str "p", .int 3]) := upd_same
      generalize upd H22 u5 (.tup [V.str "p", .int 3]) = H23 at D5 y5 ⊢
      refine ⟨by show 2 ≤ sizeLine; decide, fun u6 hu6 => ?_⟩
      have D6 := Same.new (o := .tup [V.str "q", .int 0]) hu6
      have y6 : (upd H23 u6 (.tup [V.str "q", .int 0])) u6 = some (.tup [V.str "q", .int 0]) := upd_same
      generalize upd H23 u6 (.tup [V.str "q", .int 0]) = H24 at D6 y6 ⊢
      refine ⟨by show 6 ≤ sizeLine; decide, fun dd hdd => ?_⟩
      have D7 := Same.new (o := .lst [.ref u3, .ref u4, .int 12, .int 9, .ref u5, .ref u6]) hdd
      have edd : (upd H24 dd (.lst [.ref u3, .ref u4, .int 12, .int 9, .ref u5, .ref u6])) dd = some (.lst [.ref u3, .ref u4, .int 12, .int 9, .ref u5, .ref u6]) := upd_same
      generalize upd H24 dd (.lst [.ref u3, .ref u4, .int 12, .int 9, .ref u5, .ref u6]) = H25 at D7 edd ⊢
      have Z6 := D7
      have Z5 := Same.trans D6 Z6
      have Z4 := Same.trans D5 Z5
      have Z3 := Same.trans D4 Z4
      have Z2 := Same.trans D3 Z3
      have Z1 := Same.trans D2 Z2
      have Z0 := Same.trans D1 Z1
      have T25 := Same.trans T18 Z0
      obtain ⟨DD, hDD⟩ : ∃ DD, DD = PyData.list [.tuple [.tuple [.str "p", .str "q"], .tuple [.str "r"]], .tuple [.int 3, .int 9], .int 12, .int 9, .tuple [.str "p", .int 3], .tuple [.str "q", .int 0]] := ⟨_, rfl⟩
      have sh : DD.showable = true ∧ DD.shown.length ≤ sizeLine ∧ DD.depth ≤ 60 := by rw [hDD]; decide +kernel
      have ds1 : RL.DS K H25 (.ref td) DD := by
        rw [hDD]
        exact .lst (SqL.of (Z0 _ _ etd)) (.cons (.tup (SqT.of (T25 _ _ w4)) (w5'.keep (KT.same T25)).dss) (.cons (.tup (SqT.of (Z0 _ _ esz8)) (dss_ints [3, 9])) (.cons (.int _) (.cons (.int _) (.cons (.tup (SqT.of (Z0 _ _ ec18)) (.cons (.str _) (.cons (.int _) .nil))) (.cons (.tup (SqT.of (Z0 _ _ ec28)) (.cons (.str _) (.cons (.int _) .nil))) .nil))))))
      have ds2 : RL.DS K H25 (.ref dd) DD := by
        rw [hDD]
        exact .lst (SqL.of edd) (.cons (.tup (SqT.of (Z3 _ _ y3)) (.cons (.tup (SqT.of (Z1 _ _ y1)) (dss_strs [_, _])) (.cons (.tup (SqT.of (Z2 _ _ y2)) (dss_strs [_])) .nil))) (.cons (.tup (SqT.of (Z4 _ _ y4)) (dss_ints [3, 9])) (.cons (.int _) (.cons (.int _) (.cons (.tup (SqT.of (Z5 _ _ y5)) (.cons (.str _) (.cons (.int _) .nil))) (.cons (.tup (SqT.of (Z6 _ _ y6)) (.cons (.str _) (.cons (.int _) .nil))) .nil))))))
      refine ⟨_, rfl, td, DD, rfl, ds1, sh.1, sh.2.1, sh.2.2, _, rfl, dd, DD, rfl, ds2, sh.1, sh.2.1, sh.2.2, rfl, _, rfl, ?_⟩
      rw [decide_eq_true rfl]
      refine iteT ?_
      refine ⟨_, rfl, q, dx, _, rfl, T25 _ _ w1, rfl, _, rfl, q, p, 3, wR, wF, "r", -2, rfl, wg.same T25, hnm _ (by decide +kernel), by decide, fun c3 H26 S26 ec3 => ?_⟩
      have T26 := Same.trans T25 S26
      rw [rr, nr] at ec3
      refine ⟨_, rfl, q, dx, _, rfl, T26 _ _ w1, q, p, 3, wR, wF, rfl, wg.same T26, _, rfl, by omega, by rw [w_cyA]; decide, ?_⟩
      refine ⟨by show 3 ≤ sizeLine; decide, fun f1 hf1 => ?_⟩
      have G1 := Same.new (o := .lst [.ref c3, .int (cyA wR wF).length, .int 72]) hf1
      have ef1 : (upd H26 f1 (.lst [.ref c3, .int (cyA wR wF).length, .int 72])) f1 = some (.lst [.ref c3, .int (cyA wR wF).length, .int 72]) := upd_same
      generalize upd H26 f1 (.lst [.ref c3, .int (cyA wR wF).length, .int 72]) = H27 at G1 ef1 ⊢
      rw [w_cyA] at ef1
      refine ⟨by show 2 ≤ sizeLine; decide, fun f2 hf2 => ?_⟩
      have G2 := Same.new (o := .tup [V.str "r", .int 7]) hf2
      have ef2 : (upd H27 f2 (.tup [V.str "r", .int 7])) f2 = some (.tup [V.str "r", .int 7]) := upd_same
      generalize upd H27 f2 (.tup [V.str "r", .int 7]) = H28 at G2 ef2 ⊢
      refine ⟨by show 3 ≤ sizeLine; decide, fun f3 hf3 => ?_⟩
      have G3 := Same.new (o := .lst [.ref f2, .int 2, .int 72]) hf3
      have ef3 : (upd H28 f3 (.lst [.ref f2, .int 2, .int 72])) f3 = some (.lst [.ref f2, .int 2, .int 72]) := upd_same
      generalize upd H28 f3 (.lst [.ref f2, .int 2, .int 72]) = H29 at G3 ef3 ⊢
      have G23 := Same.trans G2 G3
      obtain ⟨EE, hEE⟩ : ∃ EE, EE = PyData.list [.tuple [.str "r", .int 7], .int 2, .int 72] := ⟨_, rfl⟩
      have shE : SeqAt.shaped EE = true ∧ PyData.eqv EE EE = true := by rw [hEE]; decide +kernel
      have dp1 : Dp K H29 (.ref f1) EE := by
        rw [hEE]
        exact .lst (SqL.of (G23 _ _ ef1)) (.cons (.tup (SqT.of (G23 _ _ (G1 _ _ ec3))) (.cons (.str _) (.cons (.int _) .nil))) (.cons (.int _) (.cons (.int _) .nil)))
      have dp2 : Dp K H29 (.ref f3) EE := by
        rw [hEE]
        exact .lst (SqL.of ef3) (.cons (.tup (SqT.of (G3 _ _ ef2)) (.cons (.str _) (.cons (.int _) .nil))) (.cons (.int _) (.cons (.int _) .nil)))
      refine ⟨EE, EE, dp1, dp2, shE.1, shE.1, ?_⟩
      rw [shE.2]
      exact k _
end
end K43
namespace K43
open PySem L2
theorem sub_int {K : PySem.W.Frag} {C : Addr} : PySem.W.subIn K (.type "int") (.ref C) = some false := by
  have e : PySem.fastBuiltinMro "int" = some [.type "int", .type "object"] := by decide +kernel
  show (PySem.fastBuiltinMro "int").map (·.contains (.ref C)) = some false
  rw [e]
  first
    | rfl
    | simp
theorem sub_dict {K : PySem.W.Frag} {C : Addr} : PySem.W.subIn K (.type "dict") (.ref C) = some false := by
  have e : PySem.fastBuiltinMro "dict" = some [.type "dict", .type "object"] := by decide +kernel
  show (PySem.fastBuiltinMro "dict").map (·.contains (.ref C)) = some false
  rw [e]
  first
    | rfl
    | simp
theorem int_add {K : PySem.W.Frag} : PySem.W.findIn K (.type "int") "__add__" = some (some (.builtin "int.__add__")) := by
  show PySem.fastLookup "int" "__add__" = _
  decide +kernel
theorem int_radd {K : PySem.W.Frag} : PySem.W.findIn K (.type "int") "__radd__" = some (some (.builtin "int.__radd__")) := by
  show PySem.fastLookup "int" "__radd__" = _
  decide +kernel
theorem tin_of {K : PySem.W.Frag} {C : Addr} {v : Value} (s : PySem.W.subIn K v (.ref C) = some false) (hv : (v == .ref C) = false) (g : PySem.W.isClsIn K C = true) (t : PySem.W.typeIn K (.ref C) = some (.type "type")) : PySem.W.notFirst K C v = true ∧ PySem.W.kitOne K v (.ref C) = some false := by
  refine ⟨?_, ?_⟩
  · unfold PySem.W.notFirst
    rw [s, hv]
    rfl
  · have h5 : (PySem.W.clsIn K C).isSome = true := g
    unfold PySem.W.kitOne PySem.W.kitCls
    rw [hv]
    dsimp only
    rw [h5, t, s]
    rfl
theorem mk_U {K : PySem.W.Frag} {h : Heap} {mg : Str → Option Value} (X : K.In h) (G : h.Ns mainGlobals mg)
    {C D fI fJ : Addr} {ocIC kVIC dcIC pmIC cdIC ctIC : Value} {odIC anIC : Option Addr} {slIC : Array (Option Value)} {pP1a fP1 : Addr} {restP1 : List Value} {ocP1 kVP1 dcP1 pmP1 cdP1 ctP1 : Value} {odP1 anP1 : Option Addr} {slP1 : Array (Option Value)} {pP3a fP3 : Addr} {restP3 : List Value} {ocP3 kVP3 dcP3 pmP3 cdP3 ctP3 : Value} {odP3 anP3 : Option Addr} {slP3 : Array (Option Value)} {fG : Addr} {ocG kVG dcG pmG cdG ctG : Value} {odG anG : Option Addr} {slG : Array (Option Value)} {fL : Addr} {ocL kVL dcL pmL cdL ctL : Value} {odL anL : Option Addr} {slL : Array (Option Value)} {fA : Addr} {ocA kVA dcA pmA cdA ctA : Value} {odA anA : Option Addr} {slA : Array (Option Value)} {fQ : Addr} {ocQ kVQ dcQ pmQ cdQ ctQ : Value} {odQ anQ : Option Addr} {slQ : Array (Option Value)} {ocID kVID dcID pmID cdID ctID : Value} {odID anID : Option Addr} {slID : Array (Option Value)} {pW1a fW1 : Addr} {restW1 : List Value} {ocW1 kVW1 dcW1 pmW1 cdW1 ctW1 : Value} {odW1 anW1 : Option Addr} {slW1 : Array (Option Value)} {pW2a fW2 : Addr} {restW2 : List Value} {ocW2 kVW2 dcW2 pmW2 cdW2 ctW2 : Value} {odW2 anW2 : Option Addr} {slW2 : Array (Option Value)} {pW3a fW3 : Addr} {restW3 : List Value} {ocW3 kVW3 dcW3 pmW3 cdW3 ctW3 : Value} {odW3 anW3 : Option Addr} {slW3 : Array (Option Value)} {pW4a fW4 : Addr} {restW4 : List Value} {ocW4 kVW4 dcW4 pmW4 cdW4 ctW4 : Value} {odW4 anW4 : Option Addr} {slW4 : Array (Option Value)} {pW5a fW5 : Addr} {restW5 : List Value} {ocW5 kVW5 dcW5 pmW5 cdW5 ctW5 : Value} {odW5 anW5 : Option Addr} {slW5 : Array (Option Value)} {pW6a fW6 : Addr} {restW6 : List Value} {ocW6 kVW6 dcW6 pmW6 cdW6 ctW6 : Value} {odW6 anW6 : Option Addr} {slW6 : Array (Option Value)} {fX1 : Addr} {ocX1 kVX1 dcX1 pmX1 cdX1 ctX1 : Value} {odX1 anX1 : Option Addr} {slX1 : Array (Option Value)} {fX2 : Addr} {ocX2 kVX2 dcX2 pmX2 cdX2 ctX2 : Value} {odX2 anX2 : Option Addr} {slX2 : Array (Option Value)} {fX3 : Addr} {ocX3 kVX3 dcX3 pmX3 cdX3 ctX3 : Value} {odX3 anX3 : Option Addr} {slX3 : Array (Option Value)} {fX4 : Addr} {ocX4 kVX4 dcX4 pmX4 cdX4 ctX4 : Value} {odX4 anX4 : Option Addr} {slX4 : Array (Option Value)} {fX5 : Addr} {ocX5 kVX5 dcX5 pmX5 cdX5 ctX5 : Value} {odX5 anX5 : Option Addr} {slX5 : Array (Option Value)}
    (aC : PySem.W.nsIn K mainGlobals "Spans" = some (some (.ref C)))
    (c1C : PySem.W.plainGet K C Str.empty = true)
    (c2C : PySem.W.hasDictIn K C = true)
    (c3C : PySem.W.plainOver K C = true)
    (c4C : PySem.W.findIn K (.ref C) "__setattr__" = some (some (.builtin "object.__setattr__")))
    (c5C : PySem.W.makesIn K C = true)
    (c6C : PySem.W.findIn K (.ref C) "__init__" = some (some (.ref fI)))
    (c7C : PySem.W.isFn K (.ref fI) = true)
    (c8C : PySem.W.keepIn K (.ref C) = true)
    (lIC : K.lookup fI = some ⟨ocIC, odIC, .func (PySem.W.fnOf "__init__" "Spans.__init__" (defArgs s_Spans_init) (defBody s_Spans_init) (defScope s_Spans_init) .none kVIC dcIC pmIC anIC cdIC ctIC), slIC⟩)
    (kIC : PySem.W.codeIn K cdIC "Spans.__init__" = true)
    (pIC : PySem.W.keepIn K (.ref fI) = true)
    (n1C : PySem.W.findIn K (.ref C) "_interval" = some none)
    (n2C : PySem.W.findIn K (.ref C) "_rows" = some none)
    (n3C : PySem.W.findIn K (.ref C) "_names" = some none)
    (n4C : PySem.W.findIn K (.ref C) "_living" = some none)
    (n5C : PySem.W.findIn K (.ref C) "_crossing" = some none)
    (moC : PySem.W.mroIn K C (.type "object") = some true)
    (neC : PySem.W.findIn K (.ref C) "__ne__" = some (some (.builtin "object.__ne__")))
    (caC : PySem.W.findIn K (.ref C) "__class__" = some (some (.builtin "object.__class__")))
    (gCC : PySem.W.isClsIn K C = true)
    (tCC : PySem.W.typeIn K (.ref C) = some (.type "type"))
    (aP1 : PySem.W.findIn K (.ref C) "interval" = some (some (.ref pP1a)))
    (bP1 : PySem.W.specialIn K (.ref pP1a) "__get__" = some (some (.builtin "property.__get__")))
    (tP1 : PySem.W.takesIn K (.ref pP1a) = some true)
    (rP1 : PySem.W.recIn K pP1a "property" = some (.ref fP1 :: restP1))
    (lP1 : K.lookup fP1 = some ⟨ocP1, odP1, .func (PySem.W.fnOf "interval" "Spans.interval" (defArgs s_Spans_interval) (defBody s_Spans_interval) (defScope s_Spans_interval) .none kVP1 dcP1 pmP1 anP1 cdP1 ctP1), slP1⟩)
    (kP1 : PySem.W.codeIn K cdP1 "Spans.interval" = true)
    (pP1 : PySem.W.keepIn K (.ref fP1) = true)
    (aP3 : PySem.W.findIn K (.ref C) "names" = some (some (.ref pP3a)))
    (bP3 : PySem.W.specialIn K (.ref pP3a) "__get__" = some (some (.builtin "property.__get__")))
    (tP3 : PySem.W.takesIn K (.ref pP3a) = some true)
    (rP3 : PySem.W.recIn K pP3a "property" = some (.ref fP3 :: restP3))
    (lP3 : K.lookup fP3 = some ⟨ocP3, odP3, .func (PySem.W.fnOf "names" "Spans.names" (defArgs s_Spans_names) (defBody s_Spans_names) (defScope s_Spans_names) .none kVP3 dcP3 pmP3 anP3 cdP3 ctP3), slP3⟩)
    (kP3 : PySem.W.codeIn K cdP3 "Spans.names" = true)
    (pP3 : PySem.W.keepIn K (.ref fP3) = true)
    (iG : PySem.W.findIn K (.ref C) "__getitem__" = some (some (.ref fG)))
    (yG : PySem.W.isFn K (.ref fG) = true)
    (lG : K.lookup fG = some ⟨ocG, odG, .func (PySem.W.fnOf "__getitem__" "Spans.__getitem__" (defArgs s_Spans_getitem) (defBody s_Spans_getitem) (defScope s_Spans_getitem) .none kVG dcG pmG anG cdG ctG), slG⟩)
    (kG : PySem.W.codeIn K cdG "Spans.__getitem__" = true)
    (pG : PySem.W.keepIn K (.ref fG) = true)
    (iL : PySem.W.findIn K (.ref C) "_later" = some (some (.ref fL)))
    (yL : PySem.W.isFn K (.ref fL) = true)
    (lL : K.lookup fL = some ⟨ocL, odL, .func (PySem.W.fnOf "_later" "Spans._later" (defArgs s_Spans_later) (defBody s_Spans_later) (defScope s_Spans_later) .none kVL dcL pmL anL cdL ctL), slL⟩)
    (kL : PySem.W.codeIn K cdL "Spans._later" = true)
    (pL : PySem.W.keepIn K (.ref fL) = true)
    (iA : PySem.W.findIn K (.ref C) "__add__" = some (some (.ref fA)))
    (yA : PySem.W.isFn K (.ref fA) = true)
    (lA : K.lookup fA = some ⟨ocA, odA, .func (PySem.W.fnOf "__add__" "Spans.__add__" (defArgs s_Spans_add) (defBody s_Spans_add) (defScope s_Spans_add) .none kVA dcA pmA anA cdA ctA), slA⟩)
    (kA : PySem.W.codeIn K cdA "Spans.__add__" = true)
    (pA : PySem.W.keepIn K (.ref fA) = true)
    (iQ : PySem.W.findIn K (.ref C) "__eq__" = some (some (.ref fQ)))
    (yQ : PySem.W.isFn K (.ref fQ) = true)
    (lQ : K.lookup fQ = some ⟨ocQ, odQ, .func (PySem.W.fnOf "__eq__" "Spans.__eq__" (defArgs s_Spans_eq) (defBody s_Spans_eq) (defScope s_Spans_eq) .none kVQ dcQ pmQ anQ cdQ ctQ), slQ⟩)
    (kQ : PySem.W.codeIn K cdQ "Spans.__eq__" = true)
    (pQ : PySem.W.keepIn K (.ref fQ) = true)
    (cg : PySem.W.specialIn K (.builtin "object.__class__") "__get__" = some (some (.builtin "getset_descriptor.__get__")))
    (ct : PySem.W.takesIn K (.builtin "object.__class__") = some true)
    (fnG : PySem.W.fnIn K fG = true)
    (sf : PySem.W.selfFirst K C = true)
    (rc : PySem.W.findIn K (.ref C) "__radd__" = some none)
    (aD : PySem.W.nsIn K mainGlobals "Wiring" = some (some (.ref D)))
    (c1D : PySem.W.plainGet K D Str.empty = true)
    (c2D : PySem.W.hasDictIn K D = true)
    (c3D : PySem.W.plainOver K D = true)
    (c4D : PySem.W.findIn K (.ref D) "__setattr__" = some (some (.builtin "object.__setattr__")))
    (c5D : PySem.W.makesIn K D = true)
    (c6D : PySem.W.findIn K (.ref D) "__init__" = some (some (.ref fJ)))
    (c7D : PySem.W.isFn K (.ref fJ) = true)
    (c8D : PySem.W.keepIn K (.ref D) = true)
    (lID : K.lookup fJ = some ⟨ocID, odID, .func (PySem.W.fnOf "__init__" "Wiring.__init__" (defArgs s_Wiring_init) (defBody s_Wiring_init) (defScope s_Wiring_init) .none kVID dcID pmID anID cdID ctID), slID⟩)
    (kID : PySem.W.codeIn K cdID "Wiring.__init__" = true)
    (pID : PySem.W.keepIn K (.ref fJ) = true)
    (n1D : PySem.W.findIn K (.ref D) "_spans" = some none)
    (n2D : PySem.W.findIn K (.ref D) "_follows" = some none)
    (n3D : PySem.W.findIn K (.ref D) "_cycles" = some none)
    (moD : PySem.W.mroIn K D (.type "object") = some true)
    (neD : PySem.W.findIn K (.ref D) "__ne__" = some (some (.builtin "object.__ne__")))
    (caD : PySem.W.findIn K (.ref D) "__class__" = some (some (.builtin "object.__class__")))
    (gCD : PySem.W.isClsIn K D = true)
    (tCD : PySem.W.typeIn K (.ref D) = some (.type "type"))
    (aW1 : PySem.W.findIn K (.ref D) "spans" = some (some (.ref pW1a)))
    (bW1 : PySem.W.specialIn K (.ref pW1a) "__get__" = some (some (.builtin "property.__get__")))
    (tW1 : PySem.W.takesIn K (.ref pW1a) = some true)
    (rW1 : PySem.W.recIn K pW1a "property" = some (.ref fW1 :: restW1))
    (lW1 : K.lookup fW1 = some ⟨ocW1, odW1, .func (PySem.W.fnOf "spans" "Wiring.spans" (defArgs s_Wiring_spans) (defBody s_Wiring_spans) (defScope s_Wiring_spans) .none kVW1 dcW1 pmW1 anW1 cdW1 ctW1), slW1⟩)
    (kW1 : PySem.W.codeIn K cdW1 "Wiring.spans" = true)
    (pW1 : PySem.W.keepIn K (.ref fW1) = true)
    (aW2 : PySem.W.findIn K (.ref D) "follows" = some (some (.ref pW2a)))
    (bW2 : PySem.W.specialIn K (.ref pW2a) "__get__" = some (some (.builtin "property.__get__")))
    (tW2 : PySem.W.takesIn K (.ref pW2a) = some true)
    (rW2 : PySem.W.recIn K pW2a "property" = some (.ref fW2 :: restW2))
    (lW2 : K.lookup fW2 = some ⟨ocW2, odW2, .func (PySem.W.fnOf "follows" "Wiring.follows" (defArgs s_Wiring_follows) (defBody s_Wiring_follows) (defScope s_Wiring_follows) .none kVW2 dcW2 pmW2 anW2 cdW2 ctW2), slW2⟩)
    (kW2 : PySem.W.codeIn K cdW2 "Wiring.follows" = true)
    (pW2 : PySem.W.keepIn K (.ref fW2) = true)
    (aW3 : PySem.W.findIn K (.ref D) "registers" = some (some (.ref pW3a)))
    (bW3 : PySem.W.specialIn K (.ref pW3a) "__get__" = some (some (.builtin "property.__get__")))
    (tW3 : PySem.W.takesIn K (.ref pW3a) = some true)
    (rW3 : PySem.W.recIn K pW3a "property" = some (.ref fW3 :: restW3))
    (lW3 : K.lookup fW3 = some ⟨ocW3, odW3, .func (PySem.W.fnOf "registers" "Wiring.registers" (defArgs s_Wiring_registers) (defBody s_Wiring_registers) (defScope s_Wiring_registers) .none kVW3 dcW3 pmW3 anW3 cdW3 ctW3), slW3⟩)
    (kW3 : PySem.W.codeIn K cdW3 "Wiring.registers" = true)
    (pW3 : PySem.W.keepIn K (.ref fW3) = true)
    (aW4 : PySem.W.findIn K (.ref D) "cycles" = some (some (.ref pW4a)))
    (bW4 : PySem.W.specialIn K (.ref pW4a) "__get__" = some (some (.builtin "property.__get__")))
    (tW4 : PySem.W.takesIn K (.ref pW4a) = some true)
    (rW4 : PySem.W.recIn K pW4a "property" = some (.ref fW4 :: restW4))
    (lW4 : K.lookup fW4 = some ⟨ocW4, odW4, .func (PySem.W.fnOf "cycles" "Wiring.cycles" (defArgs s_Wiring_cycles) (defBody s_Wiring_cycles) (defScope s_Wiring_cycles) .none kVW4 dcW4 pmW4 anW4 cdW4 ctW4), slW4⟩)
    (kW4 : PySem.W.codeIn K cdW4 "Wiring.cycles" = true)
    (pW4 : PySem.W.keepIn K (.ref fW4) = true)
    (aW5 : PySem.W.findIn K (.ref D) "sizes" = some (some (.ref pW5a)))
    (bW5 : PySem.W.specialIn K (.ref pW5a) "__get__" = some (some (.builtin "property.__get__")))
    (tW5 : PySem.W.takesIn K (.ref pW5a) = some true)
    (rW5 : PySem.W.recIn K pW5a "property" = some (.ref fW5 :: restW5))
    (lW5 : K.lookup fW5 = some ⟨ocW5, odW5, .func (PySem.W.fnOf "sizes" "Wiring.sizes" (defArgs s_Wiring_sizes) (defBody s_Wiring_sizes) (defScope s_Wiring_sizes) .none kVW5 dcW5 pmW5 anW5 cdW5 ctW5), slW5⟩)
    (kW5 : PySem.W.codeIn K cdW5 "Wiring.sizes" = true)
    (pW5 : PySem.W.keepIn K (.ref fW5) = true)
    (aW6 : PySem.W.findIn K (.ref D) "copies" = some (some (.ref pW6a)))
    (bW6 : PySem.W.specialIn K (.ref pW6a) "__get__" = some (some (.builtin "property.__get__")))
    (tW6 : PySem.W.takesIn K (.ref pW6a) = some true)
    (rW6 : PySem.W.recIn K pW6a "property" = some (.ref fW6 :: restW6))
    (lW6 : K.lookup fW6 = some ⟨ocW6, odW6, .func (PySem.W.fnOf "copies" "Wiring.copies" (defArgs s_Wiring_copies) (defBody s_Wiring_copies) (defScope s_Wiring_copies) .none kVW6 dcW6 pmW6 anW6 cdW6 ctW6), slW6⟩)
    (kW6 : PySem.W.codeIn K cdW6 "Wiring.copies" = true)
    (pW6 : PySem.W.keepIn K (.ref fW6) = true)
    (iX1 : PySem.W.findIn K (.ref D) "after" = some (some (.ref fX1)))
    (yX1 : PySem.W.isFn K (.ref fX1) = true)
    (lX1 : K.lookup fX1 = some ⟨ocX1, odX1, .func (PySem.W.fnOf "after" "Wiring.after" (defArgs s_Wiring_after) (defBody s_Wiring_after) (defScope s_Wiring_after) .none kVX1 dcX1 pmX1 anX1 cdX1 ctX1), slX1⟩)
    (kX1 : PySem.W.codeIn K cdX1 "Wiring.after" = true)
    (pX1 : PySem.W.keepIn K (.ref fX1) = true)
    (iX2 : PySem.W.findIn K (.ref D) "__getitem__" = some (some (.ref fX2)))
    (yX2 : PySem.W.isFn K (.ref fX2) = true)
    (lX2 : K.lookup fX2 = some ⟨ocX2, odX2, .func (PySem.W.fnOf "__getitem__" "Wiring.__getitem__" (defArgs s_Wiring_getitem) (defBody s_Wiring_getitem) (defScope s_Wiring_getitem) .none kVX2 dcX2 pmX2 anX2 cdX2 ctX2), slX2⟩)
    (kX2 : PySem.W.codeIn K cdX2 "Wiring.__getitem__" = true)
    (pX2 : PySem.W.keepIn K (.ref fX2) = true)
    (iX3 : PySem.W.findIn K (.ref D) "__len__" = some (some (.ref fX3)))
    (yX3 : PySem.W.isFn K (.ref fX3) = true)
    (lX3 : K.lookup fX3 = some ⟨ocX3, odX3, .func (PySem.W.fnOf "__len__" "Wiring.__len__" (defArgs s_Wiring_len) (defBody s_Wiring_len) (defScope s_Wiring_len) .none kVX3 dcX3 pmX3 anX3 cdX3 ctX3), slX3⟩)
    (kX3 : PySem.W.codeIn K cdX3 "Wiring.__len__" = true)
    (pX3 : PySem.W.keepIn K (.ref fX3) = true)
    (iX4 : PySem.W.findIn K (.ref D) "__eq__" = some (some (.ref fX4)))
    (yX4 : PySem.W.isFn K (.ref fX4) = true)
    (lX4 : K.lookup fX4 = some ⟨ocX4, odX4, .func (PySem.W.fnOf "__eq__" "Wiring.__eq__" (defArgs s_Wiring_eq) (defBody s_Wiring_eq) (defScope s_Wiring_eq) .none kVX4 dcX4 pmX4 anX4 cdX4 ctX4), slX4⟩)
    (kX4 : PySem.W.codeIn K cdX4 "Wiring.__eq__" = true)
    (pX4 : PySem.W.keepIn K (.ref fX4) = true)
    (iX5 : PySem.W.findIn K (.ref D) "__str__" = some (some (.ref fX5)))
    (yX5 : PySem.W.isFn K (.ref fX5) = true)
    (lX5 : K.lookup fX5 = some ⟨ocX5, odX5, .func (PySem.W.fnOf "__str__" "Wiring.__str__" (defArgs s_Wiring_str) (defBody s_Wiring_str) (defScope s_Wiring_str) .none kVX5 dcX5 pmX5 anX5 cdX5 ctX5), slX5⟩)
    (kX5 : PySem.W.codeIn K cdX5 "Wiring.__str__" = true)
    (pX5 : PySem.W.keepIn K (.ref fX5) = true)
    (fnW : PySem.W.fnIn K fX2 = true)
    (hCD : ((Value.ref C) == Value.ref D) = false)
    (sCD : PySem.W.subIn K (.ref C) (.ref D) = some false)
    : ∃ U : UX K mg, AddI K U.C := by
  exact ⟨⟨C, PySem.W.mg_of X G aC, ⟨c1C, c2C, c3C, c4C⟩, moC, neC, fI, _, ⟨⟨_, _, _, _, _, _, _, _, _, _, rfl, lIC, kIC, .inl ⟨rfl, rfl⟩, .inl rfl⟩, pIC⟩, ⟨c5C, c6C, c7C, c8C⟩, .all fun us hl => match us, hl with | [_, _, _], _ => rfl, n1C, n2C, n3C, n4C, n5C, ⟨pP1a, fP1, _, ⟨⟨_, _, _, _, _, _, _, _, _, _, rfl, lP1, kP1, .inl ⟨rfl, rfl⟩, .inl rfl⟩, pP1⟩, ⟨aP1, bP1, tP1, ⟨_, rP1⟩⟩, .all fun us hl => match us, hl with | [_], _ => rfl⟩, ⟨pP3a, fP3, _, ⟨⟨_, _, _, _, _, _, _, _, _, _, rfl, lP3, kP3, .inl ⟨rfl, rfl⟩, .inl rfl⟩, pP3⟩, ⟨aP3, bP3, tP3, ⟨_, rP3⟩⟩, .all fun us hl => match us, hl with | [_], _ => rfl⟩, ⟨fG, _, ⟨⟨_, _, _, _, _, _, _, _, _, _, rfl, lG, kG, .inl ⟨rfl, rfl⟩, .inl rfl⟩, pG⟩, ⟨iG, yG, pG⟩, .all fun us hl => match us, hl with | [_, _], _ => rfl⟩, ⟨fL, _, ⟨⟨_, _, _, _, _, _, _, _, _, _, rfl, lL, kL, .inl ⟨rfl, rfl⟩, .inl rfl⟩, pL⟩, ⟨iL, yL, pL⟩, .all fun us hl => match us, hl with | [_, _], _ => rfl⟩, ⟨fA, _, ⟨⟨_, _, _, _, _, _, _, _, _, _, rfl, lA, kA, .inl ⟨rfl, rfl⟩, .inl rfl⟩, pA⟩, ⟨iA, yA, pA⟩, .all fun us hl => match us, hl with | [_, _], _ => rfl⟩, ⟨fQ, _, ⟨⟨_, _, _, _, _, _, _, _, _, _, rfl, lQ, kQ, .inl ⟨rfl, rfl⟩, .inl rfl⟩, pQ⟩, ⟨iQ, yQ, pQ⟩, .all fun us hl => match us, hl with | [_, _], _ => rfl⟩, caC, cg, ct, fnG, sf,
    D, PySem.W.mg_of X G aD, ⟨c1D, c2D, c3D, c4D⟩, moD, neD, fJ, _, ⟨⟨_, _, _, _, _, _, _, _, _, _, rfl, lID, kID, .inl ⟨rfl, rfl⟩, .inl rfl⟩, pID⟩, ⟨c5D, c6D, c7D, c8D⟩, .all fun us hl => match us, hl with | [_, _, _], _ => rfl, n1D, n2D, n3D, ⟨pW1a, fW1, _, ⟨⟨_, _, _, _, _, _, _, _, _, _, rfl, lW1, kW1, .inl ⟨rfl, rfl⟩, .inl rfl⟩, pW1⟩, ⟨aW1, bW1, tW1, ⟨_, rW1⟩⟩, .all fun us hl => match us, hl with | [_], _ => rfl⟩, ⟨pW2a, fW2, _, ⟨⟨_, _, _, _, _, _, _, _, _, _, rfl, lW2, kW2, .inl ⟨rfl, rfl⟩, .inl rfl⟩, pW2⟩, ⟨aW2, bW2, tW2, ⟨_, rW2⟩⟩, .all fun us hl => match us, hl with | [_], _ => rfl⟩, ⟨pW3a, fW3, _, ⟨⟨_, _, _, _, _, _, _, _, _, _, rfl, lW3, kW3, .inl ⟨rfl, rfl⟩, .inl rfl⟩, pW3⟩, ⟨aW3, bW3, tW3, ⟨_, rW3⟩⟩, .all fun us hl => match us, hl with | [_], _ => rfl⟩, ⟨pW4a, fW4, _, ⟨⟨_, _, _, _, _, _, _, _, _, _, rfl, lW4, kW4, .inl ⟨rfl, rfl⟩, .inl rfl⟩, pW4⟩, ⟨aW4, bW4, tW4, ⟨_, rW4⟩⟩, .all fun us hl => match us, hl with | [_], _ => rfl⟩, ⟨pW5a, fW5, _, ⟨⟨_, _, _, _, _, _, _, _, _, _, rfl, lW5, kW5, .inl ⟨rfl, rfl⟩, .inl rfl⟩, pW5⟩, ⟨aW5, bW5, tW5, ⟨_, rW5⟩⟩, .all fun us hl => match us, hl with | [_], _ => rfl⟩, ⟨pW6a, fW6, _, ⟨⟨_, _, _, _, _, _, _, _, _, _, rfl, lW6, kW6, .inl ⟨rfl, rfl⟩, .inl rfl⟩, pW6⟩, ⟨aW6, bW6, tW6, ⟨_, rW6⟩⟩, .all fun us hl => match us, hl with | [_], _ => rfl⟩, ⟨fX1, _, ⟨⟨_, _, _, _, _, _, _, _, _, _, rfl, lX1, kX1, .inl ⟨rfl, rfl⟩, .inl rfl⟩, pX1⟩, ⟨iX1, yX1, pX1⟩, .all fun us hl => match us, hl with | [_, _, _], _ => rfl⟩, ⟨fX2, _, ⟨⟨_, _, _, _, _, _, _, _, _, _, rfl, lX2, kX2, .inl ⟨rfl, rfl⟩, .inl rfl⟩, pX2⟩, ⟨iX2, yX2, pX2⟩, .all fun us hl => match us, hl with | [_, _], _ => rfl⟩, ⟨fX3, _, ⟨⟨_, _, _, _, _, _, _, _, _, _, rfl, lX3, kX3, .inl ⟨rfl, rfl⟩, .inl rfl⟩, pX3⟩, ⟨iX3, yX3, pX3⟩, .all fun us hl => match us, hl with | [_], _ => rfl⟩, ⟨fX4, _, ⟨⟨_, _, _, _, _, _, _, _, _, _, rfl, lX4, kX4, .inl ⟨rfl, rfl⟩, .inl rfl⟩, pX4⟩, ⟨iX4, yX4, pX4⟩, .all fun us hl => match us, hl with | [_, _], _ => rfl⟩, ⟨fX5, _, ⟨⟨_, _, _, _, _, _, _, _, _, _, rfl, lX5, kX5, .inl ⟨rfl, rfl⟩, .inl rfl⟩, pX5⟩, ⟨iX5, yX5, pX5⟩, .all fun us hl => match us, hl with | [_], _ => rfl⟩, caD, fnW, tin_of sub_dict rfl gCD tCD, tin_of sCD hCD gCD tCD⟩, ⟨rc, int_add, int_radd, sub_int⟩⟩
theorem all_mk {l : PySem.W.OpenLaw} {w : World} {K : PySem.W.Frag} {h : Heap} {mg : Str → Option Value} {fa f_wall f_is_name f_is_integer f_is_between f_check_integer f_check_between f_check_interval f_times_alive f_ascends f_is_span f_are_rows f_check_spans f_is_follow f_are_follows f_size_of f_is_wiring f_cycles_of f_w_tray f_w_roll f_w_pick f_w_few f_w_names f_w_rings f_w_rows f_w_sorted f_w_alive f_w_places f_w_swept f_w_drawn f_w_follows f_w_cycles f_w_size f_w_multiple f_w_is_told f_w_right f_law : Addr} (X : K.In h) (G : h.Ns mainGlobals mg) (hfa : mg "law" = some (.ref fa))
    {od_wall an_wall od_is_name an_is_name od_is_integer an_is_integer od_is_between an_is_between od_check_integer an_check_integer od_check_between an_check_between od_check_interval an_check_interval od_times_alive an_times_alive od_ascends an_ascends od_is_span an_is_span od_are_rows an_are_rows od_check_spans an_check_spans od_is_follow an_is_follow od_are_follows an_are_follows od_size_of an_size_of od_is_wiring an_is_wiring od_cycles_of an_cycles_of od_w_tray an_w_tray od_w_roll an_w_roll od_w_pick an_w_pick od_w_few an_w_few od_w_names an_w_names od_w_rings an_w_rings od_w_rows an_w_rows od_w_sorted an_w_sorted od_w_alive an_w_alive od_w_places an_w_places od_w_swept an_w_swept od_w_drawn an_w_drawn od_w_follows an_w_follows od_w_cycles an_w_cycles od_w_size an_w_size od_w_multiple an_w_multiple od_w_is_told an_w_is_told od_w_right an_w_right od_law an_law : Option Addr} {sl_wall sl_is_name sl_is_integer sl_is_between sl_check_integer sl_check_between sl_check_interval sl_times_alive sl_ascends sl_is_span sl_are_rows sl_check_spans sl_is_follow sl_are_follows sl_size_of sl_is_wiring sl_cycles_of sl_w_tray sl_w_roll sl_w_pick sl_w_few sl_w_names sl_w_rings sl_w_rows sl_w_sorted sl_w_alive sl_w_places sl_w_swept sl_w_drawn sl_w_follows sl_w_cycles sl_w_size sl_w_multiple sl_w_is_told sl_w_right sl_law : Array (Option Value)} {oc_wall kV_wall dc_wall pm_wall cd_wall ct_wall oc_is_name kV_is_name dc_is_name pm_is_name cd_is_name ct_is_name oc_is_integer kV_is_integer dc_is_integer pm_is_integer cd_is_integer ct_is_integer oc_is_between kV_is_between dc_is_between pm_is_between cd_is_between ct_is_between oc_check_integer kV_check_integer dc_check_integer pm_check_integer cd_check_integer ct_check_integer oc_check_between kV_check_between dc_check_between pm_check_between cd_check_between ct_check_between oc_check_interval kV_check_interval dc_check_interval pm_check_interval cd_check_interval ct_check_interval oc_times_alive kV_times_alive dc_times_alive pm_times_alive cd_times_alive ct_times_alive oc_ascends kV_ascends dc_ascends pm_ascends cd_ascends ct_ascends oc_is_span kV_is_span dc_is_span pm_is_span cd_is_span ct_is_span oc_are_rows kV_are_rows dc_are_rows pm_are_rows cd_are_rows ct_are_rows oc_check_spans kV_check_spans dc_check_spans pm_check_spans cd_check_spans ct_check_spans oc_is_follow kV_is_follow dc_is_follow pm_is_follow cd_is_follow ct_is_follow oc_are_follows kV_are_follows dc_are_follows pm_are_follows cd_are_follows ct_are_follows oc_size_of kV_size_of dc_size_of pm_size_of cd_size_of ct_size_of oc_is_wiring kV_is_wiring dc_is_wiring pm_is_wiring cd_is_wiring ct_is_wiring oc_cycles_of kV_cycles_of dc_cycles_of pm_cycles_of cd_cycles_of ct_cycles_of oc_w_tray kV_w_tray dc_w_tray pm_w_tray cd_w_tray ct_w_tray oc_w_roll kV_w_roll dc_w_roll pm_w_roll cd_w_roll ct_w_roll oc_w_pick kV_w_pick dc_w_pick pm_w_pick cd_w_pick ct_w_pick oc_w_few kV_w_few dc_w_few pm_w_few cd_w_few ct_w_few oc_w_names kV_w_names dc_w_names pm_w_names cd_w_names ct_w_names oc_w_rings kV_w_rings dc_w_rings pm_w_rings cd_w_rings ct_w_rings oc_w_rows kV_w_rows dc_w_rows pm_w_rows cd_w_rows ct_w_rows oc_w_sorted kV_w_sorted dc_w_sorted pm_w_sorted cd_w_sorted ct_w_sorted oc_w_alive kV_w_alive dc_w_alive pm_w_alive cd_w_alive ct_w_alive oc_w_places kV_w_places dc_w_places pm_w_places cd_w_places ct_w_places oc_w_swept kV_w_swept dc_w_swept pm_w_swept cd_w_swept ct_w_swept oc_w_drawn kV_w_drawn dc_w_drawn pm_w_drawn cd_w_drawn ct_w_drawn oc_w_follows kV_w_follows dc_w_follows pm_w_follows cd_w_follows ct_w_follows oc_w_cycles kV_w_cycles dc_w_cycles pm_w_cycles cd_w_cycles ct_w_cycles oc_w_size kV_w_size dc_w_size pm_w_size cd_w_size ct_w_size oc_w_multiple kV_w_multiple dc_w_multiple pm_w_multiple cd_w_multiple ct_w_multiple oc_w_is_told kV_w_is_told dc_w_is_told pm_w_is_told cd_w_is_told ct_w_is_told oc_w_right kV_w_right dc_w_right pm_w_right cd_w_right ct_w_right oc_law kV_law dc_law pm_law cd_law ct_law : Value} {t_MAX_INTERVAL t_MAX_LETTERS t_MAX_VALUES t_MAX_LIFE t_MAX_WIRED : Tok}
    (a_wall : PySem.W.nsIn K mainGlobals "_wall" = some (some (.ref f_wall))) (l_wall : K.lookup f_wall = some ⟨oc_wall, od_wall, .func (PySem.W.fnOf "_wall" "_wall" (defArgs s_wall) (defBody s_wall) (defScope s_wall) .none kV_wall dc_wall pm_wall an_wall cd_wall ct_wall), sl_wall⟩) (k_wall : PySem.W.codeIn K cd_wall "_wall" = true) (p_wall : PySem.W.keepIn K (.ref f_wall) = true)
    (a_is_name : PySem.W.nsIn K mainGlobals "is_name" = some (some (.ref f_is_name))) (l_is_name : K.lookup f_is_name = some ⟨oc_is_name, od_is_name, .func (PySem.W.fnOf "is_name" "is_name" (defArgs s_is_name) (defBody s_is_name) (defScope s_is_name) .none kV_is_name dc_is_name pm_is_name an_is_name cd_is_name ct_is_name), sl_is_name⟩) (k_is_name : PySem.W.codeIn K cd_is_name "is_name" = true) (p_is_name : PySem.W.keepIn K (.ref f_is_name) = true)
    (a_is_integer : PySem.W.nsIn K mainGlobals "is_integer" = some (some (.ref f_is_integer))) (l_is_integer : K.lookup f_is_integer = some ⟨oc_is_integer, od_is_integer, .func (PySem.W.fnOf "is_integer" "is_integer" (defArgs s_is_integer) (defBody s_is_integer) (defScope s_is_integer) .none kV_is_integer dc_is_integer pm_is_integer an_is_integer cd_is_integer ct_is_integer), sl_is_integer⟩) (k_is_integer : PySem.W.codeIn K cd_is_integer "is_integer" = true) (p_is_integer : PySem.W.keepIn K (.ref f_is_integer) = true)
    (a_is_between : PySem.W.nsIn K mainGlobals "is_between" = some (some (.ref f_is_between))) (l_is_between : K.lookup f_is_between = some ⟨oc_is_between, od_is_between, .func (PySem.W.fnOf "is_between" "is_between" (defArgs s_is_between) (defBody s_is_between) (defScope s_is_between) .none kV_is_between dc_is_between pm_is_between an_is_between cd_is_between ct_is_between), sl_is_between⟩) (k_is_between : PySem.W.codeIn K cd_is_between "is_between" = true) (p_is_between : PySem.W.keepIn K (.ref f_is_between) = true)
    (a_check_integer : PySem.W.nsIn K mainGlobals "check_integer" = some (some (.ref f_check_integer))) (l_check_integer : K.lookup f_check_integer = some ⟨oc_check_integer, od_check_integer, .func (PySem.W.fnOf "check_integer" "check_integer" (defArgs s_check_integer) (defBody s_check_integer) (defScope s_check_integer) .none kV_check_integer dc_check_integer pm_check_integer an_check_integer cd_check_integer ct_check_integer), sl_check_integer⟩) (k_check_integer : PySem.W.codeIn K cd_check_integer "check_integer" = true) (p_check_integer : PySem.W.keepIn K (.ref f_check_integer) = true)
    (a_check_between : PySem.W.nsIn K mainGlobals "check_between" = some (some (.ref f_check_between))) (l_check_between : K.lookup f_check_between = some ⟨oc_check_between, od_check_between, .func (PySem.W.fnOf "check_between" "check_between" (defArgs s_check_between) (defBody s_check_between) (defScope s_check_between) .none kV_check_between dc_check_between pm_check_between an_check_between cd_check_between ct_check_between), sl_check_between⟩) (k_check_between : PySem.W.codeIn K cd_check_between "check_between" = true) (p_check_between : PySem.W.keepIn K (.ref f_check_between) = true)
    (a_check_interval : PySem.W.nsIn K mainGlobals "check_interval" = some (some (.ref f_check_interval))) (l_check_interval : K.lookup f_check_interval = some ⟨oc_check_interval, od_check_interval, .func (PySem.W.fnOf "check_interval" "check_interval" (defArgs s_check_interval) (defBody s_check_interval) (defScope s_check_interval) .none kV_check_interval dc_check_interval pm_check_interval an_check_interval cd_check_interval ct_check_interval), sl_check_interval⟩) (k_check_interval : PySem.W.codeIn K cd_check_interval "check_interval" = true) (p_check_interval : PySem.W.keepIn K (.ref f_check_interval) = true)
    (a_times_alive : PySem.W.nsIn K mainGlobals "times_alive" = some (some (.ref f_times_alive))) (l_times_alive : K.lookup f_times_alive = some ⟨oc_times_alive, od_times_alive, .func (PySem.W.fnOf "times_alive" "times_alive" (defArgs s_times_alive) (defBody s_times_alive) (defScope s_times_alive) .none kV_times_alive dc_times_alive pm_times_alive an_times_alive cd_times_alive ct_times_alive), sl_times_alive⟩) (k_times_alive : PySem.W.codeIn K cd_times_alive "times_alive" = true) (p_times_alive : PySem.W.keepIn K (.ref f_times_alive) = true)
    (a_ascends : PySem.W.nsIn K mainGlobals "ascends" = some (some (.ref f_ascends))) (l_ascends : K.lookup f_ascends = some ⟨oc_ascends, od_ascends, .func (PySem.W.fnOf "ascends" "ascends" (defArgs s_ascends) (defBody s_ascends) (defScope s_ascends) .none kV_ascends dc_ascends pm_ascends an_ascends cd_ascends ct_ascends), sl_ascends⟩) (k_ascends : PySem.W.codeIn K cd_ascends "ascends" = true) (p_ascends : PySem.W.keepIn K (.ref f_ascends) = true)
    (a_is_span : PySem.W.nsIn K mainGlobals "_is_span" = some (some (.ref f_is_span))) (l_is_span : K.lookup f_is_span = some ⟨oc_is_span, od_is_span, .func (PySem.W.fnOf "_is_span" "_is_span" (defArgs s_is_span) (defBody s_is_span) (defScope s_is_span) .none kV_is_span dc_is_span pm_is_span an_is_span cd_is_span ct_is_span), sl_is_span⟩) (k_is_span : PySem.W.codeIn K cd_is_span "_is_span" = true) (p_is_span : PySem.W.keepIn K (.ref f_is_span) = true)
    (a_are_rows : PySem.W.nsIn K mainGlobals "_are_rows" = some (some (.ref f_are_rows))) (l_are_rows : K.lookup f_are_rows = some ⟨oc_are_rows, od_are_rows, .func (PySem.W.fnOf "_are_rows" "_are_rows" (defArgs s_are_rows) (defBody s_are_rows) (defScope s_are_rows) .none kV_are_rows dc_are_rows pm_are_rows an_are_rows cd_are_rows ct_are_rows), sl_are_rows⟩) (k_are_rows : PySem.W.codeIn K cd_are_rows "_are_rows" = true) (p_are_rows : PySem.W.keepIn K (.ref f_are_rows) = true)
    (a_check_spans : PySem.W.nsIn K mainGlobals "check_spans" = some (some (.ref f_check_spans))) (l_check_spans : K.lookup f_check_spans = some ⟨oc_check_spans, od_check_spans, .func (PySem.W.fnOf "check_spans" "check_spans" (defArgs s_check_spans) (defBody s_check_spans) (defScope s_check_spans) .none kV_check_spans dc_check_spans pm_check_spans an_check_spans cd_check_spans ct_check_spans), sl_check_spans⟩) (k_check_spans : PySem.W.codeIn K cd_check_spans "check_spans" = true) (p_check_spans : PySem.W.keepIn K (.ref f_check_spans) = true)
    (a_is_follow : PySem.W.nsIn K mainGlobals "_is_follow" = some (some (.ref f_is_follow))) (l_is_follow : K.lookup f_is_follow = some ⟨oc_is_follow, od_is_follow, .func (PySem.W.fnOf "_is_follow" "_is_follow" (defArgs s_is_follow) (defBody s_is_follow) (defScope s_is_follow) .none kV_is_follow dc_is_follow pm_is_follow an_is_follow cd_is_follow ct_is_follow), sl_is_follow⟩) (k_is_follow : PySem.W.codeIn K cd_is_follow "_is_follow" = true) (p_is_follow : PySem.W.keepIn K (.ref f_is_follow) = true)
    (a_are_follows : PySem.W.nsIn K mainGlobals "_are_follows" = some (some (.ref f_are_follows))) (l_are_follows : K.lookup f_are_follows = some ⟨oc_are_follows, od_are_follows, .func (PySem.W.fnOf "_are_follows" "_are_follows" (defArgs s_are_follows) (defBody s_are_follows) (defScope s_are_follows) .none kV_are_follows dc_are_follows pm_are_follows an_are_follows cd_are_follows ct_are_follows), sl_are_follows⟩) (k_are_follows : PySem.W.codeIn K cd_are_follows "_are_follows" = true) (p_are_follows : PySem.W.keepIn K (.ref f_are_follows) = true)
    (a_size_of : PySem.W.nsIn K mainGlobals "_size_of" = some (some (.ref f_size_of))) (l_size_of : K.lookup f_size_of = some ⟨oc_size_of, od_size_of, .func (PySem.W.fnOf "_size_of" "_size_of" (defArgs s_size_of) (defBody s_size_of) (defScope s_size_of) .none kV_size_of dc_size_of pm_size_of an_size_of cd_size_of ct_size_of), sl_size_of⟩) (k_size_of : PySem.W.codeIn K cd_size_of "_size_of" = true) (p_size_of : PySem.W.keepIn K (.ref f_size_of) = true)
    (a_is_wiring : PySem.W.nsIn K mainGlobals "is_wiring" = some (some (.ref f_is_wiring))) (l_is_wiring : K.lookup f_is_wiring = some ⟨oc_is_wiring, od_is_wiring, .func (PySem.W.fnOf "is_wiring" "is_wiring" (defArgs s_is_wiring) (defBody s_is_wiring) (defScope s_is_wiring) .none kV_is_wiring dc_is_wiring pm_is_wiring an_is_wiring cd_is_wiring ct_is_wiring), sl_is_wiring⟩) (k_is_wiring : PySem.W.codeIn K cd_is_wiring "is_wiring" = true) (p_is_wiring : PySem.W.keepIn K (.ref f_is_wiring) = true)
    (a_cycles_of : PySem.W.nsIn K mainGlobals "_cycles_of" = some (some (.ref f_cycles_of))) (l_cycles_of : K.lookup f_cycles_of = some ⟨oc_cycles_of, od_cycles_of, .func (PySem.W.fnOf "_cycles_of" "_cycles_of" (defArgs s_cycles_of) (defBody s_cycles_of) (defScope s_cycles_of) .none kV_cycles_of dc_cycles_of pm_cycles_of an_cycles_of cd_cycles_of ct_cycles_of), sl_cycles_of⟩) (k_cycles_of : PySem.W.codeIn K cd_cycles_of "_cycles_of" = true) (p_cycles_of : PySem.W.keepIn K (.ref f_cycles_of) = true)
    (a_w_tray : PySem.W.nsIn K mainGlobals "_law_tray" = some (some (.ref f_w_tray))) (l_w_tray : K.lookup f_w_tray = some ⟨oc_w_tray, od_w_tray, .func (PySem.W.fnOf "_law_tray" "_law_tray" (defArgs s_w_tray) (defBody s_w_tray) (defScope s_w_tray) .none kV_w_tray dc_w_tray pm_w_tray an_w_tray cd_w_tray ct_w_tray), sl_w_tray⟩) (k_w_tray : PySem.W.codeIn K cd_w_tray "_law_tray" = true) (p_w_tray : PySem.W.keepIn K (.ref f_w_tray) = true)
    (a_w_roll : PySem.W.nsIn K mainGlobals "_law_roll" = some (some (.ref f_w_roll))) (l_w_roll : K.lookup f_w_roll = some ⟨oc_w_roll, od_w_roll, .func (PySem.W.fnOf "_law_roll" "_law_roll" (defArgs s_w_roll) (defBody s_w_roll) (defScope s_w_roll) .none kV_w_roll dc_w_roll pm_w_roll an_w_roll cd_w_roll ct_w_roll), sl_w_roll⟩) (k_w_roll : PySem.W.codeIn K cd_w_roll "_law_roll" = true) (p_w_roll : PySem.W.keepIn K (.ref f_w_roll) = true)
    (a_w_pick : PySem.W.nsIn K mainGlobals "_law_pick" = some (some (.ref f_w_pick))) (l_w_pick : K.lookup f_w_pick = some ⟨oc_w_pick, od_w_pick, .func (PySem.W.fnOf "_law_pick" "_law_pick" (defArgs s_w_pick) (defBody s_w_pick) (defScope s_w_pick) .none kV_w_pick dc_w_pick pm_w_pick an_w_pick cd_w_pick ct_w_pick), sl_w_pick⟩) (k_w_pick : PySem.W.codeIn K cd_w_pick "_law_pick" = true) (p_w_pick : PySem.W.keepIn K (.ref f_w_pick) = true)
    (a_w_few : PySem.W.nsIn K mainGlobals "_law_few" = some (some (.ref f_w_few))) (l_w_few : K.lookup f_w_few = some ⟨oc_w_few, od_w_few, .func (PySem.W.fnOf "_law_few" "_law_few" (defArgs s_w_few) (defBody s_w_few) (defScope s_w_few) .none kV_w_few dc_w_few pm_w_few an_w_few cd_w_few ct_w_few), sl_w_few⟩) (k_w_few : PySem.W.codeIn K cd_w_few "_law_few" = true) (p_w_few : PySem.W.keepIn K (.ref f_w_few) = true)
    (a_w_names : PySem.W.nsIn K mainGlobals "_law_names" = some (some (.ref f_w_names))) (l_w_names : K.lookup f_w_names = some ⟨oc_w_names, od_w_names, .func (PySem.W.fnOf "_law_names" "_law_names" (defArgs s_w_names) (defBody s_w_names) (defScope s_w_names) .none kV_w_names dc_w_names pm_w_names an_w_names cd_w_names ct_w_names), sl_w_names⟩) (k_w_names : PySem.W.codeIn K cd_w_names "_law_names" = true) (p_w_names : PySem.W.keepIn K (.ref f_w_names) = true)
    (a_w_rings : PySem.W.nsIn K mainGlobals "_law_rings" = some (some (.ref f_w_rings))) (l_w_rings : K.lookup f_w_rings = some ⟨oc_w_rings, od_w_rings, .func (PySem.W.fnOf "_law_rings" "_law_rings" (defArgs s_w_rings) (defBody s_w_rings) (defScope s_w_rings) .none kV_w_rings dc_w_rings pm_w_rings an_w_rings cd_w_rings ct_w_rings), sl_w_rings⟩) (k_w_rings : PySem.W.codeIn K cd_w_rings "_law_rings" = true) (p_w_rings : PySem.W.keepIn K (.ref f_w_rings) = true)
    (a_w_rows : PySem.W.nsIn K mainGlobals "_law_rows" = some (some (.ref f_w_rows))) (l_w_rows : K.lookup f_w_rows = some ⟨oc_w_rows, od_w_rows, .func (PySem.W.fnOf "_law_rows" "_law_rows" (defArgs s_w_rows) (defBody s_w_rows) (defScope s_w_rows) .none kV_w_rows dc_w_rows pm_w_rows an_w_rows cd_w_rows ct_w_rows), sl_w_rows⟩) (k_w_rows : PySem.W.codeIn K cd_w_rows "_law_rows" = true) (p_w_rows : PySem.W.keepIn K (.ref f_w_rows) = true)
    (a_w_sorted : PySem.W.nsIn K mainGlobals "_law_sorted" = some (some (.ref f_w_sorted))) (l_w_sorted : K.lookup f_w_sorted = some ⟨oc_w_sorted, od_w_sorted, .func (PySem.W.fnOf "_law_sorted" "_law_sorted" (defArgs s_w_sorted) (defBody s_w_sorted) (defScope s_w_sorted) .none kV_w_sorted dc_w_sorted pm_w_sorted an_w_sorted cd_w_sorted ct_w_sorted), sl_w_sorted⟩) (k_w_sorted : PySem.W.codeIn K cd_w_sorted "_law_sorted" = true) (p_w_sorted : PySem.W.keepIn K (.ref f_w_sorted) = true)
    (a_w_alive : PySem.W.nsIn K mainGlobals "_law_alive" = some (some (.ref f_w_alive))) (l_w_alive : K.lookup f_w_alive = some ⟨oc_w_alive, od_w_alive, .func (PySem.W.fnOf "_law_alive" "_law_alive" (defArgs s_w_alive) (defBody s_w_alive) (defScope s_w_alive) .none kV_w_alive dc_w_alive pm_w_alive an_w_alive cd_w_alive ct_w_alive), sl_w_alive⟩) (k_w_alive : PySem.W.codeIn K cd_w_alive "_law_alive" = true) (p_w_alive : PySem.W.keepIn K (.ref f_w_alive) = true)
    (a_w_places : PySem.W.nsIn K mainGlobals "_law_places" = some (some (.ref f_w_places))) (l_w_places : K.lookup f_w_places = some ⟨oc_w_places, od_w_places, .func (PySem.W.fnOf "_law_places" "_law_places" (defArgs s_w_places) (defBody s_w_places) (defScope s_w_places) .none kV_w_places dc_w_places pm_w_places an_w_places cd_w_places ct_w_places), sl_w_places⟩) (k_w_places : PySem.W.codeIn K cd_w_places "_law_places" = true) (p_w_places : PySem.W.keepIn K (.ref f_w_places) = true)
    (a_w_swept : PySem.W.nsIn K mainGlobals "_law_swept" = some (some (.ref f_w_swept))) (l_w_swept : K.lookup f_w_swept = some ⟨oc_w_swept, od_w_swept, .func (PySem.W.fnOf "_law_swept" "_law_swept" (defArgs s_w_swept) (defBody s_w_swept) (defScope s_w_swept) .none kV_w_swept dc_w_swept pm_w_swept an_w_swept cd_w_swept ct_w_swept), sl_w_swept⟩) (k_w_swept : PySem.W.codeIn K cd_w_swept "_law_swept" = true) (p_w_swept : PySem.W.keepIn K (.ref f_w_swept) = true)
    (a_w_drawn : PySem.W.nsIn K mainGlobals "_law_drawn" = some (some (.ref f_w_drawn))) (l_w_drawn : K.lookup f_w_drawn = some ⟨oc_w_drawn, od_w_drawn, .func (PySem.W.fnOf "_law_drawn" "_law_drawn" (defArgs s_w_drawn) (defBody s_w_drawn) (defScope s_w_drawn) .none kV_w_drawn dc_w_drawn pm_w_drawn an_w_drawn cd_w_drawn ct_w_drawn), sl_w_drawn⟩) (k_w_drawn : PySem.W.codeIn K cd_w_drawn "_law_drawn" = true) (p_w_drawn : PySem.W.keepIn K (.ref f_w_drawn) = true)
    (a_w_follows : PySem.W.nsIn K mainGlobals "_law_follows" = some (some (.ref f_w_follows))) (l_w_follows : K.lookup f_w_follows = some ⟨oc_w_follows, od_w_follows, .func (PySem.W.fnOf "_law_follows" "_law_follows" (defArgs s_w_follows) (defBody s_w_follows) (defScope s_w_follows) .none kV_w_follows dc_w_follows pm_w_follows an_w_follows cd_w_follows ct_w_follows), sl_w_follows⟩) (k_w_follows : PySem.W.codeIn K cd_w_follows "_law_follows" = true) (p_w_follows : PySem.W.keepIn K (.ref f_w_follows) = true)
    (a_w_cycles : PySem.W.nsIn K mainGlobals "_law_cycles" = some (some (.ref f_w_cycles))) (l_w_cycles : K.lookup f_w_cycles = some ⟨oc_w_cycles, od_w_cycles, .func (PySem.W.fnOf "_law_cycles" "_law_cycles" (defArgs s_w_cycles) (defBody s_w_cycles) (defScope s_w_cycles) .none kV_w_cycles dc_w_cycles pm_w_cycles an_w_cycles cd_w_cycles ct_w_cycles), sl_w_cycles⟩) (k_w_cycles : PySem.W.codeIn K cd_w_cycles "_law_cycles" = true) (p_w_cycles : PySem.W.keepIn K (.ref f_w_cycles) = true)
    (a_w_size : PySem.W.nsIn K mainGlobals "_law_size" = some (some (.ref f_w_size))) (l_w_size : K.lookup f_w_size = some ⟨oc_w_size, od_w_size, .func (PySem.W.fnOf "_law_size" "_law_size" (defArgs s_w_size) (defBody s_w_size) (defScope s_w_size) .none kV_w_size dc_w_size pm_w_size an_w_size cd_w_size ct_w_size), sl_w_size⟩) (k_w_size : PySem.W.codeIn K cd_w_size "_law_size" = true) (p_w_size : PySem.W.keepIn K (.ref f_w_size) = true)
    (a_w_multiple : PySem.W.nsIn K mainGlobals "_law_multiple" = some (some (.ref f_w_multiple))) (l_w_multiple : K.lookup f_w_multiple = some ⟨oc_w_multiple, od_w_multiple, .func (PySem.W.fnOf "_law_multiple" "_law_multiple" (defArgs s_w_multiple) (defBody s_w_multiple) (defScope s_w_multiple) .none kV_w_multiple dc_w_multiple pm_w_multiple an_w_multiple cd_w_multiple ct_w_multiple), sl_w_multiple⟩) (k_w_multiple : PySem.W.codeIn K cd_w_multiple "_law_multiple" = true) (p_w_multiple : PySem.W.keepIn K (.ref f_w_multiple) = true)
    (a_w_is_told : PySem.W.nsIn K mainGlobals "_law_is_told" = some (some (.ref f_w_is_told))) (l_w_is_told : K.lookup f_w_is_told = some ⟨oc_w_is_told, od_w_is_told, .func (PySem.W.fnOf "_law_is_told" "_law_is_told" (defArgs s_w_is_told) (defBody s_w_is_told) (defScope s_w_is_told) .none kV_w_is_told dc_w_is_told pm_w_is_told an_w_is_told cd_w_is_told ct_w_is_told), sl_w_is_told⟩) (k_w_is_told : PySem.W.codeIn K cd_w_is_told "_law_is_told" = true) (p_w_is_told : PySem.W.keepIn K (.ref f_w_is_told) = true)
    (a_w_right : PySem.W.nsIn K mainGlobals "_law_right" = some (some (.ref f_w_right))) (l_w_right : K.lookup f_w_right = some ⟨oc_w_right, od_w_right, .func (PySem.W.fnOf "_law_right" "_law_right" (defArgs s_w_right) (defBody s_w_right) (defScope s_w_right) .none kV_w_right dc_w_right pm_w_right an_w_right cd_w_right ct_w_right), sl_w_right⟩) (k_w_right : PySem.W.codeIn K cd_w_right "_law_right" = true) (p_w_right : PySem.W.keepIn K (.ref f_w_right) = true)
    (a_law : PySem.W.nsIn K mainGlobals "law" = some (some (.ref f_law))) (l_law : K.lookup f_law = some ⟨oc_law, od_law, .func (PySem.W.fnOf "law" "law" (defArgs s_law) (defBody s_law) (defScope s_law) .none kV_law dc_law pm_law an_law cd_law ct_law), sl_law⟩) (k_law : PySem.W.codeIn K cd_law "law" = true) (p_law : PySem.W.keepIn K (.ref f_law) = true)
    (e_MAX_INTERVAL : PySem.W.nsIn K mainGlobals "MAX_INTERVAL" = some (some (.int 32 t_MAX_INTERVAL)))
    (e_MAX_LETTERS : PySem.W.nsIn K mainGlobals "MAX_LETTERS" = some (some (.int 8 t_MAX_LETTERS)))
    (e_MAX_VALUES : PySem.W.nsIn K mainGlobals "MAX_VALUES" = some (some (.int 8 t_MAX_VALUES)))
    (e_MAX_LIFE : PySem.W.nsIn K mainGlobals "MAX_LIFE" = some (some (.int 8 t_MAX_LIFE)))
    (e_MAX_WIRED : PySem.W.nsIn K mainGlobals "MAX_WIRED" = some (some (.int 72 t_MAX_WIRED)))
    (g_lcm : PySem.W.nsIn K mainGlobals "lcm" = some (some (.builtin "math.lcm")))
    (y_int : PySem.W.nsIn K mainGlobals "int" = some none)
    (y_abs : PySem.W.nsIn K mainGlobals "abs" = some none)
    (y_len : PySem.W.nsIn K mainGlobals "len" = some none)
    (y_max : PySem.W.nsIn K mainGlobals "max" = some none)
    (y_min : PySem.W.nsIn K mainGlobals "min" = some none)
    (y_range : PySem.W.nsIn K mainGlobals "range" = some none)
    (y_sum : PySem.W.nsIn K mainGlobals "sum" = some none)
    (y_isinstance : PySem.W.nsIn K mainGlobals "isinstance" = some none)
    (y_repr : PySem.W.nsIn K mainGlobals "repr" = some none)
    (y_str : PySem.W.nsIn K mainGlobals "str" = some none)
    (y_all : PySem.W.nsIn K mainGlobals "all" = some none)
    (y_any : PySem.W.nsIn K mainGlobals "any" = some none)
    (y_sorted : PySem.W.nsIn K mainGlobals "sorted" = some none)
    (y_tuple : PySem.W.nsIn K mainGlobals "tuple" = some none)
    (y_list : PySem.W.nsIn K mainGlobals "list" = some none)
    (y_dict : PySem.W.nsIn K mainGlobals "dict" = some none)
    (y_set : PySem.W.nsIn K mainGlobals "set" = some none)
    (y_bool : PySem.W.nsIn K mainGlobals "bool" = some none)
    (y_zip : PySem.W.nsIn K mainGlobals "zip" = some none)
    (uu : ∃ U : UX K mg, AddI K U.C)
    : ∃ fd : FuncData, (∀ (s : Shared) (v : Value), BindsTo s fd ⟨[v], []⟩ [("script", v)]) ∧ ∀ base : Heap, K.In base → base.Ns mainGlobals mg → GW.FnG l.prog w K mg base CX0 17 fa fd ["script"] (sp_law K) := by
  have e := hfa.symm.trans (PySem.W.mg_of X G a_law)
  cases e
  have F_wall := fun_mk (st := s_wall) l_wall k_wall p_wall
  have b_wall := F_wall.binds (ps := ["k"]) fun _ _ _ _ _ _ us hl => match us, hl with | [_], _ => rfl
  have F_is_name := fun_mk (st := s_is_name) l_is_name k_is_name p_is_name
  have b_is_name := F_is_name.binds (ps := ["value"]) fun _ _ _ _ _ _ us hl => match us, hl with | [_], _ => rfl
  have F_is_integer := fun_mk (st := s_is_integer) l_is_integer k_is_integer p_is_integer
  have b_is_integer := F_is_integer.binds (ps := ["value"]) fun _ _ _ _ _ _ us hl => match us, hl with | [_], _ => rfl
  have F_is_between := fun_mk (st := s_is_between) l_is_between k_is_between p_is_between
  have b_is_between := F_is_between.binds (ps := ["value", "low", "high"]) fun _ _ _ _ _ _ us hl => match us, hl with | [_, _, _], _ => rfl
  have F_check_integer := fun_mk (st := s_check_integer) l_check_integer k_check_integer p_check_integer
  have b_check_integer := F_check_integer.binds (ps := ["value"]) fun _ _ _ _ _ _ us hl => match us, hl with | [_], _ => rfl
  have F_check_between := fun_mk (st := s_check_between) l_check_between k_check_between p_check_between
  have b_check_between := F_check_between.binds (ps := ["value", "low", "high"]) fun _ _ _ _ _ _ us hl => match us, hl with | [_, _, _], _ => rfl
  have F_check_interval := fun_mk (st := s_check_interval) l_check_interval k_check_interval p_check_interval
  have b_check_interval := F_check_interval.binds (ps := ["value"]) fun _ _ _ _ _ _ us hl => match us, hl with | [_], _ => rfl
  have F_times_alive := fun_mk (st := s_times_alive) l_times_alive k_times_alive p_times_alive
  have b_times_alive := F_times_alive.binds (ps := ["begin", "end", "tick", "interval"]) fun _ _ _ _ _ _ us hl => match us, hl with | [_, _, _, _], _ => rfl
  have F_ascends := fun_mk (st := s_ascends) l_ascends k_ascends p_ascends
  have b_ascends := F_ascends.binds (ps := ["row"]) fun _ _ _ _ _ _ us hl => match us, hl with | [_], _ => rfl
  have F_is_span := fun_mk (st := s_is_span) l_is_span k_is_span p_is_span
  have b_is_span := F_is_span.binds (ps := ["interval", "value"]) fun _ _ _ _ _ _ us hl => match us, hl with | [_, _], _ => rfl
  have F_are_rows := fun_mk (st := s_are_rows) l_are_rows k_are_rows p_are_rows
  have b_are_rows := F_are_rows.binds (ps := ["interval", "value"]) fun _ _ _ _ _ _ us hl => match us, hl with | [_, _], _ => rfl
  have F_check_spans := fun_mk (st := s_check_spans) l_check_spans k_check_spans p_check_spans
  have b_check_spans := F_check_spans.binds (ps := ["value"]) fun _ _ _ _ _ _ us hl => match us, hl with | [_], _ => rfl
  have F_is_follow := fun_mk (st := s_is_follow) l_is_follow k_is_follow p_is_follow
  have b_is_follow := F_is_follow.binds (ps := ["spans", "name", "value"]) fun _ _ _ _ _ _ us hl => match us, hl with | [_, _, _], _ => rfl
  have F_are_follows := fun_mk (st := s_are_follows) l_are_follows k_are_follows p_are_follows
  have b_are_follows := F_are_follows.binds (ps := ["spans", "value"]) fun _ _ _ _ _ _ us hl => match us, hl with | [_, _], _ => rfl
  have F_size_of := fun_mk (st := s_size_of) l_size_of k_size_of p_size_of
  have b_size_of := F_size_of.binds (ps := ["spans", "follows", "names"]) fun _ _ _ _ _ _ us hl => match us, hl with | [_, _, _], _ => rfl
  have F_is_wiring := fun_mk (st := s_is_wiring) l_is_wiring k_is_wiring p_is_wiring
  have b_is_wiring := F_is_wiring.binds (ps := ["spans", "value"]) fun _ _ _ _ _ _ us hl => match us, hl with | [_, _], _ => rfl
  have F_cycles_of := fun_mk (st := s_cycles_of) l_cycles_of k_cycles_of p_cycles_of
  have b_cycles_of := F_cycles_of.binds (ps := ["follows"]) fun _ _ _ _ _ _ us hl => match us, hl with | [_], _ => rfl
  have F_w_tray := fun_mk (st := s_w_tray) l_w_tray k_w_tray p_w_tray
  have b_w_tray := F_w_tray.binds (ps := ["script", "spot"]) fun _ _ _ _ _ _ us hl => match us, hl with | [_, _], _ => rfl
  have F_w_roll := fun_mk (st := s_w_roll) l_w_roll k_w_roll p_w_roll
  have b_w_roll := F_w_roll.binds (ps := ["tray", "total"]) fun _ _ _ _ _ _ us hl => match us, hl with | [_, _], _ => rfl
  have F_w_pick := fun_mk (st := s_w_pick) l_w_pick k_w_pick p_w_pick
  have b_w_pick := F_w_pick.binds (ps := ["tray", "items"]) fun _ _ _ _ _ _ us hl => match us, hl with | [_, _], _ => rfl
  have F_w_few := fun_mk (st := s_w_few) l_w_few k_w_few p_w_few
  have b_w_few := F_w_few.binds (ps := ["tray", "items", "many"]) fun _ _ _ _ _ _ us hl => match us, hl with | [_, _, _], _ => rfl
  have F_w_names := fun_mk (st := s_w_names) l_w_names k_w_names p_w_names
  have b_w_names := F_w_names.binds (ps := ["tray", "many"]) fun _ _ _ _ _ _ us hl => match us, hl with | [_, _], _ => rfl
  have F_w_rings := fun_mk (st := s_w_rings) l_w_rings k_w_rings p_w_rings
  have b_w_rings := F_w_rings.binds (ps := ["tray", "interval", "names"]) fun _ _ _ _ _ _ us hl => match us, hl with | [_, _, _], _ => rfl
  have F_w_rows := fun_mk (st := s_w_rows) l_w_rows k_w_rows p_w_rows
  have b_w_rows := F_w_rows.binds (ps := ["tray", "interval", "names"]) fun _ _ _ _ _ _ us hl => match us, hl with | [_, _, _], _ => rfl
  have F_w_sorted := fun_mk (st := s_w_sorted) l_w_sorted k_w_sorted p_w_sorted
  have b_w_sorted := F_w_sorted.binds (ps := ["rows"]) fun _ _ _ _ _ _ us hl => match us, hl with | [_], _ => rfl
  have F_w_alive := fun_mk (st := s_w_alive) l_w_alive k_w_alive p_w_alive
  have b_w_alive := F_w_alive.binds (ps := ["rows", "interval", "tick"]) fun _ _ _ _ _ _ us hl => match us, hl with | [_, _, _], _ => rfl
  have F_w_places := fun_mk (st := s_w_places) l_w_places k_w_places p_w_places
  have b_w_places := F_w_places.binds (ps := ["rows", "interval", "index"]) fun _ _ _ _ _ _ us hl => match us, hl with | [_, _, _], _ => rfl
  have F_w_swept := fun_mk (st := s_w_swept) l_w_swept k_w_swept p_w_swept
  have b_w_swept := F_w_swept.binds (ps := ["tray", "rows", "interval"]) fun _ _ _ _ _ _ us hl => match us, hl with | [_, _, _], _ => rfl
  have F_w_drawn := fun_mk (st := s_w_drawn) l_w_drawn k_w_drawn p_w_drawn
  have b_w_drawn := F_w_drawn.binds (ps := ["tray", "rows", "interval"]) fun _ _ _ _ _ _ us hl => match us, hl with | [_, _, _], _ => rfl
  have F_w_follows := fun_mk (st := s_w_follows) l_w_follows k_w_follows p_w_follows
  have b_w_follows := F_w_follows.binds (ps := ["tray", "rows", "interval"]) fun _ _ _ _ _ _ us hl => match us, hl with | [_, _, _], _ => rfl
  have F_w_cycles := fun_mk (st := s_w_cycles) l_w_cycles k_w_cycles p_w_cycles
  have b_w_cycles := F_w_cycles.binds (ps := ["follows"]) fun _ _ _ _ _ _ us hl => match us, hl with | [_], _ => rfl
  have F_w_size := fun_mk (st := s_w_size) l_w_size k_w_size p_w_size
  have b_w_size := F_w_size.binds (ps := ["rows", "interval", "follows", "names"]) fun _ _ _ _ _ _ us hl => match us, hl with | [_, _, _, _], _ => rfl
  have F_w_multiple := fun_mk (st := s_w_multiple) l_w_multiple k_w_multiple p_w_multiple
  have b_w_multiple := F_w_multiple.binds (ps := ["numbers"]) fun _ _ _ _ _ _ us hl => match us, hl with | [_], _ => rfl
  have F_w_is_told := fun_mk (st := s_w_is_told) l_w_is_told k_w_is_told p_w_is_told
  have b_w_is_told := F_w_is_told.binds (ps := ["wiring", "rows", "interval", "follows"]) fun _ _ _ _ _ _ us hl => match us, hl with | [_, _, _, _], _ => rfl
  have F_w_right := fun_mk (st := s_w_right) l_w_right k_w_right p_w_right
  have b_w_right := F_w_right.binds (ps := ["tray"]) fun _ _ _ _ _ _ us hl => match us, hl with | [_], _ => rfl
  have F_law := fun_mk (st := s_law) l_law k_law p_law
  have b_law := F_law.binds (ps := ["script"]) fun _ _ _ _ _ _ us hl => match us, hl with | [_], _ => rfl
  obtain ⟨U, ai⟩ := uu
  exact ⟨PySem.W.fnOf "law" "law" (defArgs s_law) (defBody s_law) (defScope s_law) .none kV_law dc_law pm_law an_law cd_law ct_law, fun s v => .of_eq rfl, fun base _ _ => ok_law (⟨_, _, F_wall, PySem.W.mg_of X G a_wall, b_wall, _, _, F_is_name, PySem.W.mg_of X G a_is_name, b_is_name, _, _, F_is_integer, PySem.W.mg_of X G a_is_integer, b_is_integer, _, _, F_is_between, PySem.W.mg_of X G a_is_between, b_is_between, _, _, F_check_integer, PySem.W.mg_of X G a_check_integer, b_check_integer, _, _, F_check_between, PySem.W.mg_of X G a_check_between, b_check_between, _, _, F_check_interval, PySem.W.mg_of X G a_check_interval, b_check_interval, _, _, F_times_alive, PySem.W.mg_of X G a_times_alive, b_times_alive, _, _, F_ascends, PySem.W.mg_of X G a_ascends, b_ascends, _, _, F_is_span, PySem.W.mg_of X G a_is_span, b_is_span, _, _, F_are_rows, PySem.W.mg_of X G a_are_rows, b_are_rows, _, _, F_check_spans, PySem.W.mg_of X G a_check_spans, b_check_spans, _, _, F_is_follow, PySem.W.mg_of X G a_is_follow, b_is_follow, _, _, F_are_follows, PySem.W.mg_of X G a_are_follows, b_are_follows, _, _, F_size_of, PySem.W.mg_of X G a_size_of, b_size_of, _, _, F_is_wiring, PySem.W.mg_of X G a_is_wiring, b_is_wiring, _, _, F_cycles_of, PySem.W.mg_of X G a_cycles_of, b_cycles_of, _, _, F_w_tray, PySem.W.mg_of X G a_w_tray, b_w_tray, _, _, F_w_roll, PySem.W.mg_of X G a_w_roll, b_w_roll, _, _, F_w_pick, PySem.W.mg_of X G a_w_pick, b_w_pick, _, _, F_w_few, PySem.W.mg_of X G a_w_few, b_w_few, _, _, F_w_names, PySem.W.mg_of X G a_w_names, b_w_names, _, _, F_w_rings, PySem.W.mg_of X G a_w_rings, b_w_rings, _, _, F_w_rows, PySem.W.mg_of X G a_w_rows, b_w_rows, _, _, F_w_sorted, PySem.W.mg_of X G a_w_sorted, b_w_sorted, _, _, F_w_alive, PySem.W.mg_of X G a_w_alive, b_w_alive, _, _, F_w_places, PySem.W.mg_of X G a_w_places, b_w_places, _, _, F_w_swept, PySem.W.mg_of X G a_w_swept, b_w_swept, _, _, F_w_drawn, PySem.W.mg_of X G a_w_drawn, b_w_drawn, _, _, F_w_follows, PySem.W.mg_of X G a_w_follows, b_w_follows, _, _, F_w_cycles, PySem.W.mg_of X G a_w_cycles, b_w_cycles, _, _, F_w_size, PySem.W.mg_of X G a_w_size, b_w_size, _, _, F_w_multiple, PySem.W.mg_of X G a_w_multiple, b_w_multiple, _, _, F_w_is_told, PySem.W.mg_of X G a_w_is_told, b_w_is_told, _, _, F_w_right, PySem.W.mg_of X G a_w_right, b_w_right, _, _, F_law, PySem.W.mg_of X G a_law, b_law, ⟨t_MAX_INTERVAL, PySem.W.mg_of X G e_MAX_INTERVAL⟩, ⟨t_MAX_LETTERS, PySem.W.mg_of X G e_MAX_LETTERS⟩, ⟨t_MAX_VALUES, PySem.W.mg_of X G e_MAX_VALUES⟩, ⟨t_MAX_LIFE, PySem.W.mg_of X G e_MAX_LIFE⟩, ⟨t_MAX_WIRED, PySem.W.mg_of X G e_MAX_WIRED⟩, PySem.W.mg_of X G g_lcm, PySem.W.mg_none_of X G y_int, PySem.W.mg_none_of X G y_abs, PySem.W.mg_none_of X G y_len, PySem.W.mg_none_of X G y_max, PySem.W.mg_none_of X G y_min, PySem.W.mg_none_of X G y_range, PySem.W.mg_none_of X G y_sum, PySem.W.mg_none_of X G y_isinstance, PySem.W.mg_none_of X G y_repr, PySem.W.mg_none_of X G y_str, PySem.W.mg_none_of X G y_all, PySem.W.mg_none_of X G y_any, PySem.W.mg_none_of X G y_sorted, PySem.W.mg_none_of X G y_tuple, PySem.W.mg_none_of X G y_list, PySem.W.mg_none_of X G y_dict, PySem.W.mg_none_of X G y_set, PySem.W.mg_none_of X G y_bool, PySem.W.mg_none_of X G y_zip⟩ : T K mg) U ai⟩
theorem walk {l : PySem.W.OpenLaw} {q : Program} {loose : List Str} {XP : (Str → Option Value) → Heap → Prop}
                                                                                                              {YP : World → Heap → Prop} {d : DefRec} {K : Params → PySem.W.Frag} (hn : l.most = some 63) (hdf : d.params.defaults = [])
    (hY : ∀ (w : World) (h : Heap), YP w h → (K w.params).In h)
    (F : ∀ (w : World) (mg : Str → Option Value) (fa : Addr) (h : Heap),
                                                                         (K w.params).In h → h.Ns mainGlobals mg → mg d.name = some (.ref fa) →
      ∃ fd : FuncData, (∀ (s : Shared) (u : Value), BindsTo s fd ⟨[u], []⟩ [("script", u)]) ∧ ∀ base : Heap, (K w.params).In base → base.Ns mainGlobals mg → GW.FnG l.prog w (K w.params) mg base CX0 17 fa fd ["script"] (sp_law (K w.params))) :
    PySem.W.WalkO q loose XP YP l.row.toRowW d []
                                                  (fun f vs => PySem.call f vs) :=
  GW.walkG (n := 63) (k := 17) (x := "script") hn (by decide) hdf ⟨rfl, by decide, by decide⟩ hY fun w mg fa h _ KX G hmg => by
    obtain ⟨fd, hb, hF⟩ := F w mg fa h KX G hmg
    exact ⟨fd, [], sp_law _, (fun _ h => by cases h), (fun _ h => by cases h), (fun _ h => by cases h), hb, (fun H a ns hl _ hS => ⟨a, ns, rfl, hS, hl, fun _ => rfl⟩), fun base kin hns _ => hF base kin hns⟩
end K43
open PySem PySem.W PyProof.Rows
set_option maxRecDepth 100000 in
set_option maxHeartbeats 0 in
theorem PySem.Challenge.cw_overrounds_k43_wirings_told_holds : PySem.Challenge.rw_overrounds_k43_wirings_told.Holds := by
  w_on; o_law; k_head; (case hw => w_witness2)
  k_fill
  refine K43.walk (l := PySem.Challenge.rw_overrounds_k43_wirings_told) rfl rfl (fun w h Y => PySem.W.kIn_of Y) ?F
  case F =>
    intro w mg fa h KX G hmg
    refine' K43.all_mk KX G hmg ?a_wall ?l_wall ?k_wall ?p_wall ?a_is_name ?l_is_name ?k_is_name ?p_is_name ?a_is_integer ?l_is_integer ?k_is_integer ?p_is_integer ?a_is_between ?l_is_between ?k_is_between ?p_is_between ?a_check_integer ?l_check_integer ?k_check_integer ?p_check_integer ?a_check_between ?l_check_between ?k_check_between ?p_check_between ?a_check_interval ?l_check_interval ?k_check_interval ?p_check_interval ?a_times_alive ?l_times_alive ?k_times_alive ?p_times_alive ?a_ascends ?l_ascends ?k_ascends ?p_ascends ?a_is_span ?l_is_span ?k_is_span ?p_is_span ?a_are_rows ?l_are_rows ?k_are_rows ?p_are_rows ?a_check_spans ?l_check_spans ?k_check_spans ?p_check_spans ?a_is_follow ?l_is_follow ?k_is_follow ?p_is_follow ?a_are_follows ?l_are_follows ?k_are_follows ?p_are_follows ?a_size_of ?l_size_of ?k_size_of ?p_size_of ?a_is_wiring ?l_is_wiring ?k_is_wiring ?p_is_wiring ?a_cycles_of ?l_cycles_of ?k_cycles_of ?p_cycles_of ?a_w_tray ?l_w_tray ?k_w_tray ?p_w_tray ?a_w_roll ?l_w_roll ?k_w_roll ?p_w_roll ?a_w_pick ?l_w_pick ?k_w_pick ?p_w_pick ?a_w_few ?l_w_few ?k_w_few ?p_w_few ?a_w_names ?l_w_names ?k_w_names ?p_w_names ?a_w_rings ?l_w_rings ?k_w_rings ?p_w_rings ?a_w_rows ?l_w_rows ?k_w_rows ?p_w_rows ?a_w_sorted ?l_w_sorted ?k_w_sorted ?p_w_sorted ?a_w_alive ?l_w_alive ?k_w_alive ?p_w_alive ?a_w_places ?l_w_places ?k_w_places ?p_w_places ?a_w_swept ?l_w_swept ?k_w_swept ?p_w_swept ?a_w_drawn ?l_w_drawn ?k_w_drawn ?p_w_drawn ?a_w_follows ?l_w_follows ?k_w_follows ?p_w_follows ?a_w_cycles ?l_w_cycles ?k_w_cycles ?p_w_cycles ?a_w_size ?l_w_size ?k_w_size ?p_w_size ?a_w_multiple ?l_w_multiple ?k_w_multiple ?p_w_multiple ?a_w_is_told ?l_w_is_told ?k_w_is_told ?p_w_is_told ?a_w_right ?l_w_right ?k_w_right ?p_w_right ?a_law ?l_law ?k_law ?p_law ?e_MAX_INTERVAL ?e_MAX_LETTERS ?e_MAX_VALUES ?e_MAX_LIFE ?e_MAX_WIRED ?g_lcm ?y_int ?y_abs ?y_len ?y_max ?y_min ?y_range ?y_sum ?y_isinstance ?y_repr ?y_str ?y_all ?y_any ?y_sorted ?y_tuple ?y_list ?y_dict ?y_set ?y_bool ?y_zip ?uu
    (case a_wall => k_is)
    (case l_wall => k_is)
    (case k_wall => k_is)
    (case p_wall => k_is)
    (case a_is_name => k_is)
    (case l_is_name => k_is)
    (case k_is_name => k_is)
    (case p_is_name => k_is)
    (case a_is_integer => k_is)
    (case l_is_integer => k_is)
    (case k_is_integer => k_is)
    (case p_is_integer => k_is)
    (case a_is_between => k_is)
    (case l_is_between => k_is)
    (case k_is_between => k_is)
    (case p_is_between => k_is)
    (case a_check_integer => k_is)
    (case l_check_integer => k_is)
    (case k_check_integer => k_is)
    (case p_check_integer => k_is)
    (case a_check_between => k_is)
    (case l_check_between => k_is)
    (case k_check_between => k_is)
    (case p_check_between => k_is)
    (case a_check_interval => k_is)
    (case l_check_interval => k_is)
    (case k_check_interval => k_is)
    (case p_check_interval => k_is)
    (case a_times_alive => k_is)
    (case l_times_alive => k_is)
    (case k_times_alive => k_is)
    (case p_times_alive => k_is)
    (case a_ascends => k_is)
    (case l_ascends => k_is)
    (case k_ascends => k_is)
    (case p_ascends => k_is)
    (case a_is_span => k_is)
    (case l_is_span => k_is)
    (case k_is_span => k_is)
    (case p_is_span => k_is)
    (case a_are_rows => k_is)
    (case l_are_rows => k_is)
    (case k_are_rows => k_is)
    (case p_are_rows => k_is)
    (case a_check_spans => k_is)
    (case l_check_spans => k_is)
    (case k_check_spans => k_is)
    (case p_check_spans => k_is)
    (case a_is_follow => k_is)
    (case l_is_follow => k_is)
    (case k_is_follow => k_is)
    (case p_is_follow => k_is)
    (case a_are_follows => k_is)
    (case l_are_follows => k_is)
    (case k_are_follows => k_is)
    (case p_are_follows => k_is)
    (case a_size_of => k_is)
    (case l_size_of => k_is)
    (case k_size_of => k_is)
    (case p_size_of => k_is)
    (case a_is_wiring => k_is)
    (case l_is_wiring => k_is)
    (case k_is_wiring => k_is)
    (case p_is_wiring => k_is)
    (case a_cycles_of => k_is)
    (case l_cycles_of => k_is)
    (case k_cycles_of => k_is)
    (case p_cycles_of => k_is)
    (case a_w_tray => k_is)
    (case l_w_tray => k_is)
    (case k_w_tray => k_is)
    (case p_w_tray => k_is)
    (case a_w_roll => k_is)
    (case l_w_roll => k_is)
    (case k_w_roll => k_is)
    (case p_w_roll => k_is)
    (case a_w_pick => k_is)
    (case l_w_pick => k_is)
    (case k_w_pick => k_is)
    (case p_w_pick => k_is)
    (case a_w_few => k_is)
    (case l_w_few => k_is)
    (case k_w_few => k_is)
    (case p_w_few => k_is)
    (case a_w_names => k_is)
    (case l_w_names => k_is)
    (case k_w_names => k_is)
    (case p_w_names => k_is)
    (case a_w_rings => k_is)
    (case l_w_rings => k_is)
    (case k_w_rings => k_is)
    (case p_w_rings => k_is)
    (case a_w_rows => k_is)
    (case l_w_rows => k_is)
    (case k_w_rows => k_is)
    (case p_w_rows => k_is)
    (case a_w_sorted => k_is)
    (case l_w_sorted => k_is)
    (case k_w_sorted => k_is)
    (case p_w_sorted => k_is)
    (case a_w_alive => k_is)
    (case l_w_alive => k_is)
    (case k_w_alive => k_is)
    (case p_w_alive => k_is)
    (case a_w_places => k_is)
    (case l_w_places => k_is)
    (case k_w_places => k_is)
    (case p_w_places => k_is)
    (case a_w_swept => k_is)
    (case l_w_swept => k_is)
    (case k_w_swept => k_is)
    (case p_w_swept => k_is)
    (case a_w_drawn => k_is)
    (case l_w_drawn => k_is)
    (case k_w_drawn => k_is)
    (case p_w_drawn => k_is)
    (case a_w_follows => k_is)
    (case l_w_follows => k_is)
    (case k_w_follows => k_is)
    (case p_w_follows => k_is)
    (case a_w_cycles => k_is)
    (case l_w_cycles => k_is)
    (case k_w_cycles => k_is)
    (case p_w_cycles => k_is)
    (case a_w_size => k_is)
    (case l_w_size => k_is)
    (case k_w_size => k_is)
    (case p_w_size => k_is)
    (case a_w_multiple => k_is)
    (case l_w_multiple => k_is)
    (case k_w_multiple => k_is)
    (case p_w_multiple => k_is)
    (case a_w_is_told => k_is)
    (case l_w_is_told => k_is)
    (case k_w_is_told => k_is)
    (case p_w_is_told => k_is)
    (case a_w_right => k_is)
    (case l_w_right => k_is)
    (case k_w_right => k_is)
    (case p_w_right => k_is)
    (case a_law => k_is)
    (case l_law => k_is)
    (case k_law => k_is)
    (case p_law => k_is)
    (case e_MAX_INTERVAL => k_is)
    (case e_MAX_LETTERS => k_is)
    (case e_MAX_VALUES => k_is)
    (case e_MAX_LIFE => k_is)
    (case e_MAX_WIRED => k_is)
    (case g_lcm => k_is)
    (case y_int => k_is)
    (case y_abs => k_is)
    (case y_len => k_is)
    (case y_max => k_is)
    (case y_min => k_is)
    (case y_range => k_is)
    (case y_sum => k_is)
    (case y_isinstance => k_is)
    (case y_repr => k_is)
    (case y_str => k_is)
    (case y_all => k_is)
    (case y_any => k_is)
    (case y_sorted => k_is)
    (case y_tuple => k_is)
    (case y_list => k_is)
    (case y_dict => k_is)
    (case y_set => k_is)
    (case y_bool => k_is)
    (case y_zip => k_is)
    case uu =>
      refine' K43.mk_U KX G ?aC ?c1C ?c2C ?c3C ?c4C ?c5C ?c6C ?c7C ?c8C ?lIC ?kIC ?pIC ?n1C ?n2C ?n3C ?n4C ?n5C ?moC ?neC ?caC ?gCC ?tCC ?aP1 ?bP1 ?tP1 ?rP1 ?lP1 ?kP1 ?pP1 ?aP3 ?bP3 ?tP3 ?rP3 ?lP3 ?kP3 ?pP3 ?iG ?yG ?lG ?kG ?pG ?iL ?yL ?lL ?kL ?pL ?iA ?yA ?lA ?kA ?pA ?iQ ?yQ ?lQ ?kQ ?pQ ?cg ?ct ?fnG ?sf ?rc ?aD ?c1D ?c2D ?c3D ?c4D ?c5D ?c6D ?c7D ?c8D ?lID ?kID ?pID ?n1D ?n2D ?n3D ?moD ?neD ?caD ?gCD ?tCD ?aW1 ?bW1 ?tW1 ?rW1 ?lW1 ?kW1 ?pW1 ?aW2 ?bW2 ?tW2 ?rW2 ?lW2 ?kW2 ?pW2 ?aW3 ?bW3 ?tW3 ?rW3 ?lW3 ?kW3 ?pW3 ?aW4 ?bW4 ?tW4 ?rW4 ?lW4 ?kW4 ?pW4 ?aW5 ?bW5 ?tW5 ?rW5 ?lW5 ?kW5 ?pW5 ?aW6 ?bW6 ?tW6 ?rW6 ?lW6 ?kW6 ?pW6 ?iX1 ?yX1 ?lX1 ?kX1 ?pX1 ?iX2 ?yX2 ?lX2 ?kX2 ?pX2 ?iX3 ?yX3 ?lX3 ?kX3 ?pX3 ?iX4 ?yX4 ?lX4 ?kX4 ?pX4 ?iX5 ?yX5 ?lX5 ?kX5 ?pX5 ?fnW ?hCD ?sCD
      (case aC => k_is)
      (case c1C => k_is)
      (case c2C => k_is)
      (case c3C => k_is)
      (case c4C => k_is)
      (case c5C => k_is)
      (case c6C => k_is)
      (case c7C => k_is)
      (case c8C => k_is)
      (case lIC => k_is)
      (case kIC => k_is)
      (case pIC => k_is)
      (case n1C => k_is)
      (case n2C => k_is)
      (case n3C => k_is)
      (case n4C => k_is)
      (case n5C => k_is)
      (case moC => k_is)
      (case neC => k_is)
      (case caC => k_is)
      (case gCC => k_is)
      (case tCC => k_is)
      (case aP1 => k_is)
      (case bP1 => k_is)
      (case tP1 => k_is)
      (case rP1 => k_is)
      (case lP1 => k_is)
      (case kP1 => k_is)
      (case pP1 => k_is)
      (case aP3 => k_is)
      (case bP3 => k_is)
      (case tP3 => k_is)
      (case rP3 => k_is)
      (case lP3 => k_is)
      (case kP3 => k_is)
      (case pP3 => k_is)
      (case iG => k_is)
      (case yG => k_is)
      (case lG => k_is)
      (case kG => k_is)
      (case pG => k_is)
      (case iL => k_is)
      (case yL => k_is)
      (case lL => k_is)
      (case kL => k_is)
      (case pL => k_is)
      (case iA => k_is)
      (case yA => k_is)
      (case lA => k_is)
      (case kA => k_is)
      (case pA => k_is)
      (case iQ => k_is)
      (case yQ => k_is)
      (case lQ => k_is)
      (case kQ => k_is)
      (case pQ => k_is)
      (case cg => k_is)
      (case ct => k_is)
      (case fnG => k_is)
      (case sf => k_is)
      (case rc => k_is)
      (case aD => k_is)
      (case c1D => k_is)
      (case c2D => k_is)
      (case c3D => k_is)
      (case c4D => k_is)
      (case c5D => k_is)
      (case c6D => k_is)
      (case c7D => k_is)
      (case c8D => k_is)
      (case lID => k_is)
      (case kID => k_is)
      (case pID => k_is)
      (case n1D => k_is)
      (case n2D => k_is)
      (case n3D => k_is)
      (case moD => k_is)
      (case neD => k_is)
      (case caD => k_is)
      (case gCD => k_is)
      (case tCD => k_is)
      (case aW1 => k_is)
      (case bW1 => k_is)
      (case tW1 => k_is)
      (case rW1 => k_is)
      (case lW1 => k_is)
      (case kW1 => k_is)
      (case pW1 => k_is)
      (case aW2 => k_is)
      (case bW2 => k_is)
      (case tW2 => k_is)
      (case rW2 => k_is)
      (case lW2 => k_is)
      (case kW2 => k_is)
      (case pW2 => k_is)
      (case aW3 => k_is)
      (case bW3 => k_is)
      (case tW3 => k_is)
      (case rW3 => k_is)
      (case lW3 => k_is)
      (case kW3 => k_is)
      (case pW3 => k_is)
      (case aW4 => k_is)
      (case bW4 => k_is)
      (case tW4 => k_is)
      (case rW4 => k_is)
      (case lW4 => k_is)
      (case kW4 => k_is)
      (case pW4 => k_is)
      (case aW5 => k_is)
      (case bW5 => k_is)
      (case tW5 => k_is)
      (case rW5 => k_is)
      (case lW5 => k_is)
      (case kW5 => k_is)
      (case pW5 => k_is)
      (case aW6 => k_is)
      (case bW6 => k_is)
      (case tW6 => k_is)
      (case rW6 => k_is)
      (case lW6 => k_is)
      (case kW6 => k_is)
      (case pW6 => k_is)
      (case iX1 => k_is)
      (case yX1 => k_is)
      (case lX1 => k_is)
      (case kX1 => k_is)
      (case pX1 => k_is)
      (case iX2 => k_is)
      (case yX2 => k_is)
      (case lX2 => k_is)
      (case kX2 => k_is)
      (case pX2 => k_is)
      (case iX3 => k_is)
      (case yX3 => k_is)
      (case lX3 => k_is)
      (case kX3 => k_is)
      (case pX3 => k_is)
      (case iX4 => k_is)
      (case yX4 => k_is)
      (case lX4 => k_is)
      (case kX4 => k_is)
      (case pX4 => k_is)
      (case iX5 => k_is)
      (case yX5 => k_is)
      (case lX5 => k_is)
      (case kX5 => k_is)
      (case pX5 => k_is)
      (case fnW => k_is)
      (case hCD => first | rfl | decide | k_is)
      (case sCD => k_is)
