import PyProof.Rows.All
import Wide.All
import OpenK.AllK
import Wide.FinOn
import HandS.ForMost
import HandS.Wide
import HandS.IsInst
import HandS.Walk
import HandS.Style
import HandS.ForExc
import HandS.ExcInit
import HandS.Lambda
import HandS.Defaults
import HandS.MakeKwOnly
import HandS.TryMany
import KE.DataCmp
import HandS.EndTab
import KE.KNestM
import PySem.Challenge.RW_overrounds_k07_errors_of_operations
set_option Elab.async false
set_option linter.all false
set_option maxRecDepth 100000
set_option maxHeartbeats 2000000
namespace K07
open PySem L2
def top (i : Nat) : Stmt := PySem.Challenge.pw_overrounds_k07_errors_of_operations.main.body.getD i (.Pass ⟨0, 0, 0, 0⟩)
abbrev s_wall : Stmt := top 0
abbrev s_is_name : Stmt := top 13
abbrev s_is_integer : Stmt := top 14
abbrev s_is_between : Stmt := top 15
abbrev s_ascends : Stmt := top 17
abbrev s_is_pair : Stmt := top 18
abbrev s_is_row_of_pairs : Stmt := top 19
abbrev s_told : Stmt := top 25
abbrev s_w_reel : Stmt := top 28
abbrev s_w_spin : Stmt := top 29
abbrev s_w_pick : Stmt := top 30
abbrev s_w_word : Stmt := top 31
abbrev s_w_bad_pairs : Stmt := top 32
abbrev s_w_cell_right : Stmt := top 33
abbrev s_law : Stmt := top 34
abbrev s_RoundError_init : Stmt := inClass (top 2) 0
abbrev s_UnknownName_init : Stmt := inClass (top 7) 0
abbrev s_InvalidNumber_init : Stmt := inClass (top 8) 0
abbrev s_TooMany_init : Stmt := inClass (top 9) 0
abbrev s_Operation_init : Stmt := inClass (top 26) 0
abbrev s_Operation_name : Stmt := inClass (top 26) 1
abbrev s_Operation_ticks : Stmt := inClass (top 26) 2
abbrev s_Operation_reads : Stmt := inClass (top 26) 3
abbrev s_Operation_uses : Stmt := inClass (top 26) 4
abbrev s_Operation_read_names : Stmt := inClass (top 26) 5
abbrev s_Operation_units : Stmt := inClass (top 26) 6
abbrev s_Operation_renamed : Stmt := inClass (top 26) 7
abbrev s_Operation_with_ticks : Stmt := inClass (top 26) 8
abbrev s_Operation_eq : Stmt := inClass (top 26) 9
abbrev s_Operation_str : Stmt := inClass (top 26) 10
theorem sc_RoundError_init : FnScope ["self", "told"] ["self", "told"] (defScope s_RoundError_init) := ⟨rfl, rfl, rfl, by decide +kernel, rfl, by decide +kernel, by decide +kernel⟩
theorem sc_UnknownName_init : FnScope ["self", "wanted"] ["self", "wanted"] (defScope s_UnknownName_init) := ⟨rfl, rfl, rfl, by decide +kernel, rfl, by decide +kernel, by decide +kernel⟩
theorem sc_InvalidNumber_init : FnScope ["self", "value"] ["self", "value"] (defScope s_InvalidNumber_init) := ⟨rfl, rfl, rfl, by decide +kernel, rfl, by decide +kernel, by decide +kernel⟩
theorem sc_TooMany_init : FnScope ["self", "limit"] ["self", "limit"] (defScope s_TooMany_init) := ⟨rfl, rfl, rfl, by decide +kernel, rfl, by decide +kernel, by decide +kernel⟩
theorem sc_Operation_init : FnScope ["self", "name", "ticks", "reads", "uses"] ["self", "name", "ticks", "reads", "uses"] (defScope s_Operation_init) := ⟨rfl, rfl, rfl, by decide +kernel, rfl, by decide +kernel, by decide +kernel⟩
theorem sc_Operation_name : FnScope ["self"] ["self"] (defScope s_Operation_name) := ⟨rfl, rfl, rfl, by decide +kernel, rfl, by decide +kernel, by decide +kernel⟩
theorem sc_Operation_ticks : FnScope ["self"] ["self"] (defScope s_Operation_ticks) := ⟨rfl, rfl, rfl, by decide +kernel, rfl, by decide +kernel, by decide +kernel⟩
theorem sc_Operation_reads : FnScope ["self"] ["self"] (defScope s_Operation_reads) := ⟨rfl, rfl, rfl, by decide +kernel, rfl, by decide +kernel, by decide +kernel⟩
theorem sc_Operation_uses : FnScope ["self"] ["self"] (defScope s_Operation_uses) := ⟨rfl, rfl, rfl, by decide +kernel, rfl, by decide +kernel, by decide +kernel⟩
theorem sc_Operation_read_names : FnScope ["self"] ["self"] (defScope s_Operation_read_names) := ⟨rfl, rfl, rfl, by decide +kernel, rfl, by decide +kernel, by decide +kernel⟩
theorem sc_Operation_units : FnScope ["self"] ["self"] (defScope s_Operation_units) := ⟨rfl, rfl, rfl, by decide +kernel, rfl, by decide +kernel, by decide +kernel⟩
theorem sc_Operation_renamed : FnScope ["self", "names", "reads", "old", "new", "name", "_", "distance"] ["self", "names"] (defScope s_Operation_renamed) := ⟨rfl, rfl, rfl, by decide +kernel, rfl, by decide +kernel, by decide +kernel⟩
theorem sc_Operation_with_ticks : FnScope ["self", "ticks"] ["self", "ticks"] (defScope s_Operation_with_ticks) := ⟨rfl, rfl, rfl, by decide +kernel, rfl, by decide +kernel, by decide +kernel⟩
theorem sc_Operation_eq : FnScope ["self", "other"] ["self", "other"] (defScope s_Operation_eq) := ⟨rfl, rfl, rfl, by decide +kernel, rfl, by decide +kernel, by decide +kernel⟩
theorem sc_Operation_str : FnScope ["self"] ["self"] (defScope s_Operation_str) := ⟨rfl, rfl, rfl, by decide +kernel, rfl, by decide +kernel, by decide +kernel⟩
theorem sc_wall : FnScope ["k"] ["k"] (defScope s_wall) := ⟨rfl, rfl, rfl, by decide +kernel, rfl, by decide +kernel, by decide +kernel⟩
theorem sc_is_name : FnScope ["value", "letter"] ["value"] (defScope s_is_name) := ⟨rfl, rfl, rfl, by decide +kernel, rfl, by decide +kernel, by decide +kernel⟩
theorem sc_is_integer : FnScope ["value"] ["value"] (defScope s_is_integer) := ⟨rfl, rfl, rfl, by decide +kernel, rfl, by decide +kernel, by decide +kernel⟩
theorem sc_is_between : FnScope ["value", "low", "high"] ["value", "low", "high"] (defScope s_is_between) := ⟨rfl, rfl, rfl, by decide +kernel, rfl, by decide +kernel, by decide +kernel⟩
theorem sc_ascends : FnScope ["row", "at"] ["row"] (defScope s_ascends) := ⟨rfl, rfl, rfl, by decide +kernel, rfl, by decide +kernel, by decide +kernel⟩
theorem sc_is_pair : FnScope ["value", "highest"] ["value", "highest"] (defScope s_is_pair) := ⟨rfl, rfl, rfl, by decide +kernel, rfl, by decide +kernel, by decide +kernel⟩
theorem sc_is_row_of_pairs : FnScope ["value", "most", "highest", "item"] ["value", "most", "highest"] (defScope s_is_row_of_pairs) := ⟨rfl, rfl, rfl, by decide +kernel, rfl, by decide +kernel, by decide +kernel⟩
theorem sc_told : FnScope ["word", "pairs", "told", "name", "number"] ["word", "pairs"] (defScope s_told) := ⟨rfl, rfl, rfl, by decide +kernel, rfl, by decide +kernel, by decide +kernel⟩
theorem sc_w_reel : FnScope ["script", "at", "cell", "great", "mixed"] ["script", "at"] (defScope s_w_reel) := ⟨rfl, rfl, rfl, by decide +kernel, rfl, by decide +kernel, by decide +kernel⟩
theorem sc_w_spin : FnScope ["reel", "total", "found", "one", "two"] ["reel", "total"] (defScope s_w_spin) := ⟨rfl, rfl, rfl, by decide +kernel, rfl, by decide +kernel, by decide +kernel⟩
theorem sc_w_pick : FnScope ["reel", "items"] ["reel", "items"] (defScope s_w_pick) := ⟨rfl, rfl, rfl, by decide +kernel, rfl, by decide +kernel, by decide +kernel⟩
theorem sc_w_word : FnScope ["call", "error"] ["call"] (defScope s_w_word) := ⟨rfl, rfl, rfl, by decide +kernel, rfl, by decide +kernel, by decide +kernel⟩
theorem sc_w_bad_pairs : FnScope ["reel", "most", "odd", "sign"] ["reel", "most"] (defScope s_w_bad_pairs) := ⟨rfl, rfl, rfl, by decide +kernel, rfl, by decide +kernel, by decide +kernel⟩
theorem sc_w_cell_right : FnScope ["reel", "name", "lots", "row", "other", "turned", "told", "one", "odd", "bad"] ["reel"] (defScope s_w_cell_right) := ⟨rfl, rfl, rfl, by decide +kernel, rfl, by decide +kernel, by decide +kernel⟩
theorem sc_law : FnScope ["script", "at", "four", "three", "told"] ["script"] (defScope s_law) := ⟨rfl, rfl, rfl, by decide +kernel, rfl, by decide +kernel, by decide +kernel⟩
/-- where the defs stand, and what the names hold -/
structure T (K : PySem.W.Frag) (mg : Str → Option Value) where
  f_wall : Addr
  d_wall : FuncData
  F_wall : Fun K "_wall" "_wall" s_wall f_wall d_wall
  m_wall : mg "_wall" = some (.ref f_wall)
  b_wall : Binds K d_wall ["k"] []
  f_is_name : Addr
  d_is_name : FuncData
  F_is_name : Fun K "is_name" "is_name" s_is_name f_is_name d_is_name
  m_is_name : mg "is_name" = some (.ref f_is_name)
  b_is_name : Binds K d_is_name ["value"] []
  f_is_integer : Addr
  d_is_integer : FuncData
  F_is_integer : Fun K "is_integer" "is_integer" s_is_integer f_is_integer d_is_integer
  m_is_integer : mg "is_integer" = some (.ref f_is_integer)
  b_is_integer : Binds K d_is_integer ["value"] []
  f_is_between : Addr
  d_is_between : FuncData
  F_is_between : Fun K "is_between" "is_between" s_is_between f_is_between d_is_between
  m_is_between : mg "is_between" = some (.ref f_is_between)
  b_is_between : Binds K d_is_between ["value", "low", "high"] []
  f_ascends : Addr
  d_ascends : FuncData
  F_ascends : Fun K "ascends" "ascends" s_ascends f_ascends d_ascends
  m_ascends : mg "ascends" = some (.ref f_ascends)
  b_ascends : Binds K d_ascends ["row"] []
  f_is_pair : Addr
  d_is_pair : FuncData
  F_is_pair : Fun K "is_pair" "is_pair" s_is_pair f_is_pair d_is_pair
  m_is_pair : mg "is_pair" = some (.ref f_is_pair)
  b_is_pair : Binds K d_is_pair ["value", "highest"] []
  f_is_row_of_pairs : Addr
  d_is_row_of_pairs : FuncData
  F_is_row_of_pairs : Fun K "is_row_of_pairs" "is_row_of_pairs" s_is_row_of_pairs f_is_row_of_pairs d_is_row_of_pairs
  m_is_row_of_pairs : mg "is_row_of_pairs" = some (.ref f_is_row_of_pairs)
  b_is_row_of_pairs : Binds K d_is_row_of_pairs ["value", "most", "highest"] []
  f_told : Addr
  d_told : FuncData
  F_told : Fun K "_told" "_told" s_told f_told d_told
  m_told : mg "_told" = some (.ref f_told)
  b_told : Binds K d_told ["word", "pairs"] []
  f_w_reel : Addr
  d_w_reel : FuncData
  F_w_reel : Fun K "_law_reel" "_law_reel" s_w_reel f_w_reel d_w_reel
  m_w_reel : mg "_law_reel" = some (.ref f_w_reel)
  b_w_reel : Binds K d_w_reel ["script", "at"] []
  f_w_spin : Addr
  d_w_spin : FuncData
  F_w_spin : Fun K "_law_spin" "_law_spin" s_w_spin f_w_spin d_w_spin
  m_w_spin : mg "_law_spin" = some (.ref f_w_spin)
  b_w_spin : Binds K d_w_spin ["reel", "total"] []
  f_w_pick : Addr
  d_w_pick : FuncData
  F_w_pick : Fun K "_law_pick" "_law_pick" s_w_pick f_w_pick d_w_pick
  m_w_pick : mg "_law_pick" = some (.ref f_w_pick)
  b_w_pick : Binds K d_w_pick ["reel", "items"] []
  f_w_word : Addr
  d_w_word : FuncData
  F_w_word : Fun K "_law_word" "_law_word" s_w_word f_w_word d_w_word
  m_w_word : mg "_law_word" = some (.ref f_w_word)
  b_w_word : Binds K d_w_word ["call"] []
  f_w_bad_pairs : Addr
  d_w_bad_pairs : FuncData
  F_w_bad_pairs : Fun K "_law_bad_pairs" "_law_bad_pairs" s_w_bad_pairs f_w_bad_pairs d_w_bad_pairs
  m_w_bad_pairs : mg "_law_bad_pairs" = some (.ref f_w_bad_pairs)
  b_w_bad_pairs : Binds K d_w_bad_pairs ["reel", "most"] []
  f_w_cell_right : Addr
  d_w_cell_right : FuncData
  F_w_cell_right : Fun K "_law_cell_right" "_law_cell_right" s_w_cell_right f_w_cell_right d_w_cell_right
  m_w_cell_right : mg "_law_cell_right" = some (.ref f_w_cell_right)
  b_w_cell_right : Binds K d_w_cell_right ["reel"] []
  f_law : Addr
  d_law : FuncData
  F_law : Fun K "law" "law" s_law f_law d_law
  m_law : mg "law" = some (.ref f_law)
  b_law : Binds K d_law ["script"] []
  c_MAX_TICKS : ∃ t, mg "MAX_TICKS" = some (.int 4 t)
  c_MAX_LETTERS : ∃ t, mg "MAX_LETTERS" = some (.int 8 t)
  c_MAX_DISTANCE : ∃ t, mg "MAX_DISTANCE" = some (.int 3 t)
  c_MAX_READS : ∃ t, mg "MAX_READS" = some (.int 3 t)
  c_MAX_USES : ∃ t, mg "MAX_USES" = some (.int 4 t)
  c_MAX_OFFSET : ∃ t, mg "MAX_OFFSET" = some (.int 3 t)
  z_int : mg "int" = none
  z_abs : mg "abs" = none
  z_len : mg "len" = none
  z_max : mg "max" = none
  z_min : mg "min" = none
  z_range : mg "range" = none
  z_isinstance : mg "isinstance" = none
  z_repr : mg "repr" = none
  z_str : mg "str" = none
  z_all : mg "all" = none
  z_tuple : mg "tuple" = none
  z_dict : mg "dict" = none
  z_bool : mg "bool" = none
/-- a list of three ints stands at r -/
def Rl (H : Hp) (r : Addr) : Prop := ∃ a b c : Int, H r = some (.lst [.int a, .int b, .int c])
/-- what the heap held, but for what stands at r -/
def Only (r : Addr) (H H' : Hp) : Prop := ∀ b o, b ≠ r → H b = some o → H' b = some o
theorem Only.refl {r : Addr} {H : Hp} : Only r H H := fun _ _ _ e => e
theorem Only.trans {r : Addr} {H H1 H2 : Hp} (a : Only r H H1) (b : Only r H1 H2) : Only r H H2 := fun c o n e => b c o n (a c o n e)
theorem Only.upd {r : Addr} {H : Hp} {o : HO} : Only r H (upd H r o) := fun b _ n e => by rw [upd_ne n]; exact e
theorem Only.new {r p : Addr} {H : Hp} {o : HO} (n : H p = none) : Only r H (L2.upd H p o) := fun b _ _ e => by rw [upd_ne (ne_of_none e n)]; exact e
theorem Rl.new {r p : Addr} {H : Hp} {o : HO} (h : Rl H r) (n : H p = none) : Rl (upd H p o) r := by
  obtain ⟨a, b, c, e⟩ := h
  exact ⟨a, b, c, by rw [upd_ne (ne_of_none e n)]; exact e⟩
theorem Rl.ne {r p : Addr} {H : Hp} (h : Rl H r) (n : H p = none) : p ≠ r := by
  obtain ⟨a, b, c, e⟩ := h
  exact (ne_of_none e n).symm
theorem Only.seqL {K : PySem.W.Frag} {r l : Addr} {H H' : Hp} {xs : List V} (o : Only r H H') (n : l ≠ r) (h : SqL K H l xs) : SqL K H' l xs := by
  rcases h with (h | ⟨u, h⟩) | h
  · exact .inl (.inl (o _ _ n h))
  · exact .inl (.inr ⟨u, o _ _ n h⟩)
  · exact .inr h
theorem Only.seqT {K : PySem.W.Frag} {r l : Addr} {H H' : Hp} {xs : List V} (o : Only r H H') (n : l ≠ r) (h : SqT K H l xs) : SqT K H' l xs := by
  rcases h with (h | ⟨u, h⟩) | h
  · exact .inl (.inl (o _ _ n h))
  · exact .inl (.inr ⟨u, o _ _ n h⟩)
  · exact .inr h
theorem ix_at {α : Type} {xs : List α} {i : Int} (h0 : 0 ≤ i) (h1 : i < xs.length) : ∃ v, v ∈ xs ∧ atI xs i = some v := by
  have h2 : i.toNat < xs.length := by omega
  refine ⟨xs[i.toNat], List.getElem_mem h2, ?_⟩
  have h3 : ((i.toNat : Nat) : Int) = i := Int.toNat_of_nonneg h0
  have := atI_nat (xs := xs) (j := i.toNat) (List.getElem?_eq_getElem h2)
  rw [h3] at this
  exact this
/-- what a draw is made from: a list, a tuple, a text -/
def SeqV (K : PySem.W.Frag) (H : Hp) (r : Addr) (x : V) (xs : List V) : Prop :=
  (∃ l, x = .ref l ∧ l ≠ r ∧ (SqL K H l xs ∨ SqT K H l xs)) ∨ (∃ z : Str, x = .str z ∧ z.length ≤ sizeLine ∧ xs = z.cps.toList.map fun c => V.str ⟨#[c]⟩)
theorem lg {i : Int} {b : Nat} (h0 : 0 ≤ i) (h : i < 2 ^ b) (hb : 0 < b) : i.natAbs.log2 < b := by
  refine PySem.Flt.log2_lt_of hb ?_
  have : (i.natAbs : Int) = i := Int.natAbs_of_nonneg h0
  have h2 : ((i.natAbs : Nat) : Int) < ((2 ^ b : Nat) : Int) := by rw [this, Int.natCast_pow]; exact h
  exact Int.ofNat_lt.mp h2
section
variable {X : Cx}
theorem op_powW : OpR X (binaryOp .Pow) (rI (fun i j => 0 ≤ j ∧ (Builtin.Int.intBits i : Int) * j ≤ 2 ^ 27) fun i j => .int (i ^ j.toNat)) := opI fun _ _ _ _ _ _ _ hc q => PyProof.Rows.pow_int hc.1 hc.2 q
end
theorem ite_join {c : Bool} {ta tb : TE} {σ : St} {H : Hp} {Q : VK} (R : V → Hp → Prop) (ha : c = true → ∀ Q' : VK, (∀ v H', R v H' → Q' v H') → ta σ H Q') (hb : c = false → ∀ Q' : VK, (∀ v H', R v H' → Q' v H') → tb σ H Q')
    (h : ∀ v H', R v H' → Q v H') : if c = true then ta σ H Q else tb σ H Q := by
  cases c with
  | true => exact iteT (ha rfl Q h)
  | false => exact iteF (hb rfl Q h)
theorem at_ns {ns : List Int} {i : Nat} (h : i < ns.length) : ∃ z, atI (ns.map V.int) (i : Int) = some (.int z) :=
  ⟨ns[i], atI_nat (by rw [List.getElem?_map, List.getElem?_eq_getElem h]; rfl)⟩
theorem bl_t {Q : VK} {b : Bool} {H : Hp} (e : b = true) (k : Q (.bl true) H) : Q (.bl b) H := e ▸ k
theorem int_to {Q : VK} {i j : Int} {H : Hp} (e : i = j) (k : Q (.int j) H) : Q (.int i) H := e ▸ k
theorem if_ne {x y : V} {A B : Prop} (h : x ≠ y) (a : A) : if (!decide (x = y)) = true then A else B := by
  rw [decide_eq_false h]
  exact iteT a
theorem if_dec_t {x y : V} {A B : Prop} (h : x = y) (a : A) : if decide (x = y) = true then A else B := by
  rw [decide_eq_true h]
  exact iteT a
theorem if_dec_f {x y : V} {A B : Prop} (h : x ≠ y) (b : B) : if decide (x = y) = true then A else B := by
  rw [decide_eq_false h]
  exact iteF b
theorem dp_all {K : PySem.W.Frag} {H : Hp} : ∀ ns : List Int, DpAll K H (ns.map V.int) (ns.map PyData.int)
  | [] => .nil
  | n :: r => .cons (.int n) (dp_all r)
theorem dp_ints {K : PySem.W.Frag} {H : Hp} {a : Addr} (ns : List Int) (h : SqL K H a (ns.map V.int)) : Dp K H (.ref a) (.list (ns.map PyData.int)) := .lst h (dp_all ns)
theorem cells_n (n m : Nat) : ((if (if ((n : Nat) : Int) < (m : Int) then ((n : Nat) : Int) else (m : Int)) > 1 then (if ((n : Nat) : Int) < (m : Int) then ((n : Nat) : Int) else (m : Int)) else 1) : Int) ≤ (m : Int) + 1 ∧ 1 ≤ ((if (if ((n : Nat) : Int) < (m : Int) then ((n : Nat) : Int) else (m : Int)) > 1 then (if ((n : Nat) : Int) < (m : Int) then ((n : Nat) : Int) else (m : Int)) else 1) : Int) := by
  split <;> split <;> omega
def nmC (z : Str) : Bool := decide (1 ≤ z.length ∧ z.length ≤ 8) && z.cps.toList.all fun c => decide (97 ≤ c) && decide (c ≤ 122)
def nmD : PyData → Bool
  | .str z => nmC z
  | _ => false
def inD (lo hi : Int) : PyData → Bool
  | .int n => (decide (-1000000000000 < n) && decide (n < 1000000000000)) && (decide (lo ≤ n) && decide (n ≤ hi))
  | _ => false
def isInD : PyData → Bool
  | .int n => decide (-1000000000000 < n) && decide (n < 1000000000000)
  | _ => false
def prD (hi : Int) : PyData → Bool
  | .tuple [a, b] => nmD a && inD 0 hi b
  | _ => false
def rwD (most : Nat) (hi : Int) : PyData → Bool
  | .tuple ds => decide (ds.length ≤ most) && ds.all (prD hi)
  | _ => false
/-- every text in it is short -/
def okD (d : PyData) : Prop := d.weight ≤ 1000000
/-- a value that is the datum d, or a dict -/
def DD (K : PySem.W.Frag) (H : Hp) (x : V) (d : PyData) : Prop := Dp K H x d ∨ ∃ a kvs, x = .ref a ∧ H a = some (.dK kvs) ∧ d = .dict []
theorem Same.seqT {K : PySem.W.Frag} {H H' : Hp} {a : Addr} {xs : List V} (e : Same H H') (h : SqT K H a xs) : SqT K H' a xs := by
  rcases h with (h | ⟨o, h⟩) | h
  · exact .inl (.inl (e _ _ h))
  · exact .inl (.inr ⟨o, e _ _ h⟩)
  · exact .inr h
mutual
theorem dp_same {K : PySem.W.Frag} {H H' : Hp} (s : Same H H') : ∀ (d : PyData) (x : V), Dp K H x d → Dp K H' x d
  | .none, _, h => by cases h; exact .non
  | .bool b, _, h => by cases h; exact .bl b
  | .int i, _, h => by cases h; exact .int i
  | .str z, _, h => by cases h; exact .str z
  | .list ds, _, h => by
    cases h with
    | lst h1 h2 => exact .lst (Same.seq s h1) (dpa_same s ds _ h2)
  | .tuple ds, _, h => by
    cases h with
    | tup h1 h2 => exact .tup (Same.seqT s h1) (dpa_same s ds _ h2)
  | .dict _, _, h => by cases h
theorem dpa_same {K : PySem.W.Frag} {H H' : Hp} (s : Same H H') : ∀ (ds : List PyData) (xs : List V), DpAll K H xs ds → DpAll K H' xs ds
  | [], _, h => by cases h; exact .nil
  | d :: ds, _, h => by
    cases h with
    | cons h1 h2 => exact .cons (dp_same s d _ h1) (dpa_same s ds _ h2)
end
theorem DD.same {K : PySem.W.Frag} {H H' : Hp} {x : V} {d : PyData} (s : Same H H') (h : DD K H x d) : DD K H' x d := by
  rcases h with h | ⟨a, kvs, e1, e2, e3⟩
  · exact .inl (dp_same s d x h)
  · exact .inr ⟨a, kvs, e1, s _ _ e2, e3⟩
theorem dpa_len {K : PySem.W.Frag} {H : Hp} : ∀ {ds : List PyData} {xs : List V}, DpAll K H xs ds → ds.length = xs.length
  | [], _, h => by cases h; rfl
  | d :: ds, _, h => by
    cases h with
    | cons h1 h2 => rw [List.length_cons, List.length_cons, dpa_len h2]
theorem dpa_get {K : PySem.W.Frag} {H : Hp} : ∀ {ds : List PyData} {xs : List V} {i : Nat} {x : V}, DpAll K H xs ds → xs[i]? = some x → ∃ d, ds[i]? = some d ∧ Dp K H x d
  | [], _, i, x, h, e => by cases h; simp at e
  | d :: ds, _, 0, x, h, e => by
    cases h with
    | cons h1 h2 =>
      obtain rfl := Option.some.inj e
      exact ⟨d, rfl, h1⟩
  | d :: ds, _, i + 1, x, h, e => by
    cases h with
    | cons h1 h2 => exact dpa_get (i := i) h2 e
def tyD : PyData → String
  | .none => "NoneType" | .bool _ => "bool" | .int _ => "int" | .str _ => "str" | .list _ => "list" | .tuple _ => "tuple" | .dict _ => "dict"
theorem DD.ty {K : PySem.W.Frag} {H : Hp} {x : V} {d : PyData} (h : DD K H x d) : TyX K H x (.type (tyD d)) := by
  rcases h with h | ⟨a, kvs, rfl, e, rfl⟩
  · cases h with
    | non => exact .base .non
    | bl b => exact .base (.bl b)
    | int i => exact .base (.int i)
    | str z => exact .base (.str z)
    | lst h1 h2 =>
      rcases h1 with (h | ⟨o, h⟩) | ⟨o, its, n, e1, e2, _⟩
      · exact .base (.lst h)
      · exact .base (.frz h)
      · exact .kList e1 e2
    | tup h1 h2 =>
      rcases h1 with (h | ⟨o, h⟩) | ⟨o, its, n, e1, e2, _⟩
      · exact .base (.tup h)
      · exact .fTuple h
      · exact .kTuple e1 e2
  · exact .base (.dK e)
theorem weight_mem : ∀ {ds : List PyData} {d : PyData}, d ∈ ds → d.weight ≤ PyData.weightAll ds
  | a :: r, d, h => by
    rw [PyData.weightAll]
    rcases List.mem_cons.mp h with rfl | h
    · omega
    · have := weight_mem h
      omega
theorem okD_tup {ds : List PyData} (h : okD (.tuple ds)) {d : PyData} (hd : d ∈ ds) : okD d := by
  have h1 := weight_mem hd
  have h2 : PyData.weightAll ds ≤ 1000000 := by
    have h3 : (PyData.tuple ds).weight ≤ 1000000 := h
    rw [PyData.weight] at h3
    exact h3
  exact Nat.le_trans h1 h2
theorem okD_str {z : Str} (h : okD (.str z)) : z.length ≤ 1000000 := by
  have h3 : (PyData.str z).weight ≤ 1000000 := h
  rw [PyData.weight] at h3
  exact h3
theorem bl_to {Q : VK} {b c : Bool} {H : Hp} (e : b = c) (k : Q (.bl c) H) : Q (.bl b) H := e ▸ k
theorem Same.rl {H H' : Hp} {r : Addr} (s : Same H H') (h : Rl H r) : Rl H' r := by
  obtain ⟨a, b, c, e⟩ := h
  exact ⟨a, b, c, s _ _ e⟩
theorem Same.only {H H' : Hp} {r : Addr} (s : Same H H') : Only r H H' := fun b o _ e => s b o e
theorem Same.new {H : Hp} {p : Addr} {o : HO} (n : H p = none) : Same H (upd H p o) := fun b u e => by rw [upd_ne (ne_of_none e n)]; exact e
theorem Same.at {H0 H : Hp} {D : Addr} {o : HO} (n : H0 D = none) (s : Same H0 H) : Same H0 (upd H D o) := fun b u e => by rw [upd_ne (ne_of_none e n)]; exact s b u e
theorem lt_sign (c d : Nat) : (([c] : List Nat) < [d]) ↔ c < d := by
  constructor
  · intro h
    rcases List.cons_lt_cons_iff.mp h with h | ⟨_, h⟩
    · exact h
    · exact absurd h (by simp)
  · intro h
    exact List.cons_lt_cons_iff.mpr (.inl h)
theorem tk_succ {z : Str} {i c : Nat} (h : z.cps[i]? = some c) : z.cps.toList.take (i + 1) = z.cps.toList.take i ++ [c] := by
  have h2 : z.cps.toList[i]? = some c := by rw [Array.getElem?_toList]; exact h
  rw [List.take_add_one, h2]
  rfl
theorem tk_all (z : Str) : z.cps.toList.take z.cps.size = z.cps.toList := List.take_of_length_le (by rw [Array.length_toList]; exact Nat.le_refl _)
theorem not_str {d : PyData} (h : ∀ z, d ≠ .str z) : kitB (tyD d) "str" = some false ∧ nmD d = false := by
  cases d with
  | str z => exact absurd rfl (h z)
  | _ => exact ⟨by simp only [tyD]; decide +kernel, rfl⟩
theorem not_int {d : PyData} (h1 : ∀ n, d ≠ .int n) (h2 : ∀ b, d ≠ .bool b) : kitB (tyD d) "int" = some false ∧ isInD d = false := by
  cases d with
  | int n => exact absurd rfl (h1 n)
  | bool b => exact absurd rfl (h2 b)
  | _ => exact ⟨by simp only [tyD]; decide +kernel, rfl⟩
theorem not_tup {d : PyData} (h : ∀ ds, d ≠ .tuple ds) : kitB (tyD d) "tuple" = some false := by
  cases d with
  | tuple z => exact absurd rfl (h z)
  | _ => simp only [tyD]; decide +kernel
/-- its items ascend -/
def ascD (ds : List PyData) : Bool := (List.range (ds.length - 1)).all fun i => PySem.W.dataLt (ds.getD i .none) (ds.getD (i + 1) .none)
theorem depth_in {hi : Int} {d : PyData} (h : prD hi d = true) : ∃ z n, d = .tuple [.str z, .int n] := by
  unfold prD at h
  split at h
  · rename_i a b
    have h1 := (Bool.and_eq_true_iff.mp h).1
    have h2 := (Bool.and_eq_true_iff.mp h).2
    cases a with
    | str z =>
      cases b with
      | int n => exact ⟨z, n, rfl⟩
      | _ => cases h2
    | _ => cases h1
  · cases h
section
variable {X : Cx}
def rLtD (K : PySem.W.Frag) : R2 := fun x y H Q => ∃ d e, Dp K H x d ∧ Dp K H y e ∧ PySem.W.alike d e = true ∧ d ≠ .none ∧ d.depth ≤ 60 ∧ Q (.bl (PySem.W.dataLt d e)) H
theorem op_ltD (hu : X.A.units + 64 < cLine) : OpR X (compareOp .Lt) (rLtD X.K) := by
  intro pins s σ H x y v u Q I rx ry h
  obtain ⟨d, e, h1, h2, h3, h4, h5, q⟩ := h
  obtain ⟨as, r1⟩ := Dp.reads I d x v h1 rx
  obtain ⟨bs, r2⟩ := Dp.reads I e y u h2 ry
  exact PySem.W.lt_data r1 r2 h3 h4 (by have := Nat.min_le_left d.depth e.depth; omega) ⟨.bl _, H, I, rfl, q⟩
end

section
variable {P : Program} {w : World} {K : PySem.W.Frag} {mg : Str → Option Value} {base : Heap}
def sp_w_reel (K : PySem.W.Frag) : Sp := fun vs H Q _ => ∃ (s : Addr) (ns : List Int) (i : Nat), vs = [.ref s, .int (i : Int)] ∧ SqL K H s (ns.map V.int) ∧ ∀ p a b c, H p = none → Q (.ref p) (upd H p (.lst [.int a, .int b, .int c]))
theorem ok_w_reel (T : T K mg) : FnOk P w K mg base CX0 1 T.f_w_reel T.d_w_reel ["script", "at"] (sp_w_reel K) := by
  refine T.F_w_reel.ok sc_w_reel (fun vs H Q E h => ?_) (fun cdv A outer s H vs Q E hr h => ?_)
  · obtain ⟨s, ns, i, rfl, _⟩ := h
    rfl
  · obtain ⟨s, ns, i, rfl, hS, k⟩ := h
    have hu := hu_of hr
    refine ⟨_, (pss_cons (ps_set (i := 2) sc_w_reel.nd rfl (Or.inl rfl) (pe_ifExp (pt_cmpR op_lt (pv 1) (pe_callB call_len (by rfl) T.z_len (by decide +kernel) (pa_cons (pv 0) pa_nil)) (nomark _)) (pe_ix ix_seq (pv 0) (pv 1) (fun _ _ => rfl)) (pe_op op_add (pe_op op_mul pe_int (pv 1)) pe_int)))
      (pss_cons (ps_set (i := 3) sc_w_reel.nd rfl (Or.inl rfl) (pe_op op_mod (pe_callTy call_int1 (by rfl) T.z_int (by decide +kernel) (pa_cons (pe_callB call_abs (by rfl) T.z_abs (by decide +kernel) (pa_cons (pv 2) pa_nil)) pa_nil)) (pe_op op_powW (pe_op op_pow pe_int pe_int) pe_int)))
      (pss_cons (ps_set (i := 4) sc_w_reel.nd rfl (Or.inl rfl) (pe_op op_add (pe_op op_add (pe_op op_add (pe_op op_mul (pe_op op_mod (pe_callTy call_int1 (by rfl) T.z_int (by decide +kernel) (pa_cons (pv 3) pa_nil)) pe_int) pe_int) (pe_op op_mul pe_int (pv 1))) (pe_op op_mul pe_int (pe_callTy call_int1 (by rfl) T.z_int (by decide +kernel) (pa_cons (pe_cmpR op_lt (pv 2) pe_int (nomark _)) pa_nil)))) pe_int))
      (pss_one (ps_ret (pe_lst (pa_cons (pe_callB (call_max2 rfl) (by rfl) T.z_max (by decide +kernel) (pa_cons pe_int (pa_cons (pe_op op_sub (pv 3) (pe_op op_pow pe_int pe_int)) pa_nil))) (pa_cons (pe_op op_mod (pe_callTy call_int1 (by rfl) T.z_int (by decide +kernel) (pa_cons (pv 4) pa_nil)) pe_int) (pa_cons pe_int pa_nil))))))))), ?_⟩
    refine ⟨_, rfl, _, rfl, _, _, rfl, .inl ⟨_, hS, rfl⟩, _, _, rfl, rfl, _, rfl, ?_⟩
    refine ite_join (fun v H' => H' = H ∧ ∃ z, v = .int z) (fun c Q' q => ?_) (fun c Q' q => ?_) ?_
    · have hi := of_decide_eq_true c
      rw [List.length_map] at hi
      obtain ⟨z, hz⟩ := at_ns (ns := ns) (i := i) (by omega)
      exact ⟨_, rfl, _, rfl, .inl ⟨_, _, _, _, rfl, rfl, hS, hz, q _ _ ⟨rfl, z, rfl⟩⟩⟩
    · exact ⟨_, rfl, _, _, rfl, rfl, .inl ⟨by decide, by decide⟩, _, _, rfl, rfl, q _ _ ⟨rfl, _, rfl⟩⟩
    rintro v H' ⟨rfl, z, rfl⟩
    refine ⟨_, rfl, _, rfl, .inl ⟨_, rfl, ?_⟩⟩
    refine ⟨_, _, rfl, rfl, ⟨by decide, by decide, by decide⟩, _, _, rfl, rfl, ⟨by decide, by decide +kernel⟩, _, _, rfl, rfl, (by show (0 : Int) < _; decide +kernel), ?_⟩
    refine ⟨_, rfl, .inl ⟨_, rfl, ?_⟩⟩
    refine ⟨_, _, rfl, rfl, (by show (0 : Int) < _; decide), _, _, rfl, rfl, .inr ⟨by decide, by decide⟩, _, rfl, _, _, rfl, rfl, .inl ⟨by decide, by decide⟩, _, _, rfl, rfl, ?_⟩
    refine ⟨_, rfl, _, _, rfl, rfl, .inr ⟨_, rfl, ?_⟩⟩
    refine ⟨_, _, rfl, rfl, .inl ⟨by decide, by decide⟩, _, _, rfl, rfl, _, _, rfl, rfl, ?_⟩
    refine ⟨_, rfl, _, _, rfl, rfl, ⟨by decide, by decide, by decide⟩, _, _, rfl, rfl, _, _, rfl, _, rfl, .inl ⟨_, rfl, ?_⟩⟩
    refine ⟨_, _, rfl, rfl, (by show (0 : Int) < _; decide), (by show 3 ≤ sizeLine; decide), fun p hp => ?_⟩
    exact k p _ _ _ hp
def sp_w_spin (K : PySem.W.Frag) : Sp := fun vs H Q _ => ∃ (r : Addr) (n : Int), vs = [.ref r, .int n] ∧ Rl H r ∧ 0 < n ∧ n.natAbs.log2 < 9000 ∧ ∀ v H', 0 ≤ v → v < n → Rl H' r → Only r H H' → Q (.int v) H'
theorem ok_w_spin (T : T K mg) : FnOk P w K mg base CX0 1 T.f_w_spin T.d_w_spin ["reel", "total"] (sp_w_spin K) := by
  refine T.F_w_spin.ok sc_w_spin (fun vs H Q E h => ?_) (fun cdv A outer s H vs Q E hr h => ?_)
  · obtain ⟨r, n, rfl, _⟩ := h
    rfl
  · obtain ⟨r, n, rfl, ⟨a, b, c, e⟩, h0, h9, k⟩ := h
    have hu := hu_of hr
    refine ⟨_, (pss_cons (ps_if (pt_cmpR op_gt (pe_ix ix_seq (pv 0) pe_int (fun _ _ => rfl)) pe_int (nomark _))
      (pss_cons (ps_set (i := 2) sc_w_spin.nd rfl (Or.inl rfl) (pe_op op_mod (pe_callTy call_int1 (by rfl) T.z_int (by decide +kernel) (pa_cons (pe_ix ix_seq (pv 0) pe_int (fun _ _ => rfl)) pa_nil)) (pv 1)))
      (pss_cons (ps_asg (pe_op op_fdivW (pe_ix ix_seq (pv 0) pe_int (fun _ _ => rfl)) (pv 1)) (pg_sub (pv 0) pe_int set_list))
      (pss_one (ps_ret (pv 2)))))
      pss_nil)
      (pss_cons (ps_asg (pe_op op_add (pe_ix ix_seq (pv 0) pe_int (fun _ _ => rfl)) pe_int) (pg_sub (pv 0) pe_int set_list))
      (pss_cons (ps_set (i := 3) sc_w_spin.nd rfl (Or.inl rfl) (pe_op op_mod (pe_callTy call_int1 (by rfl) T.z_int (by decide +kernel) (pa_cons (pe_op op_add (pe_ix ix_seq (pv 0) pe_int (fun _ _ => rfl)) (pe_op op_mul pe_int (pe_ix ix_seq (pv 0) pe_int (fun _ _ => rfl)))) pa_nil)) pe_int))
      (pss_cons (ps_set (i := 4) sc_w_spin.nd rfl (Or.inl rfl) (pe_op op_add (pe_op op_mul (pe_op op_mod (pe_callTy call_int1 (by rfl) T.z_int (by decide +kernel) (pa_cons (pe_op op_mul (pv 3) (pv 3)) pa_nil)) pe_int) (pv 3)) (pe_op op_mul pe_int (pe_ix ix_seq (pv 0) pe_int (fun _ _ => rfl)))))
      (pss_cons (ps_set (i := 4) sc_w_spin.nd rfl (Or.inl rfl) (pe_op op_mod (pe_callTy call_int1 (by rfl) T.z_int (by decide +kernel) (pa_cons (pv 4) pa_nil)) pe_int))
      (pss_one (ps_ret (pe_op op_mod (pe_callTy call_int1 (by rfl) T.z_int (by decide +kernel) (pa_cons (pe_op op_fdivW (pv 4) pe_int) pa_nil)) (pv 1))))))))), ?_⟩
    have u3 : ∀ {x y z : V} {G : Hp}, G r = some (.lst [x, y, z]) → SqL K G r [x, y, z] := fun g => SqL.of g
    refine ⟨_, rfl, .inl ⟨_, _, _, _, rfl, rfl, u3 e, rfl, ?_⟩⟩
    refine ⟨_, _, rfl, rfl, _, rfl, ?_⟩
    refine ite2 (fun c1 => ?_) (fun c1 => ?_)
    · refine ⟨_, rfl, .inl ⟨_, _, _, _, rfl, rfl, u3 e, rfl, .inl ⟨_, rfl, ?_⟩⟩⟩
      refine ⟨_, rfl, _, _, rfl, rfl, h0, ?_⟩
      refine ⟨_, rfl, .inl ⟨_, _, _, _, rfl, rfl, u3 e, rfl, ?_⟩⟩
      refine ⟨_, rfl, _, _, rfl, rfl, ⟨h0, h9⟩, _, rfl, _, _, _, 0, rfl, rfl, e, rfl, ?_⟩
      refine ⟨_, rfl, ?_⟩
      exact k _ _ (Int.emod_nonneg _ (by omega)) (Int.emod_lt_of_pos _ h0) ⟨_, _, _, upd_same⟩ Only.upd
    · refine ⟨_, rfl, .inl ⟨_, _, _, _, rfl, rfl, u3 e, rfl, ?_⟩⟩
      refine ⟨_, _, rfl, rfl, _, rfl, _, _, _, 2, rfl, rfl, e, rfl, ?_⟩
      have e2 : (upd H r (.lst [.int a, .int b, .int (c + 1)])) r = some (.lst [.int a, .int b, .int (c + 1)]) := upd_same
      refine ⟨_, rfl, .inl ⟨_, _, _, _, rfl, rfl, u3 e2, rfl, ?_⟩⟩
      refine ⟨_, rfl, .inl ⟨_, _, _, _, rfl, rfl, u3 e2, rfl, ?_⟩⟩
      refine ⟨_, _, rfl, rfl, .inl ⟨by decide, by decide⟩, _, _, rfl, rfl, .inl ⟨_, rfl, ?_⟩⟩
      refine ⟨_, _, rfl, rfl, (by show (0 : Int) < _; decide), ?_⟩
      have o1 : -(2 ^ 64) < (b + 1000303 * (c + 1)) % 2305843009213693951 ∧ (b + 1000303 * (c + 1)) % 2305843009213693951 < 2 ^ 64 := by omega
      refine ⟨_, rfl, _, rfl, _, _, rfl, rfl, .inl o1, .inl ⟨_, rfl, ?_⟩⟩
      refine ⟨_, _, rfl, rfl, (by show (0 : Int) < _; decide), _, rfl, _, _, rfl, rfl, .inr o1, ?_⟩
      refine ⟨_, rfl, .inl ⟨_, _, _, _, rfl, rfl, u3 e2, rfl, ?_⟩⟩
      refine ⟨_, _, rfl, rfl, .inl ⟨by decide, by decide⟩, _, _, rfl, rfl, ?_⟩
      refine ⟨_, rfl, .inl ⟨_, rfl, ?_⟩⟩
      refine ⟨_, _, rfl, rfl, (by show (0 : Int) < _; decide), ?_⟩
      refine ⟨_, rfl, _, _, rfl, rfl, ⟨by decide, by decide⟩, .inl ⟨_, rfl, ?_⟩⟩
      refine ⟨_, rfl, _, _, rfl, rfl, h0, ?_⟩
      exact k _ _ (Int.emod_nonneg _ (by omega)) (Int.emod_lt_of_pos _ h0) ⟨_, _, _, e2⟩ Only.upd
def sp_w_pick (K : PySem.W.Frag) : Sp := fun vs H Q _ => ∃ (r : Addr) (x : V) (xs : List V), vs = [.ref r, x] ∧ Rl H r ∧ SeqV K H r x xs ∧ 0 < xs.length ∧ xs.length ≤ sizeLine ∧ ∀ v H', v ∈ xs → Rl H' r → Only r H H' → Q v H'
theorem ok_w_pick (T : T K mg) : FnOk P w K mg base CX0 2 T.f_w_pick T.d_w_pick ["reel", "items"] (sp_w_pick K) := by
  have G_w_spin : FnOk P w K mg base CX0 1 T.f_w_spin T.d_w_spin ["reel", "total"] (sp_w_spin K) := ok_w_spin T
  refine T.F_w_pick.ok sc_w_pick (fun vs H Q E h => ?_) (fun cdv A outer s H vs Q E hr h => ?_)
  · obtain ⟨r, x, xs, rfl, _⟩ := h
    rfl
  · obtain ⟨r, x, xs, rfl, hR, hx, h0, h1, k⟩ := h
    have hu := hu_of hr
    have hr_w_spin : Room 1 _ := hr.mono (by decide)
    refine ⟨_, (pss_one (ps_ret (pe_ix ix_seq (pv 1) (pe_call G_w_spin hr_w_spin rfl T.m_w_spin T.F_w_spin.kp T.b_w_spin .nil pass0 (pa_cons (pv 0) (pa_cons (pe_callB call_len (by rfl) T.z_len (by decide +kernel) (pa_cons (pv 1) pa_nil)) pa_nil))) (fun _ _ => rfl)))), ?_⟩
    have hl : (xs.length : Int).natAbs.log2 < 9000 := by
      have : xs.length < 2 ^ 63 := Nat.lt_of_le_of_lt h1 (by decide)
      exact Nat.lt_trans (lg (b := 63) (by omega) (by omega) (by decide)) (by decide)
    refine ⟨_, rfl, _, rfl, _, rfl, x, xs.length, rfl, ?_, ?_⟩
    · rcases hx with ⟨l, rfl, hn, h | h⟩ | ⟨z, rfl, hz, rfl⟩
      · exact .inl ⟨_, h, rfl⟩
      · exact .inr ⟨_, h, rfl⟩
      · exact ⟨hz, by rw [List.length_map]; rfl⟩
    refine ⟨r, _, rfl, hR, by omega, hl, fun v H' v0 v1 R' O' => ?_⟩
    obtain ⟨y, hy, ha⟩ := ix_at v0 v1
    rcases hx with ⟨l, rfl, hn, h | h⟩ | ⟨z, rfl, hz, rfl⟩
    · exact .inl ⟨_, _, _, _, rfl, rfl, O'.seqL hn h, ha, k _ _ hy R' O'⟩
    · exact .inr (.inl ⟨_, _, _, _, rfl, rfl, O'.seqT hn h, ha, k _ _ hy R' O'⟩)
    · obtain ⟨i, hi⟩ : ∃ c, atI z.cps.toList v = some c := by
        unfold atI at ha ⊢
        rw [List.length_map] at ha
        cases e : ixN z.cps.toList.length v with
        | none => rw [e] at ha; cases ha
        | some j =>
          rw [e] at ha
          simp only [Option.bind_some] at ha ⊢
          rw [List.getElem?_map] at ha
          cases e2 : z.cps.toList[j]? with
          | none => rw [e2] at ha; cases ha
          | some c => exact ⟨c, rfl⟩
      have hc : i ∈ z.cps.toList := by
        unfold atI at hi
        cases e : ixN z.cps.toList.length v with
        | none => rw [e] at hi; cases hi
        | some j => rw [e] at hi; exact List.mem_of_getElem? hi
      exact .inr (.inr ⟨_, _, _, rfl, rfl, hz, hi, k _ _ (List.mem_map.mpr ⟨i, hc, rfl⟩) R' O'⟩)
def sp_is_name (K : PySem.W.Frag) : Sp := fun vs H Q _ => ∃ (x : V) (d : PyData), vs = [x] ∧ DD K H x d ∧ okD d ∧ ∀ H', Same H H' → Q (.bl (nmD d)) H'
theorem ok_is_name (T : T K mg) : FnOk P w K mg base CX0 1 T.f_is_name T.d_is_name ["value"] (sp_is_name K) := by
  refine T.F_is_name.ok sc_is_name (fun vs H Q E h => ?_) (fun cdv A outer s H vs Q E hr h => ?_)
  · obtain ⟨x, d, rfl, _⟩ := h
    rfl
  · obtain ⟨x, d, rfl, hx, hw, k⟩ := h
    have hu := hu_of hr
    obtain ⟨_, c_MAX_LETTERS⟩ := T.c_MAX_LETTERS
    refine ⟨_, (pss_cons (ps_if (PW.pt (pw_or (pt_not (pt_val (pe_callB call_isi (by rfl) T.z_isinstance (by decide +kernel) (pa_cons (pv 0) (pa_cons (pe_bltn (v := V.ty "str") (u := Value.type "str") (by rfl) T.z_str (by decide +kernel) rfl) pa_nil))))) (pw_or1 (pt_not (pt_chain op_le op_le pe_int (pe_callB call_len (by rfl) T.z_len (by decide +kernel) (pa_cons (pv 0) pa_nil)) (pe_glob (v := V.int 8) rfl c_MAX_LETTERS ⟨_, rfl⟩))))))
      (pss_one (ps_ret pe_bl))
      pss_nil)
      (pss_one (ps_ret (pe_callB (cr_all rfl) (by rfl) T.z_all (by decide +kernel) (pa_cons (pe_lc (own := [("letter", 1)]) (g := gName 1) rfl sc_is_name.nd (pi_str (pv 0)) (blkOk_by (N := ["value", "letter"]) (sc := defScope s_is_name) (by decide +kernel)) (fun _ _ _ _ _ => (pg_name (i := 1) sc_is_name.nd rfl (Or.inl rfl))) (fun _ _ _ _ _ => pts_nil) (fun _ _ _ _ _ => (pe_chain op_le_str op_le_str pe_str (pv 1) pe_str))) pa_nil))))), ?_⟩
    by_cases hs : ∃ z, d = .str z
    · obtain ⟨z, rfl⟩ := hs
      have hz := okD_str hw
      obtain rfl : x = .str z := by
        rcases hx with h | ⟨_, _, _, _, h⟩
        · cases h
          rfl
        · cases h
      refine ⟨_, rfl, _, _, _, _, true, rfl, .ty _, .base (.str _), kit_ty (by decide +kernel), _, rfl, iteF ?_⟩
      refine ⟨_, rfl, _, _, rfl, ⟨Nat.le_trans hz (by decide), rfl⟩, _, _, rfl, rfl, _, rfl, ?_⟩
      refine ite2 (fun c1 => ?_) (fun c1 => ?_)
      · have h1 := of_decide_eq_true c1
        refine ⟨_, _, rfl, rfl, _, rfl, ?_⟩
        by_cases h2 : (z.length : Int) ≤ 8
        · rw [decide_eq_true h2]
          refine iteF ?_
          refine ⟨_, rfl, _, rfl, fun D hD => ?_⟩
          refine lc_it walk_str (fun i H' => H' D = some (.lst (((z.cps.toList.take i).map fun c => decide (97 ≤ c) && decide (c ≤ 122)).map V.bl)) ∧ Same H H') ⟨upd_same, Same.new hD⟩ (fun _ _ _ _ => trivial) ?_ ?_
          · rintro i y H1 H2 hi ⟨eD, S⟩ ⟨rfl, c, hc, rfl⟩
            refine ⟨rfl, ?_⟩
            unfold tYes
            dsimp only
            rw [if_pos rfl]
            refine ⟨_, rfl, _, _, rfl, rfl, _, rfl, ?_⟩
            have done : ∀ b : Bool, b = (decide (97 ≤ c) && decide (c ≤ 122)) → ∃ acc, H2 D = some (.lst acc) ∧ acc.length < sizeLine ∧ (upd H2 D (.lst (acc ++ [V.bl b]))) D = some (.lst (((z.cps.toList.take (i + 1)).map fun c => decide (97 ≤ c) && decide (c ≤ 122)).map V.bl)) ∧ Same H (upd H2 D (.lst (acc ++ [V.bl b]))) := by
              rintro b rfl
              refine ⟨_, eD, ?_, ?_, Same.at hD S⟩
              · rw [List.length_map, List.length_map, List.length_take]
                have : z.cps.toList.length = z.length := by simp [Str.length]
                exact Nat.lt_of_le_of_lt (Nat.le_trans (Nat.min_le_right _ _) (by omega : z.cps.toList.length ≤ 100)) (by decide)
              · rw [upd_same, tk_succ hc, List.map_append, List.map_append]
                rfl
            refine ite2 (fun c2 => ?_) (fun c2 => ?_)
            · have h3 : 97 ≤ c := by
                rw [Bool.not_eq_true', decide_eq_false_iff_not] at c2
                have c3 : ¬ (([c] : List Nat) < [97]) := c2
                rw [lt_sign] at c3
                omega
              refine ⟨_, _, rfl, rfl, done _ ?_⟩
              rw [decide_eq_true h3, Bool.true_and]
              by_cases h4 : c ≤ 122
              · rw [decide_eq_true h4]
                show (!decide (([122] : List Nat) < [c])) = true
                rw [decide_eq_false (by rw [lt_sign]; omega)]
                rfl
              · rw [decide_eq_false h4]
                show (!decide (([122] : List Nat) < [c])) = false
                rw [decide_eq_true (by rw [lt_sign]; omega)]
                rfl
            · have h3 : ¬ 97 ≤ c := by
                rw [Bool.not_eq_true', decide_eq_false_iff_not] at c2
                have c3 := Classical.not_not.mp c2
                have c4 : ([c] : List Nat) < [97] := c3
                rw [lt_sign] at c4
                omega
              refine done _ ?_
              rw [decide_eq_false h3, Bool.false_and]
          · rintro H9 ⟨eD, S⟩
            refine ⟨_, _, rfl, SqL.of eD, ?_⟩
            refine bl_to ?_ (k _ S)
            rw [tk_all]
            show _ = (decide (1 ≤ z.length ∧ z.length ≤ 8) && _)
            rw [decide_eq_true (show 1 ≤ z.length ∧ z.length ≤ 8 by omega), Bool.true_and, List.all_map]
            rfl
        · rw [decide_eq_false h2]
          refine iteT ?_
          refine bl_to ?_ (k _ (Same.refl _))
          show false = (decide (1 ≤ z.length ∧ z.length ≤ 8) && _)
          rw [decide_eq_false (show ¬ (1 ≤ z.length ∧ z.length ≤ 8) by omega), Bool.false_and]
      · have h1 : ¬ (1 : Int) ≤ (z.length : Int) := fun q => c1 (decide_eq_true q)
        refine ⟨_, rfl, iteT ?_⟩
        refine bl_to ?_ (k _ (Same.refl _))
        show false = (decide (1 ≤ z.length ∧ z.length ≤ 8) && _)
        rw [decide_eq_false (show ¬ (1 ≤ z.length ∧ z.length ≤ 8) by omega), Bool.false_and]
    · have hn := not_str fun z e => hs ⟨z, e⟩
      refine ⟨_, rfl, _, _, _, _, false, rfl, .ty _, hx.ty, kit_ty hn.1, _, rfl, iteT ?_⟩
      exact iteT (bl_to hn.2.symm (k _ (Same.refl _)))
def sp_is_integer (K : PySem.W.Frag) : Sp := fun vs H Q _ => ∃ (x : V) (d : PyData), vs = [x] ∧ DD K H x d ∧ Q (.bl (isInD d)) H
theorem ok_is_integer (T : T K mg) : FnOk P w K mg base CX0 1 T.f_is_integer T.d_is_integer ["value"] (sp_is_integer K) := by
  refine T.F_is_integer.ok sc_is_integer (fun vs H Q E h => ?_) (fun cdv A outer s H vs Q E hr h => ?_)
  · obtain ⟨x, d, rfl, _⟩ := h
    rfl
  · obtain ⟨x, d, rfl, hx, k⟩ := h
    have hu := hu_of hr
    refine ⟨_, (pss_cons (ps_if (PW.pt (pw_or (pt_not (pt_val (pe_callB call_isi (by rfl) T.z_isinstance (by decide +kernel) (pa_cons (pv 0) (pa_cons (pe_bltn (v := V.ty "int") (u := Value.type "int") (by rfl) T.z_int (by decide +kernel) rfl) pa_nil))))) (pw_or1 (pt_val (pe_callB call_isi (by rfl) T.z_isinstance (by decide +kernel) (pa_cons (pv 0) (pa_cons (pe_bltn (v := V.ty "bool") (u := Value.type "bool") (by rfl) T.z_bool (by decide +kernel) rfl) pa_nil)))))))
      (pss_one (ps_ret pe_bl))
      pss_nil)
      (pss_one (ps_ret (pe_chain op_lt op_lt (pe_un un_neg (pe_op op_pow pe_int pe_int)) (pv 0) (pe_op op_pow pe_int pe_int))))), ?_⟩
    by_cases h1 : ∃ n, d = .int n
    · obtain ⟨n, rfl⟩ := h1
      obtain rfl : x = .int n := by
        rcases hx with h | ⟨_, _, _, _, h⟩
        · cases h
          rfl
        · cases h
      refine ⟨_, rfl, _, _, _, _, true, rfl, .ty _, .base (.int _), kit_ty (by decide +kernel), _, rfl, iteF ?_⟩
      refine ⟨_, rfl, _, _, _, _, false, rfl, .ty _, .base (.int _), kit_ty (by decide +kernel), _, rfl, iteF ?_⟩
      refine ⟨_, _, rfl, rfl, ⟨by decide, by decide, by decide⟩, _, rfl, _, rfl, _, _, rfl, rfl, _, rfl, ?_⟩
      have e1 : decide (-(10 ^ Int.toNat 12) < n) = decide (-1000000000000 < n) := rfl
      refine ite2 (fun c => ?_) (fun c => ?_)
      · refine ⟨_, _, rfl, rfl, ⟨by decide, by decide, by decide⟩, _, _, rfl, rfl, ?_⟩
        refine bl_to ?_ k
        show _ = (decide (-1000000000000 < n) && decide (n < 1000000000000))
        rw [← e1, c, Bool.true_and]
        rfl
      · refine bl_to ?_ k
        show _ = (decide (-1000000000000 < n) && decide (n < 1000000000000))
        rw [← e1, Bool.eq_false_iff.mpr c, Bool.false_and]
    · by_cases h2 : ∃ b, d = .bool b
      · obtain ⟨b, rfl⟩ := h2
        refine ⟨_, rfl, _, _, _, _, true, rfl, .ty _, hx.ty, kit_ty (a := "bool") (b := "int") (by decide +kernel), _, rfl, iteF ?_⟩
        refine ⟨_, rfl, _, _, _, _, true, rfl, .ty _, hx.ty, kit_ty (a := "bool") (b := "bool") (by decide +kernel), _, rfl, iteT ?_⟩
        exact k
      · have hn := not_int (fun n e => h1 ⟨n, e⟩) fun b e => h2 ⟨b, e⟩
        refine ⟨_, rfl, _, _, _, _, false, rfl, .ty _, hx.ty, kit_ty hn.1, _, rfl, iteT ?_⟩
        exact iteT (bl_to hn.2.symm k)
def sp_is_between (K : PySem.W.Frag) : Sp := fun vs H Q _ => ∃ (x : V) (d : PyData) (lo hi : Int), vs = [x, .int lo, .int hi] ∧ DD K H x d ∧ Q (.bl (inD lo hi d)) H
theorem ok_is_between (T : T K mg) : FnOk P w K mg base CX0 2 T.f_is_between T.d_is_between ["value", "low", "high"] (sp_is_between K) := by
  have G_is_integer : FnOk P w K mg base CX0 1 T.f_is_integer T.d_is_integer ["value"] (sp_is_integer K) := ok_is_integer T
  refine T.F_is_between.ok sc_is_between (fun vs H Q E h => ?_) (fun cdv A outer s H vs Q E hr h => ?_)
  · obtain ⟨x, d, lo, hi, rfl, _⟩ := h
    rfl
  · obtain ⟨x, d, lo, hi, rfl, hx, k⟩ := h
    have hu := hu_of hr
    have hr_is_integer : Room 1 _ := hr.mono (by decide)
    refine ⟨_, (pss_one (ps_ret (pe_and (pe_call G_is_integer hr_is_integer rfl T.m_is_integer T.F_is_integer.kp T.b_is_integer .nil pass0 (pa_cons (pv 0) pa_nil)) (pe_one (pe_chain op_le op_le (pv 1) (pv 0) (pv 2)))))), ?_⟩
    refine ⟨_, rfl, x, d, rfl, hx, _, rfl, ?_⟩
    by_cases h : isInD d = true
    · rw [h]
      refine iteT ?_
      obtain ⟨n, rfl⟩ : ∃ n, d = .int n := by
        cases d with
        | int n => exact ⟨n, rfl⟩
        | _ => cases h
      obtain rfl : x = .int n := by
        rcases hx with h | ⟨_, _, _, _, h⟩
        · cases h
          rfl
        · cases h
      have hi2 : (decide (-1000000000000 < n) && decide (n < 1000000000000)) = true := h
      have k2 : Q (.bl (decide (lo ≤ n) && decide (n ≤ hi))) H := bl_to (by show _ = ((decide (-1000000000000 < n) && decide (n < 1000000000000)) && _); rw [hi2, Bool.true_and]) k
      refine ⟨_, rfl, _, rfl, _, _, rfl, rfl, _, rfl, ?_⟩
      refine ite2 (fun c => ?_) (fun c => ?_)
      · exact ⟨_, rfl, _, _, rfl, rfl, bl_to (by rw [c, Bool.true_and]) k2⟩
      · exact bl_to (by rw [Bool.eq_false_iff.mpr c, Bool.false_and]) k2
    · rw [Bool.eq_false_iff.mpr h]
      refine iteF (bl_to ?_ k)
      cases d with
      | int n =>
        show false = ((decide (-1000000000000 < n) && decide (n < 1000000000000)) && _)
        have h3 : ¬ (decide (-1000000000000 < n) && decide (n < 1000000000000)) = true := h
        rw [Bool.eq_false_iff.mpr h3, Bool.false_and]
      | _ => rfl
def sp_ascends (K : PySem.W.Frag) : Sp := fun vs H Q _ => ∃ (x : V) (ds : List PyData) (hi : Int), vs = [x] ∧ Dp K H x (.tuple ds) ∧ ds.all (prD hi) = true ∧ ds.length ≤ 1000 ∧ ∀ H', Same H H' → Q (.bl (ascD ds)) H'
theorem ok_ascends (T : T K mg) : FnOk P w K mg base CX0 1 T.f_ascends T.d_ascends ["row"] (sp_ascends K) := by
  refine T.F_ascends.ok sc_ascends (fun vs H Q E h => ?_) (fun cdv A outer s H vs Q E hr h => ?_)
  · obtain ⟨x, ds, hi, rfl, _⟩ := h
    rfl
  · obtain ⟨x, ds, hi, rfl, hx, hp, hl, k⟩ := h
    have hu := hu_of hr
    refine ⟨_, (pss_one (ps_ret (pe_callB (cr_all rfl) (by rfl) T.z_all (by decide +kernel) (pa_cons (pe_lc (own := [("at", 1)]) (g := gName 1) rfl sc_ascends.nd (pi_range2 (by rfl) T.z_range (pa_cons pe_int (pa_cons (pe_callB call_len (by rfl) T.z_len (by decide +kernel) (pa_cons (pv 0) pa_nil)) pa_nil))) (blkOk_by (N := ["row", "at"]) (sc := defScope s_ascends) (by decide +kernel)) (fun _ _ _ _ _ => (pg_name (i := 1) sc_ascends.nd rfl (Or.inl rfl))) (fun _ _ _ _ _ => pts_nil) (fun _ _ _ _ _ => (pe_cmpR (r := rLtD K) (op_ltD hr.units) (pe_ix (r := rIx K) ix_seq (pv 0) (pe_op op_sub (pv 1) pe_int) (fun _ _ => rfl)) (pe_ix (r := rIx K) ix_seq (pv 0) (pv 1) (fun _ _ => rfl)) (nomark _)))) pa_nil)))), ?_⟩
    obtain ⟨a, xs, rfl, hS, hd⟩ : ∃ a xs, x = .ref a ∧ SqT K H a xs ∧ DpAll K H xs ds := by
      cases hx with
      | tup h1 h2 => exact ⟨_, _, rfl, h1, h2⟩
    have hn := dpa_len hd
    refine ⟨_, rfl, _, _, rfl, .inr ⟨_, hS, rfl⟩, 1, (xs.length : Int), rfl, ⟨by decide, by decide, by omega, by omega⟩, fun D hD => ?_⟩
    have en : ((xs.length : Int) - 1).toNat = ds.length - 1 := by omega
    rw [en]
    refine lc_range (lo := 1) (n := ds.length - 1) (fun i H' => H' D = some (.lst (((List.range i).map fun j => PySem.W.dataLt (ds.getD j .none) (ds.getD (j + 1) .none)).map V.bl)) ∧ Same H H') ⟨upd_same, Same.new hD⟩ ?_ ?_
    · rintro i H1 hi2 ⟨eD, S⟩
      refine ⟨rfl, ?_⟩
      unfold tYes
      dsimp only
      rw [if_pos rfl]
      have hS1 := Same.seqT S hS
      have hd1 := dpa_same S ds xs hd
      have l0 : i < xs.length := by omega
      have l1 : i + 1 < xs.length := by omega
      obtain ⟨d0, e0, p0⟩ := dpa_get hd1 (List.getElem?_eq_getElem l0)
      obtain ⟨d1, e1, p1⟩ := dpa_get hd1 (List.getElem?_eq_getElem l1)
      obtain ⟨z0, n0, rfl⟩ := depth_in (List.all_eq_true.mp hp d0 (List.mem_of_getElem? e0))
      obtain ⟨z1, n1, rfl⟩ := depth_in (List.all_eq_true.mp hp d1 (List.mem_of_getElem? e1))
      refine ⟨_, rfl, _, rfl, _, _, rfl, rfl, .inr (.inl ⟨_, _, _, xs[i], rfl, rfl, hS1, at_of (j := i) (by omega) (List.getElem?_eq_getElem l0), ?_⟩)⟩
      refine ⟨_, rfl, _, rfl, .inr (.inl ⟨_, _, _, xs[i + 1], rfl, rfl, hS1, at_of (j := i + 1) (by omega) (List.getElem?_eq_getElem l1), ?_⟩)⟩
      refine ⟨_, _, p0, p1, rfl, (by intro z; cases z), (by simp only [PyData.depth, PyData.depthAll]; decide), ?_⟩
      refine ⟨_, eD, ?_, ?_, Same.at hD S⟩
      · rw [List.length_map, List.length_map, List.length_range]
        exact Nat.lt_of_lt_of_le (show i < 1000 by omega) (by decide)
      · rw [upd_same, List.range_succ, List.map_append, List.map_append, List.map_singleton]
        rw [List.getD_eq_getElem?_getD, e0, List.getD_eq_getElem?_getD, e1]
        rfl
    · rintro H9 ⟨eD, S⟩
      refine ⟨_, _, rfl, SqL.of eD, ?_⟩
      refine bl_to ?_ (k _ S)
      unfold ascD
      rw [List.all_map]
      rfl
def sp_is_pair (K : PySem.W.Frag) : Sp := fun vs H Q _ => ∃ (x : V) (d : PyData) (hi : Int), vs = [x, .int hi] ∧ DD K H x d ∧ okD d ∧ ∀ H', Same H H' → Q (.bl (prD hi d)) H'
theorem ok_is_pair (T : T K mg) : FnOk P w K mg base CX0 3 T.f_is_pair T.d_is_pair ["value", "highest"] (sp_is_pair K) := by
  have G_is_between : FnOk P w K mg base CX0 2 T.f_is_between T.d_is_between ["value", "low", "high"] (sp_is_between K) := ok_is_between T
  have G_is_name : FnOk P w K mg base CX0 1 T.f_is_name T.d_is_name ["value"] (sp_is_name K) := ok_is_name T
  refine T.F_is_pair.ok sc_is_pair (fun vs H Q E h => ?_) (fun cdv A outer s H vs Q E hr h => ?_)
  · obtain ⟨x, d, hi, rfl, _⟩ := h
    rfl
  · obtain ⟨x, d, hi, rfl, hx, hw, k⟩ := h
    have hu := hu_of hr
    have hr_is_between : Room 2 _ := hr.mono (by decide)
    have hr_is_name : Room 1 _ := hr.mono (by decide)
    refine ⟨_, (pss_cons (ps_if (PW.pt (pw_or (pt_not (pt_val (pe_callB call_isi (by rfl) T.z_isinstance (by decide +kernel) (pa_cons (pv 0) (pa_cons (pe_bltn (v := V.ty "tuple") (u := Value.type "tuple") (by rfl) T.z_tuple (by decide +kernel) rfl) pa_nil))))) (pw_or1 (pt_cmpR op_ne (pe_callB call_len (by rfl) T.z_len (by decide +kernel) (pa_cons (pv 0) pa_nil)) pe_int (nomark _)))))
      (pss_one (ps_ret pe_bl))
      pss_nil)
      (pss_one (ps_ret (pe_and (pe_call G_is_name hr_is_name rfl T.m_is_name T.F_is_name.kp T.b_is_name .nil pass0 (pa_cons (pe_ix ix_seq (pv 0) pe_int (fun _ _ => rfl)) pa_nil)) (pe_one (pe_call G_is_between hr_is_between rfl T.m_is_between T.F_is_between.kp T.b_is_between .nil pass0 (pa_cons (pe_ix ix_seq (pv 0) pe_int (fun _ _ => rfl)) (pa_cons pe_int (pa_cons (pv 1) pa_nil))))))))), ?_⟩
    by_cases ht : ∃ ds, d = .tuple ds
    · obtain ⟨ds, rfl⟩ := ht
      obtain ⟨a, xs, rfl, hS, hd⟩ : ∃ a xs, x = .ref a ∧ SqT K H a xs ∧ DpAll K H xs ds := by
        rcases hx with h | ⟨_, _, _, _, h⟩
        · cases h with
          | tup h1 h2 => exact ⟨_, _, rfl, h1, h2⟩
        · cases h
      have hn := dpa_len hd
      refine ⟨_, rfl, _, _, _, _, true, rfl, .ty _, hx.ty, kit_ty (a := "tuple") (b := "tuple") (by decide +kernel), _, rfl, iteF ?_⟩
      refine ⟨_, rfl, _, _, rfl, .inr ⟨_, hS, rfl⟩, rfl, _, rfl, ?_⟩
      match ds, xs, hn, hd, hS, hw, k with
      | [d0, d1], [x0, x1], _, hd, hS, hw, k =>
        obtain ⟨e0, q0, p0⟩ := dpa_get (i := 0) hd rfl
        obtain rfl := Option.some.inj q0
        obtain ⟨e1, q1, p1⟩ := dpa_get (i := 1) hd rfl
        obtain rfl := Option.some.inj q1
        refine iteNS rfl ?_
        refine ⟨_, rfl, .inr (.inl ⟨_, _, _, _, rfl, rfl, hS, rfl, x0, d0, rfl, .inl p0, okD_tup hw List.mem_cons_self, fun H1 S1 => ?_⟩)⟩
        refine ⟨_, rfl, ?_⟩
        by_cases c : nmD d0 = true
        · rw [c]
          refine iteT ?_
          refine ⟨_, rfl, .inr (.inl ⟨_, _, _, _, rfl, rfl, Same.seqT S1 hS, rfl, _, rfl, x1, d1, 0, hi, rfl, .inl (dp_same S1 _ _ p1), ?_⟩)⟩
          exact bl_to (by show _ = (nmD d0 && inD 0 hi d1); rw [c, Bool.true_and]) (k _ S1)
        · rw [Bool.eq_false_iff.mpr c]
          exact iteF (bl_to (by show _ = (nmD d0 && inD 0 hi d1); rw [Bool.eq_false_iff.mpr c, Bool.false_and]) (k _ S1))
      | [], [], _, hd, hS, hw, k => exact if_ne (by show V.int ((0 : Nat) : Int) ≠ V.int 2; decide) (k _ (Same.refl _))
      | [d0], [x0], _, hd, hS, hw, k => exact if_ne (by show V.int ((1 : Nat) : Int) ≠ V.int 2; decide) (k _ (Same.refl _))
      | d0 :: d1 :: d2 :: r, x0 :: x1 :: x2 :: r2, _, hd, hS, hw, k => exact if_ne (by intro z; have := V.int.inj z; simp only [List.length_cons] at this; omega) (k _ (Same.refl _))
    · have hn := not_tup fun ds e => ht ⟨ds, e⟩
      refine ⟨_, rfl, _, _, _, _, false, rfl, .ty _, hx.ty, kit_ty hn, _, rfl, iteT ?_⟩
      refine iteT (bl_to ?_ (k _ (Same.refl _)))
      cases d with
      | tuple ds => exact absurd ⟨ds, rfl⟩ ht
      | _ => rfl
def sp_is_row_of_pairs (K : PySem.W.Frag) : Sp := fun vs H Q _ => ∃ (x : V) (d : PyData) (most : Nat) (hi : Int), vs = [x, .int (most : Int), .int hi] ∧ DD K H x d ∧ okD d ∧ most ≤ 100 ∧ ∀ H', Same H H' → Q (.bl (rwD most hi d)) H'
theorem ok_is_row_of_pairs (T : T K mg) : FnOk P w K mg base CX0 4 T.f_is_row_of_pairs T.d_is_row_of_pairs ["value", "most", "highest"] (sp_is_row_of_pairs K) := by
  have G_is_pair : FnOk P w K mg base CX0 3 T.f_is_pair T.d_is_pair ["value", "highest"] (sp_is_pair K) := ok_is_pair T
  refine T.F_is_row_of_pairs.ok sc_is_row_of_pairs (fun vs H Q E h => ?_) (fun cdv A outer s H vs Q E hr h => ?_)
  · obtain ⟨x, d, most, hi, rfl, _⟩ := h
    rfl
  · obtain ⟨x, d, most, hi, rfl, hx, hw, hm, k⟩ := h
    have hu := hu_of hr
    have hr_is_pair : Room 3 _ := hr.mono (by decide)
    refine ⟨_, (pss_cons (ps_if (PW.pt (pw_or (pt_not (pt_val (pe_callB call_isi (by rfl) T.z_isinstance (by decide +kernel) (pa_cons (pv 0) (pa_cons (pe_bltn (v := V.ty "tuple") (u := Value.type "tuple") (by rfl) T.z_tuple (by decide +kernel) rfl) pa_nil))))) (pw_or1 (pt_cmpR op_gt (pe_callB call_len (by rfl) T.z_len (by decide +kernel) (pa_cons (pv 0) pa_nil)) (pv 1) (nomark _)))))
      (pss_one (ps_ret pe_bl))
      pss_nil)
      (pss_one (ps_ret (pe_callB (cr_all rfl) (by rfl) T.z_all (by decide +kernel) (pa_cons (pe_lc (own := [("item", 3)]) (g := gName 3) rfl sc_is_row_of_pairs.nd (pi_tup (pv 0)) (blkOk_by (N := ["value", "most", "highest", "item"]) (sc := defScope s_is_row_of_pairs) (by decide +kernel)) (fun _ _ _ _ _ => (pg_name (i := 3) sc_is_row_of_pairs.nd rfl (Or.inl rfl))) (fun _ _ _ _ _ => pts_nil) (fun _ _ _ _ _ => (pe_call G_is_pair hr_is_pair rfl T.m_is_pair T.F_is_pair.kp T.b_is_pair .nil pass0 (pa_cons (pv 3) (pa_cons (pv 2) pa_nil))))) pa_nil))))), ?_⟩
    by_cases ht : ∃ ds, d = .tuple ds
    · obtain ⟨ds, rfl⟩ := ht
      obtain ⟨a, xs, rfl, hS, hd⟩ : ∃ a xs, x = .ref a ∧ SqT K H a xs ∧ DpAll K H xs ds := by
        rcases hx with h | ⟨_, _, _, _, h⟩
        · cases h with
          | tup h1 h2 => exact ⟨_, _, rfl, h1, h2⟩
        · cases h
      have hn := dpa_len hd
      refine ⟨_, rfl, _, _, _, _, true, rfl, .ty _, hx.ty, kit_ty (a := "tuple") (b := "tuple") (by decide +kernel), _, rfl, iteF ?_⟩
      refine ⟨_, rfl, _, _, rfl, .inr ⟨_, hS, rfl⟩, _, rfl, _, _, rfl, rfl, _, rfl, ?_⟩
      refine ite2 (fun c => ?_) (fun c => ?_)
      · have h1 := of_decide_eq_true c
        refine bl_to ?_ (k _ (Same.refl _))
        show false = (decide (ds.length ≤ most) && _)
        rw [decide_eq_false (by omega), Bool.false_and]
      · have h1 : ¬ (most : Int) < (xs.length : Int) := fun q => c (decide_eq_true q)
        refine ⟨_, rfl, a, rfl, ⟨_, hS⟩, fun D hD => ?_⟩
        refine lc_tup (K := K) (a := a) (xs := xs) (fun i H' => H' D = some (.lst (((ds.take i).map (prD hi)).map V.bl)) ∧ Same H H') ⟨upd_same, Same.new hD⟩ (fun i H' _ ⟨_, S⟩ => Same.seqT S hS) ?_ ?_
        · rintro i y H1 hy ⟨eD, S⟩
          obtain ⟨d0, e0, p0⟩ := dpa_get (dpa_same S ds xs hd) hy
          refine ⟨rfl, ?_⟩
          unfold tYes
          dsimp only
          rw [if_pos rfl]
          refine ⟨_, rfl, _, rfl, y, d0, hi, rfl, .inl p0, okD_tup hw (List.mem_of_getElem? e0), fun H2 S2 => ?_⟩
          have S3 : Same H H2 := Same.trans S S2
          refine ⟨_, S2 _ _ eD, ?_, ?_, Same.at hD S3⟩
          · rw [List.length_map, List.length_map, List.length_take]
            exact Nat.lt_of_le_of_lt (Nat.le_trans (Nat.min_le_right _ _) (by omega : ds.length ≤ 100)) (by decide)
          · rw [upd_same, List.take_add_one, e0, List.map_append, List.map_append]
            rfl
        · rintro H9 ⟨eD, S⟩
          refine ⟨_, _, rfl, SqL.of eD, ?_⟩
          refine bl_to ?_ (k _ S)
          rw [← hn, List.take_length]
          show _ = (decide (ds.length ≤ most) && _)
          rw [decide_eq_true (by omega), Bool.true_and, List.all_map]
          rfl
    · have hn := not_tup fun ds e => ht ⟨ds, e⟩
      refine ⟨_, rfl, _, _, _, _, false, rfl, .ty _, hx.ty, kit_ty hn, _, rfl, iteT ?_⟩
      refine iteT (bl_to ?_ (k _ (Same.refl _)))
      cases d with
      | tuple ds => exact absurd ⟨ds, rfl⟩ ht
      | _ => rfl
/-- what the top has written of an error class under RoundError -/
structure Ex (K : PySem.W.Frag) (mg : Str → Option Value) (x : Str) (C fR : Addr) : Prop where
  mg : mg x = some (.ref C)
  oex : OexC K C
  init : PySem.W.findIn K (.ref C) "__init__" = some (some (.ref fR))
  no : PySem.W.findIn K (.ref C) "told" = some none
/-- an empty tuple of the written part -/
def Nul (K : PySem.W.Frag) (a : Addr) : Prop := ∃ (o : Obj) (its : Array Value) (n : Nat), K.lookup a = some o ∧ o.cls = .type "tuple" ∧ o.data = .seq its n ∧ its.size ≤ sizeLine ∧ Vals [] its.toList
theorem Nul.seqT {K : PySem.W.Frag} {a : Addr} {H : Hp} (h : Nul K a) : SqT K H a [] := .inr h
structure TX (K : PySem.W.Frag) (mg : Str → Option Value) where
  fR : Addr
  dR : FuncData
  FR : FunD K "__init__" "RoundError.__init__" (defArgs s_RoundError_init) (defBody s_RoundError_init) (defScope s_RoundError_init) [.non] [] fR dR
  bR : Binds K dR ["self", "told"] []
  tR : PySem.W.typeIn K (.ref fR) = some (.type "function")
  O : Addr
  o : Ex K mg "InvalidOperation" O fR
  A : Addr
  a : Ex K mg "InvalidArgument" A fR
  C : Addr
  mC : mg "Operation" = some (.ref C)
  cl : Cls K C
  r0 : Addr
  u0 : Addr
  nr : Nul K r0
  nu : Nul K u0
  fI : Addr
  dI : FuncData
  FI : FunD K "__init__" "Operation.__init__" (defArgs s_Operation_init) (defBody s_Operation_init) (defScope s_Operation_init) [] [("ticks", .int 1), ("reads", .ref r0), ("uses", .ref u0)] fI dI
  mkI : Mk K C fI
  n1 : NoAttr K C "_name"
  n2 : NoAttr K C "_ticks"
  n3 : NoAttr K C "_reads"
  n4 : NoAttr K C "_uses"
def sp_R (K : PySem.W.Frag) : Sp := fun vs H Q _ => ∃ (a C : Addr) (v : V), vs = [.ref a, v] ∧ OexC K C ∧ PySem.W.findIn K (.ref C) "told" = some none ∧ H a = some (exo a C none) ∧
  ∀ d, H d = none → d ≠ a → Q .non (upd (upd H d (exd d [("told", v)])) a (exo a C (some d)))
theorem ok_R (U : TX K mg) : FnOk P w K mg base CX0 1 U.fR U.dR ["self", "told"] (sp_R K) := by
  refine U.FR.ok (CX := CX0) sc_RoundError_init (fun vs H Q E h => ?_) (fun cdv A outer s H vs Q E hr h => ?_)
  · obtain ⟨a, C, v, rfl, _⟩ := h
    rfl
  · obtain ⟨a, C, v, rfl, hC, hn, ha, k⟩ := h
    exact ⟨_, pss_one (ps_ost (pv 0) (pv 1)), _, rfl, _, rfl, a, C, rfl, hC, hn, .inl ⟨ha, fun d hd nd => k d hd nd⟩⟩
/-- the way out of a raise of such an error -/
theorem oex_out {K : PySem.W.Frag} {mg : Str → Option Value} {x : Str} {C fR : Addr} (T : Ex K mg x C fR) {H : Hp} {v : V} {a : Addr} {Q : XK} (na : H a = none) (k : ∀ (d : Addr) (H' : Hp), Same H H' → Q (.ref C) (some d) H') :
    sp_R K (.ref a :: ([v] ++ [])) (upd H a (exo a C none)) (fun v H2 => v = .non ∧ ∃ (d : Addr) (fs : List (Str × V)), H2 a = some (exo a C (some d)) ∧ H2 d = some (exd d fs) ∧ H d = none ∧ Q (.ref C) (some d) (upd (del H2 a) d (.xd fs))) (fun _ _ _ => False) := by
  refine ⟨a, C, v, rfl, T.oex, T.no, upd_same, fun d hd nd => ⟨rfl, d, _, upd_same, (upd_ne nd).trans upd_same, ?_, k d _ fun b o e => ?_⟩⟩
  · rw [upd_ne nd] at hd
    exact hd
  · have nba : b ≠ a := ne_of_none e na
    have nbd : b ≠ d := by
      refine ne_of_none e ?_
      rw [upd_ne nd] at hd
      exact hd
    rw [upd_ne nbd, del_ne nba, upd_ne nba, upd_ne nbd, upd_ne nba]
    exact e
/-- what an operation keeps -/
def opF (x1 x2 x3 x4 : V) : List (Str × V) := putF "_uses" x4 (putF "_reads" x3 (putF "_ticks" x2 (putF "_name" x1 [])))
def opOk (dn dt dr du : PyData) : Bool := nmD dn && (inD 1 4 dt && (rwD 3 3 dr && (rwD 4 3 du && (match du with | .tuple ds => ascD ds | _ => false))))
def sp_init (K : PySem.W.Frag) (C O : Addr) : Sp := fun vs H Q E => ∃ (p dx : Addr) (x1 x2 x3 x4 : V) (dn dt dr du : PyData), vs = [.ref p, x1, x2, x3, x4] ∧ H p = some (.ins C dx []) ∧
  (DD K H x1 dn ∧ okD dn) ∧ DD K H x2 dt ∧ (DD K H x3 dr ∧ okD dr) ∧ (DD K H x4 du ∧ okD du) ∧
  (opOk dn dt dr du = true → ∀ H', Same H H' → Q .non (upd H' p (.ins C dx (opF x1 x2 x3 x4)))) ∧ (opOk dn dt dr du = false → ∀ (d : Addr) (H' : Hp), Same H H' → E (.ref O) (some d) H')
theorem ok_init (T : T K mg) (U : TX K mg) : FnOk P w K mg base (L2.CX P w) 5 U.fI U.dI ["self", "name", "ticks", "reads", "uses"] (sp_init K U.C U.O) := by
  have G_ascends : FnOk P w K mg base CX0 1 T.f_ascends T.d_ascends ["row"] (sp_ascends K) := ok_ascends T
  have G_is_between : FnOk P w K mg base CX0 2 T.f_is_between T.d_is_between ["value", "low", "high"] (sp_is_between K) := ok_is_between T
  have G_is_name : FnOk P w K mg base CX0 1 T.f_is_name T.d_is_name ["value"] (sp_is_name K) := ok_is_name T
  have G_is_row_of_pairs : FnOk P w K mg base CX0 4 T.f_is_row_of_pairs T.d_is_row_of_pairs ["value", "most", "highest"] (sp_is_row_of_pairs K) := ok_is_row_of_pairs T
  have G_R : FnOk P w K mg base CX0 1 U.fR U.dR ["self", "told"] (sp_R K) := ok_R U
  refine U.FI.ok (CX := L2.CX P w) sc_Operation_init (fun vs H Q E h => ?_) (fun cdv A outer s H vs Q E hr h => ?_)
  · obtain ⟨p, dx, x1, x2, x3, x4, dn, dt, dr, du, rfl, _⟩ := h
    rfl
  · obtain ⟨p, dx, x1, x2, x3, x4, dn, dt, dr, du, rfl, hp, ⟨hn, wn⟩, ht, ⟨hdr, wr⟩, ⟨hdu, wu⟩, k1, k2⟩ := h
    have hu := hu_of hr
    have hr_ascends : Room 1 _ := hr.mono (by decide)
    have hr_R : Room 2 _ := hr.mono (by decide)
    have hr_is_between : Room 2 _ := hr.mono (by decide)
    have hr_is_name : Room 1 _ := hr.mono (by decide)
    have hr_is_row_of_pairs : Room 4 _ := hr.mono (by decide)
    obtain ⟨_, c_MAX_DISTANCE⟩ := T.c_MAX_DISTANCE
    obtain ⟨_, c_MAX_OFFSET⟩ := T.c_MAX_OFFSET
    obtain ⟨_, c_MAX_READS⟩ := T.c_MAX_READS
    obtain ⟨_, c_MAX_TICKS⟩ := T.c_MAX_TICKS
    obtain ⟨_, c_MAX_USES⟩ := T.c_MAX_USES
    refine ⟨_, (pss_cons (ps_if (pt_not (pt_val (pe_call G_is_name hr_is_name rfl T.m_is_name T.F_is_name.kp T.b_is_name .nil pass0 (pa_cons (pv 1) pa_nil))))
      (pss_one (ps_raise rfl (takes_of rfl rfl rfl rfl) (pmk_oex U.o.oex U.o.init U.tR G_R hr_R U.bR .nil pass0 rfl U.o.mg (pa_cons (pv 1) pa_nil))))
      pss_nil)
      (pss_cons (ps_if (pt_not (pt_val (pe_call G_is_between hr_is_between rfl T.m_is_between T.F_is_between.kp T.b_is_between .nil pass0 (pa_cons (pv 2) (pa_cons pe_int (pa_cons (pe_glob (v := V.int 4) rfl c_MAX_TICKS ⟨_, rfl⟩) pa_nil))))))
      (pss_one (ps_raise rfl (takes_of rfl rfl rfl rfl) (pmk_oex U.o.oex U.o.init U.tR G_R hr_R U.bR .nil pass0 rfl U.o.mg (pa_cons (pv 2) pa_nil))))
      pss_nil)
      (pss_cons (ps_if (pt_not (pt_val (pe_call G_is_row_of_pairs hr_is_row_of_pairs rfl T.m_is_row_of_pairs T.F_is_row_of_pairs.kp T.b_is_row_of_pairs .nil pass0 (pa_cons (pv 3) (pa_cons (pe_glob (v := V.int 3) rfl c_MAX_READS ⟨_, rfl⟩) (pa_cons (pe_glob (v := V.int 3) rfl c_MAX_DISTANCE ⟨_, rfl⟩) pa_nil))))))
      (pss_one (ps_raise rfl (takes_of rfl rfl rfl rfl) (pmk_oex U.o.oex U.o.init U.tR G_R hr_R U.bR .nil pass0 rfl U.o.mg (pa_cons (pv 3) pa_nil))))
      pss_nil)
      (pss_cons (ps_if (PW.pt (pw_or (pt_not (pt_val (pe_call G_is_row_of_pairs hr_is_row_of_pairs rfl T.m_is_row_of_pairs T.F_is_row_of_pairs.kp T.b_is_row_of_pairs .nil pass0 (pa_cons (pv 4) (pa_cons (pe_glob (v := V.int 4) rfl c_MAX_USES ⟨_, rfl⟩) (pa_cons (pe_glob (v := V.int 3) rfl c_MAX_OFFSET ⟨_, rfl⟩) pa_nil)))))) (pw_or1 (pt_not (pt_val (pe_call G_ascends hr_ascends rfl T.m_ascends T.F_ascends.kp T.b_ascends .nil pass0 (pa_cons (pv 4) pa_nil)))))))
      (pss_one (ps_raise rfl (takes_of rfl rfl rfl rfl) (pmk_oex U.o.oex U.o.init U.tR G_R hr_R U.bR .nil pass0 rfl U.o.mg (pa_cons (pv 4) pa_nil))))
      pss_nil)
      (pss_cons (ps_fld (pv 0) (pv 1) rfl)
      (pss_cons (ps_fld (pv 0) (pv 2) rfl)
      (pss_cons (ps_fld (pv 0) (pv 3) rfl)
      (pss_one (ps_fld (pv 0) (pv 4) rfl))))))))), ?_⟩
    have bad : ∀ {G : Hp} {v : V}, Same H G → opOk dn dt dr du = false → ∀ a, G a = none → sp_R K (.ref a :: ([v] ++ [])) (upd G a (exo a U.O none)) (fun v H2 => v = .non ∧ ∃ (d : Addr) (fs : List (Str × V)), H2 a = some (exo a U.O (some d)) ∧ H2 d = some (exd d fs) ∧ G d = none ∧ E (.ref U.O) (some d) (upd (del H2 a) d (.xd fs))) (fun _ _ _ => False) :=
      fun S hb a ha => oex_out U.o ha fun d H' S' => k2 hb d H' (Same.trans S S')
    refine ⟨_, rfl, x1, dn, rfl, hn, wn, fun H1 S1 => ⟨_, rfl, ?_⟩⟩
    by_cases c1 : nmD dn = true
    · rw [c1]
      refine iteF ?_
      refine ⟨_, rfl, x2, dt, 1, 4, rfl, DD.same S1 ht, _, rfl, ?_⟩
      by_cases c2 : inD 1 4 dt = true
      · rw [c2]
        refine iteF ?_
        refine ⟨_, rfl, x3, dr, 3, 3, rfl, DD.same S1 hdr, wr, by decide, fun H2 S2 => ⟨_, rfl, ?_⟩⟩
        have S12 : Same H H2 := Same.trans S1 S2
        by_cases c3 : rwD 3 3 dr = true
        · rw [c3]
          refine iteF ?_
          refine ⟨_, rfl, x4, du, 4, 3, rfl, DD.same S12 hdu, wu, by decide, fun H3 S3 => ⟨_, rfl, ?_⟩⟩
          have S13 : Same H H3 := Same.trans S12 S3
          by_cases c4 : rwD 4 3 du = true
          · rw [c4]
            refine iteF ?_
            obtain ⟨ds, rfl, hall, hl⟩ : ∃ ds, du = .tuple ds ∧ ds.all (prD 3) = true ∧ ds.length ≤ 4 := by
              cases du with
              | tuple ds =>
                have c5 : (decide (ds.length ≤ 4) && ds.all (prD 3)) = true := c4
                have c6 := Bool.and_eq_true_iff.mp c5
                exact ⟨ds, rfl, c6.2, of_decide_eq_true c6.1⟩
              | _ => cases c4
            have hdp : Dp K H3 x4 (.tuple ds) := by
              rcases DD.same S13 hdu with h | ⟨_, _, _, _, h⟩
              · exact h
              · cases h
            refine ⟨_, rfl, x4, ds, 3, rfl, hdp, hall, by omega, fun H4 S4 => ⟨_, rfl, ?_⟩⟩
            have S14 : Same H H4 := Same.trans S13 S4
            have hok : opOk dn dt dr (.tuple ds) = ascD ds := by
              unfold opOk
              rw [c1, c2, c3, c4, Bool.true_and, Bool.true_and, Bool.true_and, Bool.true_and]
            by_cases c5 : ascD ds = true
            · rw [c5]
              refine iteF ?_
              refine ⟨_, rfl, _, rfl, p, U.C, dx, _, rfl, S14 _ _ hp, U.cl, U.n1, (by show 0 < 1000; decide), ?_⟩
              refine ⟨_, rfl, _, rfl, p, U.C, dx, _, rfl, upd_same, U.cl, U.n2, (by show 1 < 1000; decide), ?_⟩
              refine ⟨_, rfl, _, rfl, p, U.C, dx, _, rfl, upd_same, U.cl, U.n3, (by show 2 < 1000; decide), ?_⟩
              refine ⟨_, rfl, _, rfl, p, U.C, dx, _, rfl, upd_same, U.cl, U.n4, (by show 3 < 1000; decide), ?_⟩
              rw [upd_upd, upd_upd, upd_upd]
              exact k1 (hok.trans c5) H4 S14
            · rw [Bool.eq_false_iff.mpr c5]
              refine iteT ?_
              refine ⟨_, rfl, by show 1 ≤ 1000; decide, bad S14 (hok.trans (Bool.eq_false_iff.mpr c5))⟩
          · rw [Bool.eq_false_iff.mpr c4]
            refine iteT (iteT ?_)
            refine ⟨_, rfl, by show 1 ≤ 1000; decide, bad S13 (by unfold opOk; rw [Bool.eq_false_iff.mpr c4]; simp)⟩
        · rw [Bool.eq_false_iff.mpr c3]
          refine iteT ?_
          refine ⟨_, rfl, by show 1 ≤ 1000; decide, bad S12 (by unfold opOk; rw [Bool.eq_false_iff.mpr c3]; simp)⟩
      · rw [Bool.eq_false_iff.mpr c2]
        refine iteT ?_
        refine ⟨_, rfl, by show 1 ≤ 1000; decide, bad S1 (by unfold opOk; rw [Bool.eq_false_iff.mpr c2]; simp)⟩
    · rw [Bool.eq_false_iff.mpr c1]
      refine iteT ?_
      refine ⟨_, rfl, by show 1 ≤ 1000; decide, bad S1 (by unfold opOk; rw [Bool.eq_false_iff.mpr c1]; simp)⟩
theorem kb_all {C O : Addr} (U : TX K mg) : ∃ mv, KBn K U.dI ["self", "name", "ticks", "reads", "uses"] 2 ["ticks", "reads", "uses"] (fun us ws => us ++ (mv ++ ws)) (fun vs zs => vs ++ ([] ++ zs)) :=
  U.FI.kbinds0 2 ["ticks", "reads", "uses"] [] (fun vs mz zs => vs ++ (mz ++ zs)) (by simp) (by simp) (fun a b c => a.append (b.append c)) fun D doc pm an cdv ct us mv ws l1 l2 l3 => by
    match us, mv, ws, l1, l2, l3 with
    | [_, _], [], [_, _, _], _, _, _ => rfl
theorem kb_t (U : TX K mg) : ∃ mv, KBn K U.dI ["self", "name", "ticks", "reads", "uses"] 2 ["ticks"] (fun us ws => us ++ (ws ++ mv)) (fun vs zs => vs ++ (zs ++ [.ref U.r0, .ref U.u0])) :=
  U.FI.kbinds0 2 ["ticks"] [("reads", .ref U.r0), ("uses", .ref U.u0)] (fun vs mz zs => vs ++ (zs ++ mz)) (by simp) (by simp) (fun a b c => a.append (c.append b)) fun D doc pm an cdv ct us mv ws l1 l2 l3 => by
    match us, mv, ws, l1, l2, l3 with
    | [_, _], [_, _], [_], _, _, _ => exact ⟨_, _, _, _, _, _, rfl, rfl, _, _, _, _, _, _, rfl, rfl, rfl⟩
theorem kb_r (U : TX K mg) : ∃ mv : List Value, KBn K U.dI ["self", "name", "ticks", "reads", "uses"] 2 ["reads"] (fun us ws => us ++ (mv.take 1 ++ (ws ++ mv.drop 1))) (fun vs zs => vs ++ ([.int 1] ++ (zs ++ [.ref U.u0]))) :=
  U.FI.kbinds0 2 ["reads"] [("ticks", .int 1), ("uses", .ref U.u0)] (fun vs mz zs => vs ++ (mz.take 1 ++ (zs ++ mz.drop 1))) (by simp) (by simp) (fun a b c => a.append ((b.take 1).append (c.append (b.drop 1)))) fun D doc pm an cdv ct us mv ws l1 l2 l3 => by
    match us, mv, ws, l1, l2, l3 with
    | [_, _], [_, _], [_], _, _, _ => exact ⟨_, _, _, _, _, _, rfl, rfl, _, _, _, _, _, _, rfl, rfl, rfl⟩
theorem kb_u (U : TX K mg) : ∃ mv, KBn K U.dI ["self", "name", "ticks", "reads", "uses"] 2 ["uses"] (fun us ws => us ++ (mv ++ ws)) (fun vs zs => vs ++ ([.int 1, .ref U.r0] ++ zs)) :=
  U.FI.kbinds0 2 ["uses"] [("ticks", .int 1), ("reads", .ref U.r0)] (fun vs mz zs => vs ++ (mz ++ zs)) (by simp) (by simp) (fun a b c => a.append (b.append c)) fun D doc pm an cdv ct us mv ws l1 l2 l3 => by
    match us, mv, ws, l1, l2, l3 with
    | [_, _], [_, _], [_], _, _, _ => exact ⟨_, _, _, _, _, _, rfl, rfl, _, _, _, _, _, _, rfl, rfl, rfl⟩
theorem b_none (U : TX K mg) : ∃ ds, Vals [.int 1, .ref U.r0, .ref U.u0] ds ∧ Binds K U.dI ["self", "name", "ticks", "reads", "uses"] ds :=
  U.FI.binds0 2 (by simp) rfl fun D doc pm an cdv ct us ks l1 l2 => by
    match us, ks, l1, l2 with
    | [_, _], [_, _, _], _, _ => exact ⟨_, _, _, _, _, _, rfl, rfl, _, _, _, _, _, _, rfl, rfl, _, _, _, _, _, _, rfl, rfl, rfl⟩
/-! ### values that are written down -/
/-- what is new -/
def dif (H' H : Hp) : Hp := fun b => match H b with
  | none => H' b
  | some _ => none
theorem dif_new {H' H : Hp} {b : Addr} (n : H b = none) : dif H' H b = H' b := by unfold dif; rw [n]
theorem dif_inv {H' H : Hp} {b : Addr} {o : HO} (e : dif H' H b = some o) : H b = none ∧ H' b = some o := by
  unfold dif at e
  cases h : H b with
  | none => rw [h] at e; exact ⟨rfl, e⟩
  | some u => rw [h] at e; cases e
theorem none_of {H H' : Hp} {b : Addr} (s : Same H H') (n : H' b = none) : H b = none := by
  cases h : H b with
  | none => rfl
  | some u => rw [s _ _ h] at n; cases n
theorem dif_same (H' H : Hp) : Same (dif H' H) H' := fun b o e => (dif_inv e).2
theorem dif_l {H H1 H2 : Hp} (s : Same H1 H2) : Same (dif H1 H) (dif H2 H) := fun b o e => by
  rw [dif_new (dif_inv e).1]
  exact s _ _ (dif_inv e).2
theorem dif_r {H H1 H2 : Hp} (s : Same H H1) : Same (dif H2 H1) (dif H2 H) := fun b o e => by
  rw [dif_new (none_of s (dif_inv e).1)]
  exact (dif_inv e).2
abbrev Dm := PyData ⊕ List (Key × PyData)
/-- a datum, or a dict with keys and data -/
def VD (K : PySem.W.Frag) (G : Hp) (x : V) : Dm → Prop
  | .inl d => Dp K G x d
  | .inr kds => ∃ a kvs, x = .ref a ∧ G a = some (.dK kvs) ∧ kvs.map (·.1) = kds.map (·.1) ∧ DpAll K G (kvs.map (·.2)) (kds.map (·.2))
theorem vd_same {K : PySem.W.Frag} {G G' : Hp} (s : Same G G') {x : V} : ∀ {m : Dm}, VD K G x m → VD K G' x m
  | .inl d, h => dp_same s d x h
  | .inr kds, ⟨a, kvs, e1, e2, e3, e4⟩ => ⟨a, kvs, e1, s _ _ e2, e3, dpa_same s _ _ e4⟩
def Among (K : PySem.W.Frag) (G : Hp) (xs : List V) (ms : List Dm) : Prop := ∀ x ∈ xs, ∃ m ∈ ms, VD K G x m
theorem among_same {K : PySem.W.Frag} {G G' : Hp} (s : Same G G') {xs : List V} {ms : List Dm} (h : Among K G xs ms) : Among K G' xs ms := fun x hx => by
  obtain ⟨m, hm, v⟩ := h x hx
  exact ⟨m, hm, vd_same s v⟩
theorem among_app {K : PySem.W.Frag} {G : Hp} {xs ys : List V} {ms ns : List Dm} (h : Among K G xs ms) (g : Among K G ys ns) : Among K G (xs ++ ys) (ms ++ ns) := fun x hx => by
  rcases List.mem_append.mp hx with hx | hx
  · obtain ⟨m, hm, v⟩ := h x hx
    exact ⟨m, List.mem_append.mpr (.inl hm), v⟩
  · obtain ⟨m, hm, v⟩ := g x hx
    exact ⟨m, List.mem_append.mpr (.inr hm), v⟩
def tDat (K : PySem.W.Frag) (d : PyData) : TE := fun _ H Q => ∀ v H', Same H H' → Dp K (dif H' H) v d → Q v H'
def tDats (K : PySem.W.Frag) (ds : List PyData) : TA := fun _ H Q => ∀ vs H', Same H H' → DpAll K (dif H' H) vs ds → Q vs H'
def tVd (K : PySem.W.Frag) (m : Dm) : TE := fun _ H Q => ∀ v H', Same H H' → VD K (dif H' H) v m → Q v H'
def tVds (K : PySem.W.Frag) (ms : List Dm) : TA := fun _ H Q => ∀ vs H', Same H H' → Among K (dif H' H) vs ms → vs.length = ms.length → Q vs H'
def tDraw (K : PySem.W.Frag) (ms : List Dm) : TE := fun _ H Q => ∀ l xs H', Same H H' → H l = none → H' l = some (.lst xs) → Among K (dif H' H) xs ms → xs.length = ms.length → Q (.ref l) H'
section
variable {X : Cx} {e : Expr} {es : List Expr} {pos : Pos} {d : PyData} {ds : List PyData} {m : Dm} {ms : List Dm} {k j : Nat}
theorem pe_imp {t t' : TE} (h : PE X e t) (i : ∀ σ H Q, t' σ H Q → t σ H Q) : PE X e t' := ⟨fun pins s σ H Q I q => h.run pins s σ H Q I (i _ _ _ q)⟩
theorem pa_imp {t t' : TA} (h : PA X es t) (i : ∀ σ H Q, t' σ H Q → t σ H Q) : PA X es t' := ⟨fun pos pins s σ H Q I q => h.run pos pins s σ H Q I (i _ _ _ q)⟩
theorem da_non : PE X (.Constant .none j pos) (tDat X.K .none) := pe_imp pe_non fun _ _ _ q => q _ _ (Same.refl _) .non
theorem da_bl {b : Bool} : PE X (.Constant (.bool b) j pos) (tDat X.K (.bool b)) := pe_imp pe_bl fun _ _ _ q => q _ _ (Same.refl _) (.bl b)
theorem da_int {i : Int} : PE X (.Constant (.int i) j pos) (tDat X.K (.int i)) := pe_imp pe_int fun _ _ _ q => q _ _ (Same.refl _) (.int i)
theorem da_str {z : Str} : PE X (.Constant (.str z) j pos) (tDat X.K (.str z)) := pe_imp pe_str fun _ _ _ q => q _ _ (Same.refl _) (.str z)
theorem da_neg {i : Int} : PE X (.UnaryOp .USub (.Constant (.int i) j pos) pos') (tDat X.K (.int (-i))) := pe_imp (pe_un un_neg pe_int) fun _ _ _ q => ⟨_, rfl, q _ _ (Same.refl _) (.int _)⟩
theorem ds_nil : PA X [] (tDats X.K []) := pa_imp pa_nil fun _ _ _ q => q _ _ (Same.refl _) .nil
theorem ds_cons (h : PE X e (tDat X.K d)) (r : PA X es (tDats X.K ds)) (hs : starEach (e :: es) X.env = (false, eval e X.env) :: starEach es X.env := by rfl) : PA X (e :: es) (tDats X.K (d :: ds)) := pa_imp (pa_cons h r hs) fun _ H Q q v H1 S1 p1 vs H2 S2 p2 =>
  q _ _ (Same.trans S1 S2) (.cons (dp_same (dif_l S2) _ _ p1) (dpa_same (dif_r S1) _ _ p2))
theorem da_tup (h : PA X es (tDats X.K ds)) (hl : ds.length ≤ 1000) : PE X (.Tuple es k pos) (tDat X.K (.tuple ds)) := pe_imp (pe_tup h) fun _ H Q q vs H1 S p =>
  ⟨by rw [← dpa_len p]; exact Nat.le_trans hl (by decide), fun a ha => q _ _ (Same.trans S (Same.new ha)) (.tup (SqT.of (by rw [dif_new (none_of S ha), upd_same])) (dpa_same (dif_l (Same.new ha)) _ _ p))⟩
theorem da_lst (h : PA X es (tDats X.K ds)) (hl : ds.length ≤ 1000) : PE X (.List es pos) (tDat X.K (.list ds)) := pe_imp (pe_lst h) fun _ H Q q vs H1 S p =>
  ⟨by rw [← dpa_len p]; exact Nat.le_trans hl (by decide), fun a ha => q _ _ (Same.trans S (Same.new ha)) (.lst (SqL.of (by rw [dif_new (none_of S ha), upd_same])) (dpa_same (dif_l (Same.new ha)) _ _ p))⟩
theorem vd_of (h : PE X e (tDat X.K d)) : PE X e (tVd X.K (.inl d)) := pe_imp h fun _ _ _ q v H' S p => q v H' S p
theorem vd_new : PE X (.Dict [] [] pos) (tVd X.K (.inr [])) := pe_imp pe_dnewK fun _ H Q q a ha => q _ _ (Same.new ha) ⟨a, [], rfl, by rw [dif_new ha, upd_same], rfl, .nil⟩
theorem vs_nil : PA X [] (tVds X.K []) := pa_imp pa_nil fun _ _ _ q => q _ _ (Same.refl _) (fun x hx => by cases hx) rfl
theorem vs_cons (h : PE X e (tVd X.K m)) (r : PA X es (tVds X.K ms)) (hs : starEach (e :: es) X.env = (false, eval e X.env) :: starEach es X.env := by rfl) : PA X (e :: es) (tVds X.K (m :: ms)) := pa_imp (pa_cons h r hs) fun _ H Q q v H1 S1 p1 vs H2 S2 p2 l =>
  q _ _ (Same.trans S1 S2) (fun x hx => by
    rcases List.mem_cons.mp hx with rfl | hx
    · exact ⟨m, List.mem_cons_self, vd_same (dif_l S2) p1⟩
    · obtain ⟨n, hn, p⟩ := p2 x hx
      exact ⟨n, List.mem_cons_of_mem _ hn, vd_same (dif_r S1) p⟩) (congrArg Nat.succ l)
theorem merge_app : ∀ (more acc : List (Key × V)), ((acc ++ more).map (·.1)).Nodup → mergeK acc more = acc ++ more
  | [], acc, _ => (List.append_nil _).symm
  | p :: r, acc, h => by
    have e : acc ++ p :: r = (acc ++ [p]) ++ r := by simp
    have hp : putK acc p.1 p.2 = acc ++ [p] := by
      unfold putK
      rw [if_neg]
      intro z
      obtain ⟨q, hq, e2⟩ := List.any_eq_true.mp z
      have e3 : q.1 = p.1 := of_decide_eq_true e2
      rw [List.map_append, List.map_cons] at h
      have := (List.nodup_append.mp h).2.2 q.1 (List.mem_map.mpr ⟨q, hq, rfl⟩) p.1 (List.mem_cons_self ..)
      exact this e3
    show mergeK (putK acc p.1 p.2) r = _
    rw [hp, e]
    exact merge_app r (acc ++ [p]) (by rw [← e]; exact h)
structure PDs (X : Cx) (pos : Pos) (keys : List (Option Expr)) (values : List Expr) (kds : List (Key × PyData)) : Prop where
  to : ∃ trs, PPs X pos keys values trs ∧ ∀ (σ : St) (H : Hp) (Q : List (V × V) → Hp → Prop), (∀ (kvs : List (Key × V)) (H' : Hp), Same H H' → kvs.map (·.1) = kds.map (·.1) → DpAll X.K (dif H' H) (kvs.map (·.2)) (kds.map (·.2)) → Q (kvs.map fun kv => (kV kv.1, kv.2)) H') → tPairs trs σ H Q
theorem pd_nil : PDs X pos [] [] [] := ⟨[], pps_nil, fun σ H Q q => q [] H (Same.refl _) rfl .nil⟩
theorem pd_cons {z : Str} {v : Expr} {ks : List (Option Expr)} {vs : List Expr} {kds : List (Key × PyData)} {q2 : Pos} (hv : PE X v (tDat X.K d)) (r : PDs X pos ks vs kds) : PDs X pos (some (.Constant (.str z) j q2) :: ks) (v :: vs) ((.inr z, d) :: kds) := by
  obtain ⟨trs, h, t⟩ := r.to
  refine ⟨_, pps_cons pe_str hv h, fun σ H Q q => ?_⟩
  intro x H1 S1 p1
  refine t σ H1 _ fun kvs H2 S2 e2 p2 => ?_
  exact q ((.inr z, x) :: kvs) H2 (Same.trans S1 S2) (by rw [List.map_cons, List.map_cons, e2]) (.cons (dp_same (dif_l S2) _ _ p1) (dpa_same (dif_r S1) _ _ p2))
theorem pd_int {i : Int} {v : Expr} {ks : List (Option Expr)} {vs : List Expr} {kds : List (Key × PyData)} {q2 : Pos} (hv : PE X v (tDat X.K d)) (r : PDs X pos ks vs kds) : PDs X pos (some (.Constant (.int i) j q2) :: ks) (v :: vs) ((.inl i, d) :: kds) := by
  obtain ⟨trs, h, t⟩ := r.to
  refine ⟨_, pps_cons pe_int hv h, fun σ H Q q => ?_⟩
  intro x H1 S1 p1
  refine t σ H1 _ fun kvs H2 S2 e2 p2 => ?_
  exact q ((.inl i, x) :: kvs) H2 (Same.trans S1 S2) (by rw [List.map_cons, List.map_cons, e2]) (.cons (dp_same (dif_l S2) _ _ p1) (dpa_same (dif_r S1) _ _ p2))
theorem vd_dict {keys : List (Option Expr)} {values : List Expr} {kds : List (Key × PyData)} (r : PDs X pos keys values kds) (hall : keys.all (·.isSome) = true) (hl : keys.length = values.length) (h0 : keys ≠ []) (h15 : keys.length ≤ 15) (hk : kds.length ≤ 15) (hn : (kds.map (·.1)).Nodup) :
    PE X (.Dict keys values pos) (tVd X.K (.inr kds)) := by
  obtain ⟨trs, h, t⟩ := r.to
  refine pe_imp (pe_disp h hall hl h0 h15) fun σ H Q q a ha => t σ _ _ fun kvs H2 S2 e2 p2 => ?_
  have S1 : Same H H2 := Same.trans (Same.new ha) S2
  refine ⟨S2 _ _ upd_same, kvs, rfl, ?_, ?_⟩
  · have := congrArg List.length e2
    rw [List.length_map, List.length_map] at this
    omega
  rw [merge_app kvs [] (by rw [List.nil_append, e2]; exact hn), List.nil_append]
  have S3 : Same H (upd H2 a (.dK kvs)) := fun b o e => by
    rw [upd_ne (ne_of_none e ha)]
    exact S1 _ _ e
  refine q _ _ S3 ⟨a, kvs, rfl, by rw [dif_new ha, upd_same], e2, dpa_same ?_ _ _ p2⟩
  intro b o e
  have h1 := dif_inv e
  have nb : b ≠ a := fun z => by
    rw [z, upd_same] at h1
    cases h1.1
  rw [dif_new (by rw [upd_ne nb] at h1; exact h1.1), upd_ne nb]
  exact h1.2
theorem dr_lst (h : PA X es (tVds X.K ms)) (hl : ms.length ≤ 1000) : PE X (.List es pos) (tDraw X.K ms) := pe_imp (pe_lst h) fun _ H Q q vs H1 S p l =>
  ⟨by rw [l]; exact Nat.le_trans hl (by decide), fun a ha => q a vs _ (Same.trans S (Same.new ha)) (none_of S ha) upd_same (among_same (dif_l (Same.new ha)) p) l⟩
end
/-- an operation stands at p -/
def OpAt (H : Hp) (C p : Addr) (x1 x2 x3 x4 : V) : Prop := ∃ dx, H p = some (.ins C dx (opF x1 x2 x3 x4))
theorem opF1 (x1 x2 x3 x4 : V) : (opF x1 x2 x3 x4).lookup (("_name" : Str)) = some x1 := rfl
theorem opF2 (x1 x2 x3 x4 : V) : (opF x1 x2 x3 x4).lookup (("_ticks" : Str)) = some x2 := rfl
theorem opF3 (x1 x2 x3 x4 : V) : (opF x1 x2 x3 x4).lookup (("_reads" : Str)) = some x3 := rfl
theorem opF4 (x1 x2 x3 x4 : V) : (opF x1 x2 x3 x4).lookup (("_uses" : Str)) = some x4 := rfl
def sp_with (K : PySem.W.Frag) (C O : Addr) : Sp := fun vs H Q E => ∃ (p : Addr) (x1 x2 x3 x4 x : V) (dn dt dr du : PyData), vs = [.ref p, x] ∧ OpAt H C p x1 x2 x3 x4 ∧
  (DD K H x1 dn ∧ okD dn) ∧ DD K H x dt ∧ (DD K H x3 dr ∧ okD dr) ∧ (DD K H x4 du ∧ okD du) ∧
  (opOk dn dt dr du = true → ∀ v H', Same H H' → Q v H') ∧ (opOk dn dt dr du = false → ∀ (d : Addr) (H' : Hp), Same H H' → E (.ref O) (some d) H')
structure MX (U : TX K mg) where
  fW : Addr
  dW : FuncData
  FW : FunD K "with_ticks" "Operation.with_ticks" (defArgs s_Operation_with_ticks) (defBody s_Operation_with_ticks) (defScope s_Operation_with_ticks) [] [] fW dW
  fN : Addr
  dN : FuncData
  FN : FunD K "renamed" "Operation.renamed" (defArgs s_Operation_renamed) (defBody s_Operation_renamed) (defScope s_Operation_renamed) [] [] fN dN
theorem ok_with (T : T K mg) (U : TX K mg) (W : MX U) : FnOk P w K mg base (L2.CX P w) 7 W.fW W.dW ["self", "ticks"] (sp_with K U.C U.O) := by
  have G_init : FnOk P w K mg base (L2.CX P w) 5 U.fI U.dI ["self", "name", "ticks", "reads", "uses"] (sp_init K U.C U.O) := ok_init T U
  refine W.FW.ok (CX := L2.CX P w) sc_Operation_with_ticks (fun vs H Q E h => ?_) (fun cdv A outer s H vs Q E hr h => ?_)
  · obtain ⟨p, x1, x2, x3, x4, x, dn, dt, dr, du, rfl, _⟩ := h
    rfl
  · obtain ⟨p, x1, x2, x3, x4, x, dn, dt, dr, du, rfl, ⟨dx, hp⟩, h1, h2, h3, h4, k1, k2⟩ := h
    obtain ⟨mv, hb⟩ := kb_all (C := U.C) (O := U.O) U
    refine ⟨_, (pss_one (ps_ret (pe_makeK U.mkI G_init hr rfl U.mC hb (passes_call (takes_of rfl rfl rfl rfl) (fun _ _ _ _ h => h)) (pa_cons (pe_fld (pv 0) rfl) pa_nil) (pk_cons (pv 1) (pk_cons (pe_fld (pv 0) rfl) (pk_cons (pe_fld (pv 0) rfl) pk_nil)))))), ?_⟩
    refine ⟨_, rfl, p, U.C, dx, _, x1, rfl, hp, U.cl, U.n1, rfl, _, rfl, _, rfl, p, U.C, dx, _, x3, rfl, hp, U.cl, U.n3, rfl, _, rfl, p, U.C, dx, _, x4, rfl, hp, U.cl, U.n4, rfl, rfl, rfl, fun q dq hq hdq ne => ?_⟩
    have S1 : Same H (upd (upd H dq (.own q)) q (.ins U.C dq [])) := fun b o e => by
      rw [upd_ne (ne_of_none e hq), upd_ne (ne_of_none e hdq)]
      exact e
    refine ⟨q, dq, x1, x, x3, x4, dn, dt, dr, du, rfl, upd_same, ⟨DD.same S1 h1.1, h1.2⟩, DD.same S1 h2, ⟨DD.same S1 h3.1, h3.2⟩, ⟨DD.same S1 h4.1, h4.2⟩, fun e H' S' => ⟨rfl, k1 e _ _ ?_⟩, fun e d H' S' => k2 e d H' (Same.trans S1 S')⟩
    exact Same.at hq (Same.trans S1 S')
theorem lt1 {n : Nat} (h : n + 64 < cLine) : n + 1 < cLine := by omega
/-- kept: all but dicts and tables -/
def Kp (H H' : Hp) : Prop := ∀ b o, H b = some o → (∀ kvs, o ≠ .dK kvs) → (∀ ps, o ≠ .tbl ps) → H' b = some o
theorem Kp.seqL {H H' : Hp} {a : Addr} {xs : List V} (e : Kp H H') (h : SqL K H a xs) : SqL K H' a xs := by
  rcases h with (h | ⟨o, h⟩) | h
  · exact .inl (.inl (e _ _ h (by intro _ z; cases z) (by intro _ z; cases z)))
  · exact .inl (.inr ⟨o, e _ _ h (by intro _ z; cases z) (by intro _ z; cases z)⟩)
  · exact .inr h
theorem Kp.seqT {H H' : Hp} {a : Addr} {xs : List V} (e : Kp H H') (h : SqT K H a xs) : SqT K H' a xs := by
  rcases h with (h | ⟨o, h⟩) | h
  · exact .inl (.inl (e _ _ h (by intro _ z; cases z) (by intro _ z; cases z)))
  · exact .inl (.inr ⟨o, e _ _ h (by intro _ z; cases z) (by intro _ z; cases z)⟩)
  · exact .inr h
mutual
theorem dp_kp {H H' : Hp} (s : Kp H H') : ∀ (d : PyData) (x : V), Dp K H x d → Dp K H' x d
  | .none, _, h => by cases h; exact .non
  | .bool b, _, h => by cases h; exact .bl b
  | .int i, _, h => by cases h; exact .int i
  | .str z, _, h => by cases h; exact .str z
  | .list ds, _, h => by
    cases h with
    | lst h1 h2 => exact .lst (Kp.seqL s h1) (dpa_kp s ds _ h2)
  | .tuple ds, _, h => by
    cases h with
    | tup h1 h2 => exact .tup (Kp.seqT s h1) (dpa_kp s ds _ h2)
  | .dict _, _, h => by cases h
theorem dpa_kp {H H' : Hp} (s : Kp H H') : ∀ (ds : List PyData) (xs : List V), DpAll K H xs ds → DpAll K H' xs ds
  | [], _, h => by cases h; exact .nil
  | d :: ds, _, h => by
    cases h with
    | cons h1 h2 => exact .cons (dp_kp s d _ h1) (dpa_kp s ds _ h2)
end
theorem Same.kp {H H' : Hp} (s : Same H H') : Kp H H' := fun b o e _ _ => s b o e
theorem Kp.trans {H H1 H2 : Hp} (a : Kp H H1) (b : Kp H1 H2) : Kp H H2 := fun c o h n m => b c o (a c o h n m) n m
theorem Kp.lock {H : Hp} {a : Addr} {kvs : List (Key × V)} {o : HO} (h : H a = some (.dK kvs)) : Kp H (upd H a o) := fun b u e n _ => by
  rw [upd_ne (fun z => n kvs (by rw [z, h] at e; exact (Option.some.inj e).symm))]
  exact e
def keyD : Key → PyData
  | .inl n => .int n
  | .inr z => .str z
theorem keyD_dp {H : Hp} : ∀ k : Key, Dp K H (kV k) (keyD k)
  | .inl n => .int n
  | .inr z => .str z
abbrev Qu := Key × V × PyData
def okQ (q : Qu) : Bool := nmD (keyD q.1) && nmD q.2.2
def kvQ (qs : List Qu) : List (Key × V) := qs.map fun q => (q.1, q.2.1)
def toD (r : Str × Int) : PyData := .tuple [.str r.1, .int r.2]
theorem dpa_of {H : Hp} (g : Str → Str) : ∀ (rs : List (Str × Int)) (acc : List V), acc.length = rs.length → (∀ (j : Nat) (r : Str × Int), rs[j]? = some r → ∃ b : Addr, acc[j]? = some (V.ref b) ∧ H b = some (.tup [V.str (g r.1), V.int r.2])) → DpAll K H acc (rs.map fun r => toD (g r.1, r.2))
  | [], [], _, _ => .nil
  | r :: rs, v :: acc, l, h => by
    obtain ⟨b, e1, e2⟩ := h 0 r rfl
    obtain rfl := Option.some.inj e1
    exact .cons (.tup (SqT.of e2) (.cons (.str _) (.cons (.int _) .nil))) (dpa_of g rs acc (Nat.succ.inj l) fun j r hj => h (j + 1) r hj)
def sp_ren (K : PySem.W.Frag) (C O A : Addr) : Sp := fun vs H Q E => ∃ (p : Addr) (z0 : Str) (x2 x4 x : V) (a3 : Addr) (xs3 : List V) (dt du : PyData) (rs : List (Str × Int)), vs = [.ref p, x] ∧ OpAt H C p (.str z0) x2 (.ref a3) x4 ∧
  DD K H x2 dt ∧ (SqT K H a3 xs3 ∧ DpAll K H xs3 (rs.map toD) ∧ rs.length ≤ 100) ∧ (DD K H x4 du ∧ okD du) ∧
  ((∃ d, Dp K H x d ∧ ∀ (e : Addr) (H' : Hp), Same H H' → E (.ref A) (some e) H') ∨
   ∃ (a : Addr) (qs : List Qu), x = .ref a ∧ H a = some (.dK (kvQ qs)) ∧ qs.length ≤ 100 ∧ (∀ q ∈ qs, Dp K H q.2.1 q.2.2 ∧ okD q.2.2 ∧ okD (keyD q.1)) ∧
     ((qs.all okQ = false ∧ ∀ (e : Addr) (H' : Hp), Same H H' → E (.ref A) (some e) H') ∨
      (qs.all okQ = true ∧ (valV (kvQ qs) (.inr z0) = none ∨ ∃ r ∈ rs, valV (kvQ qs) (.inr r.1) = none) ∧ ∀ (e : Addr) (H' : Hp), Same H H' → E (.ref A) (some e) H') ∨
      (qs.all okQ = true ∧ ∃ g : Str → Str, valV (kvQ qs) (.inr z0) = some (.str (g z0)) ∧ (∀ r ∈ rs, valV (kvQ qs) (.inr r.1) = some (.str (g r.1))) ∧ okD (.str (g z0)) ∧ okD (.tuple (rs.map fun r => toD (g r.1, r.2))) ∧
        opOk (.str (g z0)) dt (.tuple (rs.map fun r => toD (g r.1, r.2))) du = true ∧ ∀ v H', Same H H' → Q v H')))
theorem ty_dict {d : PyData} {H : Hp} {x : V} (h : Dp K H x d) : kitB (tyD d) "dict" = some false := by
  cases h <;> (simp only [tyD]; decide +kernel)
theorem rd_get {H : Hp} {rs : List (Str × Int)} {xs : List V} {i : Nat} {y : V} (h : DpAll K H xs (rs.map toD)) (e : xs[i]? = some y) : ∃ (r : Str × Int) (b : Addr), rs[i]? = some r ∧ y = .ref b ∧ SqT K H b [.str r.1, .int r.2] := by
  obtain ⟨d, e1, p1⟩ := dpa_get h e
  rw [List.getElem?_map] at e1
  obtain ⟨r, e2, rfl⟩ := Option.map_eq_some_iff.mp e1
  refine ⟨r, ?_⟩
  cases p1 with
  | tup q1 q2 =>
    cases q2 with
    | cons a1 a2 =>
      cases a1
      cases a2 with
      | cons b1 b2 =>
        cases b1
        cases b2
        exact ⟨_, e2, rfl, q1⟩
theorem ok_ren (T : T K mg) (U : TX K mg) (W : MX U) : FnOk P w K mg base (L2.CX P w) 7 W.fN W.dN ["self", "names"] (sp_ren K U.C U.O U.A) := by
  have G_init : FnOk P w K mg base (L2.CX P w) 5 U.fI U.dI ["self", "name", "ticks", "reads", "uses"] (sp_init K U.C U.O) := ok_init T U
  have G_is_name : FnOk P w K mg base CX0 1 T.f_is_name T.d_is_name ["value"] (sp_is_name K) := ok_is_name T
  have G_R : FnOk P w K mg base CX0 1 U.fR U.dR ["self", "told"] (sp_R K) := ok_R U
  refine W.FN.ok (CX := L2.CX P w) sc_Operation_renamed (fun vs H Q E h => ?_) (fun cdv A outer s H vs Q E hr h => ?_)
  · obtain ⟨p, z0, x2, x4, x, a3, xs3, dt, du, rs, rfl, _⟩ := h
    rfl
  · obtain ⟨p, z0, x2, x4, x, a3, xs3, dt, du, rs, rfl, ⟨dx, hp⟩, h2, ⟨h3, h3d, h3l⟩, h4, alt⟩ := h
    have hu := hu_of hr
    have hr_is_name : Room 1 _ := hr.mono (by decide)
    have hr_R : Room 2 _ := hr.mono (by decide)
    obtain ⟨mv, hb⟩ := kb_all (C := U.C) (O := U.O) U
    refine ⟨_, (pss_cons (ps_if (pt_not (pt_val (pe_callB call_isi (by rfl) T.z_isinstance (by decide +kernel) (pa_cons (pv 1) (pa_cons (pe_bltn (v := V.ty "dict") (u := Value.type "dict") (by rfl) T.z_dict (by decide +kernel) rfl) pa_nil)))))
      (pss_one (ps_raise rfl (takes_of rfl rfl rfl rfl) (pmk_oex U.a.oex U.a.init U.tR G_R hr_R U.bR .nil pass0 rfl U.a.mg (pa_cons (pv 1) pa_nil))))
      pss_nil)
      (pss_cons (ps_if (pt_not (pt_val (pe_callB (cr_all rfl) (by rfl) T.z_all (by decide +kernel) (pa_cons (pe_lock (pe_lc (own := [("old", 3), ("new", 4)]) (g := gTup K 2 (gCons (gName 3) (gCons (gName 4) gNil))) rfl sc_Operation_renamed.nd (pi_items (pv 1)) (blkOk_by (N := ["self", "names", "reads", "old", "new", "name", "_", "distance"]) (sc := defScope s_Operation_renamed) (by decide +kernel)) (fun _ _ _ _ _ => (pg_tup rfl (pgs_cons (pg_name (i := 3) sc_Operation_renamed.nd rfl (Or.inl rfl)) (pgs_cons (pg_name (i := 4) sc_Operation_renamed.nd rfl (Or.inl rfl)) pgs_nil)))) (fun _ _ _ _ _ => pts_nil) (fun _ _ _ _ _ => (pe_and (pe_call G_is_name hr_is_name rfl T.m_is_name T.F_is_name.kp T.b_is_name .nil pass0 (pa_cons (pv 3) pa_nil)) (pe_one (pe_call G_is_name hr_is_name rfl T.m_is_name T.F_is_name.kp T.b_is_name .nil pass0 (pa_cons (pv 4) pa_nil))))))) pa_nil))))
      (pss_one (ps_raise rfl (takes_of rfl rfl rfl rfl) (pmk_oex U.a.oex U.a.init U.tR G_R hr_R U.bR .nil pass0 rfl U.a.mg (pa_cons (pv 1) pa_nil))))
      pss_nil)
      (pss_cons (ps_if (PW.pt (pw_or (pt_cmp (pc_dnotin (lt1 hr.units) (pe_fld (pv 0) rfl) (pv 1))) (pw_or1 (pt_not (pt_val (pe_callB (cr_all rfl) (by rfl) T.z_all (by decide +kernel) (pa_cons (pe_lc (own := [("name", 5), ("_", 6)]) (g := gTup K 2 (gCons (gName 5) (gCons (gName 6) gNil))) rfl sc_Operation_renamed.nd (pi_tup (pe_fld (pv 0) rfl)) (blkOk_by (N := ["self", "names", "reads", "old", "new", "name", "_", "distance"]) (sc := defScope s_Operation_renamed) (by decide +kernel)) (fun _ _ _ _ _ => (pg_tup rfl (pgs_cons (pg_name (i := 5) sc_Operation_renamed.nd rfl (Or.inl rfl)) (pgs_cons (pg_name (i := 6) sc_Operation_renamed.nd rfl (Or.inl rfl)) pgs_nil)))) (fun _ _ _ _ _ => pts_nil) (fun _ _ _ _ _ => (pe_cmp (pc_din (lt1 hr.units) (pv 5) (pv 1))))) pa_nil)))))))
      (pss_one (ps_raise rfl (takes_of rfl rfl rfl rfl) (pmk_oex U.a.oex U.a.init U.tR G_R hr_R U.bR .nil pass0 rfl U.a.mg (pa_cons (pv 1) pa_nil))))
      pss_nil)
      (pss_cons (ps_set (i := 2) sc_Operation_renamed.nd rfl (Or.inl rfl) (pe_callTy call_tuple_of (by rfl) T.z_tuple (by decide +kernel) (pa_cons (pe_lc (own := [("name", 5), ("distance", 7)]) (g := gTup K 2 (gCons (gName 5) (gCons (gName 7) gNil))) rfl sc_Operation_renamed.nd (pi_tup (pe_fld (pv 0) rfl)) (blkOk_by (N := ["self", "names", "reads", "old", "new", "name", "_", "distance"]) (sc := defScope s_Operation_renamed) (by decide +kernel)) (fun _ _ _ _ _ => (pg_tup rfl (pgs_cons (pg_name (i := 5) sc_Operation_renamed.nd rfl (Or.inl rfl)) (pgs_cons (pg_name (i := 7) sc_Operation_renamed.nd rfl (Or.inl rfl)) pgs_nil)))) (fun _ _ _ _ _ => pts_nil) (fun _ _ _ _ _ => (pe_tup (pa_cons (pe_dget (lt1 hr.units) (pv 1) (pv 5) (fun _ _ => rfl)) (pa_cons (pv 7) pa_nil))))) pa_nil)))
      (pss_one (ps_ret (pe_makeK U.mkI G_init hr rfl U.mC hb (passes_call (takes_of rfl rfl rfl rfl) (fun _ _ _ _ h => h)) (pa_cons (pe_dget (lt1 hr.units) (pv 1) (pe_fld (pv 0) rfl) (fun _ _ => rfl)) pa_nil) (pk_cons (pe_fld (pv 0) rfl) (pk_cons (pv 2) (pk_cons (pe_fld (pv 0) rfl) pk_nil)))))))))), ?_⟩
    have bad : ∀ {G : Hp} {v : V}, Same H G → (∀ (e : Addr) (H' : Hp), Same H H' → E (.ref U.A) (some e) H') → ∀ a, G a = none → sp_R K (.ref a :: ([v] ++ [])) (upd G a (exo a U.A none)) (fun v H2 => v = .non ∧ ∃ (d : Addr) (fs : List (Str × V)), H2 a = some (exo a U.A (some d)) ∧ H2 d = some (exd d fs) ∧ G d = none ∧ E (.ref U.A) (some d) (upd (del H2 a) d (.xd fs))) (fun _ _ _ => False) :=
      fun S k a ha => oex_out U.a ha fun d H' S' => k d H' (Same.trans S S')
    rcases alt with ⟨d, hd, k⟩ | ⟨a, qs, rfl, ha, hl, hq, alt⟩
    · refine ⟨_, rfl, _, _, _, _, false, rfl, .ty _, (DD.ty (.inl hd)), kit_ty (ty_dict hd), _, rfl, iteT ?_⟩
      refine ⟨_, rfl, by show 1 ≤ 1000; decide, bad (Same.refl _) k⟩
    · refine ⟨_, rfl, _, _, _, _, true, rfl, .ty _, .base (.dK ha), kit_ty (a := "dict") (b := "dict") (by decide +kernel), _, rfl, iteF ?_⟩
      refine ⟨a, _, ha, trivial, fun od => ?_⟩
      refine ⟨_, rfl, a, od, kvQ qs, rfl, upd_same, fun D hD => ?_⟩
      have nDa : D ≠ a := fun z => by rw [z, upd_same] at hD; cases hD
      refine lc_it walk_items (fun i H' => H' D = some (.lst (((qs.take i).map okQ).map V.bl)) ∧ Same (upd H a (.frz od (.dK (kvQ qs)))) H') ⟨upd_same, Same.new hD⟩ (fun i H' _ ⟨_, S⟩ => S _ _ upd_same) ?_ ?_
      · rintro i y H1 H2 hi ⟨eD, S⟩ ⟨T0, x1, y1, rfl, hT0, rfl, e1, e2⟩
        have hi2 : i < qs.length := by
          have h0 : (kvQ qs).length = qs.length := List.length_map ..
          omega
        obtain ⟨q, eq, hqm⟩ : ∃ q, qs[i]? = some q ∧ q ∈ qs := ⟨qs[i], List.getElem?_eq_getElem hi2, List.getElem_mem hi2⟩
        have ekv : (kvQ qs)[i]? = some (q.1, q.2.1) := by unfold kvQ; rw [List.getElem?_map, eq]; rfl
        dsimp only at e1 e2
        obtain rfl : kV q.1 = x1 := by
          rw [ekv] at e1
          exact Option.some.inj e1
        obtain rfl : q.2.1 = y1 := by
          rw [ekv] at e2
          exact Option.some.inj e2
        obtain ⟨p1, w1, w2⟩ := hq q hqm
        have S2 : Same (upd H a (.frz od (.dK (kvQ qs)))) (upd H1 T0 (.tup [kV q.1, q.2.1])) := Same.trans S (Same.new hT0)
        have K2 : Kp H (upd H1 T0 (.tup [kV q.1, q.2.1])) := Kp.trans (Kp.lock ha) (Same.kp S2)
        have nDT : T0 ≠ D := fun z => by rw [z, eD] at hT0; cases hT0
        refine ⟨T0, _, rfl, SqT.of upd_same, rfl, _, _, rfl, _, _, rfl, rfl, ?_⟩
        refine ⟨rfl, ?_⟩
        unfold tYes
        dsimp only
        rw [if_pos rfl]
        have done : ∀ (H4 : Hp) (b : Bool), Same (upd H1 T0 (.tup [kV q.1, q.2.1])) H4 → b = okQ q → ∃ acc, H4 D = some (.lst acc) ∧ acc.length < sizeLine ∧ (upd H4 D (.lst (acc ++ [V.bl b]))) D = some (.lst (((qs.take (i + 1)).map okQ).map V.bl)) ∧ Same (upd H a (.frz od (.dK (kvQ qs)))) (upd H4 D (.lst (acc ++ [V.bl b]))) := by
          rintro H4 b S4 rfl
          refine ⟨_, S4 _ _ ((upd_ne nDT.symm).trans eD), ?_, ?_, Same.at hD (Same.trans S2 S4)⟩
          · rw [List.length_map, List.length_map, List.length_take]
            exact Nat.lt_of_le_of_lt (Nat.le_trans (Nat.min_le_right _ _) (by omega : qs.length ≤ 100)) (by decide)
          · rw [upd_same, List.take_add_one, eq, List.map_append, List.map_append]
            rfl
        refine ⟨_, rfl, kV q.1, keyD q.1, rfl, .inl (keyD_dp _), w2, fun H3 S3 => ?_⟩
        refine ⟨_, rfl, ?_⟩
        by_cases c : nmD (keyD q.1) = true
        · rw [c]
          refine iteT ?_
          refine ⟨_, rfl, q.2.1, q.2.2, rfl, .inl (dp_same S3 _ _ (dp_kp K2 _ _ p1)), w1, fun H4 S4 => ?_⟩
          exact done H4 _ (Same.trans S3 S4) (by unfold okQ; rw [c, Bool.true_and])
        · rw [Bool.eq_false_iff.mpr c]
          exact iteF (done H3 _ S3 (by unfold okQ; rw [Bool.eq_false_iff.mpr c, Bool.false_and]))
      · rintro H9 ⟨eD, S⟩
        have S0 : Same H (upd H9 a (.dK (kvQ qs))) := fun b o e => by
          by_cases hb : b = a
          · rw [hb] at e ⊢
            rw [upd_same]
            exact ha.symm.trans e
          · rw [upd_ne hb]
            exact S _ _ ((upd_ne hb).trans e)
        refine ⟨S _ _ upd_same, _, _, rfl, SqL.of ((upd_ne nDa).trans eD), ?_⟩
        have eall : ((List.map okQ (List.take (kvQ qs).length qs)).all id) = qs.all okQ := by
          have h0 : (kvQ qs).length = qs.length := List.length_map ..
          rw [h0, List.take_length, List.all_map]
          rfl
        refine ⟨_, rfl, ?_⟩
        rw [eall]
        rcases alt with ⟨hok, k⟩ | alt
        · rw [hok]
          refine iteT ?_
          exact ⟨_, rfl, by show 1 ≤ 1000; decide, bad S0 k⟩
        · have hok : qs.all okQ = true := by
            rcases alt with h | h
            · exact h.1
            · exact h.1
          rw [hok]
          refine iteF ?_
          generalize upd H9 a (.dK (kvQ qs)) = G0 at S0 ⊢
          have hp2 := S0 _ _ hp
          have ha2 := S0 _ _ ha
          refine ⟨_, rfl, p, U.C, dx, _, .str z0, rfl, hp2, U.cl, U.n1, rfl, _, rfl, a, _, rfl, DGet.k (k := .inr z0) ha2, _, rfl, ?_⟩
          have lack : valV (kvQ qs) (.inr z0) = none ∨ (∃ r ∈ rs, valV (kvQ qs) (.inr r.1) = none) → ∀ (e : Addr) (H' : Hp), Same H H' → E (.ref U.A) (some e) H' := by
            rintro c
            rcases alt with ⟨_, _, k⟩ | ⟨_, g, e1, e2, _⟩
            · exact k
            · rcases c with c | ⟨r, hr, c⟩
              · rw [c] at e1
                cases e1
              · have := e2 r hr
                rw [c] at this
                cases this
          by_cases c0 : valV (kvQ qs) (.inr z0) = none
          · rw [c0]
            refine iteT (iteT ?_)
            exact ⟨_, rfl, by show 1 ≤ 1000; decide, bad S0 (lack (.inl c0))⟩
          · obtain ⟨v0, ev0⟩ := Option.ne_none_iff_exists'.mp c0
            rw [ev0]
            refine iteF ?_
            refine ⟨_, rfl, p, U.C, dx, _, .ref a3, rfl, hp2, U.cl, U.n3, rfl, a3, rfl, ⟨_, Same.seqT S0 h3⟩, fun D2 hD2 => ?_⟩
            have hn3 := dpa_len h3d
            rw [List.length_map] at hn3
            refine lc_tup (K := K) (a := a3) (xs := xs3) (fun i H' => H' D2 = some (.lst (((rs.take i).map fun r => (valV (kvQ qs) (.inr r.1)).isSome).map V.bl)) ∧ Same G0 H') ⟨upd_same, Same.new hD2⟩ (fun i H' _ ⟨_, S⟩ => Same.seqT (Same.trans S0 S) h3) ?_ ?_
            · rintro i y H1 hy ⟨eD2, S1⟩
              obtain ⟨r, b, er, rfl, hb2⟩ := rd_get (dpa_same (Same.trans S0 S1) _ _ h3d) hy
              refine ⟨b, _, rfl, hb2, rfl, _, _, rfl, _, _, rfl, rfl, ?_⟩
              refine ⟨rfl, ?_⟩
              unfold tYes
              dsimp only
              rw [if_pos rfl]
              refine ⟨_, rfl, _, rfl, a, _, rfl, DGet.k (k := .inr r.1) (S1 _ _ ha2), ?_⟩
              refine ⟨_, eD2, ?_, ?_, Same.at hD2 S1⟩
              · rw [List.length_map, List.length_map, List.length_take]
                exact Nat.lt_of_le_of_lt (Nat.le_trans (Nat.min_le_right _ _) h3l) (by decide)
              · rw [upd_same, List.take_add_one, er, List.map_append, List.map_append]
                rfl
            · rintro H7 ⟨eD2, S1⟩
              refine ⟨_, _, rfl, SqL.of eD2, ?_⟩
              refine ⟨_, rfl, ?_⟩
              have eall2 : ((List.map (fun r : Str × Int => (valV (kvQ qs) (.inr r.1)).isSome) (List.take xs3.length rs)).all id) = rs.all fun r => (valV (kvQ qs) (.inr r.1)).isSome := by
                rw [← hn3, List.take_length, List.all_map]
                rfl
              rw [eall2]
              by_cases c1 : (rs.all fun r => (valV (kvQ qs) (.inr r.1)).isSome) = true
              · rw [c1]
                refine iteF ?_
                obtain ⟨g, eg, er, w0, wr, hgood, k⟩ : ∃ g : Str → Str, valV (kvQ qs) (.inr z0) = some (.str (g z0)) ∧ (∀ r ∈ rs, valV (kvQ qs) (.inr r.1) = some (.str (g r.1))) ∧ okD (.str (g z0)) ∧ okD (.tuple (rs.map fun r => toD (g r.1, r.2))) ∧
                    opOk (.str (g z0)) dt (.tuple (rs.map fun r => toD (g r.1, r.2))) du = true ∧ ∀ v H', Same H H' → Q v H' := by
                  rcases alt with ⟨_, lk, _⟩ | ⟨_, h⟩
                  · rcases lk with lk | ⟨r, hr, lk⟩
                    · exact absurd lk c0
                    · have := List.all_eq_true.mp c1 r hr
                      rw [lk] at this
                      cases this
                  · exact h
                have S7 : Same H H7 := Same.trans S0 S1
                have hp7 := S7 _ _ hp
                have ha7 := S7 _ _ ha
                refine ⟨_, rfl, p, U.C, dx, _, .ref a3, rfl, hp7, U.cl, U.n3, rfl, a3, rfl, ⟨_, Same.seqT S7 h3⟩, fun D3 hD3 => ?_⟩
                refine lc_tup (K := K) (a := a3) (xs := xs3) (fun i H' => (∃ acc, H' D3 = some (.lst acc) ∧ acc.length = i ∧ ∀ (j : Nat) (r : Str × Int), j < i → rs[j]? = some r → ∃ b : Addr, acc[j]? = some (V.ref b) ∧ H' b = some (.tup [V.str (g r.1), V.int r.2])) ∧ Same H7 H')
                  ⟨⟨[], upd_same, rfl, fun j r hj _ => absurd hj (Nat.not_lt_zero _)⟩, Same.new hD3⟩ (fun i H' _ ⟨_, S⟩ => Same.seqT (Same.trans S7 S) h3) ?_ ?_
                · rintro i y H1 hy ⟨⟨acc, eD3, lacc, hacc⟩, S2⟩
                  have S8 : Same H H1 := Same.trans S7 S2
                  obtain ⟨r, b, er2, rfl, hb2⟩ := rd_get (dpa_same S8 _ _ h3d) hy
                  have hrm : r ∈ rs := List.mem_of_getElem? er2
                  refine ⟨b, _, rfl, hb2, rfl, _, _, rfl, _, _, rfl, rfl, ?_⟩
                  refine ⟨rfl, ?_⟩
                  unfold tYes
                  dsimp only
                  rw [if_pos rfl]
                  refine ⟨_, rfl, _, rfl, a, .str (g r.1), rfl, ?_, ?_⟩
                  · have h0 := DGet.k (k := .inr r.1) (S8 _ _ ha)
                    rw [er r hrm] at h0
                    exact h0
                  refine ⟨_, rfl, (by show 2 ≤ sizeLine; decide), fun t ht => ?_⟩
                  have nt : t ≠ D3 := fun z => by rw [z, eD3] at ht; cases ht
                  refine ⟨_, (upd_ne nt.symm).trans eD3, ?_, ⟨_, upd_same, ?_, fun j r' hj hr' => ?_⟩, Same.at hD3 (Same.trans S2 (Same.new ht))⟩
                  · have hil : i < rs.length := by
                      have := (List.getElem?_eq_some_iff.mp er2).1
                      exact this
                    rw [lacc]
                    exact Nat.lt_of_lt_of_le (show i < 1000 by omega) (by decide)
                  · rw [List.length_append, lacc]
                    rfl
                  · by_cases hji : j < i
                    · obtain ⟨b', e1, e2⟩ := hacc j r' hji hr'
                      have nb : b' ≠ D3 := fun z => by rw [z, eD3] at e2; cases e2
                      have nbt : b' ≠ t := fun z => by rw [z, ht] at e2; cases e2
                      exact ⟨b', by rw [List.getElem?_append_left (by omega)]; exact e1, by rw [upd_ne nb, upd_ne nbt]; exact e2⟩
                    · obtain rfl : j = i := by omega
                      rw [er2] at hr'
                      obtain rfl := Option.some.inj hr'
                      refine ⟨t, ?_, by rw [upd_ne nt, upd_same]⟩
                      rw [List.getElem?_append_right (by omega), lacc, Nat.sub_self]
                      rfl
                · rintro H6 ⟨⟨acc, eD3, lacc, hacc⟩, S2⟩
                  have S6 : Same H H6 := Same.trans S7 S2
                  have hd6 : DpAll K H6 acc (rs.map fun r => toD (g r.1, r.2)) := dpa_of g rs acc (by omega) fun j r hr => hacc j r (by
                    have := (List.getElem?_eq_some_iff.mp hr).1
                    omega) hr
                  refine ⟨D3, acc, rfl, .inl ⟨SqL.of eD3, fun l hl => ?_⟩⟩
                  have S9 : Same H (upd H6 l (.tup acc)) := Same.trans S6 (Same.new hl)
                  have hdl : Dp K (upd H6 l (.tup acc)) (.ref l) (.tuple (rs.map fun r => toD (g r.1, r.2))) := .tup (SqT.of upd_same) (dpa_same (Same.new hl) _ _ hd6)
                  generalize upd H6 l (.tup acc) = G9 at S9 hdl ⊢
                  have hp9 := S9 _ _ hp
                  refine ⟨_, rfl, _, rfl, p, U.C, dx, _, .str z0, rfl, hp9, U.cl, U.n1, rfl, a, .str (g z0), rfl, ?_, ?_⟩
                  · have h0 := DGet.k (k := .inr z0) (S9 _ _ ha)
                    rw [eg] at h0
                    exact h0
                  refine ⟨_, rfl, p, U.C, dx, _, x2, rfl, hp9, U.cl, U.n2, rfl, _, rfl, _, rfl, p, U.C, dx, _, x4, rfl, hp9, U.cl, U.n4, rfl, rfl, rfl, fun q dq hq' hdq ne => ?_⟩
                  have S5 : Same G9 (upd (upd G9 dq (.own q)) q (.ins U.C dq [])) := fun b o e => by
                    rw [upd_ne (ne_of_none e hq'), upd_ne (ne_of_none e hdq)]
                    exact e
                  have S95 := Same.trans S9 S5
                  refine ⟨q, dq, .str (g z0), x2, .ref l, x4, _, dt, _, du, rfl, upd_same, ⟨.inl (.str _), w0⟩, DD.same S95 h2, ⟨.inl (dp_same S5 _ _ hdl), wr⟩, ⟨DD.same S95 h4.1, h4.2⟩, fun e H' S' => ⟨rfl, k _ _ ?_⟩, fun e => ?_⟩
                  · exact Same.trans S9 (Same.at hq' (Same.trans S5 S'))
                  · rw [hgood] at e
                    cases e
              · rw [Bool.eq_false_iff.mpr c1]
                refine iteT ?_
                refine ⟨_, rfl, by show 1 ≤ 1000; decide, bad (Same.trans S0 S1) (lack (.inr ?_))⟩
                obtain ⟨r, hr, c2⟩ := List.all_eq_false.mp (Bool.eq_false_iff.mpr c1)
                exact ⟨r, hr, Option.not_isSome_iff_eq_none.mp c2⟩
def hid (r : Addr) (G : Hp) : Hp := fun b => if b = r then none else G b
theorem hid_inv {r b : Addr} {G : Hp} {o : HO} (e : hid r G b = some o) : b ≠ r ∧ G b = some o := by
  unfold hid at e
  by_cases h : b = r
  · rw [if_pos h] at e
    cases e
  · rw [if_neg h] at e
    exact ⟨h, e⟩
theorem hid_at {r b : Addr} {G : Hp} (h : b ≠ r) : hid r G b = G b := by unfold hid; rw [if_neg h]
theorem hid_same (r : Addr) (G : Hp) : Same (hid r G) G := fun b o e => (hid_inv e).2
theorem hid_only {r : Addr} {G G' : Hp} (h : Only r G G') : Same (hid r G) (hid r G') := fun b o e => by
  rw [hid_at (hid_inv e).1]
  exact h _ _ (hid_inv e).1 (hid_inv e).2
theorem dif_hid {r : Addr} {H H1 H2 : Hp} (hr : Rl H r) (h : Only r H1 H2) : Same (dif H1 H) (hid r H2) := fun b o e => by
  obtain ⟨a, b', c, er⟩ := hr
  have h1 := dif_inv e
  have n : b ≠ r := fun z => by rw [z, er] at h1; cases h1.1
  rw [hid_at n]
  exact h _ _ n h1.2
def mD : Dm → PyData
  | .inl d => d
  | .inr _ => .dict []
theorem vd_dd {K : PySem.W.Frag} {G : Hp} {x : V} : ∀ {m : Dm}, VD K G x m → DD K G x (mD m)
  | .inl d, h => .inl h
  | .inr kds, ⟨a, kvs, e1, e2, _, _⟩ => .inr ⟨a, kvs, e1, e2, rfl⟩
/-- a row of pairs that is none, and texts in it are short -/
def badM (most : Nat) (m : Dm) : Bool := !rwD most 3 (mD m) && decide ((mD m).weight ≤ 1000000)
section
variable {X : Cx}
theorem da_pow {i n : Int} {j k : Nat} {q1 q2 pos : Pos} (h : 0 ≤ n ∧ (Builtin.Int.intBits i : Int) * n ≤ 2 ^ 27 := by decide) : PE X (.BinOp (.Constant (.int i) j q1) .Pow (.Constant (.int n) k q2) pos) (tDat X.K (.int (i ^ n.toNat))) := pe_imp (pe_op op_powW pe_int pe_int) fun _ _ _ q => ⟨_, _, rfl, rfl, h, q _ _ (Same.refl _) (.int _)⟩
end
/-- the signs with a number -/
def sgn (z : Str) : List (Str × Int) := z.cps.toList.map fun c => (⟨#[c]⟩, 1)
def sp_w_bad_pairs (K : PySem.W.Frag) : Sp := fun vs H Q _ => ∃ (r : Addr) (m : Nat), vs = [.ref r, .int (m : Int)] ∧ (m = 3 ∨ m = 4) ∧ Rl H r ∧ ∀ v d H', Only r H H' → Rl H' r → DD K (hid r H') v d → okD d → rwD m 3 d = false → Q v H'
theorem ok_w_bad_pairs (T : T K mg) : FnOk P w K mg base CX0 3 T.f_w_bad_pairs T.d_w_bad_pairs ["reel", "most"] (sp_w_bad_pairs K) := by
  have G_w_pick : FnOk P w K mg base CX0 2 T.f_w_pick T.d_w_pick ["reel", "items"] (sp_w_pick K) := ok_w_pick T
  refine T.F_w_bad_pairs.ok sc_w_bad_pairs (fun vs H Q E h => ?_) (fun cdv A outer s H vs Q E hr h => ?_)
  · obtain ⟨r, m, rfl, _⟩ := h
    rfl
  · obtain ⟨r, m, rfl, hm, hR, k⟩ := h
    have hu := hu_of hr
    have hr_w_pick : Room 2 _ := hr.mono (by decide)
    refine ⟨_, (pss_cons (ps_set (i := 2) sc_w_bad_pairs.nd rfl (Or.inl rfl) (dr_lst (vs_cons (vd_of da_non) (vs_cons (vd_of da_int) (vs_cons (vd_of da_str) (vs_cons (vd_of (da_lst (ds_cons (da_tup (ds_cons da_str (ds_cons da_int ds_nil)) (by decide)) ds_nil) (by decide))) (vs_cons (vd_of (da_tup (ds_cons da_str (ds_cons da_int ds_nil)) (by decide))) (vs_cons (vd_of (da_tup (ds_cons (da_tup (ds_cons da_str ds_nil) (by decide)) ds_nil) (by decide))) (vs_cons (vd_of (da_tup (ds_cons (da_tup (ds_cons da_str (ds_cons da_int (ds_cons da_int ds_nil))) (by decide)) ds_nil) (by decide))) (vs_cons (vd_of (da_tup (ds_cons (da_lst (ds_cons da_str (ds_cons da_int ds_nil)) (by decide)) ds_nil) (by decide))) (vs_cons (vd_of (da_tup (ds_cons (da_tup (ds_cons da_str (ds_cons da_int ds_nil)) (by decide)) ds_nil) (by decide))) (vs_cons (vd_of (da_tup (ds_cons (da_tup (ds_cons da_str (ds_cons da_int ds_nil)) (by decide)) ds_nil) (by decide))) vs_nil)))))))))) (by decide)))
      (pss_cons (ps_set (i := 2) sc_w_bad_pairs.nd rfl (Or.inl rfl) (pe_op op_cat (pv 2) (dr_lst (vs_cons (vd_of (da_tup (ds_cons (da_tup (ds_cons da_str (ds_cons da_neg ds_nil)) (by decide)) ds_nil) (by decide))) (vs_cons (vd_of (da_tup (ds_cons (da_tup (ds_cons da_str (ds_cons da_int ds_nil)) (by decide)) ds_nil) (by decide))) (vs_cons (vd_of (da_tup (ds_cons (da_tup (ds_cons da_str (ds_cons da_non ds_nil)) (by decide)) ds_nil) (by decide))) (vs_cons (vd_of (da_tup (ds_cons (da_tup (ds_cons da_str (ds_cons da_bl ds_nil)) (by decide)) ds_nil) (by decide))) (vs_cons (vd_of (da_tup (ds_cons (da_tup (ds_cons da_str (ds_cons da_str ds_nil)) (by decide)) ds_nil) (by decide))) (vs_cons (vd_of (da_tup (ds_cons (da_tup (ds_cons da_str (ds_cons da_int ds_nil)) (by decide)) ds_nil) (by decide))) (vs_cons vd_new vs_nil))))))) (by decide))))
      (pss_cons (ps_set (i := 2) sc_w_bad_pairs.nd rfl (Or.inl rfl) (pe_op op_cat (pv 2) (pe_lst (pa_cons (vd_of (da_tup (ds_cons (da_tup (ds_cons da_int (ds_cons da_str ds_nil)) (by decide)) ds_nil) (by decide))) (pa_cons (vd_of (da_tup (ds_cons (da_tup (ds_cons da_str (ds_cons da_int ds_nil)) (by decide)) ds_nil) (by decide))) (pa_cons (vd_of (da_tup (ds_cons da_non ds_nil) (by decide))) (pa_cons (pe_callTy call_tuple_of (by rfl) T.z_tuple (by decide +kernel) (pa_cons (pe_lc (own := [("sign", 3)]) (g := gName 3) rfl sc_w_bad_pairs.nd (pi_str (pe_slice sl_str pe_str po_none (po_some (pe_op op_add (pv 1) pe_int)))) (blkOk_by (N := ["reel", "most", "odd", "sign"]) (sc := defScope s_w_bad_pairs) (by decide +kernel)) (fun _ _ _ _ _ => (pg_name (i := 3) sc_w_bad_pairs.nd rfl (Or.inl rfl))) (fun _ _ _ _ _ => pts_nil) (fun _ _ _ _ _ => (pe_tup (pa_cons (pv 3) (pa_cons pe_int pa_nil))))) pa_nil)) pa_nil)))))))
      (pss_one (ps_ret (pe_call G_w_pick hr_w_pick rfl T.m_w_pick T.F_w_pick.kp T.b_w_pick .nil pass0 (pa_cons (pv 0) (pa_cons (pv 2) pa_nil)))))))), ?_⟩
    intro l1 xs1 H1 S1 n1 e1 A1 ln1
    refine ⟨_, rfl, ?_⟩
    intro l2 xs2 H2 S2 n2 e2 A2 ln2
    refine ⟨l1, l2, xs1, xs2, rfl, rfl, S2 _ _ e1, e2, by rw [ln1, ln2]; decide, fun l3 hl3 => ?_⟩
    have S3 : Same H2 (upd H2 l3 (.lst (xs1 ++ xs2))) := Same.new hl3
    have e3 : (upd H2 l3 (.lst (xs1 ++ xs2))) l3 = some (.lst (xs1 ++ xs2)) := upd_same
    have A3 := among_app (among_same (dif_l (Same.trans S2 S3)) A1) (among_same (Same.trans (dif_r S1) (dif_l S3)) A2)
    have ln3 : (xs1 ++ xs2).length = 17 := by rw [List.length_append, ln1, ln2]; rfl
    have T3 : Same H (upd H2 l3 (.lst (xs1 ++ xs2))) := Same.trans S1 (Same.trans S2 S3)
    generalize upd H2 l3 (.lst (xs1 ++ xs2)) = H3 at S3 e3 A3 T3 ⊢
    generalize xs1 ++ xs2 = xs3 at e3 A3 ln3 ⊢
    refine ⟨_, rfl, ?_⟩
    intro v4 H4 S4 p4
    intro v5 H5 S5 p5
    intro v6 H6 S6 p6
    obtain ⟨i, z, hi, ez, hz, w1, w2⟩ : ∃ (i : Int) (z : Str), ((m : Nat) : Int) + 1 = i ∧ cutS "abcdef" none (some i) = z ∧ z.cps.size ≤ 10 ∧ okD (.tuple ((sgn z).map toD)) ∧ rwD m 3 (.tuple ((sgn z).map toD)) = false := by
      rcases hm with rfl | rfl
      · exact ⟨4, "abcd", rfl, by rfl, by decide, by unfold okD; decide +kernel, by decide +kernel⟩
      · exact ⟨5, "abcde", rfl, by rfl, by decide, by unfold okD; decide +kernel, by decide +kernel⟩
    refine ⟨_, rfl, _, _, rfl, rfl, i, congrArg V.int hi, "abcdef", rfl, by decide, z, by rw [ez], fun D hD => ?_⟩
    have T4 : Same H H4 := Same.trans T3 S4
    have T5 : Same H H5 := Same.trans T4 S5
    have T6 : Same H H6 := Same.trans T5 S6
    have hsz : (sgn z).length = z.cps.size := by unfold sgn; rw [List.length_map, Array.length_toList]
    refine lc_it walk_str (fun i H' => (∃ acc, H' D = some (.lst acc) ∧ acc.length = i ∧ ∀ (j : Nat) (q : Str × Int), j < i → (sgn z)[j]? = some q → ∃ b : Addr, acc[j]? = some (V.ref b) ∧ H' b = some (.tup [V.str q.1, V.int q.2]) ∧ H6 b = none) ∧ Same H6 H')
      ⟨⟨[], upd_same, rfl, fun j q hj _ => absurd hj (Nat.not_lt_zero _)⟩, Same.new hD⟩ (fun _ _ _ _ => trivial) ?_ ?_
    · rintro i y G1 G2 hi2 ⟨⟨acc, eD, lacc, hacc⟩, S⟩ ⟨rfl, c, hc, rfl⟩
      refine ⟨rfl, ?_⟩
      unfold tYes
      dsimp only
      rw [if_pos rfl]
      refine ⟨_, rfl, (by show 2 ≤ sizeLine; decide), fun t ht => ?_⟩
      have nt : t ≠ D := fun e => by rw [e, eD] at ht; cases ht
      refine ⟨_, (upd_ne nt.symm).trans eD, ?_, ⟨_, upd_same, ?_, fun j q hj hq => ?_⟩, Same.at hD (Same.trans S (Same.new ht))⟩
      · rw [lacc]
        exact Nat.lt_of_lt_of_le (show i < 1000 by omega) (by decide)
      · rw [List.length_append, lacc]
        rfl
      · by_cases hji : j < i
        · obtain ⟨b, q1, q2, q3⟩ := hacc j q hji hq
          have nb : b ≠ D := fun e => by rw [e, eD] at q2; cases q2
          have nbt : b ≠ t := fun e => by rw [e, ht] at q2; cases q2
          exact ⟨b, by rw [List.getElem?_append_left (by omega)]; exact q1, by rw [upd_ne nb, upd_ne nbt]; exact q2, q3⟩
        · obtain rfl : j = i := by omega
          have eq : (sgn z)[j]? = some (⟨#[c]⟩, 1) := by
            unfold sgn
            rw [List.getElem?_map, Array.getElem?_toList, hc]
            rfl
          rw [eq] at hq
          obtain rfl := Option.some.inj hq
          refine ⟨t, ?_, by rw [upd_ne nt, upd_same], none_of S ht⟩
          rw [List.getElem?_append_right (by omega), lacc, Nat.sub_self]
          rfl
    · rintro G9 ⟨⟨acc, eD, lacc, hacc⟩, S⟩
      refine ⟨D, acc, rfl, .inl ⟨SqL.of eD, fun t ht => ?_⟩⟩
      refine ⟨by show 4 ≤ sizeLine; decide, fun l7 hl7 => ?_⟩
      have nt7 : l7 ≠ t := fun e => by rw [e, upd_same] at hl7; cases hl7
      have St : Same G9 (upd G9 t (.tup acc)) := Same.new ht
      have S7 : Same (upd G9 t (.tup acc)) (upd (upd G9 t (.tup acc)) l7 (.lst [v4, v5, v6, .ref t])) := Same.new hl7
      have T9 : Same H6 (upd (upd G9 t (.tup acc)) l7 (.lst [v4, v5, v6, .ref t])) := Same.trans S (Same.trans St S7)
      have e9 : (upd (upd G9 t (.tup acc)) l7 (.lst [v4, v5, v6, .ref t])) l7 = some (.lst [v4, v5, v6, .ref t]) := upd_same
      have pt : Dp K (dif (upd (upd G9 t (.tup acc)) l7 (.lst [v4, v5, v6, .ref t])) H6) (.ref t) (.tuple ((sgn z).map toD)) := by
        refine .tup (SqT.of (by rw [dif_new (none_of S ht), upd_ne nt7.symm, upd_same])) ?_
        refine dpa_of (fun s => s) (sgn z) acc (by omega) fun j q hq => ?_
        have hj : j < acc.length := by
          have := (List.getElem?_eq_some_iff.mp hq).1
          omega
        obtain ⟨b, q1, q2, q3⟩ := hacc j q (by omega) hq
        exact ⟨b, q1, by rw [dif_new q3]; exact S7 _ _ (St _ _ q2)⟩
      generalize upd (upd G9 t (.tup acc)) l7 (.lst [v4, v5, v6, .ref t]) = G10 at T9 e9 pt ⊢
      refine ⟨l3, l7, xs3, _, rfl, rfl, T9 _ _ (S6 _ _ (S5 _ _ (S4 _ _ e3))), e9, by rw [ln3]; show 21 ≤ sizeLine; decide, fun l8 hl8 => ?_⟩
      have S8 : Same G10 (upd G10 l8 (.lst (xs3 ++ [v4, v5, v6, .ref t]))) := Same.new hl8
      have e8 : (upd G10 l8 (.lst (xs3 ++ [v4, v5, v6, .ref t]))) l8 = some (.lst (xs3 ++ [v4, v5, v6, .ref t])) := upd_same
      generalize upd G10 l8 (.lst (xs3 ++ [v4, v5, v6, .ref t])) = G11 at S8 e8 ⊢
      have TA : Same H6 G11 := Same.trans T9 S8
      have TB : Same H5 G11 := Same.trans S6 TA
      have TC : Same H4 G11 := Same.trans S5 TB
      have TD : Same H3 G11 := Same.trans S4 TC
      have hR' : Rl G11 r := Same.rl (Same.trans T3 TD) hR
      have ne8 : l8 ≠ r := Rl.ne (Same.rl (Same.trans T6 T9) hR) hl8
      refine ⟨_, rfl, _, rfl, r, .ref l8, _, rfl, hR', .inl ⟨l8, rfl, ne8, .inl (SqL.of e8)⟩, by rw [List.length_append, ln3]; show 0 < 21; decide, by rw [List.length_append, ln3]; show 21 ≤ sizeLine; decide, fun v H' hv R' O' => ?_⟩
      have O2 : Only r H H' := Only.trans (Same.only (Same.trans T3 TD)) O'
      have fin : ∀ mm : Dm, VD K (dif G11 H) v mm → badM m mm = true → Q v H' := fun mm p hb => by
        have h1 := Bool.and_eq_true_iff.mp hb
        exact k v (mD mm) H' O2 R' (vd_dd (vd_same (dif_hid hR O') p)) (of_decide_eq_true (p := (mD mm).weight ≤ 1000000) h1.2) (by simpa using h1.1)
      rcases List.mem_append.mp hv with hv | hv
      · obtain ⟨mm, hmm, p⟩ := A3 v hv
        refine fin mm (vd_same (dif_l TD) p) (List.all_eq_true.mp (?_ : List.all _ (badM m) = true) mm hmm)
        rcases hm with rfl | rfl
        · decide +kernel
        · decide +kernel
      · rcases List.mem_cons.mp hv with rfl | hv
        · refine fin _ (vd_same (Same.trans (dif_l TC) (dif_r T3)) p4) ?_
          rcases hm with rfl | rfl
          · decide +kernel
          · decide +kernel
        · rcases List.mem_cons.mp hv with rfl | hv
          · refine fin _ (vd_same (Same.trans (dif_l TB) (dif_r T4)) p5) ?_
            rcases hm with rfl | rfl
            · decide +kernel
            · decide +kernel
          · rcases List.mem_cons.mp hv with rfl | hv
            · refine fin _ (vd_same (Same.trans (dif_l TA) (dif_r T5)) p6) ?_
              rcases hm with rfl | rfl
              · decide +kernel
              · decide +kernel
            · obtain rfl := List.mem_singleton.mp hv
              exact k _ _ H' O2 R' (.inl (dp_same (dif_hid hR O') _ _ (dp_same (Same.trans (dif_l S8) (dif_r T6)) _ _ pt))) w1 w2
/-! ### try with several clauses, of which the exceptions that come meet one of the first -/
inductive Pre (X : Cx) : List ExceptHandler → List (Value × (Addr → Value → Option Addr → TS)) → Prop
  | rest (gs : List ExceptHandler) : Pre X gs []
  | more {nm : Str} {cv : Value} {wt : Addr → Value → Option Addr → TS} {st0 : Stmt} {sts : List Stmt} {pp qq : Pos} {gs : List ExceptHandler} {ls : List (Value × (Addr → Value → Option Addr → TS))}
      (known : Names X nm cv)
      (suite : ∀ (ad : Addr) (ob : Obj) (kl : Value) (dd : Option Addr) (pins0 : List (Addr × Obj)), Zc kl dd ob → (∃ fv, ob.data = .fields fv) → PSs (X.suite ad ((ad, ob) :: pins0)) (st0 :: sts) (wt ad kl dd))
      (tail : Pre X gs ls) : Pre X (.ExceptHandler (some (.Name nm pp)) none (st0 :: sts) qq :: gs) ((cv, wt) :: ls)
def wNo : WX := fun _ _ _ _ => False
section
variable {X : Cx} {todo : List Stmt} {g : ExceptHandler} {gs : List ExceptHandler} {ls : List (Value × (Addr → Value → Option Addr → TS))} {at_ : Pos} {rd : WX → TS}
theorem try_pre (st : X.stack = X.env :: X.outer) (fr : X.env.frame = some X.env.locals)
    (inner : ∀ (Wx : WX) (pins1 : List (Addr × Obj)) (ex1 : Value → Shared → Prop), Takes (X.tr pins1 ex1) Wx → PassesOwn (model X.prog X.w) X.A X.env ex1 → PSs (X.tr pins1 ex1) todo (rd Wx))
    (cl : Pre X (g :: gs) ls) : PS X (.Try todo (g :: gs) [] [] at_) (fun De st0 He => rd (wMany X.K wNo De ls) De st0 He) := by
  constructor
  intro pn0 s0 st0 He De inv rdg
  have okx := inv.ok
  have frames : X.A.frames = some (X.env :: X.outer) := by
    rw [okx.frames, st]
  apply wpAny_Try_except
  have run1 := (inner (wMany X.K wNo De ls) (X.pn ++ pn0)
    (fun ev s1 => wpAny (model X.prog X.w) X.A (noteFrame ev X.env)
      (fun _ s2 => wpAny (model X.prog X.w) X.A (setFlight ev none)
        (fun _ s3 => wpAny (model X.prog X.w) X.A (handleBy ev X.env (g :: gs)) (SP X pn0 De) X.xe s3) X.xe s2) X.xe s1)
    ?caught PassesOwn.looking).run [] s0 st0 He De (inv.toTry _) rdg
  case caught =>
    intro ev sE came
    obtain ⟨ad, gr, sJ, pinsJ, stJ, HJ, kl, dd, evq, invJ0, kept, slotsUp, flies, untracked, osq, bareq, wish⟩ := came
    subst evq
    have invJ : Inv X pn0 stJ HJ sJ := invJ0.ofTry okx
    have flies2 : Sky gr (X.env :: X.outer) ad (Zc kl dd) X.env.locals sE.heap := st ▸ flies
    refine Sky.land Zc.steady frames fr flies2 ?_
    intro hA flA upA
    have invA : Inv X pn0 stJ HJ { sE with heap := hA } := invJ.landed kept flA.1 (slotsUp.trans upA) osq bareq
    obtain ⟨obA, fvA, getA, zA, dataA⟩ := flA.there
    have offFrames : ad ∉ frs (X.env :: X.outer) := by
      intro inside
      obtain ⟨_, ob2, get2, no2⟩ := flA.2.2.1.mem inside
      have same := getA.symm.trans get2
      cases same
      exact no2 _ dataA
    have offLocals : ad ≠ X.env.locals := by
      intro q
      exact offFrames (List.mem_filterMap.mpr ⟨X.env, List.mem_cons_self, fr.trans (congrArg some q.symm)⟩)
    have offFs : ad ∉ X.fs := by
      intro inside
      obtain ⟨en, hen, q⟩ := List.mem_filterMap.mp inside
      exact offFrames (List.mem_filterMap.mpr ⟨en, List.mem_cons_of_mem _ hen, q⟩)
    have invS := invA.suite getA dataA untracked offLocals offFs
    have walk : ∀ {hs : List ExceptHandler} {l2 : List (Value × (Addr → Value → Option Addr → TS))}, Pre X hs l2 → wMany X.K wNo De l2 kl dd stJ HJ →
        wpAny (model X.prog X.w) X.A (handleBy (.ref ad) X.env hs) (SP X pn0 De) X.xe { sE with heap := hA } := by
      intro hs l2 pr
      induction pr with
      | rest _ => exact fun none_ => none_.elim
      | @more nm cv wt stm sts pp qq hs2 l3 known suite _ ih =>
        rintro ⟨yes, meets, go1, go2⟩
        refine wpAny_handleBy_cons (codeAny_handlers_test ?_) (by intro q; cases q)
        have typeIs : PySem.W.Looks (model X.prog X.w) hA (typeOf (.ref ad)) kl := fun A0 Q0 E0 sx kp q =>
          wpAny_typeOf_ref (kp _ _ getA) (by rw [zA.1]; exact q)
        have asked := PySem.W.exm_one (M := model X.prog X.w) invA.kIn typeIs meets
        have named : ∀ {Q0 : Value → Shared → Prop} {E0 : Value → Shared → Prop}, Q0 cv { sE with heap := hA } →
            wpAny (model X.prog X.w) (X.A.mark (some (.ref ad))) (eval (.Name nm pp) X.env) Q0 E0 { sE with heap := hA } := by
          intro Q0 E0 q
          obtain ⟨vis, dbg, glob | ⟨glob, boot, nn⟩⟩ := known
          · exact ld_glob (X := X.suite ad ((ad, obA) :: (X.pn ++ pn0))) invS vis glob q dbg
          · exact ld_blt (X := X.suite ad ((ad, obA) :: (X.pn ++ pn0))) invS vis glob boot q nn dbg
        refine named (asked.here ?_)
        cases yes with
        | false => exact ih (go2 rfl)
        | true =>
          refine codeAny_handlers_suite (HandSPX.lands_againZ flA ?_)
          intro hB flB upB
          have invB : Inv X pn0 stJ HJ { sE with heap := hB } := invJ.landed kept flB.1 ((slotsUp.trans upA).trans upB) osq bareq
          obtain ⟨obB, fvB, getB, zB, dataB⟩ := flB.there
          have invT := invB.suite getB dataB untracked offLocals offFs
          have run2 := (suite ad obB kl dd (X.pn ++ pn0) zB ⟨_, dataB⟩).run [] _ _ HJ _ invT (go1 rfl ad untracked)
          refine wpAny_mono run2 ?_ (fun _ _ q => q.elim)
          intro fl sF ended
          cases fl with
          | ret uv =>
            obtain ⟨vv, stF, HF, invF, rel, q⟩ := ended
            exact ⟨_, _, _, invF.unsuite okx, rel, q⟩
          | next =>
            obtain ⟨stF, HF, invF, q⟩ := ended
            exact ⟨_, _, invF.unsuite okx, q⟩
          | brk =>
            obtain ⟨stF, HF, invF, q⟩ := ended
            exact ⟨_, _, invF.unsuite okx, q⟩
          | cont =>
            obtain ⟨stF, HF, invF, q⟩ := ended
            exact ⟨_, _, invF.unsuite okx, q⟩
    exact walk cl wish
  refine wpAny_mono run1 ?_ (fun _ _ q => q)
  intro fl sF ended
  cases fl with
  | ret uv =>
    obtain ⟨vv, stF, HF, invF, rel, q⟩ := ended
    exact ⟨vv, stF, HF, invF.ofTry okx, rel, q⟩
  | next =>
    obtain ⟨stF, HF, invF, q⟩ := ended
    exact wpAny_execs_nil ⟨stF, HF, invF.ofTry okx, q⟩
  | brk =>
    obtain ⟨stF, HF, invF, q⟩ := ended
    exact ⟨stF, HF, invF.ofTry okx, q⟩
  | cont =>
    obtain ⟨stF, HF, invF, q⟩ := ended
    exact ⟨stF, HF, invF.ofTry okx, q⟩
end
/-- the other classes that the law's word asks for -/
structure WC (K : PySem.W.Frag) (mg : Str → Option Value) (O A : Addr) where
  L : Addr
  mL : mg "InvalidLoop" = some (.ref L)
  M : Addr
  mM : mg "InvalidMachine" = some (.ref M)
  oo : PySem.W.exmOne K (.ref O) (.ref O) = some true
  ao : PySem.W.exmOne K (.ref A) (.ref O) = some false
  al : PySem.W.exmOne K (.ref A) (.ref L) = some false
  am : PySem.W.exmOne K (.ref A) (.ref M) = some false
  aa : PySem.W.exmOne K (.ref A) (.ref A) = some true
/-- the word for what a call does -/
def TTW (O A : Addr) : (XK → Hp → VK → Prop) → Hp → VK → Prop := fun tl H Q =>
  tl (fun cls _ H' => (cls = .ref O ∧ Q (.str "operation") H') ∨ (cls = .ref A ∧ Q (.str "argument") H')) H (fun _ H' => Q (.str "fine") H')
open LamX in
theorem word_gives {X : Cx} {O A g : Addr} {cdg : Value} {q : Str} (mO : X.mg "InvalidOperation" = some (.ref O)) (mA : X.mg "InvalidArgument" = some (.ref A)) (C : WC X.K X.mg O A) :
    GivesTo X ["call", "error"] "_law_word" (defScope s_w_word) g cdg (defBody s_w_word) "call" q (TTW O A) := by
  intro f c' s H Q tl act hc h
  refine ⟨_, pss_cons (try_pre (X := (cxOf C8.CX0 X.prog X.w X.K X.mg X.base ["call", "error"] "_law_word" (defScope s_w_word) g cdg X.A X.stack s H C8.E0).nox)
      (rd := fun W D σ H => ∃ Ech : XK, (∀ cls d σ' H', Ech cls d H' → W cls d σ' H') ∧ σ[0]? = some (some (.ref f)) ∧ H c' = some (CodeO c' q) ∧ tl Ech H (fun _ H1 => D.nx σ H1))
      rfl rfl (fun W pn xe tk _ => ?_)
      (.more (cv := .ref O) (wt := fun _ _ _ => tRet (tC (.str "operation"))) ⟨rfl, by decide, .inl mO⟩ (fun a oe cls d pn _ _ => pss_one (ps_ret pe_str))
      (.more (cv := .ref C.L) (wt := fun _ _ _ => tRet (tC (.str "loop"))) ⟨rfl, by decide, .inl C.mL⟩ (fun a oe cls d pn _ _ => pss_one (ps_ret pe_str))
      (.more (cv := .ref C.M) (wt := fun _ _ _ => tRet (tC (.str "machine"))) ⟨rfl, by decide, .inl C.mM⟩ (fun a oe cls d pn _ _ => pss_one (ps_ret pe_str))
      (.more (cv := .ref A) (wt := fun _ _ _ => tRet (tC (.str "argument"))) ⟨rfl, by decide, .inl mA⟩ (fun a oe cls d pn _ _ => pss_one (ps_ret pe_str))
      (.rest _)))))) (pss_one (ps_ret pe_str)), ?_⟩
  · refine ⟨fun pins s' σ H' D I h' => ?_⟩
    obtain ⟨Ech, hW, h1, h2, h3⟩ := h'
    exact (pss_one (ps_expr (act W pn xe Ech _ _ tk hW))).run pins s' σ H' D I ⟨h1, h2, h3⟩
  · refine ⟨fun cls _ H' => (cls = .ref O ∧ Q (.str "operation") H') ∨ (cls = .ref A ∧ Q (.str "argument") H'), fun cls d σ' H' hh => ?_, rfl, hc, h⟩
    rcases hh with ⟨rfl, q1⟩ | ⟨rfl, q1⟩
    · exact ⟨true, C.oo, fun _ a _ => q1, (fun e => by cases e)⟩
    · exact ⟨false, C.ao, (fun e => by cases e), fun _ => ⟨false, C.al, (fun e => by cases e), fun _ => ⟨false, C.am, (fun e => by cases e), fun _ => ⟨true, C.aa, fun _ a _ => q1, (fun e => by cases e)⟩⟩⟩⟩
open LamX in
theorem ext_seqL {K : PySem.W.Frag} {H H' : Hp} {a : Addr} {xs : List V} (e : ExtN H H') (h : SqL K H a xs) : SqL K H' a xs := by
  rcases h with (h | ⟨o, h⟩) | h
  · exact .inl (.inl (e _ _ h (by intro _ z; cases z)))
  · exact .inl (.inr ⟨o, e _ _ h (by intro _ z; cases z)⟩)
  · exact .inr h
open LamX in
theorem ext_kp {H H' : Hp} (e : ExtN H H') : Kp H H' := fun b o h _ n => e b o h n
open LamX in
theorem ext_same {H H' : Hp} (e : Same H H') : ExtN H H' := fun b o h _ => e b o h
open LamX in
theorem dd_ext {H H' : Hp} {x : V} {d : PyData} (e : ExtN H H') (h : DD K H x d) : DD K H' x d := by
  rcases h with h | ⟨a, kvs, e1, e2, e3⟩
  · exact .inl (dp_kp (ext_kp e) _ _ h)
  · exact .inr ⟨a, kvs, e1, e _ _ e2 (by intro _ z; cases z), e3⟩
open LamX in
theorem vd_ext {H H' : Hp} {x : V} {m : Dm} (e : ExtN H H') (h : VD K H x m) : VD K H' x m := by
  cases m with
  | inl d => exact dp_kp (ext_kp e) _ _ h
  | inr kds =>
    obtain ⟨a, kvs, e1, e2, e3, e4⟩ := h
    exact ⟨a, kvs, e1, e _ _ e2 (by intro _ z; cases z), e3, dpa_kp (ext_kp e) _ _ e4⟩
open LamX in
theorem ext_at {Gd G : Hp} {l : Addr} {o : HO} (e : ExtN Gd G) (n : Gd l = none) : ExtN Gd (upd G l o) := fun b u h m => by
  rw [upd_ne (ne_of_none h n)]
  exact e b u h m
open LamX in
theorem tabs_at {T : List (Addr × Str)} {G : Hp} {l : Addr} {o u : HO} (t : Tabs T G) (h : G l = some u) (n1 : ∀ ps, u ≠ .tbl ps) (n2 : ∀ c q, u ≠ CodeO c q) : Tabs T (upd G l o) := fun p hp => by
  obtain ⟨ps, h1, h2, h3⟩ := t p hp
  refine ⟨ps, ?_, h2, fun pos cv hc => ?_⟩
  · rw [upd_ne (fun z => by rw [z, h] at h1; exact n1 ps (Option.some.inj h1))]
    exact h1
  · obtain ⟨c, e1, e2⟩ := h3 pos cv hc
    exact ⟨c, e1, by rw [upd_ne (fun z => by rw [z, h] at e2; exact n2 l _ (Option.some.inj e2))]; exact e2⟩
open LamX in
/-- an operation made of data -/
theorem op_read (U : TX K mg) {Gd H1 : Hp} {x1 x2 x3 x4 : V} {dn dt dr du : PyData} (X1 : ExtN Gd H1) (d1 : DD K Gd x1 dn) (o1 : okD dn) (d2 : DD K Gd x2 dt) (d3 : DD K Gd x3 dr) (o3 : okD dr) (d4 : DD K Gd x4 du) (o4 : okD du) {Q : VK} {E : XK} {q dq : Addr} (hq : H1 q = none) (hdq : H1 dq = none) (ne : dq ≠ q)
    (k1 : opOk dn dt dr du = true → ∀ H', Same H1 H' → OpAt H' U.C q x1 x2 x3 x4 → Q (.ref q) H') (k2 : opOk dn dt dr du = false → ∀ (d : Addr) (H' : Hp), Same H1 H' → E (.ref U.O) (some d) H') :
    sp_init K U.C U.O [.ref q, x1, x2, x3, x4] (upd (upd H1 dq (.own q)) q (.ins U.C dq [])) (fun v H3 => v = .non ∧ Q (.ref q) H3) E := by
  have S5 : Same H1 (upd (upd H1 dq (.own q)) q (.ins U.C dq [])) := fun b o e => by
    rw [upd_ne (ne_of_none e hq), upd_ne (ne_of_none e hdq)]
    exact e
  have X2 := ExtN.trans X1 (ext_same S5)
  refine ⟨q, dq, x1, x2, x3, x4, dn, dt, dr, du, rfl, upd_same, ⟨dd_ext X2 d1, o1⟩, dd_ext X2 d2, ⟨dd_ext X2 d3, o3⟩, ⟨dd_ext X2 d4, o4⟩, fun e H' S' => ⟨rfl, k1 e _ ?_ ⟨dq, upd_same⟩⟩, fun e d H' S' => k2 e d H' (Same.trans S5 S')⟩
  exact Same.at hq (Same.trans S5 S')
open LamX in
/-- the law's word for it -/
theorem op_word (U : TX K mg) {T : List (Addr × Str)} {Gd H1 : Hp} {x1 x2 x3 x4 : V} {dn dt dr du : PyData} (z : Str) (hz : (if opOk dn dt dr du = true then ("fine" : Str) else "operation") = z) (X1 : ExtN Gd H1) (d1 : DD K Gd x1 dn) (o1 : okD dn) (d2 : DD K Gd x2 dt) (d3 : DD K Gd x3 dr) (o3 : okD dr) (d4 : DD K Gd x4 du) (o4 : okD du) {Q : VK} {q dq : Addr} (hq : H1 q = none) (hdq : H1 dq = none) (ne : dq ≠ q)
    (T1 : Tabs T H1) (k : ∀ H', ExtN Gd H' → ExtN H1 H' → Tabs T H' → Q (.str z) H') :
    sp_init K U.C U.O [.ref q, x1, x2, x3, x4] (upd (upd H1 dq (.own q)) q (.ins U.C dq [])) (fun v H3 => v = .non ∧ (fun (_ : V) H' => Q (.str "fine") H') (.ref q) H3) (fun cls _ H' => (cls = .ref U.O ∧ Q (.str "operation") H') ∨ (cls = .ref U.A ∧ Q (.str "argument") H')) := by
  refine op_read U (Q := fun _ H' => Q (.str "fine") H') (E := fun cls _ H' => (cls = .ref U.O ∧ Q (.str "operation") H') ∨ (cls = .ref U.A ∧ Q (.str "argument") H')) X1 d1 o1 d2 d3 o3 d4 o4 hq hdq ne (fun e H' S' _ => ?_) (fun e d H' S' => .inl ⟨rfl, ?_⟩)
  · rw [if_pos e] at hz
    rw [hz]
    exact k H' (ExtN.trans X1 (ext_same S')) (ext_same S') (Tabs.ext T1 S')
  · rw [e, if_neg (by simp)] at hz
    rw [hz]
    exact k H' (ExtN.trans X1 (ext_same S')) (ext_same S') (Tabs.ext T1 S')
theorem dd_r0 (U : TX K mg) {H : Hp} : DD K H (.ref U.r0) (.tuple []) := .inl (.tup U.nr.seqT .nil)
theorem dd_u0 (U : TX K mg) {H : Hp} : DD K H (.ref U.u0) (.tuple []) := .inl (.tup U.nu.seqT .nil)
theorem qs_of {G : Hp} : ∀ (kvs : List (Key × V)) (kds : List (Key × PyData)), kvs.map (·.1) = kds.map (·.1) → DpAll K G (kvs.map (·.2)) (kds.map (·.2)) → ∃ qs : List Qu, kvQ qs = kvs ∧ (qs.map fun q => (q.1, q.2.2)) = kds ∧ ∀ q ∈ qs, Dp K G q.2.1 q.2.2
  | [], [], _, _ => ⟨[], rfl, rfl, fun q hq => by cases hq⟩
  | (k, v) :: kvs, (k', d) :: kds, e, h => by
    cases h with
    | cons h1 h2 =>
      have e1 : k = k' := (List.cons.inj e).1
      obtain ⟨qs, a, b, c⟩ := qs_of kvs kds (List.cons.inj e).2 h2
      refine ⟨(k, v, d) :: qs, by show (k, v) :: kvQ qs = _; rw [a], by rw [List.map_cons, b, e1], fun q hq => ?_⟩
      rcases List.mem_cons.mp hq with rfl | hq
      · exact h1
      · exact c q hq
/-- whether an operation a that reads b and a refuses it -/
def renB : Dm → Bool
  | .inl _ => true
  | .inr kds => decide (kds.length ≤ 100) && (kds.all fun p => decide (p.2.weight ≤ 1000000) && decide ((keyD p.1).weight ≤ 1000000)) && (!(kds.all fun p => nmD (keyD p.1) && nmD p.2) || !(kds.any fun p => decide (p.1 = .inr "a")) || !(kds.any fun p => decide (p.1 = .inr "b")))
theorem val_none {qs : List Qu} {k : Key} (h : (qs.map fun q => (q.1, q.2.2)).any (fun p => decide (p.1 = k)) = false) : valV (kvQ qs) k = none := by
  unfold valV kvQ
  rw [List.find?_map]
  have : List.find? ((fun kv : Key × V => decide (kv.1 = k)) ∘ fun q : Qu => (q.1, q.2.1)) qs = none := by
    rw [List.find?_eq_none]
    intro q hq z
    have := List.any_eq_false.mp h (q.1, q.2.2) (List.mem_map.mpr ⟨q, hq, rfl⟩)
    exact this z
  rw [this]
  rfl
open LamX in
/-- renamed refuses it -/
theorem ren_bad (U : TX K mg) {H : Hp} {q a3 : Addr} {xs3 : List V} {x : V} {m : Dm} (hop : OpAt H U.C q (.str "a") (.int 1) (.ref a3) (.ref U.u0)) (h3 : SqT K H a3 xs3) (h3d : DpAll K H xs3 (([("b", 1), ("a", 2)] : List (Str × Int)).map toD)) (hm : renB m = true) (hx : VD K H x m) {Q : VK} {E : XK} (k : ∀ (e : Addr) (H' : Hp), Same H H' → E (.ref U.A) (some e) H') : sp_ren K U.C U.O U.A [.ref q, x] H Q E := by
  refine ⟨q, "a", .int 1, .ref U.u0, x, a3, xs3, .int 1, .tuple [], _, rfl, hop, .inl (.int 1), ⟨h3, h3d, by decide⟩, ⟨dd_u0 U, by unfold okD; decide +kernel⟩, ?_⟩
  cases m with
  | inl d => exact .inl ⟨d, hx, k⟩
  | inr kds =>
    obtain ⟨a, kvs, rfl, e2, e3, e4⟩ := hx
    obtain ⟨qs, rfl, eb, hq⟩ := qs_of kvs kds e3 e4
    have h1 := Bool.and_eq_true_iff.mp hm
    have h2 := Bool.and_eq_true_iff.mp h1.1
    have hl : qs.length ≤ 100 := by
      have h4 := of_decide_eq_true h2.1
      rw [← eb, List.length_map] at h4
      exact h4
    refine .inr ⟨a, qs, rfl, e2, hl, fun p hp => ⟨hq p hp, ?_⟩, ?_⟩
    · have h5 := List.all_eq_true.mp h2.2 (p.1, p.2.2) (by rw [← eb]; exact List.mem_map.mpr ⟨p, hp, rfl⟩)
      have h6 := Bool.and_eq_true_iff.mp h5
      exact ⟨of_decide_eq_true (p := p.2.2.weight ≤ 1000000) h6.1, of_decide_eq_true (p := (keyD p.1).weight ≤ 1000000) h6.2⟩
    · by_cases ho : qs.all okQ = true
      · refine .inr (.inl ⟨ho, ?_, k⟩)
        have h7 := h1.2
        have h8 : (kds.all fun p => nmD (keyD p.1) && nmD p.2) = true := by
          rw [← eb, List.all_map]
          exact ho
        rw [h8, Bool.not_true, Bool.false_or] at h7
        rcases Bool.or_eq_true_iff.mp h7 with h9 | h9
        · exact .inl (val_none (by rw [eb]; simpa using h9))
        · exact .inr ⟨("b", 1), by simp, val_none (by rw [eb]; simpa using h9)⟩
      · exact .inl ⟨Bool.eq_false_iff.mpr ho, k⟩
open LamX in
/-- a def whose code object is known -/
structure FunC (K : PySem.W.Frag) (x qual : Str) (st : Stmt) (f : Addr) (fd : FuncData) (c : Addr) : Prop where
  ex : ∃ (oc : Value) (od : Option Addr) (kV doc pm : Value) (an : Option Addr) (ct : Value) (osl : Array (Option Value)),
    fd = PySem.W.fnOf x qual (defArgs st) (defBody st) (defScope st) .none kV doc pm an (.ref c) ct ∧ K.lookup f = some ⟨oc, od, .func fd, osl⟩ ∧ PySem.W.codeIn K (.ref c) qual = true
theorem FunC.ok {x qual : Str} {st : Stmt} {f : Addr} {fd : FuncData} {N ps : List Str} {k : Nat} {sp : Sp} {c : Addr} (F : FunC K x qual st f fd c) (S : FnScope N ps (defScope st)) (len : ∀ vs H Q E, sp vs H Q E → vs.length = ps.length)
    (hbody : ∀ (A : Around) (outer : List Env) (s : Shared) (H : Hp) (vs : List V) (Q : VK) (E : XK), Room k (A.deeper (PyProof.Rows.envOfC qual (defScope st) s.heap.objs.size f (.ref c))) → sp vs H Q E →
      ∃ t, PSs (cxOf CX0 P w K mg base N qual (defScope st) f (.ref c) A outer s H E).nox (defBody st) t ∧ t { nx := fun _ H' => Q .non H', rt := Q } (L2.start N vs) H) : FnOk P w K mg base CX0 (k + 1) f fd ps sp := by
  obtain ⟨oc, od, kV, doc, pm, an, ct, osl, rfl, lk, hcd⟩ := F.ex
  refine fn_of lk hcd S len fun A outer s H vs Q E hr hsp => ?_
  obtain ⟨t, h, q⟩ := hbody A outer s H vs Q E hr hsp
  exact ⟨t, h.nox, q⟩
/-- the methods of operations, as they are called -/
structure MY {U : TX K mg} (W : MX U) : Prop where
  mW : Meth K U.C "with_ticks" W.fW
  bW : Binds K W.dW ["self", "ticks"] []
  mN : Meth K U.C "renamed" W.fN
  bN : Binds K W.dN ["self", "names"] []
abbrev qC : Str := ("_law_cell_right" ++ ".<locals>.") ++ "<lambda>"
abbrev qL : Str := ("law" ++ ".<locals>.") ++ "<lambda>"
/-- the tables of the two defs that make lambdas -/
abbrev TT2 (P1 P2 : Addr) : List (Addr × Str) := [(P1, qC), (P2, qL)]
/-- kept: all but the reel and the tables -/
def OnlyN (r : Addr) (H H' : Hp) : Prop := ∀ b o, b ≠ r → H b = some o → (∀ ps, o ≠ .tbl ps) → H' b = some o
open LamX in
def sp_cell (K : PySem.W.Frag) (P1 P2 : Addr) : Sp := fun vs H Q _ => ∃ (r : Addr), vs = [.ref r] ∧ Rl H r ∧ Tabs (TT2 P1 P2) H ∧ ∀ H', OnlyN r H H' → Tabs (TT2 P1 P2) H' → Q (.bl true) H'
/-- tables out of sight -/
def noT (G : Hp) : Hp := fun b => match G b with
  | some (.tbl _) => none
  | o => o
theorem noT_at {G : Hp} {b : Addr} {o : HO} (e : G b = some o) (n : ∀ ps, o ≠ .tbl ps) : noT G b = some o := by
  unfold noT
  rw [e]
  cases o with
  | tbl ps => exact absurd rfl (n ps)
  | _ => rfl
theorem noT_inv {G : Hp} {b : Addr} {o : HO} (e : noT G b = some o) : G b = some o ∧ ∀ ps, o ≠ .tbl ps := by
  unfold noT at e
  cases h : G b with
  | none => rw [h] at e; cases e
  | some u =>
    rw [h] at e
    cases u with
    | tbl ps => cases e
    | _ =>
      cases e
      exact ⟨rfl, fun ps z => by cases z⟩
open LamX in
theorem noT_ext {G M : Hp} (h : ExtN G M) : ExtN (noT G) M := fun b o e n => h b o (noT_inv e).1 n
open LamX in
theorem noT_none {G M : Hp} {l : Addr} (h : ExtN (noT G) M) (n : M l = none) : noT G l = none := by
  cases e : noT G l with
  | none => rfl
  | some o => rw [h _ _ e (noT_inv e).2] at n; cases n
open LamX in
theorem hid_noT {r : Addr} {G : Hp} : ExtN (hid r G) (noT G) := fun b o e n => noT_at (hid_inv e).2 n
open LamX in
theorem hid_ext {r : Addr} {G M : Hp} (h : ExtN (noT G) M) : ExtN (hid r G) (hid r M) := fun b o e n => by
  rw [hid_at (hid_inv e).1]
  exact h _ _ (noT_at (hid_inv e).2 n) n
open LamX in
theorem rl_ext {r : Addr} {G M : Hp} (h : ExtN (noT G) M) (R : Rl G r) : Rl M r := by
  obtain ⟨x, y, z, e⟩ := R
  exact ⟨x, y, z, h _ _ (noT_at e (by intro _ z; cases z)) (by intro _ z; cases z)⟩
theorem Only.n {r : Addr} {H H' : Hp} (o : Only r H H') : OnlyN r H H' := fun b u n e _ => o b u n e
theorem OnlyN.trans {r : Addr} {H H1 H2 : Hp} (a : OnlyN r H H1) (b : OnlyN r H1 H2) : OnlyN r H H2 := fun c o n e m => b c o n (a c o n e m) m
open LamX in
theorem OnlyN.ext {r : Addr} {H G M : Hp} (a : OnlyN r H G) (h : ExtN (noT G) M) : OnlyN r H M := fun c o n e m => h _ _ (noT_at (a c o n e m) m) m
open LamX in
theorem tabs_only {T : List (Addr × Str)} {r : Addr} {H H' : Hp} (t : Tabs T H) (R : Rl H r) (o : Only r H H') : Tabs T H' := fun p hp => by
  obtain ⟨x, y, z, e⟩ := R
  obtain ⟨ps, h1, h2, h3⟩ := t p hp
  refine ⟨ps, o _ _ (fun q => by rw [q, e] at h1; cases h1) h1, h2, fun pos cv hc => ?_⟩
  obtain ⟨c, e1, e2⟩ := h3 pos cv hc
  exact ⟨c, e1, o _ _ (fun q => by rw [q, e] at e2; cases e2) e2⟩
theorem same5 {H1 : Hp} {q dq C : Addr} (hq : H1 q = none) (hdq : H1 dq = none) : Same H1 (upd (upd H1 dq (.own q)) q (.ins C dq [])) := fun b o e => by
  rw [upd_ne (ne_of_none e hq), upd_ne (ne_of_none e hdq)]
  exact e
theorem dp_strs {K : PySem.W.Frag} {H : Hp} {l : Addr} (zs : List Str) (h : H l = some (.lst (zs.map V.str))) : Dp K H (.ref l) (.list (zs.map PyData.str)) := by
  refine .lst (SqL.of h) ?_
  clear h
  induction zs with
  | nil => exact .nil
  | cons z r ih => exact .cons (.str z) ih
theorem lst_tbl {xs : List V} : ∀ ps, HO.lst xs ≠ .tbl ps := fun _ z => by cases z
theorem lst_code {xs : List V} : ∀ c q, HO.lst xs ≠ LamX.CodeO c q := fun c q z => by
  unfold LamX.CodeO at z
  cases z
theorem kvs_of : ∀ (kvs : List (Key × V)) (ks : List Key) (zs : List V), kvs.map (·.1) = ks → kvs.map (·.2) = zs → kvs = ks.zip zs
  | [], _, _, rfl, rfl => rfl
  | (k, v) :: r, _, _, rfl, rfl => by
    have := kvs_of r _ _ rfl rfl
    show (k, v) :: r = (k, v) :: List.zip (r.map (·.1)) (r.map (·.2))
    rw [← this]
theorem dpa_strs {K : PySem.W.Frag} {G : Hp} : ∀ {zs : List Str} {vs : List V}, DpAll K G vs (zs.map PyData.str) → vs = zs.map V.str
  | [], _, h => by cases h; rfl
  | z :: zs, _, h => by
    cases h with
    | cons h1 h2 =>
      cases h1
      rw [dpa_strs h2]
      rfl
def chN (m : Dm) : Bool := !nmD (mD m) && decide ((mD m).weight ≤ 1000000)
def chL (m : Dm) : Bool := !inD 1 4 (mD m)
def chT (m : Dm) : Bool := (!opOk (.str "a") (.int 1) (.tuple []) (mD m) && opOk (.str "a") (.int 1) (mD m) (.tuple [])) && decide ((mD m).weight ≤ 1000000)
open LamX in
theorem ok_cell (T : T K mg) (U : TX K mg) (W : MX U) (Y : MY W) (C : WC K mg U.O U.A) {c1 P1 P2 : Addr} (hP : P1 ≠ P2) (TB1 : TabB base mg c1 P1) (F : FunC K "_law_cell_right" "_law_cell_right" s_w_cell_right T.f_w_cell_right T.d_w_cell_right c1) : FnOk P w K mg base CX0 10 T.f_w_cell_right T.d_w_cell_right ["reel"] (sp_cell K P1 P2) := by
  have G_w_bad_pairs : FnOk P w K mg base CX0 3 T.f_w_bad_pairs T.d_w_bad_pairs ["reel", "most"] (sp_w_bad_pairs K) := ok_w_bad_pairs T
  have G_w_pick : FnOk P w K mg base CX0 2 T.f_w_pick T.d_w_pick ["reel", "items"] (sp_w_pick K) := ok_w_pick T
  have G_init : FnOk P w K mg base (L2.CX P w) 5 U.fI U.dI ["self", "name", "ticks", "reads", "uses"] (sp_init K U.C U.O) := ok_init T U
  have G_ren : FnOk P w K mg base (L2.CX P w) 7 W.fN W.dN ["self", "names"] (sp_ren K U.C U.O U.A) := ok_ren T U W
  have G_with : FnOk P w K mg base (L2.CX P w) 7 W.fW W.dW ["self", "ticks"] (sp_with K U.C U.O) := ok_with T U W
  obtain ⟨oc, od, kV, doc, pm, an, cdw, ct, osl, ed, lk0, hcg⟩ := T.F_w_word.ex
  have lk : K.lookup T.f_w_word = some ⟨oc, od, .func (PySem.W.fnOf "_law_word" "_law_word" (defArgs s_w_word) (defBody s_w_word) (defScope s_w_word) .none kV doc pm an cdw ct), osl⟩ := by rw [← ed]; exact lk0
  have bw : L2.Binds K (PySem.W.fnOf "_law_word" "_law_word" (defArgs s_w_word) (defBody s_w_word) (defScope s_w_word) .none kV doc pm an cdw ct) ["call"] [] := by rw [← ed]; exact T.b_w_word
  obtain ⟨dsN, hdN, hbN⟩ := b_none U
  obtain ⟨mvt, hbt⟩ := kb_t U
  obtain ⟨mvr, hbr⟩ := kb_r U
  obtain ⟨mvu, hbu⟩ := kb_u U
  obtain ⟨mva, hba⟩ := kb_all (C := U.C) (O := U.O) U
  have hm1 : (P1, qC) ∈ TT2 P1 P2 := List.mem_cons_self
  have hu1 : ∀ p ∈ TT2 P1 P2, p.1 = P1 → p.2 = qC := fun p hp e => by
    rcases List.mem_cons.mp hp with rfl | hp
    · rfl
    · obtain rfl := List.mem_singleton.mp hp
      exact absurd e.symm hP
  refine F.ok sc_w_cell_right (fun vs H Q E h => ?_) (fun A outer s H vs Q E hr h => ?_)
  · obtain ⟨r, rfl, _⟩ := h
    rfl
  · obtain ⟨r, rfl, hR, hT, k⟩ := h
    have hu := hu_of hr
    have hr9 : Room 9 _ := hr
    have hr_w_bad_pairs : Room 3 _ := hr.mono (by decide)
    have hr_w_pick : Room 2 _ := hr.mono (by decide)
    refine ⟨_, (pss_cons (ps_set (i := 1) sc_w_cell_right.nd rfl (Or.inr rfl) (pe_call G_w_pick hr_w_pick rfl T.m_w_pick T.F_w_pick.kp T.b_w_pick .nil pass0 (pa_cons (pv 0) (pa_cons (dr_lst (vs_cons (vd_of da_non) (vs_cons (vd_of da_str) (vs_cons (vd_of da_str) (vs_cons (vd_of da_str) (vs_cons (vd_of da_int) (vs_cons (vd_of (da_tup (ds_cons da_str ds_nil) (by decide))) (vs_cons (vd_of (da_lst (ds_cons da_str ds_nil) (by decide))) (vs_cons (vd_of da_str) (vs_cons (vd_of da_bl) (vs_cons (vd_of da_str) vs_nil)))))))))) (by decide)) pa_nil))))
      (pss_cons (ps_set (i := 2) sc_w_cell_right.nd rfl (Or.inr rfl) (pe_call G_w_pick hr_w_pick rfl T.m_w_pick T.F_w_pick.kp T.b_w_pick .nil pass0 (pa_cons (pv 0) (pa_cons (dr_lst (vs_cons (vd_of da_non) (vs_cons (vd_of da_int) (vs_cons (vd_of da_int) (vs_cons (vd_of da_neg) (vs_cons (vd_of da_bl) (vs_cons (vd_of da_str) (vs_cons (vd_of (da_tup (ds_cons da_int ds_nil) (by decide))) (vs_cons (vd_of da_pow) (vs_cons (vd_of (da_lst ds_nil (by decide))) vs_nil))))))))) (by decide)) pa_nil))))
      (pss_cons (ps_asg (pe_tup (pa_cons (pe_call G_w_bad_pairs hr_w_bad_pairs rfl T.m_w_bad_pairs T.F_w_bad_pairs.kp T.b_w_bad_pairs .nil pass0 (pa_cons (pv 0) (pa_cons pe_int pa_nil))) (pa_cons (pe_call G_w_bad_pairs hr_w_bad_pairs rfl T.m_w_bad_pairs T.F_w_bad_pairs.kp T.b_w_bad_pairs .nil pass0 (pa_cons (pv 0) (pa_cons pe_int pa_nil))) pa_nil))) (pg_tup rfl (pgs_cons (pg_name (i := 3) sc_w_cell_right.nd rfl (Or.inr rfl)) (pgs_cons (pg_name (i := 4) sc_w_cell_right.nd rfl (Or.inr rfl)) pgs_nil))))
      (pss_cons (ps_set (i := 5) sc_w_cell_right.nd rfl (Or.inr rfl) (pe_call G_w_pick hr_w_pick rfl T.m_w_pick T.F_w_pick.kp T.b_w_pick .nil pass0 (pa_cons (pv 0) (pa_cons (dr_lst (vs_cons (vd_of (da_tup (ds_cons (da_tup (ds_cons da_str (ds_cons da_int ds_nil)) (by decide)) (ds_cons (da_tup (ds_cons da_str (ds_cons da_int ds_nil)) (by decide)) ds_nil)) (by decide))) (vs_cons (vd_of (da_tup (ds_cons (da_tup (ds_cons da_str (ds_cons da_int ds_nil)) (by decide)) (ds_cons (da_tup (ds_cons da_str (ds_cons da_int ds_nil)) (by decide)) ds_nil)) (by decide))) (vs_cons (vd_of (da_tup (ds_cons (da_tup (ds_cons da_str (ds_cons da_int ds_nil)) (by decide)) (ds_cons (da_tup (ds_cons da_str (ds_cons da_int ds_nil)) (by decide)) ds_nil)) (by decide))) vs_nil))) (by decide)) pa_nil))))
      (pss_cons (ps_set (i := 6) sc_w_cell_right.nd rfl (Or.inl rfl) (pe_lst (pa_cons (pe_lamcall (T := TT2 P1 P2) (TT := TTW U.O U.A) (t := fun E => tMake U.C (sp_init K U.C U.O) [.int 1, .ref U.r0, .ref U.u0] E (tCons (tVar 1) tNil)) rfl T.m_w_word T.F_w_word.kp lk hcg bw sc_w_word rfl (Or.inl rfl) (word_gives U.o.mg U.a.mg C) TB1 rfl hm1 hu1 hr9 (lamS_by (by rfl)) rfl (fun _ _ _ _ _ => rfl) (fun A outer s H E f c2 hr2 => (pe_make U.mkI G_init (hr2.mono (by decide)) rfl U.mC hbN hdN (passes_call (takes_of rfl rfl rfl rfl) (fun _ _ _ _ h => h)) (pa_cons (pv 1) pa_nil)))) pa_nil)))
      (pss_cons (ps_expr (pe_bm PySem.F.plainAttrs_list PySem.F.slot_list_append PySem.F.type_list_append mt_append (pv 6) (pa_cons (pe_lamcall (T := TT2 P1 P2) (TT := TTW U.O U.A) (t := fun E => tMakeK U.C 1 ((["ticks"] : List Str).length) (sp_init K U.C U.O) (fun (vs zs : List V) => vs ++ (zs ++ [V.ref U.r0, V.ref U.u0])) E (tCons (tC (.str "a")) tNil) (tCons (tVar 2) tNil)) rfl T.m_w_word T.F_w_word.kp lk hcg bw sc_w_word rfl (Or.inl rfl) (word_gives U.o.mg U.a.mg C) TB1 rfl hm1 hu1 hr9 (lamS_by (by rfl)) rfl (fun _ _ _ _ _ => rfl) (fun A outer s H E f c2 hr2 => (pe_makeK U.mkI G_init (hr2.mono (by decide)) rfl U.mC hbt (passes_call (takes_of rfl rfl rfl rfl) (fun _ _ _ _ h => h)) (pa_cons pe_str pa_nil) (pk_cons (pv 2) pk_nil)))) pa_nil)))
      (pss_cons (ps_expr (pe_bm PySem.F.plainAttrs_list PySem.F.slot_list_append PySem.F.type_list_append mt_append (pv 6) (pa_cons (pe_lamcall (T := TT2 P1 P2) (TT := TTW U.O U.A) (t := fun E => tMakeK U.C 1 ((["reads"] : List Str).length) (sp_init K U.C U.O) (fun (vs zs : List V) => vs ++ ([V.int 1] ++ (zs ++ [V.ref U.u0]))) E (tCons (tC (.str "a")) tNil) (tCons (tVar 3) tNil)) rfl T.m_w_word T.F_w_word.kp lk hcg bw sc_w_word rfl (Or.inl rfl) (word_gives U.o.mg U.a.mg C) TB1 rfl hm1 hu1 hr9 (lamS_by (by rfl)) rfl (fun _ _ _ _ _ => rfl) (fun A outer s H E f c2 hr2 => (pe_makeK U.mkI G_init (hr2.mono (by decide)) rfl U.mC hbr (passes_call (takes_of rfl rfl rfl rfl) (fun _ _ _ _ h => h)) (pa_cons pe_str pa_nil) (pk_cons (pv 3) pk_nil)))) pa_nil)))
      (pss_cons (ps_expr (pe_bm PySem.F.plainAttrs_list PySem.F.slot_list_append PySem.F.type_list_append mt_append (pv 6) (pa_cons (pe_lamcall (T := TT2 P1 P2) (TT := TTW U.O U.A) (t := fun E => tMakeK U.C 1 ((["uses"] : List Str).length) (sp_init K U.C U.O) (fun (vs zs : List V) => vs ++ ([V.int 1, V.ref U.r0] ++ zs)) E (tCons (tC (.str "a")) tNil) (tCons (tVar 4) tNil)) rfl T.m_w_word T.F_w_word.kp lk hcg bw sc_w_word rfl (Or.inl rfl) (word_gives U.o.mg U.a.mg C) TB1 rfl hm1 hu1 hr9 (lamS_by (by rfl)) rfl (fun _ _ _ _ _ => rfl) (fun A outer s H E f c2 hr2 => (pe_makeK U.mkI G_init (hr2.mono (by decide)) rfl U.mC hbu (passes_call (takes_of rfl rfl rfl rfl) (fun _ _ _ _ h => h)) (pa_cons pe_str pa_nil) (pk_cons (pv 4) pk_nil)))) pa_nil)))
      (pss_cons (ps_expr (pe_bm PySem.F.plainAttrs_list PySem.F.slot_list_append PySem.F.type_list_append mt_append (pv 6) (pa_cons (pe_lamcall (T := TT2 P1 P2) (TT := TTW U.O U.A) (t := fun E => tMakeK U.C 1 ((["uses"] : List Str).length) (sp_init K U.C U.O) (fun (vs zs : List V) => vs ++ ([V.int 1, V.ref U.r0] ++ zs)) E (tCons (tC (.str "a")) tNil) (tCons (tVar 5) tNil)) rfl T.m_w_word T.F_w_word.kp lk hcg bw sc_w_word rfl (Or.inl rfl) (word_gives U.o.mg U.a.mg C) TB1 rfl hm1 hu1 hr9 (lamS_by (by rfl)) rfl (fun _ _ _ _ _ => rfl) (fun A outer s H E f c2 hr2 => (pe_makeK U.mkI G_init (hr2.mono (by decide)) rfl U.mC hbu (passes_call (takes_of rfl rfl rfl rfl) (fun _ _ _ _ h => h)) (pa_cons pe_str pa_nil) (pk_cons (pv 5) pk_nil)))) pa_nil)))
      (pss_cons (ps_expr (pe_bm PySem.F.plainAttrs_list PySem.F.slot_list_append PySem.F.type_list_append mt_append (pv 6) (pa_cons (pe_lamcall (T := TT2 P1 P2) (TT := TTW U.O U.A) (t := fun E => tMakeK U.C 1 ((["reads"] : List Str).length) (sp_init K U.C U.O) (fun (vs zs : List V) => vs ++ ([V.int 1] ++ (zs ++ [V.ref U.u0]))) E (tCons (tC (.str "a")) tNil) (tCons (tVar 5) tNil)) rfl T.m_w_word T.F_w_word.kp lk hcg bw sc_w_word rfl (Or.inl rfl) (word_gives U.o.mg U.a.mg C) TB1 rfl hm1 hu1 hr9 (lamS_by (by rfl)) rfl (fun _ _ _ _ _ => rfl) (fun A outer s H E f c2 hr2 => (pe_makeK U.mkI G_init (hr2.mono (by decide)) rfl U.mC hbr (passes_call (takes_of rfl rfl rfl rfl) (fun _ _ _ _ h => h)) (pa_cons pe_str pa_nil) (pk_cons (pv 5) pk_nil)))) pa_nil)))
      (pss_cons (ps_expr (pe_bm PySem.F.plainAttrs_list PySem.F.slot_list_append PySem.F.type_list_append mt_append (pv 6) (pa_cons (pe_lamcall (T := TT2 P1 P2) (TT := TTW U.O U.A) (t := fun E => tMakeK U.C 1 ((["ticks", "reads", "uses"] : List Str).length) (sp_init K U.C U.O) (fun (vs zs : List V) => vs ++ (([] : List V) ++ zs)) E (tCons (tVar 1) tNil) (tCons (tVar 2) (tCons (tVar 3) (tCons (tVar 4) tNil)))) rfl T.m_w_word T.F_w_word.kp lk hcg bw sc_w_word rfl (Or.inl rfl) (word_gives U.o.mg U.a.mg C) TB1 rfl hm1 hu1 hr9 (lamS_by (by rfl)) rfl (fun _ _ _ _ _ => rfl) (fun A outer s H E f c2 hr2 => (pe_makeK U.mkI G_init (hr2.mono (by decide)) rfl U.mC hba (passes_call (takes_of rfl rfl rfl rfl) (fun _ _ _ _ h => h)) (pa_cons (pv 1) pa_nil) (pk_cons (pv 2) (pk_cons (pv 3) (pk_cons (pv 4) pk_nil)))))) pa_nil)))
      (pss_cons (ps_if (pt_cmpR (op_neD hr.units) (pv 6) (pe_op op_cat (pe_op op_rep (pe_lst (pa_cons pe_str pa_nil)) pe_int) (pe_lst (pa_cons pe_str (pa_cons pe_str pa_nil)))) (nomark _)) (pss_one (ps_ret pe_bl)) pss_nil)
      (pss_cons (ps_set (i := 7) sc_w_cell_right.nd rfl (Or.inr rfl) (pe_makeK (E := E0) U.mkI G_init (hr.mono (by decide)) rfl U.mC hbr (passes_call LamX.takes0 (fun _ _ _ _ h => h)) (pa_cons pe_str pa_nil) (pk_cons (da_tup (ds_cons (da_tup (ds_cons da_str (ds_cons da_int ds_nil)) (by decide)) (ds_cons (da_tup (ds_cons da_str (ds_cons da_int ds_nil)) (by decide)) ds_nil)) (by decide)) pk_nil)))
      (pss_cons (ps_set (i := 8) sc_w_cell_right.nd rfl (Or.inl rfl) (dr_lst (vs_cons (vd_of da_non) (vs_cons vd_new (vs_cons (vd_dict (pd_cons da_str pd_nil) rfl rfl (by simp) (by decide) (by decide) (by decide +kernel)) (vs_cons (vd_dict (pd_cons da_str pd_nil) rfl rfl (by simp) (by decide) (by decide) (by decide +kernel)) (vs_cons (vd_dict (pd_cons da_str (pd_cons da_non pd_nil)) rfl rfl (by simp) (by decide) (by decide) (by decide +kernel)) (vs_cons (vd_dict (pd_cons da_str (pd_cons da_str pd_nil)) rfl rfl (by simp) (by decide) (by decide) (by decide +kernel)) (vs_cons (vd_of (da_lst (ds_cons (da_tup (ds_cons da_str (ds_cons da_str ds_nil)) (by decide)) ds_nil) (by decide))) (vs_cons (vd_of da_str) vs_nil)))))))) (by decide)))
      (pss_cons (ps_set (i := 8) sc_w_cell_right.nd rfl (Or.inl rfl) (pe_op op_cat (pv 8) (dr_lst (vs_cons (vd_dict (pd_cons da_str (pd_cons da_str (pd_int da_str pd_nil))) rfl rfl (by simp) (by decide) (by decide) (by decide +kernel)) (vs_cons (vd_dict (pd_cons da_str (pd_cons da_str (pd_cons da_str pd_nil))) rfl rfl (by simp) (by decide) (by decide) (by decide +kernel)) (vs_cons (vd_of (da_tup (ds_cons da_str (ds_cons da_str ds_nil)) (by decide))) (vs_cons (vd_dict (pd_cons (da_lst (ds_cons da_str ds_nil) (by decide)) (pd_cons da_str pd_nil)) rfl rfl (by simp) (by decide) (by decide) (by decide +kernel)) vs_nil)))) (by decide))))
      (pss_cons (ps_set (i := 9) sc_w_cell_right.nd rfl (Or.inr rfl) (pe_call G_w_pick hr_w_pick rfl T.m_w_pick T.F_w_pick.kp T.b_w_pick .nil pass0 (pa_cons (pv 0) (pa_cons (pv 8) pa_nil))))
      (pss_cons (ps_set (i := 6) sc_w_cell_right.nd rfl (Or.inl rfl) (pe_lst (pa_cons (pe_lamcall (T := TT2 P1 P2) (TT := TTW U.O U.A) (t := fun E => tMeth U.C "renamed" (sp_ren K U.C U.O U.A) [] E (tVar 7) (tCons (tVar 9) tNil)) rfl T.m_w_word T.F_w_word.kp lk hcg bw sc_w_word rfl (Or.inl rfl) (word_gives U.o.mg U.a.mg C) TB1 rfl hm1 hu1 hr9 (lamS_by (by rfl)) rfl (fun _ _ _ _ _ => rfl) (fun A outer s H E f c2 hr2 => (pe_meth (pv 7) U.cl Y.mN G_ren (hr2.mono (by decide)) Y.bN .nil (passes_call (takes_of rfl rfl rfl rfl) (fun _ _ _ _ h => h)) (pa_cons (pv 9) pa_nil)))) pa_nil)))
      (pss_cons (ps_expr (pe_bm PySem.F.plainAttrs_list PySem.F.slot_list_append PySem.F.type_list_append mt_append (pv 6) (pa_cons (pe_lamcall (T := TT2 P1 P2) (TT := TTW U.O U.A) (t := fun E => tMeth U.C "with_ticks" (sp_with K U.C U.O) [] E (tVar 7) (tCons (tVar 2) tNil)) rfl T.m_w_word T.F_w_word.kp lk hcg bw sc_w_word rfl (Or.inl rfl) (word_gives U.o.mg U.a.mg C) TB1 rfl hm1 hu1 hr9 (lamS_by (by rfl)) rfl (fun _ _ _ _ _ => rfl) (fun A outer s H E f c2 hr2 => (pe_meth (pv 7) U.cl Y.mW G_with (hr2.mono (by decide)) Y.bW .nil (passes_call (takes_of rfl rfl rfl rfl) (fun _ _ _ _ h => h)) (pa_cons (pv 2) pa_nil)))) pa_nil)))
      (pss_cons (ps_expr (pe_bm PySem.F.plainAttrs_list PySem.F.slot_list_append PySem.F.type_list_append mt_append (pv 6) (pa_cons (pe_lamcall (T := TT2 P1 P2) (TT := TTW U.O U.A) (t := fun E => tMeth U.C "renamed" (sp_ren K U.C U.O U.A) [] E (tVar 7) (tCons (tVd K (.inr [(.inr "a", .str "c"), (.inr "b", .str "c"), (.inr "zz", .str "d")])) tNil)) rfl T.m_w_word T.F_w_word.kp lk hcg bw sc_w_word rfl (Or.inl rfl) (word_gives U.o.mg U.a.mg C) TB1 rfl hm1 hu1 hr9 (lamS_by (by rfl)) rfl (fun _ _ _ _ _ => rfl) (fun A outer s H E f c2 hr2 => (pe_meth (pv 7) U.cl Y.mN G_ren (hr2.mono (by decide)) Y.bN .nil (passes_call (takes_of rfl rfl rfl rfl) (fun _ _ _ _ h => h)) (pa_cons (vd_dict (pd_cons da_str (pd_cons da_str (pd_cons da_str pd_nil))) rfl rfl (by simp) (by decide) (by decide) (by decide +kernel)) pa_nil)))) pa_nil)))
      (pss_one (ps_ret (pe_cmpR (op_eqD hr.units) (pv 6) (pe_lst (pa_cons pe_str (pa_cons pe_str (pa_cons pe_str pa_nil)))) (nomark _))))))))))))))))))))))), ?_⟩
    refine ⟨_, rfl, ?_⟩
    intro l1 xs1 H1 S1 n1 e1 A1 ln1
    refine ⟨r, .ref l1, xs1, rfl, Same.rl S1 hR, .inl ⟨l1, rfl, Rl.ne hR n1, .inl (SqL.of e1)⟩, by rw [ln1]; decide, by rw [ln1]; decide, fun v1 G1 hv1 R1 O1 => ?_⟩
    obtain ⟨mm1, hm1, q1⟩ := A1 v1 hv1
    have p1 := vd_dd (vd_same (dif_hid hR O1) q1)
    have Q1 : Only r H G1 := Only.trans (Same.only S1) O1
    have T1 := tabs_only hT hR Q1
    obtain ⟨dn, n1, w1, b1⟩ : ∃ d, DD K (hid r G1) v1 d ∧ okD d ∧ nmD d = false := by
      have h1 := Bool.and_eq_true_iff.mp (List.all_eq_true.mp (by decide +kernel : List.all _ chN = true) mm1 hm1)
      exact ⟨mD mm1, p1, of_decide_eq_true (p := (mD mm1).weight ≤ 1000000) h1.2, by simpa using h1.1⟩
    clear hv1 hm1 q1 p1
    refine ⟨_, rfl, ?_⟩
    intro l2 xs2 H2 S2 n2 e2 A2 ln2
    refine ⟨r, .ref l2, xs2, rfl, Same.rl S2 R1, .inl ⟨l2, rfl, Rl.ne R1 n2, .inl (SqL.of e2)⟩, by rw [ln2]; decide, by rw [ln2]; decide, fun v2 G2 hv2 R2 O2 => ?_⟩
    obtain ⟨mm2, hm2, q2⟩ := A2 v2 hv2
    have p2 := vd_dd (vd_same (dif_hid R1 O2) q2)
    have Q2 : Only r G1 G2 := Only.trans (Same.only S2) O2
    have T2 := tabs_only T1 R1 Q2
    obtain ⟨dl, n2, b2⟩ : ∃ d, DD K (hid r G2) v2 d ∧ inD 1 4 d = false := by
      have h1 := List.all_eq_true.mp (by decide +kernel : List.all _ chL = true) mm2 hm2
      exact ⟨mD mm2, p2, by simpa [chL] using h1⟩
    clear hv2 hm2 q2 p2
    have n1 := DD.same (hid_only Q2) n1
    refine ⟨_, rfl, r, 3, rfl, .inl rfl, R2, fun v3 d3 G3 O3 R3 n3 w3 b3 => ?_⟩
    have T3 := tabs_only T2 R2 O3
    have n1 := DD.same (hid_only O3) n1
    have n2 := DD.same (hid_only O3) n2
    refine ⟨_, rfl, r, 4, rfl, .inr rfl, R3, fun v4 d4 G4 O4 R4 n4 w4 b4 => ?_⟩
    have T4 := tabs_only T3 R3 O4
    have n1 := DD.same (hid_only O4) n1
    have n2 := DD.same (hid_only O4) n2
    have n3 := DD.same (hid_only O4) n3
    refine ⟨by show 2 ≤ sizeLine; decide, fun t ht => ?_⟩
    refine ⟨t, _, rfl, SqT.of upd_same, rfl, _, _, rfl, _, _, rfl, rfl, ?_⟩
    have St : Only r G4 (upd G4 t (.tup [v3, v4])) := Only.new ht
    have T5 := tabs_only T4 R4 St
    have R5 : Rl (upd G4 t (.tup [v3, v4])) r := R4.new ht
    have n1 := DD.same (hid_only St) n1
    have n2 := DD.same (hid_only St) n2
    have n3 := DD.same (hid_only St) n3
    have n4 := DD.same (hid_only St) n4
    have ON5 : Only r H (upd G4 t (.tup [v3, v4])) := Only.trans Q1 (Only.trans Q2 (Only.trans O3 (Only.trans O4 St)))
    generalize upd G4 t (.tup [v3, v4]) = G0 at T5 R5 n1 n2 n3 n4 ON5 St ⊢
    refine ⟨_, rfl, ?_⟩
    intro l5 xs5 H5 S5 nl5 e5 A5 ln5
    refine ⟨r, .ref l5, xs5, rfl, Same.rl S5 R5, .inl ⟨l5, rfl, Rl.ne R5 nl5, .inl (SqL.of e5)⟩, by rw [ln5]; decide, by rw [ln5]; decide, fun v5 G5 hv5 R6 O5 => ?_⟩
    obtain ⟨mm5, hm5, q5⟩ := A5 v5 hv5
    have p5 := vd_dd (vd_same (dif_hid R5 O5) q5)
    have Q5 : Only r G0 G5 := Only.trans (Same.only S5) O5
    have T6 := tabs_only T5 R5 Q5
    have n1 := DD.same (hid_only Q5) n1
    have n2 := DD.same (hid_only Q5) n2
    have n3 := DD.same (hid_only Q5) n3
    have n4 := DD.same (hid_only Q5) n4
    have ON6 : OnlyN r H G5 := Only.n (Only.trans ON5 Q5)
    obtain ⟨d5, n5, w5, b5, b6⟩ : ∃ d, DD K (hid r G5) v5 d ∧ okD d ∧ opOk (.str "a") (.int 1) (.tuple []) d = false ∧ opOk (.str "a") (.int 1) d (.tuple []) = true := by
      have h1 := Bool.and_eq_true_iff.mp (List.all_eq_true.mp (by decide +kernel : List.all _ chT = true) mm5 hm5)
      have h2 := Bool.and_eq_true_iff.mp h1.1
      exact ⟨mD mm5, p5, of_decide_eq_true (p := (mD mm5).weight ≤ 1000000) h1.2, by simpa using h2.1, h2.2⟩
    clear hv5 hm5 q5 p5
    have m1 := dd_ext hid_noT n1
    have m2 := dd_ext hid_noT n2
    have m3 := dd_ext hid_noT n3
    have m4 := dd_ext hid_noT n4
    have m5 := dd_ext hid_noT n5
    have sa : DD K (noT G5) (.str "a") (.str "a") := .inl (.str _)
    have oa : okD (.str "a") := by unfold okD; decide +kernel
    have i1 : DD K (noT G5) (.int 1) (.int 1) := .inl (.int 1)
    have r0 : DD K (noT G5) (.ref U.r0) (.tuple []) := dd_r0 U
    have u0 : DD K (noT G5) (.ref U.u0) (.tuple []) := dd_u0 U
    have oe : okD (.tuple []) := by unfold okD; decide +kernel
    have X0 : ExtN (noT G5) G5 := noT_ext (ExtN.refl G5)
    have z1 : ∀ x y z, opOk dn x y z = false := fun x y z => by unfold opOk; rw [b1, Bool.false_and]
    have z2 : opOk (.str "a") dl (.tuple []) (.tuple []) = false := by unfold opOk; rw [b2, Bool.false_and, Bool.and_false]
    have z3 : opOk (.str "a") (.int 1) d3 (.tuple []) = false := by unfold opOk; rw [b3, Bool.false_and, Bool.and_false, Bool.and_false]
    have z4 : opOk (.str "a") (.int 1) (.tuple []) d4 = false := by unfold opOk; rw [b4, Bool.false_and, Bool.and_false, Bool.and_false, Bool.and_false]
    refine ⟨T6, fun M1a eN1 TA1 => ?_⟩
    refine ⟨_, rfl, fun q dq hq hdq ne => ?_⟩
    have Xa1 := ExtN.trans X0 eN1
    have Sa1 := same5 (C := U.C) hq hdq
    have Xb1 := ExtN.trans Xa1 (ext_same Sa1)
    refine ⟨q, dq, _, _, _, _, dn, (.int 1), (.tuple []), (.tuple []), rfl, upd_same, ⟨dd_ext Xb1 m1, w1⟩, dd_ext Xb1 i1, ⟨dd_ext Xb1 r0, oe⟩, ⟨dd_ext Xb1 u0, oe⟩, fun e => absurd (e.symm.trans (z1 _ _ _)) (by simp), fun e d M1b Sb1 => .inl ⟨rfl, ?_⟩⟩
    have Sc1 := Same.trans Sa1 Sb1
    have Xc1 := ExtN.trans Xa1 (ext_same Sc1)
    have Tc1 := Tabs.ext TA1 Sc1
    refine ⟨by show 1 ≤ sizeLine; decide, fun l hl => ?_⟩
    have nl := noT_none Xc1 hl
    have el1 : (upd M1b l (.lst [.str "operation"])) l = some (.lst [.str "operation"]) := upd_same
    have X1 := ext_at (o := .lst [.str "operation"]) Xc1 nl
    have Tb1 := Tabs.ext Tc1 (Same.new (o := .lst [.str "operation"]) hl)
    generalize upd M1b l (.lst [.str "operation"]) = N1 at el1 X1 Tb1 ⊢
    refine ⟨_, rfl, .inl ⟨rfl, _, SqL.of el1⟩, ?_⟩
    refine ⟨Tb1, fun M2a eN2 TA2 => ?_⟩
    refine ⟨_, rfl, rfl, rfl, fun q dq hq hdq ne => ?_⟩
    have Xa2 := ExtN.trans X1 eN2
    have Sa2 := same5 (C := U.C) hq hdq
    have Xb2 := ExtN.trans Xa2 (ext_same Sa2)
    refine ⟨q, dq, _, _, _, _, (.str "a"), dl, (.tuple []), (.tuple []), rfl, upd_same, ⟨dd_ext Xb2 sa, oa⟩, dd_ext Xb2 m2, ⟨dd_ext Xb2 r0, oe⟩, ⟨dd_ext Xb2 u0, oe⟩, fun e => absurd (e.symm.trans z2) (by simp), fun e d M2b Sb2 => .inl ⟨rfl, ?_⟩⟩
    have Sc2 := Same.trans Sa2 Sb2
    have Xc2 := ExtN.trans Xa2 (ext_same Sc2)
    have Tc2 := Tabs.ext TA2 Sc2
    have ek2 : M2b l = some (.lst [.str "operation"]) := Sc2 _ _ (eN2 _ _ el1 lst_tbl)
    refine ⟨l, _, _, rfl, rfl, ek2, by show 1 < sizeLine; decide, ?_⟩
    have el2 : (upd M2b l (.lst [.str "operation", .str "operation"])) l = some (.lst [.str "operation", .str "operation"]) := upd_same
    have X2 := ext_at (o := .lst [.str "operation", .str "operation"]) Xc2 nl
    have Tb2 := tabs_at (o := .lst [.str "operation", .str "operation"]) Tc2 ek2 lst_tbl lst_code
    show _
    generalize hN2 : upd M2b l (.lst [.str "operation", .str "operation"]) = N2 at el2 X2 Tb2
    rw [show upd M2b l (.lst ([.str "operation"] ++ [.str "operation"])) = N2 from hN2]
    refine ⟨_, rfl, .inl ⟨rfl, _, SqL.of el2⟩, ?_⟩
    refine ⟨Tb2, fun M3a eN3 TA3 => ?_⟩
    refine ⟨_, rfl, rfl, rfl, fun q dq hq hdq ne => ?_⟩
    have Xa3 := ExtN.trans X2 eN3
    have Sa3 := same5 (C := U.C) hq hdq
    have Xb3 := ExtN.trans Xa3 (ext_same Sa3)
    refine ⟨q, dq, _, _, _, _, (.str "a"), (.int 1), d3, (.tuple []), rfl, upd_same, ⟨dd_ext Xb3 sa, oa⟩, dd_ext Xb3 i1, ⟨dd_ext Xb3 m3, w3⟩, ⟨dd_ext Xb3 u0, oe⟩, fun e => absurd (e.symm.trans z3) (by simp), fun e d M3b Sb3 => .inl ⟨rfl, ?_⟩⟩
    have Sc3 := Same.trans Sa3 Sb3
    have Xc3 := ExtN.trans Xa3 (ext_same Sc3)
    have Tc3 := Tabs.ext TA3 Sc3
    have ek3 : M3b l = some (.lst [.str "operation", .str "operation"]) := Sc3 _ _ (eN3 _ _ el2 lst_tbl)
    refine ⟨l, _, _, rfl, rfl, ek3, by show 2 < sizeLine; decide, ?_⟩
    have el3 : (upd M3b l (.lst [.str "operation", .str "operation", .str "operation"])) l = some (.lst [.str "operation", .str "operation", .str "operation"]) := upd_same
    have X3 := ext_at (o := .lst [.str "operation", .str "operation", .str "operation"]) Xc3 nl
    have Tb3 := tabs_at (o := .lst [.str "operation", .str "operation", .str "operation"]) Tc3 ek3 lst_tbl lst_code
    show _
    generalize hN3 : upd M3b l (.lst [.str "operation", .str "operation", .str "operation"]) = N3 at el3 X3 Tb3
    rw [show upd M3b l (.lst ([.str "operation", .str "operation"] ++ [.str "operation"])) = N3 from hN3]
    refine ⟨_, rfl, .inl ⟨rfl, _, SqL.of el3⟩, ?_⟩
    refine ⟨Tb3, fun M4a eN4 TA4 => ?_⟩
    refine ⟨_, rfl, rfl, rfl, fun q dq hq hdq ne => ?_⟩
    have Xa4 := ExtN.trans X3 eN4
    have Sa4 := same5 (C := U.C) hq hdq
    have Xb4 := ExtN.trans Xa4 (ext_same Sa4)
    refine ⟨q, dq, _, _, _, _, (.str "a"), (.int 1), (.tuple []), d4, rfl, upd_same, ⟨dd_ext Xb4 sa, oa⟩, dd_ext Xb4 i1, ⟨dd_ext Xb4 r0, oe⟩, ⟨dd_ext Xb4 m4, w4⟩, fun e => absurd (e.symm.trans z4) (by simp), fun e d M4b Sb4 => .inl ⟨rfl, ?_⟩⟩
    have Sc4 := Same.trans Sa4 Sb4
    have Xc4 := ExtN.trans Xa4 (ext_same Sc4)
    have Tc4 := Tabs.ext TA4 Sc4
    have ek4 : M4b l = some (.lst [.str "operation", .str "operation", .str "operation"]) := Sc4 _ _ (eN4 _ _ el3 lst_tbl)
    refine ⟨l, _, _, rfl, rfl, ek4, by show 3 < sizeLine; decide, ?_⟩
    have el4 : (upd M4b l (.lst [.str "operation", .str "operation", .str "operation", .str "operation"])) l = some (.lst [.str "operation", .str "operation", .str "operation", .str "operation"]) := upd_same
    have X4 := ext_at (o := .lst [.str "operation", .str "operation", .str "operation", .str "operation"]) Xc4 nl
    have Tb4 := tabs_at (o := .lst [.str "operation", .str "operation", .str "operation", .str "operation"]) Tc4 ek4 lst_tbl lst_code
    show _
    generalize hN4 : upd M4b l (.lst [.str "operation", .str "operation", .str "operation", .str "operation"]) = N4 at el4 X4 Tb4
    rw [show upd M4b l (.lst ([.str "operation", .str "operation", .str "operation"] ++ [.str "operation"])) = N4 from hN4]
    refine ⟨_, rfl, .inl ⟨rfl, _, SqL.of el4⟩, ?_⟩
    refine ⟨Tb4, fun M5a eN5 TA5 => ?_⟩
    refine ⟨_, rfl, rfl, rfl, fun q dq hq hdq ne => ?_⟩
    have Xa5 := ExtN.trans X4 eN5
    have Sa5 := same5 (C := U.C) hq hdq
    have Xb5 := ExtN.trans Xa5 (ext_same Sa5)
    refine ⟨q, dq, _, _, _, _, (.str "a"), (.int 1), (.tuple []), d5, rfl, upd_same, ⟨dd_ext Xb5 sa, oa⟩, dd_ext Xb5 i1, ⟨dd_ext Xb5 r0, oe⟩, ⟨dd_ext Xb5 m5, w5⟩, fun e => absurd (e.symm.trans b5) (by simp), fun e d M5b Sb5 => .inl ⟨rfl, ?_⟩⟩
    have Sc5 := Same.trans Sa5 Sb5
    have Xc5 := ExtN.trans Xa5 (ext_same Sc5)
    have Tc5 := Tabs.ext TA5 Sc5
    have ek5 : M5b l = some (.lst [.str "operation", .str "operation", .str "operation", .str "operation"]) := Sc5 _ _ (eN5 _ _ el4 lst_tbl)
    refine ⟨l, _, _, rfl, rfl, ek5, by show 4 < sizeLine; decide, ?_⟩
    have el5 : (upd M5b l (.lst [.str "operation", .str "operation", .str "operation", .str "operation", .str "operation"])) l = some (.lst [.str "operation", .str "operation", .str "operation", .str "operation", .str "operation"]) := upd_same
    have X5 := ext_at (o := .lst [.str "operation", .str "operation", .str "operation", .str "operation", .str "operation"]) Xc5 nl
    have Tb5 := tabs_at (o := .lst [.str "operation", .str "operation", .str "operation", .str "operation", .str "operation"]) Tc5 ek5 lst_tbl lst_code
    show _
    generalize hN5 : upd M5b l (.lst [.str "operation", .str "operation", .str "operation", .str "operation", .str "operation"]) = N5 at el5 X5 Tb5
    rw [show upd M5b l (.lst ([.str "operation", .str "operation", .str "operation", .str "operation"] ++ [.str "operation"])) = N5 from hN5]
    refine ⟨_, rfl, .inl ⟨rfl, _, SqL.of el5⟩, ?_⟩
    refine ⟨Tb5, fun M6a eN6 TA6 => ?_⟩
    refine ⟨_, rfl, rfl, rfl, fun q dq hq hdq ne => ?_⟩
    have Xa6 := ExtN.trans X5 eN6
    have Sa6 := same5 (C := U.C) hq hdq
    have Xb6 := ExtN.trans Xa6 (ext_same Sa6)
    refine ⟨q, dq, _, _, _, _, (.str "a"), (.int 1), d5, (.tuple []), rfl, upd_same, ⟨dd_ext Xb6 sa, oa⟩, dd_ext Xb6 i1, ⟨dd_ext Xb6 m5, w5⟩, ⟨dd_ext Xb6 u0, oe⟩, fun e M6b Sb6 => ⟨rfl, ?_⟩, fun e => absurd (e.symm.trans b6) (by simp)⟩
    have Sc6 := Same.at (o := .ins U.C dq (opF (.str "a") (.int 1) v5 (.ref U.u0))) hq (Same.trans Sa6 Sb6)
    generalize upd M6b q (.ins U.C dq (opF (.str "a") (.int 1) v5 (.ref U.u0))) = M6c at Sc6 ⊢
    have Xc6 := ExtN.trans Xa6 (ext_same Sc6)
    have Tc6 := Tabs.ext TA6 Sc6
    have ek6 : M6c l = some (.lst [.str "operation", .str "operation", .str "operation", .str "operation", .str "operation"]) := Sc6 _ _ (eN6 _ _ el5 lst_tbl)
    refine ⟨l, _, _, rfl, rfl, ek6, by show 5 < sizeLine; decide, ?_⟩
    have el6 : (upd M6c l (.lst [.str "operation", .str "operation", .str "operation", .str "operation", .str "operation", .str "fine"])) l = some (.lst [.str "operation", .str "operation", .str "operation", .str "operation", .str "operation", .str "fine"]) := upd_same
    have X6 := ext_at (o := .lst [.str "operation", .str "operation", .str "operation", .str "operation", .str "operation", .str "fine"]) Xc6 nl
    have Tb6 := tabs_at (o := .lst [.str "operation", .str "operation", .str "operation", .str "operation", .str "operation", .str "fine"]) Tc6 ek6 lst_tbl lst_code
    show _
    generalize hN6 : upd M6c l (.lst [.str "operation", .str "operation", .str "operation", .str "operation", .str "operation", .str "fine"]) = N6 at el6 X6 Tb6
    rw [show upd M6c l (.lst ([.str "operation", .str "operation", .str "operation", .str "operation", .str "operation"] ++ [.str "fine"])) = N6 from hN6]
    refine ⟨_, rfl, .inl ⟨rfl, _, SqL.of el6⟩, ?_⟩
    refine ⟨Tb6, fun M7a eN7 TA7 => ?_⟩
    refine ⟨_, rfl, _, rfl, _, rfl, _, rfl, rfl, rfl, fun q dq hq hdq ne => ?_⟩
    have Xa7 := ExtN.trans X6 eN7
    have Sa7 := same5 (C := U.C) hq hdq
    have Xb7 := ExtN.trans Xa7 (ext_same Sa7)
    refine ⟨q, dq, _, _, _, _, dn, dl, d3, d4, rfl, upd_same, ⟨dd_ext Xb7 m1, w1⟩, dd_ext Xb7 m2, ⟨dd_ext Xb7 m3, w3⟩, ⟨dd_ext Xb7 m4, w4⟩, fun e => absurd (e.symm.trans (z1 _ _ _)) (by simp), fun e d M7b Sb7 => .inl ⟨rfl, ?_⟩⟩
    have Sc7 := Same.trans Sa7 Sb7
    have Xc7 := ExtN.trans Xa7 (ext_same Sc7)
    have Tc7 := Tabs.ext TA7 Sc7
    have ek7 : M7b l = some (.lst [.str "operation", .str "operation", .str "operation", .str "operation", .str "operation", .str "fine"]) := Sc7 _ _ (eN7 _ _ el6 lst_tbl)
    refine ⟨l, _, _, rfl, rfl, ek7, by show 6 < sizeLine; decide, ?_⟩
    have el7 : (upd M7b l (.lst [.str "operation", .str "operation", .str "operation", .str "operation", .str "operation", .str "fine", .str "operation"])) l = some (.lst [.str "operation", .str "operation", .str "operation", .str "operation", .str "operation", .str "fine", .str "operation"]) := upd_same
    have X7 := ext_at (o := .lst [.str "operation", .str "operation", .str "operation", .str "operation", .str "operation", .str "fine", .str "operation"]) Xc7 nl
    have Tb7 := tabs_at (o := .lst [.str "operation", .str "operation", .str "operation", .str "operation", .str "operation", .str "fine", .str "operation"]) Tc7 ek7 lst_tbl lst_code
    show _
    generalize hN7 : upd M7b l (.lst [.str "operation", .str "operation", .str "operation", .str "operation", .str "operation", .str "fine", .str "operation"]) = N7 at el7 X7 Tb7
    rw [show upd M7b l (.lst ([.str "operation", .str "operation", .str "operation", .str "operation", .str "operation", .str "fine"] ++ [.str "operation"])) = N7 from hN7]
    refine ⟨_, rfl, by show 1 ≤ sizeLine; decide, fun a1 ha1 => ?_⟩
    refine ⟨a1, 5, _, rfl, rfl, upd_same, by decide, by decide, by show 1 * 5 ≤ sizeLine; decide, fun a2 ha2 => ?_⟩
    refine ⟨by show 2 ≤ sizeLine; decide, fun a3 ha3 => ?_⟩
    have n23 : a2 ≠ a3 := ne_of_none upd_same ha3
    refine ⟨a2, a3, _, _, rfl, rfl, (upd_ne n23).trans upd_same, upd_same, by show 7 ≤ sizeLine; decide, fun a4 ha4 => ?_⟩
    have Sd := Same.trans (Same.trans (Same.trans (Same.new (o := .lst [.str "operation"]) ha1) (Same.new (o := .lst (List.replicate (5 : Int).toNat [V.str "operation"]).flatten) ha2)) (Same.new (o := .lst [.str "fine", .str "operation"]) ha3)) (Same.new (o := .lst ((List.replicate (5 : Int).toNat [V.str "operation"]).flatten ++ [V.str "fine", V.str "operation"])) ha4)
    refine ⟨_, _, dp_strs ["operation", "operation", "operation", "operation", "operation", "fine", "operation"] (Sd _ _ el7), dp_strs ["operation", "operation", "operation", "operation", "operation", "fine", "operation"] upd_same, by decide +kernel, by decide +kernel, _, rfl, ?_⟩
    rw [show (!PyData.eqv (.list ((["operation", "operation", "operation", "operation", "operation", "fine", "operation"] : List Str).map PyData.str)) (.list ((["operation", "operation", "operation", "operation", "operation", "fine", "operation"] : List Str).map PyData.str))) = false from by decide +kernel]
    refine iteF ?_
    have Xd := ExtN.trans X7 (ext_same Sd)
    have Td := Tabs.ext Tb7 Sd
    generalize upd (upd (upd (upd N7 a1 _) a2 _) a3 _) a4 _ = Mx at Xd Td ⊢
    have Rx := rl_ext Xd R6
    intro x3 M9 S9 p9
    refine ⟨rfl, rfl, fun q dq hq hdq ne => ?_⟩
    have S10 := same5 (C := U.C) hq hdq
    have hqr : q ≠ r := Rl.ne (Same.rl S9 Rx) hq
    obtain ⟨a3, xs3, rfl, h3, h3d⟩ : ∃ a3 xs3, x3 = .ref a3 ∧ SqT K (dif M9 Mx) a3 xs3 ∧ DpAll K (dif M9 Mx) xs3 (([("b", 1), ("a", 2)] : List (Str × Int)).map toD) := by
      cases p9 with
      | tup h1 h2 => exact ⟨_, _, rfl, h1, h2⟩
    have S910 := Same.trans (dif_same M9 Mx) S10
    refine ⟨q, dq, _, _, _, _, .str "a", .int 1, .tuple (([("b", 1), ("a", 2)] : List (Str × Int)).map toD), .tuple [], rfl, upd_same, ⟨.inl (.str _), oa⟩, .inl (.int 1), ⟨.inl (.tup (Same.seqT S910 h3) (dpa_same S910 _ _ h3d)), by unfold okD; decide +kernel⟩, ⟨dd_u0 U, oe⟩, fun e M10 S11 => ⟨rfl, ?_⟩, fun e => absurd ((by decide +kernel : opOk (.str "a") (.int 1) (.tuple (([("b", 1), ("a", 2)] : List (Str × Int)).map toD)) (.tuple []) = true).symm.trans e) (by simp)⟩
    have S12 := Same.at (o := .ins U.C dq (opF (.str "a") (.int 1) (.ref a3) (.ref U.u0))) hq (Same.trans S10 S11)
    have hone : (upd M10 q (.ins U.C dq (opF (.str "a") (.int 1) (.ref a3) (.ref U.u0)))) q = some (.ins U.C dq (opF (.str "a") (.int 1) (.ref a3) (.ref U.u0))) := upd_same
    generalize upd M10 q (.ins U.C dq (opF (.str "a") (.int 1) (.ref a3) (.ref U.u0))) = MA at S12 hone ⊢
    have XA := ExtN.trans Xd (ext_same (Same.trans S9 S12))
    have TA := Tabs.ext Td (Same.trans S9 S12)
    have RA := rl_ext XA R6
    have k2 := dd_ext (hid_ext (r := r) XA) n2
    have ONA := OnlyN.ext ON6 XA
    have SA := dif_hid Rx (Same.only (r := r) S12)
    have k3 := Same.seqT SA h3
    have k4 := dpa_same SA _ _ h3d
    have k5 : (hid r MA) q = some (.ins U.C dq (opF (.str "a") (.int 1) (.ref a3) (.ref U.u0))) := by rw [hid_at hqr]; exact hone
    intro l8 xs8 H8 S8 n8 e8 A8 ln8
    refine ⟨_, rfl, ?_⟩
    intro l9 xs9 H9 S9b nl9 e9 A9 ln9
    refine ⟨l8, l9, xs8, xs9, rfl, rfl, S9b _ _ e8, e9, by rw [ln8, ln9]; decide, fun l10 hl10 => ?_⟩
    have S13 : Same H9 (upd H9 l10 (.lst (xs8 ++ xs9))) := Same.new hl10
    have S14 := Same.trans S8 (Same.trans S9b S13)
    have A10 := among_app (among_same (dif_l (Same.trans S9b S13)) A8) (among_same (Same.trans (dif_l S13) (dif_r S8)) A9)
    refine ⟨_, rfl, _, rfl, r, .ref l10, xs8 ++ xs9, rfl, Same.rl S14 RA, .inl ⟨l10, rfl, Rl.ne (Same.rl (Same.trans S8 S9b) RA) hl10, .inl (SqL.of upd_same)⟩, by rw [List.length_append, ln8, ln9]; decide, by rw [List.length_append, ln8, ln9]; decide, fun v9 GB hv9 RB OB => ?_⟩
    obtain ⟨m9, hm9, q9⟩ := A10 v9 hv9
    have y9 := vd_same (dif_hid RA OB) q9
    have O14 : Only r MA GB := Only.trans (Same.only S14) OB
    have TB := tabs_only TA RA O14
    have hren : renB m9 = true := List.all_eq_true.mp (by decide +kernel : List.all _ renB = true) m9 hm9
    have ONB := OnlyN.trans ONA (Only.n O14)
    have SB := hid_only O14
    have k2 := DD.same SB k2
    have k3 := Same.seqT SB k3
    have k4 := dpa_same SB _ _ k4
    have k5 := SB _ _ k5
    clear hv9 hm9 q9 A10 A8 A9
    have j2 := dd_ext hid_noT k2
    have j9 := vd_ext hid_noT y9
    have j3 := Kp.seqT (ext_kp hid_noT) k3
    have j4 := dpa_kp (ext_kp hid_noT) _ _ k4
    have j5 := hid_noT _ _ k5 (by intro _ z; cases z)
    have Y0 : ExtN (noT GB) GB := noT_ext (ExtN.refl GB)
    clear el1 el2 el3 el4 el5 el6 el7 X1 X2 X3 X4 X5 X6 X7
    have ni : ∀ (fs : List (Str × V)) (ps : Array Value), HO.ins U.C dq fs ≠ .tbl ps := fun _ _ z => by cases z
    have zw : opOk (.str "a") dl (.tuple (([("b", 1), ("a", 2)] : List (Str × Int)).map toD)) (.tuple []) = false := by unfold opOk; rw [b2, Bool.false_and, Bool.and_false]
    refine ⟨TB, fun M1a eN1 TA1 => ?_⟩
    have Xa1 := ExtN.trans Y0 eN1
    refine ⟨_, rfl, q, dq, _, rfl, Xa1 _ _ j5 (ni _), rfl, _, rfl, ?_⟩
    dsimp only [tNil]
    refine ren_bad U ⟨dq, Xa1 _ _ j5 (ni _)⟩ (Kp.seqT (ext_kp Xa1) j3) (dpa_kp (ext_kp Xa1) _ _ j4) hren (vd_ext Xa1 j9) fun e M1b Sb1 => .inr ⟨rfl, ?_⟩
    have Xc1 := ExtN.trans Xa1 (ext_same Sb1)
    have Tc1 := Tabs.ext TA1 Sb1
    refine ⟨by show 1 ≤ sizeLine; decide, fun l hl => ?_⟩
    have nl := noT_none Xc1 hl
    have el1 : (upd M1b l (.lst [.str "argument"])) l = some (.lst [.str "argument"]) := upd_same
    have X1 := ext_at (o := .lst [.str "argument"]) Xc1 nl
    have Tb1 := Tabs.ext Tc1 (Same.new (o := .lst [.str "argument"]) hl)
    generalize upd M1b l (.lst [.str "argument"]) = N1 at el1 X1 Tb1 ⊢
    refine ⟨_, rfl, .inl ⟨rfl, _, SqL.of el1⟩, ?_⟩
    refine ⟨Tb1, fun M2a eN2 TA2 => ?_⟩
    have Xa2 := ExtN.trans X1 eN2
    refine ⟨_, rfl, q, dq, _, rfl, Xa2 _ _ j5 (ni _), rfl, _, rfl, q, .str "a", .int 1, .ref a3, .ref U.u0, v2, .str "a", dl, .tuple (([("b", 1), ("a", 2)] : List (Str × Int)).map toD), .tuple [], rfl, ⟨dq, Xa2 _ _ j5 (ni _)⟩, ⟨.inl (.str _), oa⟩, dd_ext Xa2 j2, ⟨.inl (.tup (Kp.seqT (ext_kp Xa2) j3) (dpa_kp (ext_kp Xa2) _ _ j4)), by unfold okD; decide +kernel⟩, ⟨dd_u0 U, oe⟩, fun e => absurd (e.symm.trans zw) (by simp), fun e d M2b Sb2 => .inl ⟨rfl, ?_⟩⟩
    have Xc2 := ExtN.trans Xa2 (ext_same Sb2)
    have Tc2 := Tabs.ext TA2 Sb2
    have ek2 : M2b l = some (.lst [.str "argument"]) := Sb2 _ _ (eN2 _ _ el1 lst_tbl)
    refine ⟨l, _, _, rfl, rfl, ek2, by show 1 < sizeLine; decide, ?_⟩
    have el2 : (upd M2b l (.lst [.str "argument", .str "operation"])) l = some (.lst [.str "argument", .str "operation"]) := upd_same
    have X2 := ext_at (o := .lst [.str "argument", .str "operation"]) Xc2 nl
    have Tb2 := tabs_at (o := .lst [.str "argument", .str "operation"]) Tc2 ek2 lst_tbl lst_code
    generalize hN2 : upd M2b l (.lst [.str "argument", .str "operation"]) = N2 at el2 X2 Tb2
    rw [show upd M2b l (.lst ([.str "argument"] ++ [.str "operation"])) = N2 from hN2]
    refine ⟨_, rfl, .inl ⟨rfl, _, SqL.of el2⟩, ?_⟩
    refine ⟨Tb2, fun M3a eN3 TA3 => ?_⟩
    have Xa3 := ExtN.trans X2 eN3
    refine ⟨_, rfl, q, dq, _, rfl, Xa3 _ _ j5 (ni _), rfl, ?_⟩
    intro x M3b Sb3 p3
    obtain ⟨da, kvs, rfl, e2, e3, e4⟩ := p3
    have Xb3 := ExtN.trans Xa3 (ext_same Sb3)
    have ekv := kvs_of kvs _ _ e3 (dpa_strs (zs := ["c", "c", "d"]) e4)
    subst ekv
    refine ⟨q, "a", .int 1, .ref U.u0, .ref da, a3, xs3, .int 1, .tuple [], [("b", 1), ("a", 2)], rfl, ⟨dq, Xb3 _ _ j5 (ni _)⟩, .inl (.int 1), ⟨Kp.seqT (ext_kp Xb3) j3, dpa_kp (ext_kp Xb3) _ _ j4, by decide⟩, ⟨dd_u0 U, oe⟩, .inr ⟨da, [(.inr "a", .str "c", .str "c"), (.inr "b", .str "c", .str "c"), (.inr "zz", .str "d", .str "d")], rfl, (dif_inv e2).2, by decide, fun qq hqq => ?_, .inr (.inr ⟨by decide +kernel, fun _ => "c", rfl, fun rr hrr => ?_, by unfold okD; decide +kernel, by unfold okD; decide +kernel, by decide +kernel, fun v M3c Sc3 => ?_⟩)⟩⟩
    · simp only [List.mem_cons, List.mem_nil_iff, or_false] at hqq
      rcases hqq with rfl | rfl | rfl
      · exact ⟨.str _, by unfold okD; decide +kernel, by unfold okD; decide +kernel⟩
      · exact ⟨.str _, by unfold okD; decide +kernel, by unfold okD; decide +kernel⟩
      · exact ⟨.str _, by unfold okD; decide +kernel, by unfold okD; decide +kernel⟩
    · simp only [List.mem_cons, List.mem_nil_iff, or_false] at hrr
      rcases hrr with rfl | rfl
      · rfl
      · rfl
    have Sd3 := Same.trans Sb3 Sc3
    have Xc3 := ExtN.trans Xa3 (ext_same Sd3)
    have Tc3 := Tabs.ext TA3 Sd3
    have ek3 : M3c l = some (.lst [.str "argument", .str "operation"]) := Sd3 _ _ (eN3 _ _ el2 lst_tbl)
    refine ⟨l, _, _, rfl, rfl, ek3, by show 2 < sizeLine; decide, ?_⟩
    have el3 : (upd M3c l (.lst [.str "argument", .str "operation", .str "fine"])) l = some (.lst [.str "argument", .str "operation", .str "fine"]) := upd_same
    have X3 := ext_at (o := .lst [.str "argument", .str "operation", .str "fine"]) Xc3 nl
    have Tb3 := tabs_at (o := .lst [.str "argument", .str "operation", .str "fine"]) Tc3 ek3 lst_tbl lst_code
    generalize hN3 : upd M3c l (.lst [.str "argument", .str "operation", .str "fine"]) = N3 at el3 X3 Tb3
    rw [show upd M3c l (.lst ([.str "argument", .str "operation"] ++ [.str "fine"])) = N3 from hN3]
    refine ⟨_, rfl, by show 3 ≤ sizeLine; decide, fun b1 hb1 => ?_⟩
    have Se := Same.new (o := .lst [.str "argument", .str "operation", .str "fine"]) hb1
    refine ⟨_, _, dp_strs ["argument", "operation", "fine"] (Se _ _ el3), dp_strs ["argument", "operation", "fine"] upd_same, by decide +kernel, by decide +kernel, bl_to (by decide +kernel : _ = true) (k _ (OnlyN.ext ONB (ExtN.trans X3 (ext_same Se))) (Tabs.ext Tb3 Se))⟩

open LamX in
theorem OnlyN.seqL {K : PySem.W.Frag} {p a : Addr} {xs : List V} {H H' : Hp} (o : OnlyN p H H') (n : a ≠ p) (h : SqL K H a xs) : SqL K H' a xs := by
  rcases h with (h | ⟨u, h⟩) | h
  · exact .inl (.inl (o _ _ n h lst_tbl))
  · exact .inl (.inr ⟨u, o _ _ n h (by intro _ z; cases z)⟩)
  · exact .inr h
theorem seqL_new {K : PySem.W.Frag} {p a : Addr} {xs : List V} {H : Hp} {o : HO} (n : H p = none) (h : SqL K H a xs) : SqL K (upd H p o) a xs := Same.seq (Same.new n) h
theorem kp_noT {G : Hp} : Kp G (noT G) := fun b o e _ n => noT_at e n
theorem tup4 {K : PySem.W.Frag} {G : Hp} {x : V} {d1 d2 d3 d4 : PyData} (h : Dp K G x (.tuple [d1, d2, d3, d4])) : ∃ a y1 y2 y3 y4, x = .ref a ∧ SqT K G a [y1, y2, y3, y4] ∧ Dp K G y1 d1 ∧ Dp K G y2 d2 ∧ Dp K G y3 d3 ∧ Dp K G y4 d4 := by
  cases h with
  | tup h1 h2 =>
    cases h2 with
    | cons a1 b1 =>
      cases b1 with
      | cons a2 b2 =>
        cases b2 with
        | cons a3 b3 =>
          cases b3 with
          | cons a4 b4 =>
            cases b4
            exact ⟨_, _, _, _, _, rfl, h1, a1, a2, a3, a4⟩
theorem tup3 {K : PySem.W.Frag} {G : Hp} {x : V} {d1 d2 d3 : PyData} (h : Dp K G x (.tuple [d1, d2, d3])) : ∃ a y1 y2 y3, x = .ref a ∧ SqT K G a [y1, y2, y3] ∧ Dp K G y1 d1 ∧ Dp K G y2 d2 ∧ Dp K G y3 d3 := by
  cases h with
  | tup h1 h2 =>
    cases h2 with
    | cons a1 b1 =>
      cases b1 with
      | cons a2 b2 =>
        cases b2 with
        | cons a3 b3 =>
          cases b3
          exact ⟨_, _, _, _, rfl, h1, a1, a2, a3⟩
theorem tup1 {K : PySem.W.Frag} {G : Hp} {x : V} {d1 : PyData} (h : Dp K G x (.tuple [d1])) : ∃ a y1, x = .ref a ∧ SqT K G a [y1] ∧ Dp K G y1 d1 := by
  cases h with
  | tup h1 h2 =>
    cases h2 with
    | cons a1 b1 =>
      cases b1
      exact ⟨_, _, rfl, h1, a1⟩
open LamX in
/-- a list of at most 63 ints is handed in, True comes out -/
def sp_lawT (K : PySem.W.Frag) (P1 P2 : Addr) : Sp := fun vs H Q _ => ∃ (a : Addr) (ns : List Int), vs = [.ref a] ∧ SqL K H a (ns.map V.int) ∧ ns.length ≤ 63 ∧ Tabs (TT2 P1 P2) H ∧ ∀ H', Q (.bl true) H'
open LamX in
theorem ok_law (T : T K mg) (U : TX K mg) (W : MX U) (Y : MY W) (C : WC K mg U.O U.A) {c1 P1 c2 P2 : Addr} (hP : P1 ≠ P2) (TB1 : TabB base mg c1 P1) (TB2 : TabB base mg c2 P2) (FC : FunC K "_law_cell_right" "_law_cell_right" s_w_cell_right T.f_w_cell_right T.d_w_cell_right c1)
    (F : FunC K "law" "law" s_law T.f_law T.d_law c2) : FnOk P w K mg base CX0 11 T.f_law T.d_law ["script"] (sp_lawT K P1 P2) := by
  have G_cell : FnOk P w K mg base CX0 10 T.f_w_cell_right T.d_w_cell_right ["reel"] (sp_cell K P1 P2) := ok_cell T U W Y C hP TB1 FC
  have G_w_reel : FnOk P w K mg base CX0 1 T.f_w_reel T.d_w_reel ["script", "at"] (sp_w_reel K) := ok_w_reel T
  have G_init : FnOk P w K mg base (L2.CX P w) 5 U.fI U.dI ["self", "name", "ticks", "reads", "uses"] (sp_init K U.C U.O) := ok_init T U
  obtain ⟨oc, od, kV, doc, pm, an, cdw, ct, osl, ed, lk0, hcg⟩ := T.F_w_word.ex
  have lk : K.lookup T.f_w_word = some ⟨oc, od, .func (PySem.W.fnOf "_law_word" "_law_word" (defArgs s_w_word) (defBody s_w_word) (defScope s_w_word) .none kV doc pm an cdw ct), osl⟩ := by rw [← ed]; exact lk0
  have bw : L2.Binds K (PySem.W.fnOf "_law_word" "_law_word" (defArgs s_w_word) (defBody s_w_word) (defScope s_w_word) .none kV doc pm an cdw ct) ["call"] [] := by rw [← ed]; exact T.b_w_word
  obtain ⟨mvr, hbr⟩ := kb_r U
  obtain ⟨mvu, hbu⟩ := kb_u U
  obtain ⟨mva, hba⟩ := kb_all (C := U.C) (O := U.O) U
  have hm2 : (P2, qL) ∈ TT2 P1 P2 := List.mem_cons_of_mem _ List.mem_cons_self
  have hu2 : ∀ p ∈ TT2 P1 P2, p.1 = P2 → p.2 = qL := fun p hp e => by
    rcases List.mem_cons.mp hp with rfl | hp
    · exact absurd e hP
    · obtain rfl := List.mem_singleton.mp hp
      rfl
  refine F.ok sc_law (fun vs H Q E h => ?_) (fun A outer s H vs Q E hr h => ?_)
  · obtain ⟨a, ns, rfl, _⟩ := h
    rfl
  · obtain ⟨a, ns, rfl, hS, hlen, hT, k⟩ := h
    have hu := hu_of hr
    have hr9 : Room 9 _ := hr.mono (by decide)
    have hr_w_reel : Room 1 _ := hr.mono (by decide)
    refine ⟨_, (pss_cons (ps_for PassesOwn.never rfl (pi_range1 (by rfl) T.z_range (pa_cons (pe_callB (call_max2 rfl) (by rfl) T.z_max (by decide +kernel) (pa_cons pe_int (pa_cons (pe_callB (call_min2 rfl) (by rfl) T.z_min (by decide +kernel) (pa_cons pe_int (pa_cons (pe_callB call_len (by rfl) T.z_len (by decide +kernel) (pa_cons (pv 0) pa_nil)) pa_nil))) pa_nil))) pa_nil)) (pg_name (i := 1) sc_law.nd rfl (Or.inl rfl))
      (pss_one (ps_if (pt_not (pt_val (pe_call G_cell hr rfl T.m_w_cell_right T.F_w_cell_right.kp T.b_w_cell_right .nil pass0 (pa_cons (pe_call G_w_reel hr_w_reel rfl T.m_w_reel T.F_w_reel.kp T.b_w_reel .nil pass0 (pa_cons (pv 0) (pa_cons (pv 1) pa_nil))) pa_nil))))
      (pss_one (ps_ret pe_bl))
      pss_nil)))
      (pss_cons (ps_asg (pe_tup (pa_cons (da_tup (ds_cons (da_tup (ds_cons da_str (ds_cons da_int ds_nil)) (by decide)) (ds_cons (da_tup (ds_cons da_str (ds_cons da_int ds_nil)) (by decide)) (ds_cons (da_tup (ds_cons da_str (ds_cons da_int ds_nil)) (by decide)) (ds_cons (da_tup (ds_cons da_str (ds_cons da_int ds_nil)) (by decide)) ds_nil)))) (by decide)) (pa_cons (da_tup (ds_cons (da_tup (ds_cons da_str (ds_cons da_int ds_nil)) (by decide)) (ds_cons (da_tup (ds_cons da_str (ds_cons da_int ds_nil)) (by decide)) (ds_cons (da_tup (ds_cons da_str (ds_cons da_int ds_nil)) (by decide)) ds_nil))) (by decide)) pa_nil))) (pg_tup rfl (pgs_cons (pg_name (i := 2) sc_law.nd rfl (Or.inr rfl)) (pgs_cons (pg_name (i := 3) sc_law.nd rfl (Or.inr rfl)) pgs_nil))))
      (pss_cons (ps_set (i := 4) sc_law.nd rfl (Or.inl rfl) (pe_lst (pa_cons (pe_lamcall (T := TT2 P1 P2) (TT := TTW U.O U.A) (t := fun E => tMakeK U.C 1 ((["ticks", "reads", "uses"] : List Str).length) (sp_init K U.C U.O) (fun (vs zs : List V) => vs ++ (([] : List V) ++ zs)) E (tCons (tC (.str "abcdefgh")) tNil) (tCons (tC (.int 4)) (tCons (tVar 3) (tCons (tVar 2) tNil)))) rfl T.m_w_word T.F_w_word.kp lk hcg bw sc_w_word rfl (Or.inl rfl) (word_gives U.o.mg U.a.mg C) TB2 rfl hm2 hu2 hr9 (lamS_by (by rfl)) rfl (fun _ _ _ _ _ => rfl) (fun A outer s H E f c2 hr2 => (pe_makeK U.mkI G_init (hr2.mono (by decide)) rfl U.mC hba (passes_call (takes_of rfl rfl rfl rfl) (fun _ _ _ _ h => h)) (pa_cons pe_str pa_nil) (pk_cons pe_int (pk_cons (pv 3) (pk_cons (pv 2) pk_nil)))))) pa_nil)))
      (pss_cons (ps_expr (pe_bm PySem.F.plainAttrs_list PySem.F.slot_list_append PySem.F.type_list_append mt_append (pv 4) (pa_cons (pe_lamcall (T := TT2 P1 P2) (TT := TTW U.O U.A) (t := fun E => tMakeK U.C 1 ((["reads"] : List Str).length) (sp_init K U.C U.O) (fun (vs zs : List V) => vs ++ ([V.int 1] ++ (zs ++ [V.ref U.u0]))) E (tCons (tC (.str "a")) tNil) (tCons (tOp (rCatT K) (tVar 3) (tSl (rSlT K) (tVar 3) tNoPart (tPart (tC (.int 1))))) tNil)) rfl T.m_w_word T.F_w_word.kp lk hcg bw sc_w_word rfl (Or.inl rfl) (word_gives U.o.mg U.a.mg C) TB2 rfl hm2 hu2 hr9 (lamS_by (by rfl)) rfl (fun _ _ _ _ _ => rfl) (fun A outer s H E f c2 hr2 => (pe_makeK U.mkI G_init (hr2.mono (by decide)) rfl U.mC hbr (passes_call (takes_of rfl rfl rfl rfl) (fun _ _ _ _ h => h)) (pa_cons pe_str pa_nil) (pk_cons (pe_op op_catT (pv 3) (pe_slice sl_tup (pv 3) po_none (po_some pe_int))) pk_nil)))) pa_nil)))
      (pss_cons (ps_expr (pe_bm PySem.F.plainAttrs_list PySem.F.slot_list_append PySem.F.type_list_append mt_append (pv 4) (pa_cons (pe_lamcall (T := TT2 P1 P2) (TT := TTW U.O U.A) (t := fun E => tMakeK U.C 1 ((["uses"] : List Str).length) (sp_init K U.C U.O) (fun (vs zs : List V) => vs ++ ([V.int 1, V.ref U.r0] ++ zs)) E (tCons (tC (.str "a")) tNil) (tCons (tOp (rCatT K) (tVar 2) (tDat K (.tuple [toD ("q", 0)]))) tNil)) rfl T.m_w_word T.F_w_word.kp lk hcg bw sc_w_word rfl (Or.inl rfl) (word_gives U.o.mg U.a.mg C) TB2 rfl hm2 hu2 hr9 (lamS_by (by rfl)) rfl (fun _ _ _ _ _ => rfl) (fun A outer s H E f c2 hr2 => (pe_makeK U.mkI G_init (hr2.mono (by decide)) rfl U.mC hbu (passes_call (takes_of rfl rfl rfl rfl) (fun _ _ _ _ h => h)) (pa_cons pe_str pa_nil) (pk_cons (pe_op op_catT (pv 2) (da_tup (ds_cons (da_tup (ds_cons da_str (ds_cons da_int ds_nil)) (by decide)) ds_nil) (by decide))) pk_nil)))) pa_nil)))
      (pss_one (ps_ret (pe_cmpR (op_eqD hr.units) (pv 4) (pe_lst (pa_cons pe_str (pa_cons pe_str (pa_cons pe_str pa_nil)))) (nomark _))))))))), ?_⟩
    refine ⟨_, rfl, _, _, rfl, .inl ⟨_, hS, rfl⟩, _, _, rfl, _, _, rfl, ?_⟩
    have hb := cells_n (ns.map V.int).length 8
    refine ⟨_, rfl, Int.le_trans (by decide) hb.2, Int.lt_of_le_of_lt hb.1 (by decide), ?_⟩
    refine for_range (fun i σ H' => ∃ v, σ = [some (.ref a), v, none, none, none] ∧ SqL K H' a (ns.map V.int) ∧ Tabs (TT2 P1 P2) H') ⟨none, rfl, hS, hT⟩ ?_ ?_
    · rintro i σ H' hi ⟨v, rfl, hS', hT'⟩
      refine ⟨_, rfl, _, rfl, a, ns, i, congrArg (fun z => [V.ref a, V.int z]) (Int.zero_add _), hS', fun p x y z hp => ?_⟩
      refine ⟨p, rfl, ⟨x, y, z, upd_same⟩, Tabs.ext hT' (Same.new hp), fun H2 O2 T2 => ⟨_, rfl, iteF ?_⟩⟩
      refine ⟨_, rfl, ?_, T2⟩
      rcases hS' with (h | ⟨u, h⟩) | h
      · exact .inl (.inl (O2 _ _ (ne_of_none h hp) ((upd_ne (ne_of_none h hp)).trans h) lst_tbl))
      · exact .inl (.inr ⟨u, O2 _ _ (ne_of_none h hp) ((upd_ne (ne_of_none h hp)).trans h) (by intro _ z; cases z)⟩)
      · exact .inr h
    · rintro σ H' ⟨v, rfl, hS', hT'⟩
      intro x4 Ha Sa p4
      intro x3 Hb Sb p3
      refine ⟨by show 2 ≤ sizeLine; decide, fun t ht => ?_⟩
      refine ⟨t, _, rfl, SqT.of upd_same, rfl, _, _, rfl, _, _, rfl, rfl, ?_⟩
      have St := Same.new (o := .tup [x4, x3]) ht
      generalize upd Hb t (.tup [x4, x3]) = G at St ⊢
      have T0 := Tabs.ext hT' (Same.trans Sa (Same.trans Sb St))
      have g4 := dp_kp kp_noT _ _ (dp_same (Same.trans (dif_same Ha H') (Same.trans Sb St)) _ _ p4)
      have g3 := dp_kp kp_noT _ _ (dp_same (Same.trans (dif_same Hb Ha) St) _ _ p3)
      obtain ⟨a4, y1, y2, y3, y4, rfl, s4, f1, f2, f3, f4⟩ := tup4 g4
      obtain ⟨a3, z1, z2, z3, rfl, s3, e1, e2, e3⟩ := tup3 g3
      have X0 : ExtN (noT G) G := noT_ext (ExtN.refl G)
      -- one
      refine ⟨T0, fun M1a eN1 TA1 => ?_⟩
      have Xa1 := ExtN.trans X0 eN1
      refine ⟨_, rfl, _, rfl, rfl, rfl, fun q dq hq hdq ne => ?_⟩
      have Sa1 := same5 (C := U.C) hq hdq
      have Xb1 := ExtN.trans Xa1 (ext_same Sa1)
      refine ⟨q, dq, _, _, _, _, .str "abcdefgh", .int 4, .tuple (([("a", 3), ("a", 3), ("a", 0)] : List (Str × Int)).map toD), .tuple (([("p", 0), ("p", 1), ("p", 2), ("p", 3)] : List (Str × Int)).map toD), rfl, upd_same, ⟨.inl (.str _), by unfold okD; decide +kernel⟩, .inl (.int 4), ⟨.inl (dp_kp (ext_kp Xb1) _ _ g3), by unfold okD; decide +kernel⟩, ⟨.inl (dp_kp (ext_kp Xb1) _ _ g4), by unfold okD; decide +kernel⟩, fun e M1b Sb1 => ⟨rfl, ?_⟩, fun e => absurd ((by decide +kernel : opOk (.str "abcdefgh") (.int 4) (.tuple (([("a", 3), ("a", 3), ("a", 0)] : List (Str × Int)).map toD)) (.tuple (([("p", 0), ("p", 1), ("p", 2), ("p", 3)] : List (Str × Int)).map toD)) = true).symm.trans e) (by simp)⟩
      have Sc1 := Same.at (o := .ins U.C dq (opF (.str "abcdefgh") (.int 4) (.ref a3) (.ref a4))) hq (Same.trans Sa1 Sb1)
      generalize upd M1b q (.ins U.C dq (opF (.str "abcdefgh") (.int 4) (.ref a3) (.ref a4))) = M1c at Sc1 ⊢
      have Xc1 := ExtN.trans Xa1 (ext_same Sc1)
      have Tc1 := Tabs.ext TA1 Sc1
      refine ⟨by show 1 ≤ sizeLine; decide, fun l hl => ?_⟩
      have nl := noT_none Xc1 hl
      have el1 : (upd M1c l (.lst [.str "fine"])) l = some (.lst [.str "fine"]) := upd_same
      have X1 := ext_at (o := .lst [.str "fine"]) Xc1 nl
      have Tb1 := Tabs.ext Tc1 (Same.new (o := .lst [.str "fine"]) hl)
      generalize upd M1c l (.lst [.str "fine"]) = N1 at el1 X1 Tb1 ⊢
      -- two
      refine ⟨_, rfl, .inl ⟨rfl, _, SqL.of el1⟩, ?_⟩
      refine ⟨Tb1, fun M2a eN2 TA2 => ?_⟩
      have Xa2 := ExtN.trans X1 eN2
      refine ⟨_, rfl, _, rfl, 1, rfl, a3, [z1, z2, z3], rfl, Kp.seqT (ext_kp Xa2) s3, by show ¬ (HT.sIx 3 0 none = 0 ∧ HT.sIx 3 3 (some 1) = 3); decide, fun p hp => ?_⟩
      refine ⟨a3, p, [z1, z2, z3], [z1], rfl, rfl, Same.seqT (Same.new hp) (Kp.seqT (ext_kp Xa2) s3), SqT.of upd_same, by simp, by show 4 ≤ sizeLine; decide, (fun e => by cases e), fun _ pp hpp => ⟨rfl, rfl, fun q dq hq hdq ne => ?_⟩⟩
      have S2p : Same M2a (upd (upd M2a p (.tup [z1])) pp (.tup [z1, z2, z3, z1])) := Same.trans (Same.new hp) (Same.new hpp)
      have epp : (upd (upd M2a p (.tup [z1])) pp (.tup [z1, z2, z3, z1])) pp = some (.tup [z1, z2, z3, z1]) := upd_same
      have Sa2 := Same.trans S2p (same5 (C := U.C) hq hdq)
      have Xb2 := ExtN.trans Xa2 (ext_same Sa2)
      have K2 := ext_kp Xb2
      refine ⟨q, dq, _, _, _, _, .str "a", .int 1, .tuple (([("a", 3), ("a", 3), ("a", 0), ("a", 3)] : List (Str × Int)).map toD), .tuple [], rfl, upd_same, ⟨.inl (.str _), by unfold okD; decide +kernel⟩, .inl (.int 1), ⟨.inl (.tup (SqT.of (same5 (C := U.C) hq hdq _ _ epp)) (.cons (dp_kp K2 _ _ e1) (.cons (dp_kp K2 _ _ e2) (.cons (dp_kp K2 _ _ e3) (.cons (dp_kp K2 _ _ e1) .nil))))), by unfold okD; decide +kernel⟩, ⟨dd_u0 U, by unfold okD; decide +kernel⟩, fun e => absurd (e.symm.trans (by decide +kernel : opOk (.str "a") (.int 1) (.tuple (([("a", 3), ("a", 3), ("a", 0), ("a", 3)] : List (Str × Int)).map toD)) (.tuple []) = false)) (by simp), fun e d M2b Sb2 => .inl ⟨rfl, ?_⟩⟩
      have Sc2 := Same.trans Sa2 Sb2
      have Xc2 := ExtN.trans Xa2 (ext_same Sc2)
      have Tc2 := Tabs.ext TA2 Sc2
      have ek2 : M2b l = some (.lst [.str "fine"]) := Sc2 _ _ (eN2 _ _ el1 lst_tbl)
      refine ⟨l, _, _, rfl, rfl, ek2, by show 1 < sizeLine; decide, ?_⟩
      have el2 : (upd M2b l (.lst [.str "fine", .str "operation"])) l = some (.lst [.str "fine", .str "operation"]) := upd_same
      have X2 := ext_at (o := .lst [.str "fine", .str "operation"]) Xc2 nl
      have Tb2 := tabs_at (o := .lst [.str "fine", .str "operation"]) Tc2 ek2 lst_tbl lst_code
      generalize hN2 : upd M2b l (.lst [.str "fine", .str "operation"]) = N2 at el2 X2 Tb2
      rw [show upd M2b l (.lst ([.str "fine"] ++ [.str "operation"])) = N2 from hN2]
      -- three
      refine ⟨_, rfl, .inl ⟨rfl, _, SqL.of el2⟩, ?_⟩
      refine ⟨Tb2, fun M3a eN3 TA3 => ?_⟩
      have Xa3 := ExtN.trans X2 eN3
      refine ⟨_, rfl, ?_⟩
      intro x5 M3x S3x p5
      obtain ⟨a5, w1, rfl, s5, g1⟩ := tup1 p5
      have Xx3 := ExtN.trans Xa3 (ext_same S3x)
      have S35 := dif_same M3x M3a
      refine ⟨a4, a5, [y1, y2, y3, y4], [w1], rfl, rfl, Kp.seqT (ext_kp Xx3) s4, Same.seqT S35 s5, by simp, by show 5 ≤ sizeLine; decide, (fun e => by cases e), fun _ pp hpp => ⟨rfl, rfl, fun q dq hq hdq ne => ?_⟩⟩
      have S3p : Same M3x (upd M3x pp (.tup [y1, y2, y3, y4, w1])) := Same.new hpp
      have epp : (upd M3x pp (.tup [y1, y2, y3, y4, w1])) pp = some (.tup [y1, y2, y3, y4, w1]) := upd_same
      have Sy3 := Same.trans S3p (same5 (C := U.C) hq hdq)
      have Sa3 := Same.trans S3x Sy3
      have Xb3 := ExtN.trans Xa3 (ext_same Sa3)
      have K3 := ext_kp Xb3
      refine ⟨q, dq, _, _, _, _, .str "a", .int 1, .tuple [], .tuple (([("p", 0), ("p", 1), ("p", 2), ("p", 3), ("q", 0)] : List (Str × Int)).map toD), rfl, upd_same, ⟨.inl (.str _), by unfold okD; decide +kernel⟩, .inl (.int 1), ⟨dd_r0 U, by unfold okD; decide +kernel⟩, ⟨.inl (.tup (SqT.of (same5 (C := U.C) hq hdq _ _ epp)) (.cons (dp_kp K3 _ _ f1) (.cons (dp_kp K3 _ _ f2) (.cons (dp_kp K3 _ _ f3) (.cons (dp_kp K3 _ _ f4) (.cons (dp_same (Same.trans S35 Sy3) _ _ g1) .nil)))))), by unfold okD; decide +kernel⟩, fun e => absurd (e.symm.trans (by decide +kernel : opOk (.str "a") (.int 1) (.tuple []) (.tuple (([("p", 0), ("p", 1), ("p", 2), ("p", 3), ("q", 0)] : List (Str × Int)).map toD)) = false)) (by simp), fun e d M3b Sb3 => .inl ⟨rfl, ?_⟩⟩
      have Sc3 := Same.trans Sa3 Sb3
      have Xc3 := ExtN.trans Xa3 (ext_same Sc3)
      have ek3 : M3b l = some (.lst [.str "fine", .str "operation"]) := Sc3 _ _ (eN3 _ _ el2 lst_tbl)
      refine ⟨l, _, _, rfl, rfl, ek3, by show 2 < sizeLine; decide, ?_⟩
      have el3 : (upd M3b l (.lst [.str "fine", .str "operation", .str "operation"])) l = some (.lst [.str "fine", .str "operation", .str "operation"]) := upd_same
      generalize hN3 : upd M3b l (.lst [.str "fine", .str "operation", .str "operation"]) = N3 at el3
      rw [show upd M3b l (.lst ([.str "fine", .str "operation"] ++ [.str "operation"])) = N3 from hN3]
      refine ⟨_, rfl, by show 3 ≤ sizeLine; decide, fun b1 hb1 => ?_⟩
      have Se := Same.new (o := .lst [.str "fine", .str "operation", .str "operation"]) hb1
      exact ⟨_, _, dp_strs ["fine", "operation", "operation"] (Se _ _ el3), dp_strs ["fine", "operation", "operation"] upd_same, by decide +kernel, by decide +kernel, bl_to (by decide +kernel : _ = true) (k _)⟩
end
theorem mk_T {K : PySem.W.Frag} {h : Heap} {mg : Str → Option Value} {c1 c2 f_wall f_is_name f_is_integer f_is_between f_ascends f_is_pair f_is_row_of_pairs f_told f_w_reel f_w_spin f_w_pick f_w_word f_w_bad_pairs f_w_cell_right f_law : Addr} (X : K.In h) (G : h.Ns mainGlobals mg)
    {od_wall an_wall od_is_name an_is_name od_is_integer an_is_integer od_is_between an_is_between od_ascends an_ascends od_is_pair an_is_pair od_is_row_of_pairs an_is_row_of_pairs od_told an_told od_w_reel an_w_reel od_w_spin an_w_spin od_w_pick an_w_pick od_w_word an_w_word od_w_bad_pairs an_w_bad_pairs od_w_cell_right an_w_cell_right od_law an_law : Option Addr} {sl_wall sl_is_name sl_is_integer sl_is_between sl_ascends sl_is_pair sl_is_row_of_pairs sl_told sl_w_reel sl_w_spin sl_w_pick sl_w_word sl_w_bad_pairs sl_w_cell_right sl_law : Array (Option Value)} {oc_wall kV_wall dc_wall pm_wall cd_wall ct_wall oc_is_name kV_is_name dc_is_name pm_is_name cd_is_name ct_is_name oc_is_integer kV_is_integer dc_is_integer pm_is_integer cd_is_integer ct_is_integer oc_is_between kV_is_between dc_is_between pm_is_between cd_is_between ct_is_between oc_ascends kV_ascends dc_ascends pm_ascends cd_ascends ct_ascends oc_is_pair kV_is_pair dc_is_pair pm_is_pair cd_is_pair ct_is_pair oc_is_row_of_pairs kV_is_row_of_pairs dc_is_row_of_pairs pm_is_row_of_pairs cd_is_row_of_pairs ct_is_row_of_pairs oc_told kV_told dc_told pm_told cd_told ct_told oc_w_reel kV_w_reel dc_w_reel pm_w_reel cd_w_reel ct_w_reel oc_w_spin kV_w_spin dc_w_spin pm_w_spin cd_w_spin ct_w_spin oc_w_pick kV_w_pick dc_w_pick pm_w_pick cd_w_pick ct_w_pick oc_w_word kV_w_word dc_w_word pm_w_word cd_w_word ct_w_word oc_w_bad_pairs kV_w_bad_pairs dc_w_bad_pairs pm_w_bad_pairs cd_w_bad_pairs ct_w_bad_pairs oc_w_cell_right kV_w_cell_right dc_w_cell_right pm_w_cell_right ct_w_cell_right oc_law kV_law dc_law pm_law ct_law : Value} {t_MAX_TICKS t_MAX_LETTERS t_MAX_DISTANCE t_MAX_READS t_MAX_USES t_MAX_OFFSET : Tok}
    (a_wall : PySem.W.nsIn K mainGlobals "_wall" = some (some (.ref f_wall))) (l_wall : K.lookup f_wall = some ⟨oc_wall, od_wall, .func (PySem.W.fnOf "_wall" "_wall" (defArgs s_wall) (defBody s_wall) (defScope s_wall) .none kV_wall dc_wall pm_wall an_wall cd_wall ct_wall), sl_wall⟩) (k_wall : PySem.W.codeIn K cd_wall "_wall" = true) (p_wall : PySem.W.keepIn K (.ref f_wall) = true)
    (a_is_name : PySem.W.nsIn K mainGlobals "is_name" = some (some (.ref f_is_name))) (l_is_name : K.lookup f_is_name = some ⟨oc_is_name, od_is_name, .func (PySem.W.fnOf "is_name" "is_name" (defArgs s_is_name) (defBody s_is_name) (defScope s_is_name) .none kV_is_name dc_is_name pm_is_name an_is_name cd_is_name ct_is_name), sl_is_name⟩) (k_is_name : PySem.W.codeIn K cd_is_name "is_name" = true) (p_is_name : PySem.W.keepIn K (.ref f_is_name) = true)
    (a_is_integer : PySem.W.nsIn K mainGlobals "is_integer" = some (some (.ref f_is_integer))) (l_is_integer : K.lookup f_is_integer = some ⟨oc_is_integer, od_is_integer, .func (PySem.W.fnOf "is_integer" "is_integer" (defArgs s_is_integer) (defBody s_is_integer) (defScope s_is_integer) .none kV_is_integer dc_is_integer pm_is_integer an_is_integer cd_is_integer ct_is_integer), sl_is_integer⟩) (k_is_integer : PySem.W.codeIn K cd_is_integer "is_integer" = true) (p_is_integer : PySem.W.keepIn K (.ref f_is_integer) = true)
    (a_is_between : PySem.W.nsIn K mainGlobals "is_between" = some (some (.ref f_is_between))) (l_is_between : K.lookup f_is_between = some ⟨oc_is_between, od_is_between, .func (PySem.W.fnOf "is_between" "is_between" (defArgs s_is_between) (defBody s_is_between) (defScope s_is_between) .none kV_is_between dc_is_between pm_is_between an_is_between cd_is_between ct_is_between), sl_is_between⟩) (k_is_between : PySem.W.codeIn K cd_is_between "is_between" = true) (p_is_between : PySem.W.keepIn K (.ref f_is_between) = true)
    (a_ascends : PySem.W.nsIn K mainGlobals "ascends" = some (some (.ref f_ascends))) (l_ascends : K.lookup f_ascends = some ⟨oc_ascends, od_ascends, .func (PySem.W.fnOf "ascends" "ascends" (defArgs s_ascends) (defBody s_ascends) (defScope s_ascends) .none kV_ascends dc_ascends pm_ascends an_ascends cd_ascends ct_ascends), sl_ascends⟩) (k_ascends : PySem.W.codeIn K cd_ascends "ascends" = true) (p_ascends : PySem.W.keepIn K (.ref f_ascends) = true)
    (a_is_pair : PySem.W.nsIn K mainGlobals "is_pair" = some (some (.ref f_is_pair))) (l_is_pair : K.lookup f_is_pair = some ⟨oc_is_pair, od_is_pair, .func (PySem.W.fnOf "is_pair" "is_pair" (defArgs s_is_pair) (defBody s_is_pair) (defScope s_is_pair) .none kV_is_pair dc_is_pair pm_is_pair an_is_pair cd_is_pair ct_is_pair), sl_is_pair⟩) (k_is_pair : PySem.W.codeIn K cd_is_pair "is_pair" = true) (p_is_pair : PySem.W.keepIn K (.ref f_is_pair) = true)
    (a_is_row_of_pairs : PySem.W.nsIn K mainGlobals "is_row_of_pairs" = some (some (.ref f_is_row_of_pairs))) (l_is_row_of_pairs : K.lookup f_is_row_of_pairs = some ⟨oc_is_row_of_pairs, od_is_row_of_pairs, .func (PySem.W.fnOf "is_row_of_pairs" "is_row_of_pairs" (defArgs s_is_row_of_pairs) (defBody s_is_row_of_pairs) (defScope s_is_row_of_pairs) .none kV_is_row_of_pairs dc_is_row_of_pairs pm_is_row_of_pairs an_is_row_of_pairs cd_is_row_of_pairs ct_is_row_of_pairs), sl_is_row_of_pairs⟩) (k_is_row_of_pairs : PySem.W.codeIn K cd_is_row_of_pairs "is_row_of_pairs" = true) (p_is_row_of_pairs : PySem.W.keepIn K (.ref f_is_row_of_pairs) = true)
    (a_told : PySem.W.nsIn K mainGlobals "_told" = some (some (.ref f_told))) (l_told : K.lookup f_told = some ⟨oc_told, od_told, .func (PySem.W.fnOf "_told" "_told" (defArgs s_told) (defBody s_told) (defScope s_told) .none kV_told dc_told pm_told an_told cd_told ct_told), sl_told⟩) (k_told : PySem.W.codeIn K cd_told "_told" = true) (p_told : PySem.W.keepIn K (.ref f_told) = true)
    (a_w_reel : PySem.W.nsIn K mainGlobals "_law_reel" = some (some (.ref f_w_reel))) (l_w_reel : K.lookup f_w_reel = some ⟨oc_w_reel, od_w_reel, .func (PySem.W.fnOf "_law_reel" "_law_reel" (defArgs s_w_reel) (defBody s_w_reel) (defScope s_w_reel) .none kV_w_reel dc_w_reel pm_w_reel an_w_reel cd_w_reel ct_w_reel), sl_w_reel⟩) (k_w_reel : PySem.W.codeIn K cd_w_reel "_law_reel" = true) (p_w_reel : PySem.W.keepIn K (.ref f_w_reel) = true)
    (a_w_spin : PySem.W.nsIn K mainGlobals "_law_spin" = some (some (.ref f_w_spin))) (l_w_spin : K.lookup f_w_spin = some ⟨oc_w_spin, od_w_spin, .func (PySem.W.fnOf "_law_spin" "_law_spin" (defArgs s_w_spin) (defBody s_w_spin) (defScope s_w_spin) .none kV_w_spin dc_w_spin pm_w_spin an_w_spin cd_w_spin ct_w_spin), sl_w_spin⟩) (k_w_spin : PySem.W.codeIn K cd_w_spin "_law_spin" = true) (p_w_spin : PySem.W.keepIn K (.ref f_w_spin) = true)
    (a_w_pick : PySem.W.nsIn K mainGlobals "_law_pick" = some (some (.ref f_w_pick))) (l_w_pick : K.lookup f_w_pick = some ⟨oc_w_pick, od_w_pick, .func (PySem.W.fnOf "_law_pick" "_law_pick" (defArgs s_w_pick) (defBody s_w_pick) (defScope s_w_pick) .none kV_w_pick dc_w_pick pm_w_pick an_w_pick cd_w_pick ct_w_pick), sl_w_pick⟩) (k_w_pick : PySem.W.codeIn K cd_w_pick "_law_pick" = true) (p_w_pick : PySem.W.keepIn K (.ref f_w_pick) = true)
    (a_w_word : PySem.W.nsIn K mainGlobals "_law_word" = some (some (.ref f_w_word))) (l_w_word : K.lookup f_w_word = some ⟨oc_w_word, od_w_word, .func (PySem.W.fnOf "_law_word" "_law_word" (defArgs s_w_word) (defBody s_w_word) (defScope s_w_word) .none kV_w_word dc_w_word pm_w_word an_w_word cd_w_word ct_w_word), sl_w_word⟩) (k_w_word : PySem.W.codeIn K cd_w_word "_law_word" = true) (p_w_word : PySem.W.keepIn K (.ref f_w_word) = true)
    (a_w_bad_pairs : PySem.W.nsIn K mainGlobals "_law_bad_pairs" = some (some (.ref f_w_bad_pairs))) (l_w_bad_pairs : K.lookup f_w_bad_pairs = some ⟨oc_w_bad_pairs, od_w_bad_pairs, .func (PySem.W.fnOf "_law_bad_pairs" "_law_bad_pairs" (defArgs s_w_bad_pairs) (defBody s_w_bad_pairs) (defScope s_w_bad_pairs) .none kV_w_bad_pairs dc_w_bad_pairs pm_w_bad_pairs an_w_bad_pairs cd_w_bad_pairs ct_w_bad_pairs), sl_w_bad_pairs⟩) (k_w_bad_pairs : PySem.W.codeIn K cd_w_bad_pairs "_law_bad_pairs" = true) (p_w_bad_pairs : PySem.W.keepIn K (.ref f_w_bad_pairs) = true)
    (a_w_cell_right : PySem.W.nsIn K mainGlobals "_law_cell_right" = some (some (.ref f_w_cell_right))) (l_w_cell_right : K.lookup f_w_cell_right = some ⟨oc_w_cell_right, od_w_cell_right, .func (PySem.W.fnOf "_law_cell_right" "_law_cell_right" (defArgs s_w_cell_right) (defBody s_w_cell_right) (defScope s_w_cell_right) .none kV_w_cell_right dc_w_cell_right pm_w_cell_right an_w_cell_right (.ref c1) ct_w_cell_right), sl_w_cell_right⟩) (k_w_cell_right : PySem.W.codeIn K (.ref c1) "_law_cell_right" = true) (p_w_cell_right : PySem.W.keepIn K (.ref f_w_cell_right) = true)
    (a_law : PySem.W.nsIn K mainGlobals "law" = some (some (.ref f_law))) (l_law : K.lookup f_law = some ⟨oc_law, od_law, .func (PySem.W.fnOf "law" "law" (defArgs s_law) (defBody s_law) (defScope s_law) .none kV_law dc_law pm_law an_law (.ref c2) ct_law), sl_law⟩) (k_law : PySem.W.codeIn K (.ref c2) "law" = true) (p_law : PySem.W.keepIn K (.ref f_law) = true)
    (e_MAX_TICKS : PySem.W.nsIn K mainGlobals "MAX_TICKS" = some (some (.int 4 t_MAX_TICKS)))
    (e_MAX_LETTERS : PySem.W.nsIn K mainGlobals "MAX_LETTERS" = some (some (.int 8 t_MAX_LETTERS)))
    (e_MAX_DISTANCE : PySem.W.nsIn K mainGlobals "MAX_DISTANCE" = some (some (.int 3 t_MAX_DISTANCE)))
    (e_MAX_READS : PySem.W.nsIn K mainGlobals "MAX_READS" = some (some (.int 3 t_MAX_READS)))
    (e_MAX_USES : PySem.W.nsIn K mainGlobals "MAX_USES" = some (some (.int 4 t_MAX_USES)))
    (e_MAX_OFFSET : PySem.W.nsIn K mainGlobals "MAX_OFFSET" = some (some (.int 3 t_MAX_OFFSET)))
    (y_int : PySem.W.nsIn K mainGlobals "int" = some none)
    (y_abs : PySem.W.nsIn K mainGlobals "abs" = some none)
    (y_len : PySem.W.nsIn K mainGlobals "len" = some none)
    (y_max : PySem.W.nsIn K mainGlobals "max" = some none)
    (y_min : PySem.W.nsIn K mainGlobals "min" = some none)
    (y_range : PySem.W.nsIn K mainGlobals "range" = some none)
    (y_isinstance : PySem.W.nsIn K mainGlobals "isinstance" = some none)
    (y_repr : PySem.W.nsIn K mainGlobals "repr" = some none)
    (y_str : PySem.W.nsIn K mainGlobals "str" = some none)
    (y_all : PySem.W.nsIn K mainGlobals "all" = some none)
    (y_tuple : PySem.W.nsIn K mainGlobals "tuple" = some none)
    (y_dict : PySem.W.nsIn K mainGlobals "dict" = some none)
    (y_bool : PySem.W.nsIn K mainGlobals "bool" = some none)
    : ∃ T : T K mg, T.f_law = f_law ∧ T.d_law = PySem.W.fnOf "law" "law" (defArgs s_law) (defBody s_law) (defScope s_law) .none kV_law dc_law pm_law an_law (.ref c2) ct_law ∧ T.f_w_cell_right = f_w_cell_right ∧ T.d_w_cell_right = PySem.W.fnOf "_law_cell_right" "_law_cell_right" (defArgs s_w_cell_right) (defBody s_w_cell_right) (defScope s_w_cell_right) .none kV_w_cell_right dc_w_cell_right pm_w_cell_right an_w_cell_right (.ref c1) ct_w_cell_right ∧ FunC K "_law_cell_right" "_law_cell_right" s_w_cell_right f_w_cell_right (PySem.W.fnOf "_law_cell_right" "_law_cell_right" (defArgs s_w_cell_right) (defBody s_w_cell_right) (defScope s_w_cell_right) .none kV_w_cell_right dc_w_cell_right pm_w_cell_right an_w_cell_right (.ref c1) ct_w_cell_right) c1 ∧ FunC K "law" "law" s_law f_law (PySem.W.fnOf "law" "law" (defArgs s_law) (defBody s_law) (defScope s_law) .none kV_law dc_law pm_law an_law (.ref c2) ct_law) c2 := by
  have F_wall := fun_mk (st := s_wall) l_wall k_wall p_wall
  have b_wall := F_wall.binds (ps := ["k"]) fun _ _ _ _ _ _ us hl => match us, hl with | [_], _ => rfl
  have F_is_name := fun_mk (st := s_is_name) l_is_name k_is_name p_is_name
  have b_is_name := F_is_name.binds (ps := ["value"]) fun _ _ _ _ _ _ us hl => match us, hl with | [_], _ => rfl
  have F_is_integer := fun_mk (st := s_is_integer) l_is_integer k_is_integer p_is_integer
  have b_is_integer := F_is_integer.binds (ps := ["value"]) fun _ _ _ _ _ _ us hl => match us, hl with | [_], _ => rfl
  have F_is_between := fun_mk (st := s_is_between) l_is_between k_is_between p_is_between
  have b_is_between := F_is_between.binds (ps := ["value", "low", "high"]) fun _ _ _ _ _ _ us hl => match us, hl with | [_, _, _], _ => rfl
  have F_ascends := fun_mk (st := s_ascends) l_ascends k_ascends p_ascends
  have b_ascends := F_ascends.binds (ps := ["row"]) fun _ _ _ _ _ _ us hl => match us, hl with | [_], _ => rfl
  have F_is_pair := fun_mk (st := s_is_pair) l_is_pair k_is_pair p_is_pair
  have b_is_pair := F_is_pair.binds (ps := ["value", "highest"]) fun _ _ _ _ _ _ us hl => match us, hl with | [_, _], _ => rfl
  have F_is_row_of_pairs := fun_mk (st := s_is_row_of_pairs) l_is_row_of_pairs k_is_row_of_pairs p_is_row_of_pairs
  have b_is_row_of_pairs := F_is_row_of_pairs.binds (ps := ["value", "most", "highest"]) fun _ _ _ _ _ _ us hl => match us, hl with | [_, _, _], _ => rfl
  have F_told := fun_mk (st := s_told) l_told k_told p_told
  have b_told := F_told.binds (ps := ["word", "pairs"]) fun _ _ _ _ _ _ us hl => match us, hl with | [_, _], _ => rfl
  have F_w_reel := fun_mk (st := s_w_reel) l_w_reel k_w_reel p_w_reel
  have b_w_reel := F_w_reel.binds (ps := ["script", "at"]) fun _ _ _ _ _ _ us hl => match us, hl with | [_, _], _ => rfl
  have F_w_spin := fun_mk (st := s_w_spin) l_w_spin k_w_spin p_w_spin
  have b_w_spin := F_w_spin.binds (ps := ["reel", "total"]) fun _ _ _ _ _ _ us hl => match us, hl with | [_, _], _ => rfl
  have F_w_pick := fun_mk (st := s_w_pick) l_w_pick k_w_pick p_w_pick
  have b_w_pick := F_w_pick.binds (ps := ["reel", "items"]) fun _ _ _ _ _ _ us hl => match us, hl with | [_, _], _ => rfl
  have F_w_word := fun_mk (st := s_w_word) l_w_word k_w_word p_w_word
  have b_w_word := F_w_word.binds (ps := ["call"]) fun _ _ _ _ _ _ us hl => match us, hl with | [_], _ => rfl
  have F_w_bad_pairs := fun_mk (st := s_w_bad_pairs) l_w_bad_pairs k_w_bad_pairs p_w_bad_pairs
  have b_w_bad_pairs := F_w_bad_pairs.binds (ps := ["reel", "most"]) fun _ _ _ _ _ _ us hl => match us, hl with | [_, _], _ => rfl
  have F_w_cell_right := fun_mk (st := s_w_cell_right) l_w_cell_right k_w_cell_right p_w_cell_right
  have b_w_cell_right := F_w_cell_right.binds (ps := ["reel"]) fun _ _ _ _ _ _ us hl => match us, hl with | [_], _ => rfl
  have F_law := fun_mk (st := s_law) l_law k_law p_law
  have b_law := F_law.binds (ps := ["script"]) fun _ _ _ _ _ _ us hl => match us, hl with | [_], _ => rfl
  exact ⟨⟨_, _, F_wall, PySem.W.mg_of X G a_wall, b_wall, _, _, F_is_name, PySem.W.mg_of X G a_is_name, b_is_name, _, _, F_is_integer, PySem.W.mg_of X G a_is_integer, b_is_integer, _, _, F_is_between, PySem.W.mg_of X G a_is_between, b_is_between, _, _, F_ascends, PySem.W.mg_of X G a_ascends, b_ascends, _, _, F_is_pair, PySem.W.mg_of X G a_is_pair, b_is_pair, _, _, F_is_row_of_pairs, PySem.W.mg_of X G a_is_row_of_pairs, b_is_row_of_pairs, _, _, F_told, PySem.W.mg_of X G a_told, b_told, _, _, F_w_reel, PySem.W.mg_of X G a_w_reel, b_w_reel, _, _, F_w_spin, PySem.W.mg_of X G a_w_spin, b_w_spin, _, _, F_w_pick, PySem.W.mg_of X G a_w_pick, b_w_pick, _, _, F_w_word, PySem.W.mg_of X G a_w_word, b_w_word, _, _, F_w_bad_pairs, PySem.W.mg_of X G a_w_bad_pairs, b_w_bad_pairs, _, _, F_w_cell_right, PySem.W.mg_of X G a_w_cell_right, b_w_cell_right, _, _, F_law, PySem.W.mg_of X G a_law, b_law, ⟨t_MAX_TICKS, PySem.W.mg_of X G e_MAX_TICKS⟩, ⟨t_MAX_LETTERS, PySem.W.mg_of X G e_MAX_LETTERS⟩, ⟨t_MAX_DISTANCE, PySem.W.mg_of X G e_MAX_DISTANCE⟩, ⟨t_MAX_READS, PySem.W.mg_of X G e_MAX_READS⟩, ⟨t_MAX_USES, PySem.W.mg_of X G e_MAX_USES⟩, ⟨t_MAX_OFFSET, PySem.W.mg_of X G e_MAX_OFFSET⟩, PySem.W.mg_none_of X G y_int, PySem.W.mg_none_of X G y_abs, PySem.W.mg_none_of X G y_len, PySem.W.mg_none_of X G y_max, PySem.W.mg_none_of X G y_min, PySem.W.mg_none_of X G y_range, PySem.W.mg_none_of X G y_isinstance, PySem.W.mg_none_of X G y_repr, PySem.W.mg_none_of X G y_str, PySem.W.mg_none_of X G y_all, PySem.W.mg_none_of X G y_tuple, PySem.W.mg_none_of X G y_dict, PySem.W.mg_none_of X G y_bool⟩, rfl, rfl, rfl, rfl, ⟨⟨_, _, _, _, _, _, _, _, rfl, l_w_cell_right, k_w_cell_right⟩⟩, ⟨⟨_, _, _, _, _, _, _, _, rfl, l_law, k_law⟩⟩⟩
theorem exm_by {K : PySem.W.Frag} {A S : Addr} {b : Bool} (h1 : PySem.W.subIn K (.ref S) (.type "BaseException") = some true) (h2 : PySem.W.isClsIn K S = true) (h3 : PySem.W.typeIn K (.ref S) = some (.type "type")) (h4 : PySem.W.subIn K (.ref A) (.ref S) = some b) :
    PySem.W.exmOne K (.ref A) (.ref S) = some b := by
  have h5 : (PySem.W.clsIn K S).isSome = true := h2
  unfold PySem.W.exmOne PySem.W.kitCls
  rw [h1]
  dsimp only
  rw [h5, h3, h4]
  rfl
theorem mk_U {K : PySem.W.Frag} {h : Heap} {mg : Str → Option Value} (X : K.In h) (G : h.Ns mainGlobals mg)
    {fR fI fW fN O A C L M r0 u0 DI dTR : Addr} {nmO qO : Str} {NO : Addr} {bsO bmO subO : List Value} {snO : List Str} {abO : Bool} {colO : Option Bool} {ddO : Option Addr} {m0O m1O m2O m3O m4O : Option Value} {nmA qA : Str} {NA : Addr} {bsA bmA subA : List Value} {snA : List Str} {abA : Bool} {colA : Option Bool} {ddA : Option Addr} {m0A m1A m2A m3A m4A : Option Value} {ocR kVR dcR pmR cdR ctR : Value} {odR anR : Option Addr} {slR : Array (Option Value)} {ocD : Value} {odD : Option Addr} {nD : Nat} {slD : Array (Option Value)} {ocI dcI pmI cdI ctI : Value} {odI anI : Option Addr} {slI : Array (Option Value)} {tk : Tok} {odE : Option Addr} {nE : Nat} {slE : Array (Option Value)} {odG : Option Addr} {nG : Nat} {slG : Array (Option Value)} {ocW kVW dcW pmW cdW ctW : Value} {odW anW : Option Addr} {slW : Array (Option Value)} {ocN kVN dcN pmN cdN ctN : Value} {odN anN : Option Addr} {slN : Array (Option Value)}
    (aO : PySem.W.nsIn K mainGlobals "InvalidOperation" = some (some (.ref O)))
    (xO : K.lookup O = some (excClassObj nmO qO O NO bsO bmO true snO subO abO colO ddO m0O m1O m2O m3O m4O "ValueError.__new__"))
    (rO : PySem.HandSPX.refsVE bmO = true)
    (sO : PySem.W.findIn K (.ref O) "__setattr__" = some (some (.builtin "object.__setattr__")))
    (eO : PySem.W.subIn K (.ref O) (.type "BaseException") = some true)
    (tO : PySem.W.typeIn K (.ref O) = some (.type "type"))
    (kO : PySem.W.keepIn K (.ref O) = true)
    (iO : PySem.W.findIn K (.ref O) "__init__" = some (some (.ref fR)))
    (nO : PySem.W.findIn K (.ref O) "told" = some none)
    (aA : PySem.W.nsIn K mainGlobals "InvalidArgument" = some (some (.ref A)))
    (xA : K.lookup A = some (excClassObj nmA qA A NA bsA bmA true snA subA abA colA ddA m0A m1A m2A m3A m4A "ValueError.__new__"))
    (rA : PySem.HandSPX.refsVE bmA = true)
    (sA : PySem.W.findIn K (.ref A) "__setattr__" = some (some (.builtin "object.__setattr__")))
    (eA : PySem.W.subIn K (.ref A) (.type "BaseException") = some true)
    (tA : PySem.W.typeIn K (.ref A) = some (.type "type"))
    (kA : PySem.W.keepIn K (.ref A) = true)
    (iA : PySem.W.findIn K (.ref A) "__init__" = some (some (.ref fR)))
    (nA : PySem.W.findIn K (.ref A) "told" = some none)
    (lR : K.lookup fR = some ⟨ocR, odR, .func (PySem.W.fnOf "__init__" "RoundError.__init__" (defArgs s_RoundError_init) (defBody s_RoundError_init) (defScope s_RoundError_init) (.ref dTR) kVR dcR pmR anR cdR ctR), slR⟩)
    (kR : PySem.W.codeIn K cdR "RoundError.__init__" = true)
    (pR : PySem.W.keepIn K (.ref fR) = true)
    (tR : PySem.W.typeIn K (.ref fR) = some (.type "function"))
    (xD : K.lookup dTR = some ⟨ocD, odD, .seq #[.none] nD, slD⟩)
    (aC : PySem.W.nsIn K mainGlobals "Operation" = some (some (.ref C)))
    (c1 : PySem.W.plainGet K C Str.empty = true)
    (c2 : PySem.W.hasDictIn K C = true)
    (c3 : PySem.W.plainOver K C = true)
    (c4 : PySem.W.findIn K (.ref C) "__setattr__" = some (some (.builtin "object.__setattr__")))
    (c5 : PySem.W.makesIn K C = true)
    (c6 : PySem.W.findIn K (.ref C) "__init__" = some (some (.ref fI)))
    (c7 : PySem.W.isFn K (.ref fI) = true)
    (c8 : PySem.W.keepIn K (.ref C) = true)
    (lI : K.lookup fI = some ⟨ocI, odI, .func (PySem.W.fnOf "__init__" "Operation.__init__" (defArgs s_Operation_init) (defBody s_Operation_init) (defScope s_Operation_init) .none (.ref DI) dcI pmI anI cdI ctI), slI⟩)
    (kI : PySem.W.codeIn K cdI "Operation.__init__" = true)
    (pI : PySem.W.keepIn K (.ref fI) = true)
    (w1 : PySem.W.nsIn K DI "ticks" = some (some (.int 1 tk)))
    (w2 : PySem.W.nsIn K DI "reads" = some (some (.ref r0)))
    (w3 : PySem.W.nsIn K DI "uses" = some (some (.ref u0)))
    (xE : K.lookup r0 = some ⟨.type "tuple", odE, .seq #[] nE, slE⟩)
    (xG : K.lookup u0 = some ⟨.type "tuple", odG, .seq #[] nG, slG⟩)
    (n1 : PySem.W.findIn K (.ref C) "_name" = some none)
    (n2 : PySem.W.findIn K (.ref C) "_ticks" = some none)
    (n3 : PySem.W.findIn K (.ref C) "_reads" = some none)
    (n4 : PySem.W.findIn K (.ref C) "_uses" = some none)
    (iW : PySem.W.findIn K (.ref C) "with_ticks" = some (some (.ref fW)))
    (yW : PySem.W.isFn K (.ref fW) = true)
    (lW : K.lookup fW = some ⟨ocW, odW, .func (PySem.W.fnOf "with_ticks" "Operation.with_ticks" (defArgs s_Operation_with_ticks) (defBody s_Operation_with_ticks) (defScope s_Operation_with_ticks) .none kVW dcW pmW anW cdW ctW), slW⟩)
    (kW : PySem.W.codeIn K cdW "Operation.with_ticks" = true)
    (pW : PySem.W.keepIn K (.ref fW) = true)
    (iN : PySem.W.findIn K (.ref C) "renamed" = some (some (.ref fN)))
    (yN : PySem.W.isFn K (.ref fN) = true)
    (lN : K.lookup fN = some ⟨ocN, odN, .func (PySem.W.fnOf "renamed" "Operation.renamed" (defArgs s_Operation_renamed) (defBody s_Operation_renamed) (defScope s_Operation_renamed) .none kVN dcN pmN anN cdN ctN), slN⟩)
    (kN : PySem.W.codeIn K cdN "Operation.renamed" = true)
    (pN : PySem.W.keepIn K (.ref fN) = true)
    (aL : PySem.W.nsIn K mainGlobals "InvalidLoop" = some (some (.ref L)))
    (aM : PySem.W.nsIn K mainGlobals "InvalidMachine" = some (some (.ref M)))
    (gO : PySem.W.isClsIn K O = true)
    (gA : PySem.W.isClsIn K A = true)
    (gL : PySem.W.isClsIn K L = true)
    (gM : PySem.W.isClsIn K M = true)
    (eL : PySem.W.subIn K (.ref L) (.type "BaseException") = some true)
    (tL : PySem.W.typeIn K (.ref L) = some (.type "type"))
    (eM : PySem.W.subIn K (.ref M) (.type "BaseException") = some true)
    (tM : PySem.W.typeIn K (.ref M) = some (.type "type"))
    (oo : PySem.W.subIn K (.ref O) (.ref O) = some true)
    (ao : PySem.W.subIn K (.ref A) (.ref O) = some false)
    (al : PySem.W.subIn K (.ref A) (.ref L) = some false)
    (am : PySem.W.subIn K (.ref A) (.ref M) = some false)
    (aa : PySem.W.subIn K (.ref A) (.ref A) = some true)
    : ∃ (U : TX K mg) (W : MX U), MY W ∧ Nonempty (WC K mg U.O U.A) := by
  have FR : FunD K "__init__" "RoundError.__init__" (defArgs s_RoundError_init) (defBody s_RoundError_init) (defScope s_RoundError_init) [.non] [] fR (PySem.W.fnOf "__init__" "RoundError.__init__" (defArgs s_RoundError_init) (defBody s_RoundError_init) (defScope s_RoundError_init) (.ref dTR) kVR dcR pmR anR cdR ctR) := ⟨⟨_, _, _, _, _, _, _, _, _, _, rfl, lR, kR, .inr ⟨by simp, dTR, _, [.none], nD, rfl, xD, rfl, .cons rfl .nil⟩, .inl rfl⟩, pR⟩
  have bR : L2.Binds K (PySem.W.fnOf "__init__" "RoundError.__init__" (defArgs s_RoundError_init) (defBody s_RoundError_init) (defScope s_RoundError_init) (.ref dTR) kVR dcR pmR anR cdR ctR) ["self", "told"] [] := by
    obtain ⟨ds, v, b⟩ := FR.binds1 (ps := ["self", "told"]) 2 1 (by simp) rfl fun T kV doc pm an cdv ct us its l1 l2 => by
      match us, its, l1, l2 with
      | [_, _], [_], _, _ => exact ⟨_, rfl, rfl⟩
    cases v
    exact b
  have FI : FunD K "__init__" "Operation.__init__" (defArgs s_Operation_init) (defBody s_Operation_init) (defScope s_Operation_init) [] [("ticks", .int 1), ("reads", .ref r0), ("uses", .ref u0)] fI (PySem.W.fnOf "__init__" "Operation.__init__" (defArgs s_Operation_init) (defBody s_Operation_init) (defScope s_Operation_init) .none (.ref DI) dcI pmI anI cdI ctI) := ⟨⟨_, _, _, _, _, _, _, _, _, _, rfl, lI, kI, .inl ⟨rfl, rfl⟩, .inr ⟨DI, rfl, fun q hq => by
    simp only [List.mem_cons, List.mem_nil_iff, or_false] at hq
    rcases hq with rfl | rfl | rfl
    · exact ⟨_, w1, _, rfl⟩
    · exact ⟨_, w2, rfl⟩
    · exact ⟨_, w3, rfl⟩⟩⟩, pI⟩
  have FW : FunD K "with_ticks" "Operation.with_ticks" (defArgs s_Operation_with_ticks) (defBody s_Operation_with_ticks) (defScope s_Operation_with_ticks) [] [] fW (PySem.W.fnOf "with_ticks" "Operation.with_ticks" (defArgs s_Operation_with_ticks) (defBody s_Operation_with_ticks) (defScope s_Operation_with_ticks) .none kVW dcW pmW anW cdW ctW) := ⟨⟨_, _, _, _, _, _, _, _, _, _, rfl, lW, kW, .inl ⟨rfl, rfl⟩, .inl rfl⟩, pW⟩
  have FN : FunD K "renamed" "Operation.renamed" (defArgs s_Operation_renamed) (defBody s_Operation_renamed) (defScope s_Operation_renamed) [] [] fN (PySem.W.fnOf "renamed" "Operation.renamed" (defArgs s_Operation_renamed) (defBody s_Operation_renamed) (defScope s_Operation_renamed) .none kVN dcN pmN anN cdN ctN) := ⟨⟨_, _, _, _, _, _, _, _, _, _, rfl, lN, kN, .inl ⟨rfl, rfl⟩, .inl rfl⟩, pN⟩
  have bW : L2.Binds K (PySem.W.fnOf "with_ticks" "Operation.with_ticks" (defArgs s_Operation_with_ticks) (defBody s_Operation_with_ticks) (defScope s_Operation_with_ticks) .none kVW dcW pmW anW cdW ctW) ["self", "ticks"] [] := .all fun us hl => match us, hl with | [_, _], _ => rfl
  have bN : L2.Binds K (PySem.W.fnOf "renamed" "Operation.renamed" (defArgs s_Operation_renamed) (defBody s_Operation_renamed) (defScope s_Operation_renamed) .none kVN dcN pmN anN cdN ctN) ["self", "names"] [] := .all fun us hl => match us, hl with | [_, _], _ => rfl
  exact ⟨⟨fR, _, FR, bR, tR, O, ⟨PySem.W.mg_of X G aO, ⟨⟨nmO, qO, NO, bsO, bmO, snO, subO, abO, colO, ddO, m0O, m1O, m2O, m3O, m4O, xO, rO⟩, sO, eO, tO, kO⟩, iO, nO⟩, A, ⟨PySem.W.mg_of X G aA, ⟨⟨nmA, qA, NA, bsA, bmA, snA, subA, abA, colA, ddA, m0A, m1A, m2A, m3A, m4A, xA, rA⟩, sA, eA, tA, kA⟩, iA, nA⟩, C, PySem.W.mg_of X G aC, ⟨c1, c2, c3, c4⟩, r0, u0, ⟨_, _, _, xE, rfl, rfl, by decide, .nil⟩, ⟨_, _, _, xG, rfl, rfl, by decide, .nil⟩, fI, _, FI, ⟨c5, c6, c7, c8⟩, n1, n2, n3, n4⟩,
    ⟨fW, _, FW, fN, _, FN⟩, ⟨⟨iW, yW, pW⟩, bW, ⟨iN, yN, pN⟩, bN⟩, ⟨⟨L, PySem.W.mg_of X G aL, M, PySem.W.mg_of X G aM, exm_by eO gO tO oo, exm_by eO gO tO ao, exm_by eL gL tL al, exm_by eM gM tM am, exm_by eA gA tA aa⟩⟩⟩
open LamX in
theorem fin_law {l : PySem.W.OpenLaw} {w : World} {K : PySem.W.Frag} {h : Heap} {mg : Str → Option Value} {fa f_law f_w_cell_right : Addr} (X : K.In h) (G : h.Ns mainGlobals mg) (hfa : mg "law" = some (.ref fa)) (a_law : PySem.W.nsIn K mainGlobals "law" = some (some (.ref f_law)))
    {dl dc : FuncData} {c1 P1 c2 P2 : Addr} (tt : ∃ T : T K mg, T.f_law = f_law ∧ T.d_law = dl ∧ T.f_w_cell_right = f_w_cell_right ∧ T.d_w_cell_right = dc ∧ FunC K "_law_cell_right" "_law_cell_right" s_w_cell_right f_w_cell_right dc c1 ∧ FunC K "law" "law" s_law f_law dl c2) (uu : ∃ (U : TX K mg) (W : MX U), MY W ∧ Nonempty (WC K mg U.O U.A))
    {ec1 ec2 : Value} {ed1 ed2 : Option Addr} {vs1 vs2 : Array Value} {es1 es2 : Array (Option Value)} (pl1 : K.lookup c1 = some ⟨ec1, ed1, .fields vs1, es1⟩) (pl2 : K.lookup c2 = some ⟨ec2, ed2, .fields vs2, es2⟩) (pu1 : vs1[11]? = some (.ref P1)) (pu2 : vs2[11]? = some (.ref P2))
    (hd1 : PySem.W.codeHdIn K c1 P1 = true) (hd2 : PySem.W.codeHdIn K c2 P2 = true) (out1 : K.lookup P1 = none) (out2 : K.lookup P2 = none) (em1 : h.get? P1 = some { cls := .none, data := .fields #[] }) (em2 : h.get? P2 = some { cls := .none, data := .fields #[] }) (ne : P1 ≠ P2)
    (hb : ∀ (s : Shared) (u : Value), BindsTo s dl ⟨[u], []⟩ [("script", u)]) : LawAtS l w K CX0 11 63 "script" mg fa h := by
  have e := hfa.symm.trans (PySem.W.mg_of X G a_law)
  cases e
  obtain ⟨T, rfl, rfl, rfl, rfl, FC, FL⟩ := tt
  obtain ⟨U, W, Y, ⟨C⟩⟩ := uu
  refine ⟨_, [(c1, P1), (c2, P2)], sp_lawT K P1 P2, fun p hp => ?_, fun p hp => ?_, fun p hp => ?_, hb, fun H a ns hl _ hH hS => ?_, fun base _ _ hT => ok_law T U W Y C ne (hT (c1, P1) List.mem_cons_self) (hT (c2, P2) (List.mem_cons_of_mem _ List.mem_cons_self)) FC FL⟩
  · rcases List.mem_cons.mp hp with rfl | hp
    · exact em1
    · obtain rfl := List.mem_singleton.mp hp
      exact em2
  · rcases List.mem_cons.mp hp with rfl | hp
    · exact out1
    · obtain rfl := List.mem_singleton.mp hp
      exact out2
  · rcases List.mem_cons.mp hp with rfl | hp
    · exact PySem.W.codeHd_of_K X hd1
    · obtain rfl := List.mem_singleton.mp hp
      exact PySem.W.codeHd_of_K X hd2
  · refine ⟨a, ns, rfl, hS, hl, fun p hp => ?_, fun _ => rfl⟩
    rcases List.mem_cons.mp hp with rfl | hp
    · exact TabS.nil (hH (c1, P1) List.mem_cons_self)
    · obtain rfl := List.mem_singleton.mp hp
      exact TabS.nil (hH (c2, P2) (List.mem_cons_of_mem _ List.mem_cons_self))
end K07
open PySem PySem.W PyProof.Rows
set_option maxRecDepth 100000 in
set_option maxHeartbeats 0 in
theorem PySem.Challenge.cw_overrounds_k07_errors_of_operations_holds : PySem.Challenge.rw_overrounds_k07_errors_of_operations.Holds := by
  w_on; o_law; k_head; (case hw => w_witness2)
  k_fill
  refine LamX.walk_ofTs (l := PySem.Challenge.rw_overrounds_k07_errors_of_operations) (n := 63) (k := 11) (CX := fun _ => L2.CX0) (x := "script") rfl (by decide) rfl ⟨rfl, by decide, by decide⟩ (fun w h Y => PySem.W.km_in_of Y) ?F (fun _ _ _ _ _ z => z)
  case F =>
    intro w mg fa h Y KX G hmg
    have hY := PySem.W.km_tabs_of Y
    refine' K07.fin_law KX G hmg ?a_law0 ?tt ?uu ?pl1 ?pl2 ?pu1 ?pu2 ?hd1 ?hd2 ?out1 ?out2 ?em1 ?em2 ?ne ?hb
    (case a_law0 => k_is)
    case tt =>
      refine' K07.mk_T KX G ?a_wall ?l_wall ?k_wall ?p_wall ?a_is_name ?l_is_name ?k_is_name ?p_is_name ?a_is_integer ?l_is_integer ?k_is_integer ?p_is_integer ?a_is_between ?l_is_between ?k_is_between ?p_is_between ?a_ascends ?l_ascends ?k_ascends ?p_ascends ?a_is_pair ?l_is_pair ?k_is_pair ?p_is_pair ?a_is_row_of_pairs ?l_is_row_of_pairs ?k_is_row_of_pairs ?p_is_row_of_pairs ?a_told ?l_told ?k_told ?p_told ?a_w_reel ?l_w_reel ?k_w_reel ?p_w_reel ?a_w_spin ?l_w_spin ?k_w_spin ?p_w_spin ?a_w_pick ?l_w_pick ?k_w_pick ?p_w_pick ?a_w_word ?l_w_word ?k_w_word ?p_w_word ?a_w_bad_pairs ?l_w_bad_pairs ?k_w_bad_pairs ?p_w_bad_pairs ?a_w_cell_right ?l_w_cell_right ?k_w_cell_right ?p_w_cell_right ?a_law ?l_law ?k_law ?p_law ?e_MAX_TICKS ?e_MAX_LETTERS ?e_MAX_DISTANCE ?e_MAX_READS ?e_MAX_USES ?e_MAX_OFFSET ?y_int ?y_abs ?y_len ?y_max ?y_min ?y_range ?y_isinstance ?y_repr ?y_str ?y_all ?y_tuple ?y_dict ?y_bool
      (case a_wall => k_is)
      (case l_wall => k_is)
      (case k_wall => k_is)
      (case p_wall => k_is)
      (case a_is_name => k_is)
      (case l_is_name => k_is)
      (case k_is_name => k_is)
      (case p_is_name => k_is)
      (case a_is_integer => k_is)
      (case l_is_integer => k_is)
      (case k_is_integer => k_is)
      (case p_is_integer => k_is)
      (case a_is_between => k_is)
      (case l_is_between => k_is)
      (case k_is_between => k_is)
      (case p_is_between => k_is)
      (case a_ascends => k_is)
      (case l_ascends => k_is)
      (case k_ascends => k_is)
      (case p_ascends => k_is)
      (case a_is_pair => k_is)
      (case l_is_pair => k_is)
      (case k_is_pair => k_is)
      (case p_is_pair => k_is)
      (case a_is_row_of_pairs => k_is)
      (case l_is_row_of_pairs => k_is)
      (case k_is_row_of_pairs => k_is)
      (case p_is_row_of_pairs => k_is)
      (case a_told => k_is)
      (case l_told => k_is)
      (case k_told => k_is)
      (case p_told => k_is)
      (case a_w_reel => k_is)
      (case l_w_reel => k_is)
      (case k_w_reel => k_is)
      (case p_w_reel => k_is)
      (case a_w_spin => k_is)
      (case l_w_spin => k_is)
      (case k_w_spin => k_is)
      (case p_w_spin => k_is)
      (case a_w_pick => k_is)
      (case l_w_pick => k_is)
      (case k_w_pick => k_is)
      (case p_w_pick => k_is)
      (case a_w_word => k_is)
      (case l_w_word => k_is)
      (case k_w_word => k_is)
      (case p_w_word => k_is)
      (case a_w_bad_pairs => k_is)
      (case l_w_bad_pairs => k_is)
      (case k_w_bad_pairs => k_is)
      (case p_w_bad_pairs => k_is)
      (case a_w_cell_right => k_is)
      (case l_w_cell_right => k_is)
      (case k_w_cell_right => k_is)
      (case p_w_cell_right => k_is)
      (case a_law => k_is)
      (case l_law => k_is)
      (case k_law => k_is)
      (case p_law => k_is)
      (case e_MAX_TICKS => k_is)
      (case e_MAX_LETTERS => k_is)
      (case e_MAX_DISTANCE => k_is)
      (case e_MAX_READS => k_is)
      (case e_MAX_USES => k_is)
      (case e_MAX_OFFSET => k_is)
      (case y_int => k_is)
      (case y_abs => k_is)
      (case y_len => k_is)
      (case y_max => k_is)
      (case y_min => k_is)
      (case y_range => k_is)
      (case y_isinstance => k_is)
      (case y_repr => k_is)
      (case y_str => k_is)
      (case y_all => k_is)
      (case y_tuple => k_is)
      (case y_dict => k_is)
      (case y_bool => k_is)
    case uu =>
      refine' K07.mk_U KX G ?aO ?xO ?rO ?sO ?eO ?tO ?kO ?iO ?nO ?aA ?xA ?rA ?sA ?eA ?tA ?kA ?iA ?nA ?lR ?kR ?pR ?tR ?xD ?aC ?c1 ?c2 ?c3 ?c4 ?c5 ?c6 ?c7 ?c8 ?lI ?kI ?pI ?w1 ?w2 ?w3 ?xE ?xG ?n1 ?n2 ?n3 ?n4 ?iW ?yW ?lW ?kW ?pW ?iN ?yN ?lN ?kN ?pN ?aL ?aM ?gO ?gA ?gL ?gM ?eL ?tL ?eM ?tM ?oo ?ao ?al ?am ?aa
      (case aO => k_is)
      (case xO => k_is)
      (case rO => first | decide +kernel | rfl)
      (case sO => k_is)
      (case eO => k_is)
      (case tO => k_is)
      (case kO => k_is)
      (case iO => k_is)
      (case nO => k_is)
      (case aA => k_is)
      (case xA => k_is)
      (case rA => first | decide +kernel | rfl)
      (case sA => k_is)
      (case eA => k_is)
      (case tA => k_is)
      (case kA => k_is)
      (case iA => k_is)
      (case nA => k_is)
      (case lR => k_is)
      (case kR => k_is)
      (case pR => k_is)
      (case tR => k_is)
      (case xD => k_is)
      (case aC => k_is)
      (case c1 => k_is)
      (case c2 => k_is)
      (case c3 => k_is)
      (case c4 => k_is)
      (case c5 => k_is)
      (case c6 => k_is)
      (case c7 => k_is)
      (case c8 => k_is)
      (case lI => k_is)
      (case kI => k_is)
      (case pI => k_is)
      (case w1 => k_is)
      (case w2 => k_is)
      (case w3 => k_is)
      (case xE => k_is)
      (case xG => k_is)
      (case n1 => k_is)
      (case n2 => k_is)
      (case n3 => k_is)
      (case n4 => k_is)
      (case iW => k_is)
      (case yW => k_is)
      (case lW => k_is)
      (case kW => k_is)
      (case pW => k_is)
      (case iN => k_is)
      (case yN => k_is)
      (case lN => k_is)
      (case kN => k_is)
      (case pN => k_is)
      (case aL => k_is)
      (case aM => k_is)
      (case gO => k_is)
      (case gA => k_is)
      (case gL => k_is)
      (case gM => k_is)
      (case eL => k_is)
      (case tL => k_is)
      (case eM => k_is)
      (case tM => k_is)
      (case oo => first | rfl | k_is)
      (case ao => k_is)
      (case al => k_is)
      (case am => k_is)
      (case aa => first | rfl | k_is)
    (case pl1 => k_is)
    (case pl2 => k_is)
    (case pu1 => rfl)
    (case pu2 => rfl)
    (case hd1 => kernel_rfl)
    (case hd2 => kernel_rfl)
    (case out1 => kernel_rfl)
    (case out2 => kernel_rfl)
    (case em1 => exact hY _ (by decide))
    (case em2 => exact hY _ (by decide))
    (case ne => decide)
    (case hb => intro s u; exact .of_eq rfl)
#print axioms PySem.Challenge.cw_overrounds_k07_errors_of_operations_holds
