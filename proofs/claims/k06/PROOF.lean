import PyProof.Rows.All
import Wide.All
import OpenK.AllK
import Wide.FinOn
import HandS.ForMost
import HandS.Wide
import HandS.IsInst
import HandS.Walk
import HandS.Style
import HandS.ForExc
import HandS.ExcInit
import HandS.Lambda
import HandS.Defaults
import HandS.MakeKwOnly
import HandS.TryMany
import KE.DataCmp
import HandS.EndTab
import KE.KNestM
import HandS.Set
import HandS.Keys
import HandS.Dict
import HandS.TupSets
import HandS.SetBool
import KE.SortData
import HandS.Comp
import HandS.FStr
import HandS.Text
import KE.KFmtOwn
import HandS.OwnEq
import HandS.More
import HandS.RaiseMore
import PyProof.InstNe
import OpenK.KMeth
import OpenK.KOps
import HandS.Property
import HandS.WordsDict
import HandS.ClsMeth
import KE.RegKIsAll
import PySem.Challenge.RW_overrounds_k06_operations
set_option Elab.async false
set_option linter.all false
set_option maxRecDepth 100000
set_option maxHeartbeats 2000000
namespace K06
open PySem L2
def top (i : Nat) : Stmt := PySem.Challenge.pw_overrounds_k06_operations.main.body.getD i (.Pass ⟨0, 0, 0, 0⟩)
abbrev s_is_name : Stmt := top 7
abbrev s_is_integer : Stmt := top 8
abbrev s_is_between : Stmt := top 9
abbrev s_ascends : Stmt := top 11
abbrev s_is_pair : Stmt := top 12
abbrev s_is_row_of_pairs : Stmt := top 13
abbrev s_first_items : Stmt := top 14
abbrev s_told : Stmt := top 20
abbrev s_w_reel : Stmt := top 23
abbrev s_w_spin : Stmt := top 24
abbrev s_w_pick : Stmt := top 25
abbrev s_w_few : Stmt := top 26
abbrev s_w_uses : Stmt := top 27
abbrev s_w_drawn : Stmt := top 28
abbrev s_w_made_one : Stmt := top 29
abbrev s_w_text : Stmt := top 30
abbrev s_w_is_row : Stmt := top 31
abbrev s_w_near : Stmt := top 32
abbrev s_w_cell_right : Stmt := top 33
abbrev s_law : Stmt := top 34
abbrev s_RoundError_init : Stmt := inClass (top 1) 0
abbrev s_Operation_init : Stmt := inClass (top 21) 0
abbrev s_Operation_name : Stmt := inClass (top 21) 1
abbrev s_Operation_ticks : Stmt := inClass (top 21) 2
abbrev s_Operation_reads : Stmt := inClass (top 21) 3
abbrev s_Operation_uses : Stmt := inClass (top 21) 4
abbrev s_Operation_read_names : Stmt := inClass (top 21) 5
abbrev s_Operation_units : Stmt := inClass (top 21) 6
abbrev s_Operation_renamed : Stmt := inClass (top 21) 7
abbrev s_Operation_with_ticks : Stmt := inClass (top 21) 8
abbrev s_Operation_eq : Stmt := inClass (top 21) 9
abbrev s_Operation_str : Stmt := inClass (top 21) 10
theorem sc_RoundError_init : FnScope ["self", "told"] ["self", "told"] (defScope s_RoundError_init) := ⟨rfl, rfl, rfl, by decide +kernel, rfl, by decide +kernel, by decide +kernel⟩
theorem sc_Operation_init : FnScope ["self", "name", "ticks", "reads", "uses"] ["self", "name", "ticks", "reads", "uses"] (defScope s_Operation_init) := ⟨rfl, rfl, rfl, by decide +kernel, rfl, by decide +kernel, by decide +kernel⟩
theorem sc_Operation_name : FnScope ["self"] ["self"] (defScope s_Operation_name) := ⟨rfl, rfl, rfl, by decide +kernel, rfl, by decide +kernel, by decide +kernel⟩
theorem sc_Operation_ticks : FnScope ["self"] ["self"] (defScope s_Operation_ticks) := ⟨rfl, rfl, rfl, by decide +kernel, rfl, by decide +kernel, by decide +kernel⟩
theorem sc_Operation_reads : FnScope ["self"] ["self"] (defScope s_Operation_reads) := ⟨rfl, rfl, rfl, by decide +kernel, rfl, by decide +kernel, by decide +kernel⟩
theorem sc_Operation_uses : FnScope ["self"] ["self"] (defScope s_Operation_uses) := ⟨rfl, rfl, rfl, by decide +kernel, rfl, by decide +kernel, by decide +kernel⟩
theorem sc_Operation_read_names : FnScope ["self"] ["self"] (defScope s_Operation_read_names) := ⟨rfl, rfl, rfl, by decide +kernel, rfl, by decide +kernel, by decide +kernel⟩
theorem sc_Operation_units : FnScope ["self"] ["self"] (defScope s_Operation_units) := ⟨rfl, rfl, rfl, by decide +kernel, rfl, by decide +kernel, by decide +kernel⟩
theorem sc_Operation_renamed : FnScope ["self", "names", "reads", "old", "new", "name", "_", "distance"] ["self", "names"] (defScope s_Operation_renamed) := ⟨rfl, rfl, rfl, by decide +kernel, rfl, by decide +kernel, by decide +kernel⟩
theorem sc_Operation_with_ticks : FnScope ["self", "ticks"] ["self", "ticks"] (defScope s_Operation_with_ticks) := ⟨rfl, rfl, rfl, by decide +kernel, rfl, by decide +kernel, by decide +kernel⟩
theorem sc_Operation_eq : FnScope ["self", "other"] ["self", "other"] (defScope s_Operation_eq) := ⟨rfl, rfl, rfl, by decide +kernel, rfl, by decide +kernel, by decide +kernel⟩
theorem sc_Operation_str : FnScope ["self"] ["self"] (defScope s_Operation_str) := ⟨rfl, rfl, rfl, by decide +kernel, rfl, by decide +kernel, by decide +kernel⟩
theorem sc_is_name : FnScope ["value", "letter"] ["value"] (defScope s_is_name) := ⟨rfl, rfl, rfl, by decide +kernel, rfl, by decide +kernel, by decide +kernel⟩
theorem sc_is_integer : FnScope ["value"] ["value"] (defScope s_is_integer) := ⟨rfl, rfl, rfl, by decide +kernel, rfl, by decide +kernel, by decide +kernel⟩
theorem sc_is_between : FnScope ["value", "low", "high"] ["value", "low", "high"] (defScope s_is_between) := ⟨rfl, rfl, rfl, by decide +kernel, rfl, by decide +kernel, by decide +kernel⟩
theorem sc_ascends : FnScope ["row", "at"] ["row"] (defScope s_ascends) := ⟨rfl, rfl, rfl, by decide +kernel, rfl, by decide +kernel, by decide +kernel⟩
theorem sc_is_pair : FnScope ["value", "highest"] ["value", "highest"] (defScope s_is_pair) := ⟨rfl, rfl, rfl, by decide +kernel, rfl, by decide +kernel, by decide +kernel⟩
theorem sc_is_row_of_pairs : FnScope ["value", "most", "highest", "item"] ["value", "most", "highest"] (defScope s_is_row_of_pairs) := ⟨rfl, rfl, rfl, by decide +kernel, rfl, by decide +kernel, by decide +kernel⟩
theorem sc_first_items : FnScope ["rows", "row"] ["rows"] (defScope s_first_items) := ⟨rfl, rfl, rfl, by decide +kernel, rfl, by decide +kernel, by decide +kernel⟩
theorem sc_told : FnScope ["word", "pairs", "told", "name", "number"] ["word", "pairs"] (defScope s_told) := ⟨rfl, rfl, rfl, by decide +kernel, rfl, by decide +kernel, by decide +kernel⟩
theorem sc_w_reel : FnScope ["script", "at", "cell", "great", "mixed"] ["script", "at"] (defScope s_w_reel) := ⟨rfl, rfl, rfl, by decide +kernel, rfl, by decide +kernel, by decide +kernel⟩
theorem sc_w_spin : FnScope ["reel", "total", "found", "one", "two"] ["reel", "total"] (defScope s_w_spin) := ⟨rfl, rfl, rfl, by decide +kernel, rfl, by decide +kernel, by decide +kernel⟩
theorem sc_w_pick : FnScope ["reel", "items"] ["reel", "items"] (defScope s_w_pick) := ⟨rfl, rfl, rfl, by decide +kernel, rfl, by decide +kernel, by decide +kernel⟩
theorem sc_w_few : FnScope ["reel", "items", "many", "left", "found"] ["reel", "items", "many"] (defScope s_w_few) := ⟨rfl, rfl, rfl, by decide +kernel, rfl, by decide +kernel, by decide +kernel⟩
theorem sc_w_uses : FnScope ["reel", "lots", "pairs", "offset"] ["reel", "lots"] (defScope s_w_uses) := ⟨rfl, rfl, rfl, by decide +kernel, rfl, by decide +kernel, by decide +kernel⟩
theorem sc_w_drawn : FnScope ["reel", "names", "pairs", "turn"] ["reel"] (defScope s_w_drawn) := ⟨rfl, rfl, rfl, by decide +kernel, rfl, by decide +kernel, by decide +kernel⟩
theorem sc_w_made_one : FnScope ["row"] ["row"] (defScope s_w_made_one) := ⟨rfl, rfl, rfl, by decide +kernel, rfl, by decide +kernel, by decide +kernel⟩
theorem sc_w_text : FnScope ["row", "found", "name", "number"] ["row"] (defScope s_w_text) := ⟨rfl, rfl, rfl, by decide +kernel, rfl, by decide +kernel, by decide +kernel⟩
theorem sc_w_is_row : FnScope ["one", "row", "read_names", "name", "number"] ["one", "row"] (defScope s_w_is_row) := ⟨rfl, rfl, rfl, by decide +kernel, rfl, by decide +kernel, by decide +kernel⟩
theorem sc_w_near : FnScope ["reel", "row", "found", "way"] ["reel", "row"] (defScope s_w_near) := ⟨rfl, rfl, rfl, by decide +kernel, rfl, by decide +kernel, by decide +kernel⟩
theorem sc_w_cell_right : FnScope ["reel", "row", "one", "near", "other", "to", "due", "value", "name", "number"] ["reel"] (defScope s_w_cell_right) := ⟨rfl, rfl, rfl, by decide +kernel, rfl, by decide +kernel, by decide +kernel⟩
theorem sc_law : FnScope ["script", "at", "bare", "used", "full", "told", "due"] ["script"] (defScope s_law) := ⟨rfl, rfl, rfl, by decide +kernel, rfl, by decide +kernel, by decide +kernel⟩
/-- where the defs stand, and what the names hold -/
structure T (K : PySem.W.Frag) (mg : Str → Option Value) where
  f_is_name : Addr
  d_is_name : FuncData
  F_is_name : Fun K "is_name" "is_name" s_is_name f_is_name d_is_name
  m_is_name : mg "is_name" = some (.ref f_is_name)
  b_is_name : Binds K d_is_name ["value"] []
  f_is_integer : Addr
  d_is_integer : FuncData
  F_is_integer : Fun K "is_integer" "is_integer" s_is_integer f_is_integer d_is_integer
  m_is_integer : mg "is_integer" = some (.ref f_is_integer)
  b_is_integer : Binds K d_is_integer ["value"] []
  f_is_between : Addr
  d_is_between : FuncData
  F_is_between : Fun K "is_between" "is_between" s_is_between f_is_between d_is_between
  m_is_between : mg "is_between" = some (.ref f_is_between)
  b_is_between : Binds K d_is_between ["value", "low", "high"] []
  f_ascends : Addr
  d_ascends : FuncData
  F_ascends : Fun K "ascends" "ascends" s_ascends f_ascends d_ascends
  m_ascends : mg "ascends" = some (.ref f_ascends)
  b_ascends : Binds K d_ascends ["row"] []
  f_is_pair : Addr
  d_is_pair : FuncData
  F_is_pair : Fun K "is_pair" "is_pair" s_is_pair f_is_pair d_is_pair
  m_is_pair : mg "is_pair" = some (.ref f_is_pair)
  b_is_pair : Binds K d_is_pair ["value", "highest"] []
  f_is_row_of_pairs : Addr
  d_is_row_of_pairs : FuncData
  F_is_row_of_pairs : Fun K "is_row_of_pairs" "is_row_of_pairs" s_is_row_of_pairs f_is_row_of_pairs d_is_row_of_pairs
  m_is_row_of_pairs : mg "is_row_of_pairs" = some (.ref f_is_row_of_pairs)
  b_is_row_of_pairs : Binds K d_is_row_of_pairs ["value", "most", "highest"] []
  f_first_items : Addr
  d_first_items : FuncData
  F_first_items : Fun K "first_items" "first_items" s_first_items f_first_items d_first_items
  m_first_items : mg "first_items" = some (.ref f_first_items)
  b_first_items : Binds K d_first_items ["rows"] []
  f_told : Addr
  d_told : FuncData
  F_told : Fun K "_told" "_told" s_told f_told d_told
  m_told : mg "_told" = some (.ref f_told)
  b_told : Binds K d_told ["word", "pairs"] []
  f_w_reel : Addr
  d_w_reel : FuncData
  F_w_reel : Fun K "_law_reel" "_law_reel" s_w_reel f_w_reel d_w_reel
  m_w_reel : mg "_law_reel" = some (.ref f_w_reel)
  b_w_reel : Binds K d_w_reel ["script", "at"] []
  f_w_spin : Addr
  d_w_spin : FuncData
  F_w_spin : Fun K "_law_spin" "_law_spin" s_w_spin f_w_spin d_w_spin
  m_w_spin : mg "_law_spin" = some (.ref f_w_spin)
  b_w_spin : Binds K d_w_spin ["reel", "total"] []
  f_w_pick : Addr
  d_w_pick : FuncData
  F_w_pick : Fun K "_law_pick" "_law_pick" s_w_pick f_w_pick d_w_pick
  m_w_pick : mg "_law_pick" = some (.ref f_w_pick)
  b_w_pick : Binds K d_w_pick ["reel", "items"] []
  f_w_few : Addr
  d_w_few : FuncData
  F_w_few : Fun K "_law_few" "_law_few" s_w_few f_w_few d_w_few
  m_w_few : mg "_law_few" = some (.ref f_w_few)
  b_w_few : Binds K d_w_few ["reel", "items", "many"] []
  f_w_uses : Addr
  d_w_uses : FuncData
  F_w_uses : Fun K "_law_uses" "_law_uses" s_w_uses f_w_uses d_w_uses
  m_w_uses : mg "_law_uses" = some (.ref f_w_uses)
  b_w_uses : Binds K d_w_uses ["reel", "lots"] []
  f_w_drawn : Addr
  d_w_drawn : FuncData
  F_w_drawn : Fun K "_law_drawn" "_law_drawn" s_w_drawn f_w_drawn d_w_drawn
  m_w_drawn : mg "_law_drawn" = some (.ref f_w_drawn)
  b_w_drawn : Binds K d_w_drawn ["reel"] []
  f_w_made_one : Addr
  d_w_made_one : FuncData
  F_w_made_one : Fun K "_law_made_one" "_law_made_one" s_w_made_one f_w_made_one d_w_made_one
  m_w_made_one : mg "_law_made_one" = some (.ref f_w_made_one)
  b_w_made_one : Binds K d_w_made_one ["row"] []
  f_w_text : Addr
  d_w_text : FuncData
  F_w_text : Fun K "_law_text" "_law_text" s_w_text f_w_text d_w_text
  m_w_text : mg "_law_text" = some (.ref f_w_text)
  b_w_text : Binds K d_w_text ["row"] []
  f_w_is_row : Addr
  d_w_is_row : FuncData
  F_w_is_row : Fun K "_law_is_row" "_law_is_row" s_w_is_row f_w_is_row d_w_is_row
  m_w_is_row : mg "_law_is_row" = some (.ref f_w_is_row)
  b_w_is_row : Binds K d_w_is_row ["one", "row"] []
  f_w_near : Addr
  d_w_near : FuncData
  F_w_near : Fun K "_law_near" "_law_near" s_w_near f_w_near d_w_near
  m_w_near : mg "_law_near" = some (.ref f_w_near)
  b_w_near : Binds K d_w_near ["reel", "row"] []
  f_w_cell_right : Addr
  d_w_cell_right : FuncData
  F_w_cell_right : Fun K "_law_cell_right" "_law_cell_right" s_w_cell_right f_w_cell_right d_w_cell_right
  m_w_cell_right : mg "_law_cell_right" = some (.ref f_w_cell_right)
  b_w_cell_right : Binds K d_w_cell_right ["reel"] []
  f_law : Addr
  d_law : FuncData
  F_law : Fun K "law" "law" s_law f_law d_law
  m_law : mg "law" = some (.ref f_law)
  b_law : Binds K d_law ["script"] []
  c_MAX_TICKS : ∃ t, mg "MAX_TICKS" = some (.int 4 t)
  c_MAX_LETTERS : ∃ t, mg "MAX_LETTERS" = some (.int 8 t)
  c_MAX_DISTANCE : ∃ t, mg "MAX_DISTANCE" = some (.int 3 t)
  c_MAX_READS : ∃ t, mg "MAX_READS" = some (.int 3 t)
  c_MAX_USES : ∃ t, mg "MAX_USES" = some (.int 4 t)
  c_MAX_OFFSET : ∃ t, mg "MAX_OFFSET" = some (.int 3 t)
  z_int : mg "int" = none
  z_abs : mg "abs" = none
  z_len : mg "len" = none
  z_max : mg "max" = none
  z_min : mg "min" = none
  z_range : mg "range" = none
  z_isinstance : mg "isinstance" = none
  z_str : mg "str" = none
  z_all : mg "all" = none
  z_sorted : mg "sorted" = none
  z_tuple : mg "tuple" = none
  z_list : mg "list" = none
  z_dict : mg "dict" = none
  z_set : mg "set" = none
  z_bool : mg "bool" = none
/-- a list of three ints stands at r -/
def Rl (H : Hp) (r : Addr) : Prop := ∃ a b c : Int, H r = some (.lst [.int a, .int b, .int c])
/-- what the heap held, but for what stands at r -/
def Only (r : Addr) (H H' : Hp) : Prop := ∀ b o, b ≠ r → H b = some o → H' b = some o
theorem Only.refl {r : Addr} {H : Hp} : Only r H H := fun _ _ _ e => e
theorem Only.trans {r : Addr} {H H1 H2 : Hp} (a : Only r H H1) (b : Only r H1 H2) : Only r H H2 := fun c o n e => b c o n (a c o n e)
theorem Only.upd {r : Addr} {H : Hp} {o : HO} : Only r H (upd H r o) := fun b _ n e => by rw [upd_ne n]; exact e
theorem Only.new {r p : Addr} {H : Hp} {o : HO} (n : H p = none) : Only r H (L2.upd H p o) := fun b _ _ e => by rw [upd_ne (ne_of_none e n)]; exact e
theorem Rl.new {r p : Addr} {H : Hp} {o : HO} (h : Rl H r) (n : H p = none) : Rl (upd H p o) r := by
  obtain ⟨a, b, c, e⟩ := h
  exact ⟨a, b, c, by rw [upd_ne (ne_of_none e n)]; exact e⟩
theorem Rl.ne {r p : Addr} {H : Hp} (h : Rl H r) (n : H p = none) : p ≠ r := by
  obtain ⟨a, b, c, e⟩ := h
  exact (ne_of_none e n).symm
theorem Only.seqL {K : PySem.W.Frag} {r l : Addr} {H H' : Hp} {xs : List V} (o : Only r H H') (n : l ≠ r) (h : SqL K H l xs) : SqL K H' l xs := by
  rcases h with (h | ⟨u, h⟩) | h
  · exact .inl (.inl (o _ _ n h))
  · exact .inl (.inr ⟨u, o _ _ n h⟩)
  · exact .inr h
theorem Only.seqT {K : PySem.W.Frag} {r l : Addr} {H H' : Hp} {xs : List V} (o : Only r H H') (n : l ≠ r) (h : SqT K H l xs) : SqT K H' l xs := by
  rcases h with (h | ⟨u, h⟩) | h
  · exact .inl (.inl (o _ _ n h))
  · exact .inl (.inr ⟨u, o _ _ n h⟩)
  · exact .inr h
theorem ix_at {α : Type} {xs : List α} {i : Int} (h0 : 0 ≤ i) (h1 : i < xs.length) : ∃ v, v ∈ xs ∧ atI xs i = some v := by
  have h2 : i.toNat < xs.length := by omega
  refine ⟨xs[i.toNat], List.getElem_mem h2, ?_⟩
  have h3 : ((i.toNat : Nat) : Int) = i := Int.toNat_of_nonneg h0
  have := atI_nat (xs := xs) (j := i.toNat) (List.getElem?_eq_getElem h2)
  rw [h3] at this
  exact this
/-- what a draw is made from: a list, a tuple, a text -/
def SeqV (K : PySem.W.Frag) (H : Hp) (r : Addr) (x : V) (xs : List V) : Prop :=
  (∃ l, x = .ref l ∧ l ≠ r ∧ (SqL K H l xs ∨ SqT K H l xs)) ∨ (∃ z : Str, x = .str z ∧ z.length ≤ sizeLine ∧ xs = z.cps.toList.map fun c => V.str ⟨#[c]⟩)
theorem lg {i : Int} {b : Nat} (h0 : 0 ≤ i) (h : i < 2 ^ b) (hb : 0 < b) : i.natAbs.log2 < b := by
  refine PySem.Flt.log2_lt_of hb ?_
  have : (i.natAbs : Int) = i := Int.natAbs_of_nonneg h0
  have h2 : ((i.natAbs : Nat) : Int) < ((2 ^ b : Nat) : Int) := by rw [this, Int.natCast_pow]; exact h
  exact Int.ofNat_lt.mp h2
section
variable {X : Cx}
theorem op_powW : OpR X (binaryOp .Pow) (rI (fun i j => 0 ≤ j ∧ (Builtin.Int.intBits i : Int) * j ≤ 2 ^ 27) fun i j => .int (i ^ j.toNat)) := opI fun _ _ _ _ _ _ _ hc q => PyProof.Rows.pow_int hc.1 hc.2 q
end
theorem ite_join {c : Bool} {ta tb : TE} {σ : St} {H : Hp} {Q : VK} (R : V → Hp → Prop) (ha : c = true → ∀ Q' : VK, (∀ v H', R v H' → Q' v H') → ta σ H Q') (hb : c = false → ∀ Q' : VK, (∀ v H', R v H' → Q' v H') → tb σ H Q')
    (h : ∀ v H', R v H' → Q v H') : if c = true then ta σ H Q else tb σ H Q := by
  cases c with
  | true => exact iteT (ha rfl Q h)
  | false => exact iteF (hb rfl Q h)
theorem at_ns {ns : List Int} {i : Nat} (h : i < ns.length) : ∃ z, atI (ns.map V.int) (i : Int) = some (.int z) :=
  ⟨ns[i], atI_nat (by rw [List.getElem?_map, List.getElem?_eq_getElem h]; rfl)⟩
theorem bl_t {Q : VK} {b : Bool} {H : Hp} (e : b = true) (k : Q (.bl true) H) : Q (.bl b) H := e ▸ k
theorem int_to {Q : VK} {i j : Int} {H : Hp} (e : i = j) (k : Q (.int j) H) : Q (.int i) H := e ▸ k
theorem if_ne {x y : V} {A B : Prop} (h : x ≠ y) (a : A) : if (!decide (x = y)) = true then A else B := by
  rw [decide_eq_false h]
  exact iteT a
theorem if_dec_t {x y : V} {A B : Prop} (h : x = y) (a : A) : if decide (x = y) = true then A else B := by
  rw [decide_eq_true h]
  exact iteT a
theorem if_dec_f {x y : V} {A B : Prop} (h : x ≠ y) (b : B) : if decide (x = y) = true then A else B := by
  rw [decide_eq_false h]
  exact iteF b
theorem dp_all {K : PySem.W.Frag} {H : Hp} : ∀ ns : List Int, DpAll K H (ns.map V.int) (ns.map PyData.int)
  | [] => .nil
  | n :: r => .cons (.int n) (dp_all r)
theorem dp_ints {K : PySem.W.Frag} {H : Hp} {a : Addr} (ns : List Int) (h : SqL K H a (ns.map V.int)) : Dp K H (.ref a) (.list (ns.map PyData.int)) := .lst h (dp_all ns)
theorem cells_n (n m : Nat) : ((if (if ((n : Nat) : Int) < (m : Int) then ((n : Nat) : Int) else (m : Int)) > 1 then (if ((n : Nat) : Int) < (m : Int) then ((n : Nat) : Int) else (m : Int)) else 1) : Int) ≤ (m : Int) + 1 ∧ 1 ≤ ((if (if ((n : Nat) : Int) < (m : Int) then ((n : Nat) : Int) else (m : Int)) > 1 then (if ((n : Nat) : Int) < (m : Int) then ((n : Nat) : Int) else (m : Int)) else 1) : Int) := by
  split <;> split <;> omega
def nmC (z : Str) : Bool := decide (1 ≤ z.length ∧ z.length ≤ 8) && z.cps.toList.all fun c => decide (97 ≤ c) && decide (c ≤ 122)
def nmD : PyData → Bool
  | .str z => nmC z
  | _ => false
def inD (lo hi : Int) : PyData → Bool
  | .int n => (decide (-1000000000000 < n) && decide (n < 1000000000000)) && (decide (lo ≤ n) && decide (n ≤ hi))
  | _ => false
def isInD : PyData → Bool
  | .int n => decide (-1000000000000 < n) && decide (n < 1000000000000)
  | _ => false
def prD (hi : Int) : PyData → Bool
  | .tuple [a, b] => nmD a && inD 0 hi b
  | _ => false
def rwD (most : Nat) (hi : Int) : PyData → Bool
  | .tuple ds => decide (ds.length ≤ most) && ds.all (prD hi)
  | _ => false
/-- every text in it is short -/
def okD (d : PyData) : Prop := d.weight ≤ 1000000
/-- a value that is the datum d, or a dict -/
def DD (K : PySem.W.Frag) (H : Hp) (x : V) (d : PyData) : Prop := Dp K H x d ∨ ∃ a kvs, x = .ref a ∧ H a = some (.dK kvs) ∧ d = .dict []
theorem Same.seqT {K : PySem.W.Frag} {H H' : Hp} {a : Addr} {xs : List V} (e : Same H H') (h : SqT K H a xs) : SqT K H' a xs := by
  rcases h with (h | ⟨o, h⟩) | h
  · exact .inl (.inl (e _ _ h))
  · exact .inl (.inr ⟨o, e _ _ h⟩)
  · exact .inr h
mutual
theorem dp_same {K : PySem.W.Frag} {H H' : Hp} (s : Same H H') : ∀ (d : PyData) (x : V), Dp K H x d → Dp K H' x d
  | .none, _, h => by cases h; exact .non
  | .bool b, _, h => by cases h; exact .bl b
  | .int i, _, h => by cases h; exact .int i
  | .str z, _, h => by cases h; exact .str z
  | .list ds, _, h => by
    cases h with
    | lst h1 h2 => exact .lst (Same.seq s h1) (dpa_same s ds _ h2)
  | .tuple ds, _, h => by
    cases h with
    | tup h1 h2 => exact .tup (Same.seqT s h1) (dpa_same s ds _ h2)
  | .dict _, _, h => by cases h
theorem dpa_same {K : PySem.W.Frag} {H H' : Hp} (s : Same H H') : ∀ (ds : List PyData) (xs : List V), DpAll K H xs ds → DpAll K H' xs ds
  | [], _, h => by cases h; exact .nil
  | d :: ds, _, h => by
    cases h with
    | cons h1 h2 => exact .cons (dp_same s d _ h1) (dpa_same s ds _ h2)
end
theorem DD.same {K : PySem.W.Frag} {H H' : Hp} {x : V} {d : PyData} (s : Same H H') (h : DD K H x d) : DD K H' x d := by
  rcases h with h | ⟨a, kvs, e1, e2, e3⟩
  · exact .inl (dp_same s d x h)
  · exact .inr ⟨a, kvs, e1, s _ _ e2, e3⟩
theorem dpa_len {K : PySem.W.Frag} {H : Hp} : ∀ {ds : List PyData} {xs : List V}, DpAll K H xs ds → ds.length = xs.length
  | [], _, h => by cases h; rfl
  | d :: ds, _, h => by
    cases h with
    | cons h1 h2 => rw [List.length_cons, List.length_cons, dpa_len h2]
theorem dpa_get {K : PySem.W.Frag} {H : Hp} : ∀ {ds : List PyData} {xs : List V} {i : Nat} {x : V}, DpAll K H xs ds → xs[i]? = some x → ∃ d, ds[i]? = some d ∧ Dp K H x d
  | [], _, i, x, h, e => by cases h; simp at e
  | d :: ds, _, 0, x, h, e => by
    cases h with
    | cons h1 h2 =>
      obtain rfl := Option.some.inj e
      exact ⟨d, rfl, h1⟩
  | d :: ds, _, i + 1, x, h, e => by
    cases h with
    | cons h1 h2 => exact dpa_get (i := i) h2 e
def tyD : PyData → String
  | .none => "NoneType" | .bool _ => "bool" | .int _ => "int" | .str _ => "str" | .list _ => "list" | .tuple _ => "tuple" | .dict _ => "dict"
theorem DD.ty {K : PySem.W.Frag} {H : Hp} {x : V} {d : PyData} (h : DD K H x d) : TyX K H x (.type (tyD d)) := by
  rcases h with h | ⟨a, kvs, rfl, e, rfl⟩
  · cases h with
    | non => exact .base .non
    | bl b => exact .base (.bl b)
    | int i => exact .base (.int i)
    | str z => exact .base (.str z)
    | lst h1 h2 =>
      rcases h1 with (h | ⟨o, h⟩) | ⟨o, its, n, e1, e2, _⟩
      · exact .base (.lst h)
      · exact .base (.frz h)
      · exact .kList e1 e2
    | tup h1 h2 =>
      rcases h1 with (h | ⟨o, h⟩) | ⟨o, its, n, e1, e2, _⟩
      · exact .base (.tup h)
      · exact .fTuple h
      · exact .kTuple e1 e2
  · exact .base (.dK e)
theorem weight_mem : ∀ {ds : List PyData} {d : PyData}, d ∈ ds → d.weight ≤ PyData.weightAll ds
  | a :: r, d, h => by
    rw [PyData.weightAll]
    rcases List.mem_cons.mp h with rfl | h
    · omega
    · have := weight_mem h
      omega
theorem okD_tup {ds : List PyData} (h : okD (.tuple ds)) {d : PyData} (hd : d ∈ ds) : okD d := by
  have h1 := weight_mem hd
  have h2 : PyData.weightAll ds ≤ 1000000 := by
    have h3 : (PyData.tuple ds).weight ≤ 1000000 := h
    rw [PyData.weight] at h3
    exact h3
  exact Nat.le_trans h1 h2
theorem okD_str {z : Str} (h : okD (.str z)) : z.length ≤ 1000000 := by
  have h3 : (PyData.str z).weight ≤ 1000000 := h
  rw [PyData.weight] at h3
  exact h3
theorem bl_to {Q : VK} {b c : Bool} {H : Hp} (e : b = c) (k : Q (.bl c) H) : Q (.bl b) H := e ▸ k
theorem Same.rl {H H' : Hp} {r : Addr} (s : Same H H') (h : Rl H r) : Rl H' r := by
  obtain ⟨a, b, c, e⟩ := h
  exact ⟨a, b, c, s _ _ e⟩
theorem Same.only {H H' : Hp} {r : Addr} (s : Same H H') : Only r H H' := fun b o _ e => s b o e
theorem Same.new {H : Hp} {p : Addr} {o : HO} (n : H p = none) : Same H (upd H p o) := fun b u e => by rw [upd_ne (ne_of_none e n)]; exact e
theorem Same.at {H0 H : Hp} {D : Addr} {o : HO} (n : H0 D = none) (s : Same H0 H) : Same H0 (upd H D o) := fun b u e => by rw [upd_ne (ne_of_none e n)]; exact s b u e
theorem lt_sign (c d : Nat) : (([c] : List Nat) < [d]) ↔ c < d := by
  constructor
  · intro h
    rcases List.cons_lt_cons_iff.mp h with h | ⟨_, h⟩
    · exact h
    · exact absurd h (by simp)
  · intro h
    exact List.cons_lt_cons_iff.mpr (.inl h)
theorem tk_succ {z : Str} {i c : Nat} (h : z.cps[i]? = some c) : z.cps.toList.take (i + 1) = z.cps.toList.take i ++ [c] := by
  have h2 : z.cps.toList[i]? = some c := by rw [Array.getElem?_toList]; exact h
  rw [List.take_add_one, h2]
  rfl
theorem tk_all (z : Str) : z.cps.toList.take z.cps.size = z.cps.toList := List.take_of_length_le (by rw [Array.length_toList]; exact Nat.le_refl _)
theorem not_str {d : PyData} (h : ∀ z, d ≠ .str z) : kitB (tyD d) "str" = some false ∧ nmD d = false := by
  cases d with
  | str z => exact absurd rfl (h z)
  | _ => exact ⟨by simp only [tyD]; decide +kernel, rfl⟩
theorem not_int {d : PyData} (h1 : ∀ n, d ≠ .int n) (h2 : ∀ b, d ≠ .bool b) : kitB (tyD d) "int" = some false ∧ isInD d = false := by
  cases d with
  | int n => exact absurd rfl (h1 n)
  | bool b => exact absurd rfl (h2 b)
  | _ => exact ⟨by simp only [tyD]; decide +kernel, rfl⟩
theorem not_tup {d : PyData} (h : ∀ ds, d ≠ .tuple ds) : kitB (tyD d) "tuple" = some false := by
  cases d with
  | tuple z => exact absurd rfl (h z)
  | _ => simp only [tyD]; decide +kernel
/-- its items ascend -/
def ascD (ds : List PyData) : Bool := (List.range (ds.length - 1)).all fun i => PySem.W.dataLt (ds.getD i .none) (ds.getD (i + 1) .none)
theorem depth_in {hi : Int} {d : PyData} (h : prD hi d = true) : ∃ z n, d = .tuple [.str z, .int n] := by
  unfold prD at h
  split at h
  · rename_i a b
    have h1 := (Bool.and_eq_true_iff.mp h).1
    have h2 := (Bool.and_eq_true_iff.mp h).2
    cases a with
    | str z =>
      cases b with
      | int n => exact ⟨z, n, rfl⟩
      | _ => cases h2
    | _ => cases h1
  · cases h
section
variable {X : Cx}
def rLtD (K : PySem.W.Frag) : R2 := fun x y H Q => ∃ d e, Dp K H x d ∧ Dp K H y e ∧ PySem.W.alike d e = true ∧ d ≠ .none ∧ d.depth ≤ 60 ∧ Q (.bl (PySem.W.dataLt d e)) H
theorem op_ltD (hu : X.A.units + 64 < cLine) : OpR X (compareOp .Lt) (rLtD X.K) := by
  intro pins s σ H x y v u Q I rx ry h
  obtain ⟨d, e, h1, h2, h3, h4, h5, q⟩ := h
  obtain ⟨as, r1⟩ := Dp.reads I d x v h1 rx
  obtain ⟨bs, r2⟩ := Dp.reads I e y u h2 ry
  exact PySem.W.lt_data r1 r2 h3 h4 (by have := Nat.min_le_left d.depth e.depth; omega) ⟨.bl _, H, I, rfl, q⟩
end

section
variable {P : Program} {w : World} {K : PySem.W.Frag}
                                                      {mg : Str → Option Value} {base : Heap}
def sp_w_reel (K : PySem.W.Frag) : Sp := fun vs H Q _ => ∃ (s : Addr) (ns : List Int) (i : Nat), vs = [.ref s, .int (i : Int)] ∧ SqL K H s (ns.map V.int) ∧ ∀ p a b c, H p = none → Q (.ref p) (upd H p (.lst [.int a, .int b, .int c]))
theorem ok_w_reel (T : T K mg) : FnOk P w K mg base CX0 1 T.f_w_reel T.d_w_reel ["script", "at"] (sp_w_reel K) := by
  refine T.F_w_reel.ok sc_w_reel (fun vs H Q E h => ?_) (fun cdv A outer s H vs Q E hr h => ?_)
  · obtain ⟨s, ns, i, rfl, _⟩ := h
    rfl
  · obtain ⟨s, ns, i, rfl, hS, k⟩ := h
    have hu := hu_of hr
    refine ⟨_, (pss_cons (ps_set (i := 2) sc_w_reel.nd rfl (Or.inl rfl) (pe_ifExp (pt_cmpR op_lt (pv 1) (pe_callB call_len (by rfl) T.z_len (by decide +kernel) (pa_cons (pv 0) pa_nil)) (nomark _)) (pe_ix ix_seq (pv 0) (pv 1) (fun _ _ => rfl)) (pe_op op_add (pe_op op_mul pe_int (pv 1)) pe_int)))
      (pss_cons (ps_set (i := 3) sc_w_reel.nd rfl (Or.inl rfl) (pe_op op_mod (pe_callTy call_int1 (by rfl) T.z_int (by decide +kernel) (pa_cons (pe_callB call_abs (by rfl) T.z_abs (by decide +kernel) (pa_cons (pv 2) pa_nil)) pa_nil)) (pe_op op_powW (pe_op op_pow pe_int pe_int) pe_int)))
      (pss_cons (ps_set (i := 4) sc_w_reel.nd rfl (Or.inl rfl) (pe_op op_add (pe_op op_add (pe_op op_add (pe_op op_mul (pe_op op_mod (pe_callTy call_int1 (by rfl) T.z_int (by decide +kernel) (pa_cons (pv 3) pa_nil)) pe_int) pe_int) (pe_op op_mul pe_int (pv 1))) (pe_op op_mul pe_int (pe_callTy call_int1 (by rfl) T.z_int (by decide +kernel) (pa_cons (pe_cmpR op_lt (pv 2) pe_int (nomark _)) pa_nil)))) pe_int))
      (pss_one (ps_ret (pe_lst (pa_cons (pe_callB (call_max2 rfl) (by rfl) T.z_max (by decide +kernel) (pa_cons pe_int (pa_cons (pe_op op_sub (pv 3) (pe_op op_pow pe_int pe_int)) pa_nil))) (pa_cons (pe_op op_mod (pe_callTy call_int1 (by rfl) T.z_int (by decide +kernel) (pa_cons (pv 4) pa_nil)) pe_int) (pa_cons pe_int pa_nil))))))))), ?_⟩
    refine ⟨_, rfl, _, rfl, _, _, rfl, .inl ⟨_, hS, rfl⟩, _, _, rfl, rfl, _, rfl, ?_⟩
    refine ite_join (fun v H' => H' = H ∧ ∃ z, v = .int z) (fun c Q' q => ?_) (fun c Q' q => ?_) ?_
    · have hi := of_decide_eq_true c
      rw [List.length_map] at hi
      obtain ⟨z, hz⟩ := at_ns (ns := ns) (i := i) (by omega)
      exact ⟨_, rfl, _, rfl, .inl ⟨_, _, _, _, rfl, rfl, hS, hz, q _ _ ⟨rfl, z, rfl⟩⟩⟩
    · exact ⟨_, rfl, _, _, rfl, rfl, .inl ⟨by decide, by decide⟩, _, _, rfl, rfl, q _ _ ⟨rfl, _, rfl⟩⟩
    rintro v H' ⟨rfl, z, rfl⟩
    refine ⟨_, rfl, _, rfl, .inl ⟨_, rfl, ?_⟩⟩
    refine ⟨_, _, rfl, rfl, ⟨by decide, by decide, by decide⟩, _, _, rfl, rfl, ⟨by decide, by decide +kernel⟩, _, _, rfl, rfl, (by show (0 : Int) < _; decide +kernel), ?_⟩
    refine ⟨_, rfl, .inl ⟨_, rfl, ?_⟩⟩
    refine ⟨_, _, rfl, rfl, (by show (0 : Int) < _; decide), _, _, rfl, rfl, .inr ⟨by decide, by decide⟩, _, rfl, _, _, rfl, rfl, .inl ⟨by decide, by decide⟩, _, _, rfl, rfl, ?_⟩
    refine ⟨_, rfl, _, _, rfl, rfl, .inr ⟨_, rfl, ?_⟩⟩
    refine ⟨_, _, rfl, rfl, .inl ⟨by decide, by decide⟩, _, _, rfl, rfl, _, _, rfl, rfl, ?_⟩
    refine ⟨_, rfl, _, _, rfl, rfl, ⟨by decide, by decide, by decide⟩, _, _, rfl, rfl, _, _, rfl, _, rfl, .inl ⟨_, rfl, ?_⟩⟩
    refine ⟨_, _, rfl, rfl, (by show (0 : Int) < _; decide), (by show 3 ≤ sizeLine; decide), fun p hp => ?_⟩
    exact k p _ _ _ hp
def sp_w_spin (K : PySem.W.Frag) : Sp := fun vs H Q _ => ∃ (r : Addr) (n : Int), vs = [.ref r, .int n] ∧ Rl H r ∧ 0 < n ∧ n.natAbs.log2 < 9000 ∧ ∀ v H', 0 ≤ v → v < n → Rl H' r → Only r H H' → Q (.int v) H'
theorem ok_w_spin (T : T K mg) : FnOk P w K mg base CX0 1 T.f_w_spin T.d_w_spin ["reel", "total"] (sp_w_spin K) := by
  refine T.F_w_spin.ok sc_w_spin (fun vs H Q E h => ?_) (fun cdv A outer s H vs Q E hr h => ?_)
  · obtain ⟨r, n, rfl, _⟩ := h
    rfl
  · obtain ⟨r, n, rfl, ⟨a, b, c, e⟩, h0, h9, k⟩ := h
    have hu := hu_of hr
    refine ⟨_, (pss_cons (ps_if (pt_cmpR op_gt (pe_ix ix_seq (pv 0) pe_int (fun _ _ => rfl)) pe_int (nomark _))
      (pss_cons (ps_set (i := 2) sc_w_spin.nd rfl (Or.inl rfl) (pe_op op_mod (pe_callTy call_int1 (by rfl) T.z_int (by decide +kernel) (pa_cons (pe_ix ix_seq (pv 0) pe_int (fun _ _ => rfl)) pa_nil)) (pv 1)))
      (pss_cons (ps_asg (pe_op op_fdivW (pe_ix ix_seq (pv 0) pe_int (fun _ _ => rfl)) (pv 1)) (pg_sub (pv 0) pe_int set_list))
      (pss_one (ps_ret (pv 2)))))
      pss_nil)
      (pss_cons (ps_asg (pe_op op_add (pe_ix ix_seq (pv 0) pe_int (fun _ _ => rfl)) pe_int) (pg_sub (pv 0) pe_int set_list))
      (pss_cons (ps_set (i := 3) sc_w_spin.nd rfl (Or.inl rfl) (pe_op op_mod (pe_callTy call_int1 (by rfl) T.z_int (by decide +kernel) (pa_cons (pe_op op_add (pe_ix ix_seq (pv 0) pe_int (fun _ _ => rfl)) (pe_op op_mul pe_int (pe_ix ix_seq (pv 0) pe_int (fun _ _ => rfl)))) pa_nil)) pe_int))
      (pss_cons (ps_set (i := 4) sc_w_spin.nd rfl (Or.inl rfl) (pe_op op_add (pe_op op_mul (pe_op op_mod (pe_callTy call_int1 (by rfl) T.z_int (by decide +kernel) (pa_cons (pe_op op_mul (pv 3) (pv 3)) pa_nil)) pe_int) (pv 3)) (pe_op op_mul pe_int (pe_ix ix_seq (pv 0) pe_int (fun _ _ => rfl)))))
      (pss_cons (ps_set (i := 4) sc_w_spin.nd rfl (Or.inl rfl) (pe_op op_mod (pe_callTy call_int1 (by rfl) T.z_int (by decide +kernel) (pa_cons (pv 4) pa_nil)) pe_int))
      (pss_one (ps_ret (pe_op op_mod (pe_callTy call_int1 (by rfl) T.z_int (by decide +kernel) (pa_cons (pe_op op_fdivW (pv 4) pe_int) pa_nil)) (pv 1))))))))), ?_⟩
    have u3 : ∀ {x y z : V} {G : Hp}, G r = some (.lst [x, y, z]) → SqL K G r [x, y, z] := fun g => SqL.of g
    refine ⟨_, rfl, .inl ⟨_, _, _, _, rfl, rfl, u3 e, rfl, ?_⟩⟩
    refine ⟨_, _, rfl, rfl, _, rfl, ?_⟩
    refine ite2 (fun c1 => ?_) (fun c1 => ?_)
    · refine ⟨_, rfl, .inl ⟨_, _, _, _, rfl, rfl, u3 e, rfl, .inl ⟨_, rfl, ?_⟩⟩⟩
      refine ⟨_, rfl, _, _, rfl, rfl, h0, ?_⟩
      refine ⟨_, rfl, .inl ⟨_, _, _, _, rfl, rfl, u3 e, rfl, ?_⟩⟩
      refine ⟨_, rfl, _, _, rfl, rfl, ⟨h0, h9⟩, _, rfl, _, _, _, 0, rfl, rfl, e, rfl, ?_⟩
      refine ⟨_, rfl, ?_⟩
      exact k _ _ (Int.emod_nonneg _ (by omega)) (Int.emod_lt_of_pos _ h0) ⟨_, _, _, upd_same⟩ Only.upd
    · refine ⟨_, rfl, .inl ⟨_, _, _, _, rfl, rfl, u3 e, rfl, ?_⟩⟩
      refine ⟨_, _, rfl, rfl, _, rfl, _, _, _, 2, rfl, rfl, e, rfl, ?_⟩
      have e2 : (upd H r (.lst [.int a, .int b, .int (c + 1)])) r = some (.lst [.int a, .int b, .int (c + 1)]) := upd_same
      refine ⟨_, rfl, .inl ⟨_, _, _, _, rfl, rfl, u3 e2, rfl, ?_⟩⟩
      refine ⟨_, rfl, .inl ⟨_, _, _, _, rfl, rfl, u3 e2, rfl, ?_⟩⟩
      refine ⟨_, _, rfl, rfl, .inl ⟨by decide, by decide⟩, _, _, rfl, rfl, .inl ⟨_, rfl, ?_⟩⟩
      refine ⟨_, _, rfl, rfl, (by show (0 : Int) < _; decide), ?_⟩
      have o1 : -(2 ^ 64) < (b + 1000303 * (c + 1)) % 2305843009213693951 ∧ (b + 1000303 * (c + 1)) % 2305843009213693951 < 2 ^ 64 := by omega
      refine ⟨_, rfl, _, rfl, _, _, rfl, rfl, .inl o1, .inl ⟨_, rfl, ?_⟩⟩
      refine ⟨_, _, rfl, rfl, (by show (0 : Int) < _; decide), _, rfl, _, _, rfl, rfl, .inr o1, ?_⟩
      refine ⟨_, rfl, .inl ⟨_, _, _, _, rfl, rfl, u3 e2, rfl, ?_⟩⟩
      refine ⟨_, _, rfl, rfl, .inl ⟨by decide, by decide⟩, _, _, rfl, rfl, ?_⟩
      refine ⟨_, rfl, .inl ⟨_, rfl, ?_⟩⟩
      refine ⟨_, _, rfl, rfl, (by show (0 : Int) < _; decide), ?_⟩
      refine ⟨_, rfl, _, _, rfl, rfl, ⟨by decide, by decide⟩, .inl ⟨_, rfl, ?_⟩⟩
      refine ⟨_, rfl, _, _, rfl, rfl, h0, ?_⟩
      exact k _ _ (Int.emod_nonneg _ (by omega)) (Int.emod_lt_of_pos _ h0) ⟨_, _, _, e2⟩ Only.upd
def sp_w_pick (K : PySem.W.Frag) : Sp := fun vs H Q _ => ∃ (r : Addr) (x : V) (xs : List V), vs = [.ref r, x] ∧ Rl H r ∧ SeqV K H r x xs ∧ 0 < xs.length ∧ xs.length ≤ sizeLine ∧ ∀ v H', v ∈ xs → Rl H' r → Only r H H' → Q v H'
theorem ok_w_pick (T : T K mg) : FnOk P w K mg base CX0 2 T.f_w_pick T.d_w_pick ["reel", "items"] (sp_w_pick K) := by
  have G_w_spin : FnOk P w K mg base CX0 1 T.f_w_spin T.d_w_spin ["reel", "total"] (sp_w_spin K) := ok_w_spin T
  refine T.F_w_pick.ok sc_w_pick (fun vs H Q E h => ?_) (fun cdv A outer s H vs Q E hr h => ?_)
  · obtain ⟨r, x, xs, rfl, _⟩ := h
    rfl
  · obtain ⟨r, x, xs, rfl, hR, hx, h0, h1, k⟩ := h
    have hu := hu_of hr
    have hr_w_spin : Room 1 _ := hr.mono (by decide)
    refine ⟨_, (pss_one (ps_ret (pe_ix ix_seq (pv 1) (pe_call G_w_spin hr_w_spin rfl T.m_w_spin T.F_w_spin.kp T.b_w_spin .nil pass0 (pa_cons (pv 0) (pa_cons (pe_callB call_len (by rfl) T.z_len (by decide +kernel) (pa_cons (pv 1) pa_nil)) pa_nil))) (fun _ _ => rfl)))), ?_⟩
    have hl : (xs.length : Int).natAbs.log2 < 9000 := by
      have : xs.length < 2 ^ 63 := Nat.lt_of_le_of_lt h1 (by decide)
      exact Nat.lt_trans (lg (b := 63) (by omega) (by omega) (by decide)) (by decide)
    refine ⟨_, rfl, _, rfl, _, rfl, x, xs.length, rfl, ?_, ?_⟩
    · rcases hx with ⟨l, rfl, hn, h | h⟩ | ⟨z, rfl, hz, rfl⟩
      · exact .inl ⟨_, h, rfl⟩
      · exact .inr ⟨_, h, rfl⟩
      · exact ⟨hz, by rw [List.length_map]; rfl⟩
    refine ⟨r, _, rfl, hR, by omega, hl, fun v H' v0 v1 R' O' => ?_⟩
    obtain ⟨y, hy, ha⟩ := ix_at v0 v1
    rcases hx with ⟨l, rfl, hn, h | h⟩ | ⟨z, rfl, hz, rfl⟩
    · exact .inl ⟨_, _, _, _, rfl, rfl, O'.seqL hn h, ha, k _ _ hy R' O'⟩
    · exact .inr (.inl ⟨_, _, _, _, rfl, rfl, O'.seqT hn h, ha, k _ _ hy R' O'⟩)
    · obtain ⟨i, hi⟩ : ∃ c, atI z.cps.toList v = some c := by
        unfold atI at ha ⊢
        rw [List.length_map] at ha
        cases e : ixN z.cps.toList.length v with
        | none => rw [e] at ha; cases ha
        | some j =>
          rw [e] at ha
          simp only [Option.bind_some] at ha ⊢
          rw [List.getElem?_map] at ha
          cases e2 : z.cps.toList[j]? with
          | none => rw [e2] at ha; cases ha
          | some c => exact ⟨c, rfl⟩
      have hc : i ∈ z.cps.toList := by
        unfold atI at hi
        cases e : ixN z.cps.toList.length v with
        | none => rw [e] at hi; cases hi
        | some j => rw [e] at hi; exact List.mem_of_getElem? hi
      exact .inr (.inr ⟨_, _, _, rfl, rfl, hz, hi, k _ _ (List.mem_map.mpr ⟨i, hc, rfl⟩) R' O'⟩)
def sp_is_name (K : PySem.W.Frag) : Sp := fun vs H Q _ => ∃ (x : V) (d : PyData), vs = [x] ∧ DD K H x d ∧ okD d ∧ ∀ H', Same H H' → Q (.bl (nmD d)) H'
theorem ok_is_name (T : T K mg) : FnOk P w K mg base CX0 1 T.f_is_name T.d_is_name ["value"] (sp_is_name K) := by
  refine T.F_is_name.ok sc_is_name (fun vs H Q E h => ?_) (fun cdv A outer s H vs Q E hr h => ?_)
  · obtain ⟨x, d, rfl, _⟩ := h
    rfl
  · obtain ⟨x, d, rfl, hx, hw, k⟩ := h
    have hu := hu_of hr
    obtain ⟨_, c_MAX_LETTERS⟩ := T.c_MAX_LETTERS
    refine ⟨_, (pss_cons (ps_if (PW.pt (pw_or (pt_not (pt_val (pe_callB call_isi (by rfl) T.z_isinstance (by decide +kernel) (pa_cons (pv 0) (pa_cons (pe_bltn (v := V.ty "str") (u := Value.type "str") (by rfl) T.z_str (by decide +kernel) rfl) pa_nil))))) (pw_or1 (pt_not (pt_chain op_le op_le pe_int (pe_callB call_len (by rfl) T.z_len (by decide +kernel) (pa_cons (pv 0) pa_nil)) (pe_glob (v := V.int 8) rfl c_MAX_LETTERS ⟨_, rfl⟩))))))
      (pss_one (ps_ret pe_bl))
      pss_nil)
      (pss_one (ps_ret (pe_callB (cr_all rfl) (by rfl) T.z_all (by decide +kernel) (pa_cons (pe_lc (own := [("letter", 1)]) (g := gName 1) rfl sc_is_name.nd (pi_str (pv 0)) (blkOk_by (N := ["value", "letter"]) (sc := defScope s_is_name) (by decide +kernel)) (fun _ _ _ _ _ => (pg_name (i := 1) sc_is_name.nd rfl (Or.inl rfl))) (fun _ _ _ _ _ => pts_nil) (fun _ _ _ _ _ => (pe_chain op_le_str op_le_str pe_str (pv 1) pe_str))) pa_nil))))), ?_⟩
    by_cases hs : ∃ z, d = .str z
    · obtain ⟨z, rfl⟩ := hs
      have hz := okD_str hw
      obtain rfl : x = .str z := by
        rcases hx with h | ⟨_, _, _, _, h⟩
        · cases h
          rfl
        · cases h
      refine ⟨_, rfl, _, _, _, _, true, rfl, .ty _, .base (.str _), kit_ty (by decide +kernel), _, rfl, iteF ?_⟩
      refine ⟨_, rfl, _, _, rfl, ⟨Nat.le_trans hz (by decide), rfl⟩, _, _, rfl, rfl, _, rfl, ?_⟩
      refine ite2 (fun c1 => ?_) (fun c1 => ?_)
      · have h1 := of_decide_eq_true c1
        refine ⟨_, _, rfl, rfl, _, rfl, ?_⟩
        by_cases h2 : (z.length : Int) ≤ 8
        · rw [decide_eq_true h2]
          refine iteF ?_
          refine ⟨_, rfl, _, rfl, fun D hD => ?_⟩
          refine lc_it walk_str (fun i H' => H' D = some (.lst (((z.cps.toList.take i).map fun c => decide (97 ≤ c) && decide (c ≤ 122)).map V.bl)) ∧ Same H H') ⟨upd_same, Same.new hD⟩ (fun _ _ _ _ => trivial) ?_ ?_
          · rintro i y H1 H2 hi ⟨eD, S⟩ ⟨rfl, c, hc, rfl⟩
            refine ⟨rfl, ?_⟩
            unfold tYes
            dsimp only
            rw [if_pos rfl]
            refine ⟨_, rfl, _, _, rfl, rfl, _, rfl, ?_⟩
            have done : ∀ b : Bool, b = (decide (97 ≤ c) && decide (c ≤ 122)) → ∃ acc, H2 D = some (.lst acc) ∧ acc.length < sizeLine ∧ (upd H2 D (.lst (acc ++ [V.bl b]))) D = some (.lst (((z.cps.toList.take (i + 1)).map fun c => decide (97 ≤ c) && decide (c ≤ 122)).map V.bl)) ∧ Same H (upd H2 D (.lst (acc ++ [V.bl b]))) := by
              rintro b rfl
              refine ⟨_, eD, ?_, ?_, Same.at hD S⟩
              · rw [List.length_map, List.length_map, List.length_take]
                have : z.cps.toList.length = z.length := by simp [Str.length]
                exact Nat.lt_of_le_of_lt (Nat.le_trans (Nat.min_le_right _ _) (by omega : z.cps.toList.length ≤ 100)) (by decide)
              · rw [upd_same, tk_succ hc, List.map_append, List.map_append]
                rfl
            refine ite2 (fun c2 => ?_) (fun c2 => ?_)
            · have h3 : 97 ≤ c := by
                rw [Bool.not_eq_true', decide_eq_false_iff_not] at c2
                have c3 : ¬ (([c] : List Nat) < [97]) := c2
                rw [lt_sign] at c3
                omega
              refine ⟨_, _, rfl, rfl, done _ ?_⟩
              rw [decide_eq_true h3, Bool.true_and]
              by_cases h4 : c ≤ 122
              · rw [decide_eq_true h4]
                show (!decide (([122] : List Nat) < [c])) = true
                rw [decide_eq_false (by rw [lt_sign]; omega)]
                rfl
              · rw [decide_eq_false h4]
                show (!decide (([122] : List Nat) < [c])) = false
                rw [decide_eq_true (by rw [lt_sign]; omega)]
                rfl
            · have h3 : ¬ 97 ≤ c := by
                rw [Bool.not_eq_true', decide_eq_false_iff_not] at c2
                have c3 := Classical.not_not.mp c2
                have c4 : ([c] : List Nat) < [97] := c3
                rw [lt_sign] at c4
                omega
              refine done _ ?_
              rw [decide_eq_false h3, Bool.false_and]
          · rintro H9 ⟨eD, S⟩
            refine ⟨_, _, rfl, SqL.of eD, ?_⟩
            refine bl_to ?_ (k _ S)
            rw [tk_all]
            show _ = (decide (1 ≤ z.length ∧ z.length ≤ 8) && _)
            rw [decide_eq_true (show 1 ≤ z.length ∧ z.length ≤ 8 by omega), Bool.true_and, List.all_map]
            rfl
        · rw [decide_eq_false h2]
          refine iteT ?_
          refine bl_to ?_ (k _ (Same.refl _))
          show false = (decide (1 ≤ z.length ∧ z.length ≤ 8) && _)
          rw [decide_eq_false (show ¬ (1 ≤ z.length ∧ z.length ≤ 8) by omega), Bool.false_and]
      · have h1 : ¬ (1 : Int) ≤ (z.length : Int) := fun q => c1 (decide_eq_true q)
        refine ⟨_, rfl, iteT ?_⟩
        refine bl_to ?_ (k _ (Same.refl _))
        show false = (decide (1 ≤ z.length ∧ z.length ≤ 8) && _)
        rw [decide_eq_false (show ¬ (1 ≤ z.length ∧ z.length ≤ 8) by omega), Bool.false_and]
    · have hn := not_str fun z e => hs ⟨z, e⟩
      refine ⟨_, rfl, _, _, _, _, false, rfl, .ty _, hx.ty, kit_ty hn.1, _, rfl, iteT ?_⟩
      exact iteT (bl_to hn.2.symm (k _ (Same.refl _)))
def sp_is_integer (K : PySem.W.Frag) : Sp := fun vs H Q _ => ∃ (x : V) (d : PyData), vs = [x] ∧ DD K H x d ∧ Q (.bl (isInD d)) H
theorem ok_is_integer (T : T K mg) : FnOk P w K mg base CX0 1 T.f_is_integer T.d_is_integer ["value"] (sp_is_integer K) := by
  refine T.F_is_integer.ok sc_is_integer (fun vs H Q E h => ?_) (fun cdv A outer s H vs Q E hr h => ?_)
  · obtain ⟨x, d, rfl, _⟩ := h
    rfl
  · obtain ⟨x, d, rfl, hx, k⟩ := h
    have hu := hu_of hr
    refine ⟨_, (pss_cons (ps_if (PW.pt (pw_or (pt_not (pt_val (pe_callB call_isi (by rfl) T.z_isinstance (by decide +kernel) (pa_cons (pv 0) (pa_cons (pe_bltn (v := V.ty "int") (u := Value.type "int") (by rfl) T.z_int (by decide +kernel) rfl) pa_nil))))) (pw_or1 (pt_val (pe_callB call_isi (by rfl) T.z_isinstance (by decide +kernel) (pa_cons (pv 0) (pa_cons (pe_bltn (v := V.ty "bool") (u := Value.type "bool") (by rfl) T.z_bool (by decide +kernel) rfl) pa_nil)))))))
      (pss_one (ps_ret pe_bl))
      pss_nil)
      (pss_one (ps_ret (pe_chain op_lt op_lt (pe_un un_neg (pe_op op_pow pe_int pe_int)) (pv 0) (pe_op op_pow pe_int pe_int))))), ?_⟩
    by_cases h1 : ∃ n, d = .int n
    · obtain ⟨n, rfl⟩ := h1
      obtain rfl : x = .int n := by
        rcases hx with h | ⟨_, _, _, _, h⟩
        · cases h
          rfl
        · cases h
      refine ⟨_, rfl, _, _, _, _, true, rfl, .ty _, .base (.int _), kit_ty (by decide +kernel), _, rfl, iteF ?_⟩
      refine ⟨_, rfl, _, _, _, _, false, rfl, .ty _, .base (.int _), kit_ty (by decide +kernel), _, rfl, iteF ?_⟩
      refine ⟨_, _, rfl, rfl, ⟨by decide, by decide, by decide⟩, _, rfl, _, rfl, _, _, rfl, rfl, _, rfl, ?_⟩
      have e1 : decide (-(10 ^ Int.toNat 12) < n) = decide (-1000000000000 < n) := rfl
      refine ite2 (fun c => ?_) (fun c => ?_)
      · refine ⟨_, _, rfl, rfl, ⟨by decide, by decide, by decide⟩, _, _, rfl, rfl, ?_⟩
        refine bl_to ?_ k
        show _ = (decide (-1000000000000 < n) && decide (n < 1000000000000))
        rw [← e1, c, Bool.true_and]
        rfl
      · refine bl_to ?_ k
        show _ = (decide (-1000000000000 < n) && decide (n < 1000000000000))
        rw [← e1, Bool.eq_false_iff.mpr c, Bool.false_and]
    · by_cases h2 : ∃ b, d = .bool b
      · obtain ⟨b, rfl⟩ := h2
        refine ⟨_, rfl, _, _, _, _, true, rfl, .ty _, hx.ty, kit_ty (a := "bool") (b := "int") (by decide +kernel), _, rfl, iteF ?_⟩
        refine ⟨_, rfl, _, _, _, _, true, rfl, .ty _, hx.ty, kit_ty (a := "bool") (b := "bool") (by decide +kernel), _, rfl, iteT ?_⟩
        exact k
      · have hn := not_int (fun n e => h1 ⟨n, e⟩) fun b e => h2 ⟨b, e⟩
        refine ⟨_, rfl, _, _, _, _, false, rfl, .ty _, hx.ty, kit_ty hn.1, _, rfl, iteT ?_⟩
        exact iteT (bl_to hn.2.symm k)
def sp_is_between (K : PySem.W.Frag) : Sp := fun vs H Q _ => ∃ (x : V) (d : PyData) (lo hi : Int), vs = [x, .int lo, .int hi] ∧ DD K H x d ∧ Q (.bl (inD lo hi d)) H
theorem ok_is_between (T : T K mg) : FnOk P w K mg base CX0 2 T.f_is_between T.d_is_between ["value", "low", "high"] (sp_is_between K) := by
  have G_is_integer : FnOk P w K mg base CX0 1 T.f_is_integer T.d_is_integer ["value"] (sp_is_integer K) := ok_is_integer T
  refine T.F_is_between.ok sc_is_between (fun vs H Q E h => ?_) (fun cdv A outer s H vs Q E hr h => ?_)
  · obtain ⟨x, d, lo, hi, rfl, _⟩ := h
    rfl
  · obtain ⟨x, d, lo, hi, rfl, hx, k⟩ := h
    have hu := hu_of hr
    have hr_is_integer : Room 1 _ := hr.mono (by decide)
    refine ⟨_, (pss_one (ps_ret (pe_and (pe_call G_is_integer hr_is_integer rfl T.m_is_integer T.F_is_integer.kp T.b_is_integer .nil pass0 (pa_cons (pv 0) pa_nil)) (pe_one (pe_chain op_le op_le (pv 1) (pv 0) (pv 2)))))), ?_⟩
    refine ⟨_, rfl, x, d, rfl, hx, _, rfl, ?_⟩
    by_cases h : isInD d = true
    · rw [h]
      refine iteT ?_
      obtain ⟨n, rfl⟩ : ∃ n, d = .int n := by
        cases d with
        | int n => exact ⟨n, rfl⟩
        | _ => cases h
      obtain rfl : x = .int n := by
        rcases hx with h | ⟨_, _, _, _, h⟩
        · cases h
          rfl
        · cases h
      have hi2 : (decide (-1000000000000 < n) && decide (n < 1000000000000)) = true := h
      have k2 : Q (.bl (decide (lo ≤ n) && decide (n ≤ hi))) H := bl_to (by show _ = ((decide (-1000000000000 < n) && decide (n < 1000000000000)) && _); rw [hi2, Bool.true_and]) k
      refine ⟨_, rfl, _, rfl, _, _, rfl, rfl, _, rfl, ?_⟩
      refine ite2 (fun c => ?_) (fun c => ?_)
      · exact ⟨_, rfl, _, _, rfl, rfl, bl_to (by rw [c, Bool.true_and]) k2⟩
      · exact bl_to (by rw [Bool.eq_false_iff.mpr c, Bool.false_and]) k2
    · rw [Bool.eq_false_iff.mpr h]
      refine iteF (bl_to ?_ k)
      cases d with
      | int n =>
        show false = ((decide (-1000000000000 < n) && decide (n < 1000000000000)) && _)
        have h3 : ¬ (decide (-1000000000000 < n) && decide (n < 1000000000000)) = true := h
        rw [Bool.eq_false_iff.mpr h3, Bool.false_and]
      | _ => rfl
def sp_ascends (K : PySem.W.Frag) : Sp := fun vs H Q _ => ∃ (x : V) (ds : List PyData) (hi : Int), vs = [x] ∧ Dp K H x (.tuple ds) ∧ ds.all (prD hi) = true ∧ ds.length ≤ 1000 ∧ ∀ H', Same H H' → Q (.bl (ascD ds)) H'
theorem ok_ascends (T : T K mg) : FnOk P w K mg base CX0 1 T.f_ascends T.d_ascends ["row"] (sp_ascends K) := by
  refine T.F_ascends.ok sc_ascends (fun vs H Q E h => ?_) (fun cdv A outer s H vs Q E hr h => ?_)
  · obtain ⟨x, ds, hi, rfl, _⟩ := h
    rfl
  · obtain ⟨x, ds, hi, rfl, hx, hp, hl, k⟩ := h
    have hu := hu_of hr
    refine ⟨_, (pss_one (ps_ret (pe_callB (cr_all rfl) (by rfl) T.z_all (by decide +kernel) (pa_cons (pe_lc (own := [("at", 1)]) (g := gName 1) rfl sc_ascends.nd (pi_range2 (by rfl) T.z_range (pa_cons pe_int (pa_cons (pe_callB call_len (by rfl) T.z_len (by decide +kernel) (pa_cons (pv 0) pa_nil)) pa_nil))) (blkOk_by (N := ["row", "at"]) (sc := defScope s_ascends) (by decide +kernel)) (fun _ _ _ _ _ => (pg_name (i := 1) sc_ascends.nd rfl (Or.inl rfl))) (fun _ _ _ _ _ => pts_nil) (fun _ _ _ _ _ => (pe_cmpR (r := rLtD K) (op_ltD hr.units) (pe_ix (r := rIx K) ix_seq (pv 0) (pe_op op_sub (pv 1) pe_int) (fun _ _ => rfl)) (pe_ix (r := rIx K) ix_seq (pv 0) (pv 1) (fun _ _ => rfl)) (nomark _)))) pa_nil)))), ?_⟩
    obtain ⟨a, xs, rfl, hS, hd⟩ : ∃ a xs, x = .ref a ∧ SqT K H a xs ∧ DpAll K H xs ds := by
      cases hx with
      | tup h1 h2 => exact ⟨_, _, rfl, h1, h2⟩
    have hn := dpa_len hd
    refine ⟨_, rfl, _, _, rfl, .inr ⟨_, hS, rfl⟩, 1, (xs.length : Int), rfl, ⟨by decide, by decide, by omega, by omega⟩, fun D hD => ?_⟩
    have en : ((xs.length : Int) - 1).toNat = ds.length - 1 := by omega
    rw [en]
    refine lc_range (lo := 1) (n := ds.length - 1) (fun i H' => H' D = some (.lst (((List.range i).map fun j => PySem.W.dataLt (ds.getD j .none) (ds.getD (j + 1) .none)).map V.bl)) ∧ Same H H') ⟨upd_same, Same.new hD⟩ ?_ ?_
    · rintro i H1 hi2 ⟨eD, S⟩
      refine ⟨rfl, ?_⟩
      unfold tYes
      dsimp only
      rw [if_pos rfl]
      have hS1 := Same.seqT S hS
      have hd1 := dpa_same S ds xs hd
      have l0 : i < xs.length := by omega
      have l1 : i + 1 < xs.length := by omega
      obtain ⟨d0, e0, p0⟩ := dpa_get hd1 (List.getElem?_eq_getElem l0)
      obtain ⟨d1, e1, p1⟩ := dpa_get hd1 (List.getElem?_eq_getElem l1)
      obtain ⟨z0, n0, rfl⟩ := depth_in (List.all_eq_true.mp hp d0 (List.mem_of_getElem? e0))
      obtain ⟨z1, n1, rfl⟩ := depth_in (List.all_eq_true.mp hp d1 (List.mem_of_getElem? e1))
      refine ⟨_, rfl, _, rfl, _, _, rfl, rfl, .inr (.inl ⟨_, _, _, xs[i], rfl, rfl, hS1, at_of (j := i) (by omega) (List.getElem?_eq_getElem l0), ?_⟩)⟩
      refine ⟨_, rfl, _, rfl, .inr (.inl ⟨_, _, _, xs[i + 1], rfl, rfl, hS1, at_of (j := i + 1) (by omega) (List.getElem?_eq_getElem l1), ?_⟩)⟩
      refine ⟨_, _, p0, p1, rfl, (by intro z; cases z), (by simp only [PyData.depth, PyData.depthAll]; decide), ?_⟩
      refine ⟨_, eD, ?_, ?_, Same.at hD S⟩
      · rw [List.length_map, List.length_map, List.length_range]
        exact Nat.lt_of_lt_of_le (show i < 1000 by omega) (by decide)
      · rw [upd_same, List.range_succ, List.map_append, List.map_append, List.map_singleton]
        rw [List.getD_eq_getElem?_getD, e0, List.getD_eq_getElem?_getD, e1]
        rfl
    · rintro H9 ⟨eD, S⟩
      refine ⟨_, _, rfl, SqL.of eD, ?_⟩
      refine bl_to ?_ (k _ S)
      unfold ascD
      rw [List.all_map]
      rfl
def sp_is_pair (K : PySem.W.Frag) : Sp := fun vs H Q _ => ∃ (x : V) (d : PyData) (hi : Int), vs = [x, .int hi] ∧ DD K H x d ∧ okD d ∧ ∀ H', Same H H' → Q (.bl (prD hi d)) H'
theorem ok_is_pair (T : T K mg) : FnOk P w K mg base CX0 3 T.f_is_pair T.d_is_pair ["value", "highest"] (sp_is_pair K) := by
  have G_is_between : FnOk P w K mg base CX0 2 T.f_is_between T.d_is_between ["value", "low", "high"] (sp_is_between K) := ok_is_between T
  have G_is_name : FnOk P w K mg base CX0 1 T.f_is_name T.d_is_name ["value"] (sp_is_name K) := ok_is_name T
  refine T.F_is_pair.ok sc_is_pair (fun vs H Q E h => ?_) (fun cdv A outer s H vs Q E hr h => ?_)
  · obtain ⟨x, d, hi, rfl, _⟩ := h
    rfl
  · obtain ⟨x, d, hi, rfl, hx, hw, k⟩ := h
    have hu := hu_of hr
    have hr_is_between : Room 2 _ := hr.mono (by decide)
    have hr_is_name : Room 1 _ := hr.mono (by decide)
    refine ⟨_, (pss_cons (ps_if (PW.pt (pw_or (pt_not (pt_val (pe_callB call_isi (by rfl) T.z_isinstance (by decide +kernel) (pa_cons (pv 0) (pa_cons (pe_bltn (v := V.ty "tuple") (u := Value.type "tuple") (by rfl) T.z_tuple (by decide +kernel) rfl) pa_nil))))) (pw_or1 (pt_cmpR op_ne (pe_callB call_len (by rfl) T.z_len (by decide +kernel) (pa_cons (pv 0) pa_nil)) pe_int (nomark _)))))
      (pss_one (ps_ret pe_bl))
      pss_nil)
      (pss_one (ps_ret (pe_and (pe_call G_is_name hr_is_name rfl T.m_is_name T.F_is_name.kp T.b_is_name .nil pass0 (pa_cons (pe_ix ix_seq (pv 0) pe_int (fun _ _ => rfl)) pa_nil)) (pe_one (pe_call G_is_between hr_is_between rfl T.m_is_between T.F_is_between.kp T.b_is_between .nil pass0 (pa_cons (pe_ix ix_seq (pv 0) pe_int (fun _ _ => rfl)) (pa_cons pe_int (pa_cons (pv 1) pa_nil))))))))), ?_⟩
    by_cases ht : ∃ ds, d = .tuple ds
    · obtain ⟨ds, rfl⟩ := ht
      obtain ⟨a, xs, rfl, hS, hd⟩ : ∃ a xs, x = .ref a ∧ SqT K H a xs ∧ DpAll K H xs ds := by
        rcases hx with h | ⟨_, _, _, _, h⟩
        · cases h with
          | tup h1 h2 => exact ⟨_, _, rfl, h1, h2⟩
        · cases h
      have hn := dpa_len hd
      refine ⟨_, rfl, _, _, _, _, true, rfl, .ty _, hx.ty, kit_ty (a := "tuple") (b := "tuple") (by decide +kernel), _, rfl, iteF ?_⟩
      refine ⟨_, rfl, _, _, rfl, .inr ⟨_, hS, rfl⟩, rfl, _, rfl, ?_⟩
      match ds, xs, hn, hd, hS, hw, k with
      | [d0, d1], [x0, x1], _, hd, hS, hw, k =>
        obtain ⟨e0, q0, p0⟩ := dpa_get (i := 0) hd rfl
        obtain rfl := Option.some.inj q0
        obtain ⟨e1, q1, p1⟩ := dpa_get (i := 1) hd rfl
        obtain rfl := Option.some.inj q1
        refine iteNS rfl ?_
        refine ⟨_, rfl, .inr (.inl ⟨_, _, _, _, rfl, rfl, hS, rfl, x0, d0, rfl, .inl p0, okD_tup hw List.mem_cons_self, fun H1 S1 => ?_⟩)⟩
        refine ⟨_, rfl, ?_⟩
        by_cases c : nmD d0 = true
        · rw [c]
          refine iteT ?_
          refine ⟨_, rfl, .inr (.inl ⟨_, _, _, _, rfl, rfl, Same.seqT S1 hS, rfl, _, rfl, x1, d1, 0, hi, rfl, .inl (dp_same S1 _ _ p1), ?_⟩)⟩
          exact bl_to (by show _ = (nmD d0 && inD 0 hi d1); rw [c, Bool.true_and]) (k _ S1)
        · rw [Bool.eq_false_iff.mpr c]
          exact iteF (bl_to (by show _ = (nmD d0 && inD 0 hi d1); rw [Bool.eq_false_iff.mpr c, Bool.false_and]) (k _ S1))
      | [], [], _, hd, hS, hw, k => exact if_ne (by show V.int ((0 : Nat) : Int) ≠ V.int 2; decide) (k _ (Same.refl _))
      | [d0], [x0], _, hd, hS, hw, k => exact if_ne (by show V.int ((1 : Nat) : Int) ≠ V.int 2; decide) (k _ (Same.refl _))
      | d0 :: d1 :: d2 :: r, x0 :: x1 :: x2 :: r2, _, hd, hS, hw, k => exact if_ne (by intro z; have := V.int.inj z; simp only [List.length_cons] at this; omega) (k _ (Same.refl _))
    · have hn := not_tup fun ds e => ht ⟨ds, e⟩
      refine ⟨_, rfl, _, _, _, _, false, rfl, .ty _, hx.ty, kit_ty hn, _, rfl, iteT ?_⟩
      refine iteT (bl_to ?_ (k _ (Same.refl _)))
      cases d with
      | tuple ds => exact absurd ⟨ds, rfl⟩ ht
      | _ => rfl
def sp_is_row_of_pairs (K : PySem.W.Frag) : Sp := fun vs H Q _ => ∃ (x : V) (d : PyData) (most : Nat) (hi : Int), vs = [x, .int (most : Int), .int hi] ∧ DD K H x d ∧ okD d ∧ most ≤ 100 ∧ ∀ H', Same H H' → Q (.bl (rwD most hi d)) H'
theorem ok_is_row_of_pairs (T : T K mg) : FnOk P w K mg base CX0 4 T.f_is_row_of_pairs T.d_is_row_of_pairs ["value", "most", "highest"] (sp_is_row_of_pairs K) := by
  have G_is_pair : FnOk P w K mg base CX0 3 T.f_is_pair T.d_is_pair ["value", "highest"] (sp_is_pair K) := ok_is_pair T
  refine T.F_is_row_of_pairs.ok sc_is_row_of_pairs (fun vs H Q E h => ?_) (fun cdv A outer s H vs Q E hr h => ?_)
  · obtain ⟨x, d, most, hi, rfl, _⟩ := h
    rfl
  · obtain ⟨x, d, most, hi, rfl, hx, hw, hm, k⟩ := h
    have hu := hu_of hr
    have hr_is_pair : Room 3 _ := hr.mono (by decide)
    refine ⟨_, (pss_cons (ps_if (PW.pt (pw_or (pt_not (pt_val (pe_callB call_isi (by rfl) T.z_isinstance (by decide +kernel) (pa_cons (pv 0) (pa_cons (pe_bltn (v := V.ty "tuple") (u := Value.type "tuple") (by rfl) T.z_tuple (by decide +kernel) rfl) pa_nil))))) (pw_or1 (pt_cmpR op_gt (pe_callB call_len (by rfl) T.z_len (by decide +kernel) (pa_cons (pv 0) pa_nil)) (pv 1) (nomark _)))))
      (pss_one (ps_ret pe_bl))
      pss_nil)
      (pss_one (ps_ret (pe_callB (cr_all rfl) (by rfl) T.z_all (by decide +kernel) (pa_cons (pe_lc (own := [("item", 3)]) (g := gName 3) rfl sc_is_row_of_pairs.nd (pi_tup (pv 0)) (blkOk_by (N := ["value", "most", "highest", "item"]) (sc := defScope s_is_row_of_pairs) (by decide +kernel)) (fun _ _ _ _ _ => (pg_name (i := 3) sc_is_row_of_pairs.nd rfl (Or.inl rfl))) (fun _ _ _ _ _ => pts_nil) (fun _ _ _ _ _ => (pe_call G_is_pair hr_is_pair rfl T.m_is_pair T.F_is_pair.kp T.b_is_pair .nil pass0 (pa_cons (pv 3) (pa_cons (pv 2) pa_nil))))) pa_nil))))), ?_⟩
    by_cases ht : ∃ ds, d = .tuple ds
    · obtain ⟨ds, rfl⟩ := ht
      obtain ⟨a, xs, rfl, hS, hd⟩ : ∃ a xs, x = .ref a ∧ SqT K H a xs ∧ DpAll K H xs ds := by
        rcases hx with h | ⟨_, _, _, _, h⟩
        · cases h with
          | tup h1 h2 => exact ⟨_, _, rfl, h1, h2⟩
        · cases h
      have hn := dpa_len hd
      refine ⟨_, rfl, _, _, _, _, true, rfl, .ty _, hx.ty, kit_ty (a := "tuple") (b := "tuple") (by decide +kernel), _, rfl, iteF ?_⟩
      refine ⟨_, rfl, _, _, rfl, .inr ⟨_, hS, rfl⟩, _, rfl, _, _, rfl, rfl, _, rfl, ?_⟩
      refine ite2 (fun c => ?_) (fun c => ?_)
      · have h1 := of_decide_eq_true c
        refine bl_to ?_ (k _ (Same.refl _))
        show false = (decide (ds.length ≤ most) && _)
        rw [decide_eq_false (by omega), Bool.false_and]
      · have h1 : ¬ (most : Int) < (xs.length : Int) := fun q => c (decide_eq_true q)
        refine ⟨_, rfl, a, rfl, ⟨_, hS⟩, fun D hD => ?_⟩
        refine lc_tup (K := K) (a := a) (xs := xs) (fun i H' => H' D = some (.lst (((ds.take i).map (prD hi)).map V.bl)) ∧ Same H H') ⟨upd_same, Same.new hD⟩ (fun i H' _ ⟨_, S⟩ => Same.seqT S hS) ?_ ?_
        · rintro i y H1 hy ⟨eD, S⟩
          obtain ⟨d0, e0, p0⟩ := dpa_get (dpa_same S ds xs hd) hy
          refine ⟨rfl, ?_⟩
          unfold tYes
          dsimp only
          rw [if_pos rfl]
          refine ⟨_, rfl, _, rfl, y, d0, hi, rfl, .inl p0, okD_tup hw (List.mem_of_getElem? e0), fun H2 S2 => ?_⟩
          have S3 : Same H H2 := Same.trans S S2
          refine ⟨_, S2 _ _ eD, ?_, ?_, Same.at hD S3⟩
          · rw [List.length_map, List.length_map, List.length_take]
            exact Nat.lt_of_le_of_lt (Nat.le_trans (Nat.min_le_right _ _) (by omega : ds.length ≤ 100)) (by decide)
          · rw [upd_same, List.take_add_one, e0, List.map_append, List.map_append]
            rfl
        · rintro H9 ⟨eD, S⟩
          refine ⟨_, _, rfl, SqL.of eD, ?_⟩
          refine bl_to ?_ (k _ S)
          rw [← hn, List.take_length]
          show _ = (decide (ds.length ≤ most) && _)
          rw [decide_eq_true (by omega), Bool.true_and, List.all_map]
          rfl
    · have hn := not_tup fun ds e => ht ⟨ds, e⟩
      refine ⟨_, rfl, _, _, _, _, false, rfl, .ty _, hx.ty, kit_ty hn, _, rfl, iteT ?_⟩
      refine iteT (bl_to ?_ (k _ (Same.refl _)))
      cases d with
      | tuple ds => exact absurd ⟨ds, rfl⟩ ht
      | _ => rfl
end
end K06
/-! sets of texts, of ints, of tuples of both: one frame (Kit) -/
namespace KS
open PySem PySem.Spec PyProof.Rows L2

/-- what a kind of set gives: a member, its value, the set itself, adding, gathering -/
structure Kit (P : Program) (w : World) (μ κ : Type) where
  key : μ → κ
  mv : Heap → μ → Value → Prop
  sp : Heap → Addr → List μ → Prop
  mvK : ∀ {h h' : Heap} {m : μ} {v : Value}, mv h m v → (∀ b o, h.get? b = some o → h'.get? b = some o) → mv h' m v
  spAt : ∀ {h h' : Heap} {a : Addr} {L : List μ}, sp h a L → (∀ o, h.get? a = some o → h'.get? a = some o) → sp h' a L
  spEx : ∀ {h : Heap} {a : Addr} {L : List μ}, sp h a L → ∃ o, h.get? a = some o ∧ o.cls = .type "set"
  spNd : ∀ {h : Heap} {a : Addr} {L : List μ}, sp h a L → (L.map key).Nodup
  spFew : ∀ {h : Heap} {a : Addr} {L : List μ}, sp h a L → L.length < 64
  fresh : ∀ {h : Heap} {a : Addr}, h.get? a = some { cls := .type "set", dict := none, data := .set #[] 0 (.fresh 0 0 (!w.params.followText "set-order")) } → sp h a []
  add : ∀ {A : Around} {E : Value → Shared → Prop} {s : Shared} {a : Addr} {L : List μ} {m : μ} {v : Value} {Q : Bool → Shared → Prop}, sp s.heap a L → (∀ m ∈ L, ∃ v, mv s.heap m v) → mv s.heap m v → L.length + 1 < 64 → A.units < cLine →
    (∀ b h' tk L', Heap.SameBut a s.heap h' → s.toks ≤ tk → sp h' a L' → (key m ∈ L.map key → L' = L) → (key m ∉ L.map key → L'.Perm (m :: L)) → Q b { s with heap := h', toks := tk }) →
    wpAny (model P w) A (setAdd a v) Q E s
  col : ∀ {A : Around} {E : Value → Shared → Prop} {s : Shared} {a : Addr} {L : List μ} {Q : List Value → Shared → Prop}, sp s.heap a L → (∀ m ∈ L, ∃ v, mv s.heap m v) → A.handled = none →
    (∀ s' out L', (∀ b o, s.heap.get? b = some o → s'.heap.get? b = some o) → s.heap.objs.size ≤ s'.heap.objs.size → s'.gens = s.gens → s'.os = s.os → List.Perm L' L → PySem.W.EachIs (fun v m => mv s.heap m v) out L' → Q out s') →
    wpAny (model P w) A (collect (.ref a)) Q E s

/-! ### ints and texts -/
def kOf : Value → Key
  | .int i _ => .inl i
  | .str x _ => .inr x
  | _ => .inl 0
theorem kOf_is {k : Key} {v : Value} (h : keyIs k v = true) : kOf v = k := by
  rcases keyIs_shape h with
                            ⟨i, t, rfl, rfl⟩ | ⟨x, t, rfl, rfl⟩ <;> rfl
theorem scan_is {k : Key} {v : Value} (h : keyIs k v = true) : v.scannable = true := by
  rcases keyIs_shape h with
                            ⟨i, t, rfl, rfl⟩ | ⟨x, t, rfl, rfl⟩ <;> rfl
/-- an entry -/
def Ent (w : World) (e : Int × Value) : Prop := keyIs (kOf e.2) e.2 = true ∧ e.1 = keyH w (kOf e.2)
def ks (es : List (Int × Value)) : List Key := es.map fun e => kOf e.2
structure SpA (w : World) (h : Heap) (a : Addr) (L : List Key) (es : Array (Int × Value)) (ep : Nat) (t : SetTable) (o : Obj) : Prop where
  ho : h.get? a = some o
  hex : o.ExactSet
  hd : o.data = .set es ep t
  ent : ∀ e ∈ es.toList, Ent w e
  pm : (ks es.toList).Perm L
  nd : L.Nodup
  few : L.length < 64
  fit : t.fits es.size = true
  ris : Ris t.place.toList
  led : w.params.followText "set-order" = true ∨ t.led = true
def Sp (w : World) (h : Heap) (a : Addr) (L : List Key) : Prop := ∃ es ep t o, SpA w h a L es ep t o

section
variable {P : Program} {w : World} {A : Around} {E : Value → Shared → Prop} {s : Shared} {a : Addr} {L : List Key} {es : Array (Int × Value)} {ep : Nat} {t : SetTable} {o : Obj}
theorem SpA.sz {h : Heap} (R : SpA w h a L es ep t o) : es.size = L.length := by
  have e := R.pm.length_eq
  unfold ks at e
  rw [List.length_map, Array.length_toList] at e
  exact e
theorem SpA.bd {h : Heap} (R : SpA w h a L es ep t o) : es.size < scanBound := by
  have e := R.sz
  have f := R.few
  unfold scanBound
  omega
theorem ent_elems {l : List (Int × Value)} (g : ∀ e ∈ l, Ent w e) : ElemsOf (mixKind P w) l := fun e he => ⟨⟨kOf e.2, (g e he).1, (g e he).2⟩, scan_is (g e he).1⟩
theorem mem_ks {l : List (Int × Value)} (g : ∀ e ∈ l, Ent w e) (k : Key) : k ∈ ks l ↔ ∃ e ∈ l, keyIs k e.2 = true := by
  unfold ks
  rw [List.mem_map]
  exact ⟨fun ⟨e, he, q⟩ => ⟨e, he, by rw [← q]; exact (g e he).1⟩, fun ⟨e, he, q⟩ => ⟨e, he, kOf_is q⟩⟩

/-- laid down, relaid if too full -/
theorem put_tail {g : Bool → Sem Unit} (hg : ∀ (b : Bool) (s₁ : Shared) (Q' : Unit → Shared → Prop), Q' () s₁ → wpAny (model P w) A (g b) Q' E s₁)
    {es1 : Array (Int × Value)} {t1 : SetTable} {L1 : List Key} (ho : s.heap.get? a = some o) (hex : o.ExactSet) (hd : o.data = .set es ep t)
    (g1 : ∀ e ∈ es1.toList, Ent w e) (pm1 : (ks es1.toList).Perm L1) (nd1 : L1.Nodup) (few1 : L1.length < 64) (hf : t1.fits es1.size = true) (hr : Ris t1.place.toList) (hl : w.params.followText "set-order" = true ∨ t1.led = true)
    {dummy : Bool} {R : Option Bool → Shared → Prop} (hR : ∀ h', Heap.SameBut a s.heap h' → Sp w h' a L1 → R (some true) { s with heap := h' }) :
    wpAny (model P w) A (do
        storeSet a es1 t1
        if (!dummy && t1.tooFull) = true then do
            g (relayAll t1 es1 (SetTable.grown es1.size)).2.2
            storeSet a (relayAll t1 es1 (SetTable.grown es1.size)).1 (relayAll t1 es1 (SetTable.grown es1.size)).2.1
            pure (some true)
          else pure (some true)) R E s := by
  have l1 : es1.size = L1.length := by
    have e := pm1.length_eq
    unfold ks at e
    rw [List.length_map, Array.length_toList] at e
    exact e
  have z1 : es1.size ≤ sizeLine := by rw [sizeLine_eq]; omega
  refine wpAny_bind (wpAny_storeSet_of ho hd ?_ z1)
  have o1 := store_at (es' := es1) (t' := t1) ho hd
  have b1 := Heap.SameBut.update s.heap a (Obj.putSet es1 t1)
  split
  · have q1 := relayAll_perm t1 es1 (SetTable.grown es1.size)
    have q2 := relayAll_fits t1 es1 (SetTable.grown es1.size)
    have q3 := relayAll_ris t1 es1 (SetTable.grown es1.size)
    have q4 := relayAll_led t1 es1 (SetTable.grown es1.size)
    generalize relayAll t1 es1 (SetTable.grown es1.size) = Z at q1 q2 q3 q4 ⊢
    obtain ⟨es2, t2, gone⟩ := Z
    dsimp only at q1 q2 q3 q4 ⊢
    have z2 : es2.size ≤ sizeLine := by
      rw [← Array.length_toList, q1.length_eq, Array.length_toList]
      exact z1
    refine wpAny_bind (hg _ _ _ ?_)
    refine wpAny_bind (wpAny_storeSet_of o1 rfl ?_ z2)
    have o2 := store_at (es' := es2) (t' := t2) o1 rfl
    exact wpAny_pure (hR _ (b1.trans (Heap.SameBut.update _ a _)) ⟨es2, _, t2, _, o2, hex, rfl, fun e he => g1 e (q1.mem_iff.mp he), (q1.map _).trans pm1, nd1, few1, q2, q3, hl.imp id fun z => by rw [q4]; exact z⟩)
  · exact wpAny_pure (hR _ b1 ⟨es1, _, t1, _, o1, hex, rfl, g1, pm1, nd1, few1, hf, hr, hl⟩)

theorem add_key {k : Key} {v : Value} {Q : Bool → Shared → Prop} (R : SpA w s.heap a L es ep t o) (hk : keyIs k v = true) (room : L.length + 1 < 64)
    (hQ : ∀ b h' L', Heap.SameBut a s.heap h' → Sp w h' a L' → (k ∈ L → L' = L) → (k ∉ L → L'.Perm (k :: L)) → Q b { s with heap := h' }) :
    wpAny (model P w) A (setAddHashed a v (keyH w k)) Q E s := by
  have hsc := scan_is hk
  have hel : ElemsOf (mixKind P w) es.toList := ent_elems R.ent
  unfold setAddHashed setAddHashedIn
  refine wpAny_holding (wpAny_bind (wpAny_setState_of R.ho R.hd R.fit ?_))
  dsimp only
  rw [byScan_of hsc R.bd hel]
  simp only [↓reduceIte]
  unfold setAddByScan
  refine wpAny_bind (wpAny_bind (wpAny_rule ?_))
  refine wpAny_bind (wpAny_setScan_of (knd := mixKind P w) (k := k) hk R.ho R.hd R.fit hel ?_)
  cases hfi : List.findIdx? (fun e => (mixKind P w).is k e.2) es.toList with
  | some j =>
    dsimp only
    obtain ⟨hj, pj, _⟩ := List.findIdx?_eq_some_iff_getElem.mp hfi
    have hin : k ∈ L := R.pm.mem_iff.mp ((mem_ks R.ent k).2 ⟨es.toList[j], List.getElem_mem hj, pj⟩)
    exact wpAny_pure (wpAny_pure (hQ false s.heap L (Heap.SameBut.refl a s.heap) ⟨es, ep, t, o, R⟩ (fun _ => rfl) fun z => absurd hin z))
  | none =>
    dsimp only
    have hno : k ∉ L := fun z => by
      obtain ⟨e, he, q⟩ := (mem_ks R.ent k).1 (R.pm.mem_iff.mpr z)
      have c := List.findIdx?_eq_none_iff.mp hfi e he
      rw [show (mixKind P w).is k e.2 = true from q] at c
      cases c
    have way : ∀ (b : Bool) {s₁ : Shared} {Q' : Unit → Shared → Prop}, Q' () s₁ → wpAny (model P w) A (match b with | true => rule "set.scan.the-table-gave-way" | false => pure ()) Q' E s₁ :=
      fun b s₁ Q' q => by cases b <;> first | exact wpAny_pure q | exact wpAny_rule q
    have q1 := layNew_perm t es (keyH w k) v
    have q2 := layNew_fits t es (keyH w k) v
    have q3 := layNew_ris t es (keyH w k) v R.ris
    have q4 := layNew_led t es (keyH w k) v
    generalize layNew t es (keyH w k) v = Z at q1 q2 q3 q4 ⊢
    obtain ⟨es1, t1, dummy, gone⟩ := Z
    dsimp only at q1 q2 q3 q4 ⊢
    rw [Array.toList_push] at q1
    have p1 : es1.toList.Perm ((keyH w k, v) :: es.toList) := q1.trans (List.perm_append_singleton _ _)
    have g1 : ∀ e ∈ es1.toList, Ent w e := fun e he => by
      rcases List.mem_cons.mp (p1.mem_iff.mp he) with z | z
      · subst z
        show keyIs (kOf v) v = true ∧ keyH w k = keyH w (kOf v)
        rw [kOf_is hk]
        exact ⟨hk, rfl⟩
      · exact R.ent e z
    have pk : (ks es1.toList).Perm (k :: L) := by
      refine (p1.map _).trans ?_
      rw [List.map_cons]
      show List.Perm (kOf v :: ks es.toList) (k :: L)
      rw [kOf_is hk]
      exact R.pm.cons k
    have nd1 : (k :: L).Nodup := List.nodup_cons.mpr ⟨hno, R.nd⟩
    have few1 : (k :: L).length < 64 := by rw [List.length_cons]; exact room
    have led1 : w.params.followText "set-order" = true ∨ t1.led = true := R.led.imp id fun z => by rw [q4]; exact z
    have fin : ∀ h', Heap.SameBut a s.heap h' → Sp w h' a (k :: L) → Q true { s with heap := h' } := fun h' sb r => hQ true h' _ sb r (fun z => absurd z hno) fun _ => List.Perm.refl _
    refine wpAny_bind (way _ ?_)
    split
    · refine wpAny_bind ?_
      rw [hashByValue_scannable 8 hsc]
      refine wpAny_pure ?_
      refine put_tail ?_ R.ho R.hex R.hd g1 pk nd1 few1 ?_ ?_ ?_ ?_
      · intro b s₁ Q' q; cases b <;> first | exact wpAny_pure q | exact wpAny_rule q
      · split <;> first | exact q2 | exact SetTable.fits_plain_off q2
      · split <;> exact q3
      · split <;> exact led1
      · intro h' sb r; dsimp only; exact wpAny_pure (fin h' sb r)
    · refine wpAny_bind (wpAny_pure ?_)
      simp only [↓reduceIte]
      refine put_tail ?_ R.ho R.hex R.hd g1 pk nd1 few1 q2 q3 led1 ?_
      · intro b s₁ Q' q; cases b <;> first | exact wpAny_pure q | exact wpAny_rule q
      · intro h' sb r; dsimp only; exact wpAny_pure (fin h' sb r)
end

theorem each_of {α : Type} {R : Value → α → Prop} {f : Value → α} : ∀ {vs : List Value}, (∀ v ∈ vs, R v (f v)) → PySem.W.EachIs R vs (vs.map f)
  | [], _ => .nil
  | v :: vs, h => .cons (h v List.mem_cons_self) (each_of fun u hu => h u (List.mem_cons_of_mem _ hu))
/-- ints and texts -/
def keyKit (P : Program) (w : World) : Kit P w Key Key where
  key := id
  mv := fun _ k v => keyIs k v = true
  sp := Sp w
  mvK := fun h _ => h
  spAt := fun R k => by
    obtain ⟨es, ep, t, o, R⟩ := R
    exact ⟨es, ep, t, o, { R with ho := k o R.ho }⟩
  spEx := fun R => by
    obtain ⟨es, ep, t, o, R⟩ := R
    exact ⟨o, R.ho, R.hex.1⟩
  spNd := fun R => by
    obtain ⟨es, ep, t, o, R⟩ := R
    rw [List.map_id]
    exact R.nd
  spFew := fun R => by
    obtain ⟨es, ep, t, o, R⟩ := R
    exact R.few
  fresh := fun ho => ⟨#[], 0, _, _, ho, ⟨rfl, rfl, rfl⟩, rfl, fun e he => by simp at he, List.Perm.refl _, List.nodup_nil, by decide, rfl, List.Pairwise.nil, by
    show _ ∨ (!w.params.followText "set-order") = true
    cases w.params.followText "set-order"
    · exact .inr rfl
    · exact .inl rfl⟩
  add := fun {A E s a L m v Q} R _ hk room _ hQ => by
    obtain ⟨es, ep, t, o, R⟩ := R
    unfold setAdd
    refine wpAny_holding (wpAny_bind ((mixKind P w).pyHash (k := m) hk ?_))
    refine add_key (s := { s with toks := s.toks + 1 }) R hk room fun b h' L' sb r c1 c2 => hQ b h' (s.toks + 1) L' sb (Nat.le_succ _) r (fun z => c1 ?_) fun z => c2 ?_
    · rw [List.map_id] at z
      exact z
    · rw [List.map_id] at z
      exact z
  col := fun {A E s a L Q} R _ hh hQ => by
    obtain ⟨es, ep, t, o, R⟩ := R
    refine collect_set hh ⟨o, R.ho, R.hex.1, R.hd⟩ R.fit R.bd R.ris R.led fun s' out k z g os pm => hQ s' out (out.map kOf) k z g os ?_ ?_
    · refine (pm.map kOf).trans ?_
      rw [List.map_map]
      exact R.pm
    · refine each_of fun v hv => ?_
      obtain ⟨e, he, q⟩ := List.mem_map.mp (pm.mem_iff.mp hv)
      rw [← q]
      exact (R.ent e he).1
end KS
set_option maxHeartbeats 3200000
/-! set(xs), sorted(set) over a Kit -/
namespace KS
open PySem PySem.Spec PyProof.Rows L2

/-- the object of a new set -/
def newObj0 (w : World) : Obj := { cls := .type "set", dict := none, data := .set #[] 0 (.fresh 0 0 (!w.params.followText "set-order")) }

section
variable {P : Program} {w : World} {μ κ : Type} (Z : Kit P w μ κ)
/-- L is what the first i of ms make -/
structure From (ms : List μ) (i : Nat) (L : List μ) : Prop where
  sub : ∀ m ∈ L, m ∈ ms.take i
  all : ∀ m ∈ ms.take i, Z.key m ∈ L.map Z.key
  len : L.length ≤ i
theorem From.start (ms : List μ) : From Z ms 0 [] := ⟨(fun m h => by cases h), (fun m h => by simp at h), Nat.le_refl _⟩
variable {Z}
theorem From.step {ms L L' : List μ} {i : Nat} {m : μ} (g : From Z ms i L) (h : ms[i]? = some m) (c1 : Z.key m ∈ L.map Z.key → L' = L) (c2 : Z.key m ∉ L.map Z.key → L'.Perm (m :: L)) : From Z ms (i + 1) L' := by
  have tk : ms.take (i + 1) = ms.take i ++ [m] := take_next h
  rcases Classical.em (Z.key m ∈ L.map Z.key) with c | c
  · rw [c1 c]
    refine ⟨fun x hx => by rw [tk]; exact List.mem_append_left _ (g.sub x hx), fun x hx => ?_, Nat.le_succ_of_le g.len⟩
    rw [tk] at hx
    rcases List.mem_append.mp hx with z | z
    · exact g.all x z
    · rw [List.mem_singleton.mp z]
      exact c
  · have pm := c2 c
    refine ⟨fun x hx => ?_, fun x hx => ?_, by rw [pm.length_eq, List.length_cons]; exact Nat.succ_le_succ g.len⟩
    · rw [tk]
      rcases List.mem_cons.mp (pm.mem_iff.mp hx) with e | z
      · exact List.mem_append_right _ (List.mem_singleton.mpr e)
      · exact List.mem_append_left _ (g.sub x z)
    · rw [(pm.map Z.key).mem_iff, List.map_cons]
      rw [tk] at hx
      rcases List.mem_append.mp hx with z | z
      · exact List.mem_cons_of_mem _ (g.all x z)
      · rw [List.mem_singleton.mp z]
        exact List.mem_cons_self
end

theorem each_get {α : Type} {R : Value → α → Prop} : ∀ {vs : List Value} {ms : List α} {i : Nat} {v : Value}, PySem.W.EachIs R vs ms → vs[i]? = some v → ∃ m, ms[i]? = some m ∧ R v m
  | _, _, _, _, .nil, e => by simp at e
  | _, _, 0, _, .cons r _, e => ⟨_, rfl, by rw [← Option.some.inj e]; exact r⟩
  | _, _, i + 1, v, .cons _ t, e => by
    obtain ⟨m, h1, h2⟩ := each_get (i := i) t (by simpa using e)
    exact ⟨m, by simpa using h1, h2⟩
theorem each_has {α : Type} {R : Value → α → Prop} : ∀ {vs : List Value} {ms : List α} {m : α}, PySem.W.EachIs R vs ms → m ∈ ms → ∃ v, R v m
  | _, _, _, .nil, h => by cases h
  | _, _, m, .cons r t, h => by
    rcases List.mem_cons.mp h with e | h
    · subst e
      exact ⟨_, r⟩
    · exact each_has t h
section
variable {P : Program} {w : World} {A : Around} {E : Value → Shared → Prop} {s : Shared} {μ κ : Type} (Z : Kit P w μ κ)
/-- the loop behind set(..) -/
theorem fill_loop {I : Addr} {fp wr : List Addr} {G : Array GenState → Array GenState → Prop} {n : Nat} {Pv : Nat → Value → Prop} {St : Nat → Shared → Prop} {R : Result → Shared → Prop}
    (W : WalksS P w A.in1 I fp wr G n Pv St) (S : Addr) (hS : S ∉ fp) (ms : List μ) (hn : n = ms.length) (few : ms.length < 64) (h0 : Heap) (hv : ∀ i v, Pv i v → ∃ m, ms[i]? = some m ∧ Z.mv h0 m v) (hm : ∀ m ∈ ms, ∃ v, Z.mv h0 m v)
    (hS0 : h0.get? S = none) (hw : ∀ b ∈ wr, h0.get? b = none) (hu : A.in1.units < cLine) :
    ∀ (k i : Nat) (s : Shared), n - i = k → i ≤ n → St i s → (∀ b o, h0.get? b = some o → s.heap.get? b = some o) → (∃ L, Z.sp s.heap S L ∧ From Z ms i L) →
      (∀ s' L, Moved (S :: wr) G s s' → Z.sp s'.heap S L → From Z ms n L → (∀ b o, h0.get? b = some o → s'.heap.get? b = some o) → R (.ok (.ret .none)) s') →
      codeAny (model P w) A (.builtin "set.update.loop"
                                                        ⟨[.ref S, .ref I], []⟩) R s := by
  have hSw : S ∉ wr := fun h => hS (W.sub _ h)
  have wider : ∀ b ∈ wr, b ∈ S :: wr := fun b hb => List.mem_cons_of_mem _ hb
  have stay : ∀ {s s' : Shared}, Moved wr G s s' → (∀ b o, h0.get? b = some o → s.heap.get? b = some o) → ∀ b o, h0.get? b = some o → s'.heap.get? b = some o := fun q kp b o e =>
    q.heap b o (fun hb => by rw [hw b hb] at e; cases e) (kp b o e)
  intro k
  induction k with
  | zero =>
    intro i s hk hi st kp ⟨L, sp, g⟩ hR
    obtain rfl : i = n := by omega
    refine codeAny_builtin F.entry_set_update_loop ?_
    rw [Around.under_plainId F.plain_set_update_loop _]
    show wpAny _ A.in1 (pyNext (.ref I) >>= _) _ _ s
    refine wpAny_bind (W.done s _ _ st fun s' mv => ?_)
    exact wpAny_pure (hR s' L (mv.mono wider) (Z.spAt sp fun o e => mv.heap S o hSw e) g (stay mv kp))
  | succ k ih =>
    intro i s hk hi st kp ⟨L, sp, g⟩ hR
    have lt : i < n := by omega
    refine codeAny_builtin F.entry_set_update_loop ?_
    rw [Around.under_plainId F.plain_set_update_loop _]
    show wpAny _ A.in1 (pyNext (.ref I) >>= _) _ _ s
    refine wpAny_bind (W.item i s _ _ lt st fun v s1 pv st1 mv => ?_)
    obtain ⟨m, em, vm⟩ := hv i v pv
    have kp1 := stay mv kp
    have sp1 : Z.sp s1.heap S L := Z.spAt sp fun o e => mv.heap S o hSw e
    show wpAny _ A.in1 (holding [v] (setAdd S v) >>= _) _ _ s1
    refine wpAny_bind (wpAny_holding ?_)
    refine Z.add sp1 (fun x hx => ?_) (Z.mvK vm kp1) (by have := g.len; omega) hu fun b h2 tk L' sb ht sp2 c1 c2 => ?_
    · obtain ⟨u, hu⟩ := hm x (List.mem_of_mem_take (g.sub x hx))
      exact ⟨u, Z.mvK hu kp1⟩
    · have kp2 : ∀ b o, h0.get? b = some o → h2.get? b = some o := fun b o e => (sb.2 b (fun z => by rw [z, hS0] at e; cases e)).trans (kp1 b o e)
      refine wpAny_pure ⟨plainId_quiet F.plain_set_update_loop _, ih (i + 1) _ (by omega) lt (W.frame _ s1 _ _ st1 ht fun c hc o e => ?_) kp2 ⟨L', sp2, g.step em c1 c2⟩ fun s3 L3 mv3 sp3 g3 kp3 => ?_⟩
      · rw [sb.2 c (fun h : c = S => hS (by rw [← h]; exact hc))]
        exact e
      · refine hR s3 L3 (Moved.trans W.gtrans ((mv.mono wider).then_heap ht fun c o hc e => ?_) mv3) sp3 g3 kp3
        rw [sb.2 c (fun h : c = S => hc (by rw [h]; exact List.mem_cons_self))]
        exact e

/-- set(xs), xs a list -/
theorem call_set {l : Addr} {items : Array Value} (ms : List μ) {Q : Value → Shared → Prop} (hh : A.handled = none) (hl : s.heap.IsList l items) (hi : PySem.W.EachIs (fun v m => Z.mv s.heap m v) items.toList ms)
    (few : ms.length < 64) (hu : A.units + 3 < cLine)
    (h : ∀ (h' : Heap) (tk : Nat) L, Z.sp h' s.heap.objs.size L → From Z ms ms.length L → (∀ b o, s.heap.get? b = some o → h'.get? b = some o) → Q (.ref s.heap.objs.size) { s with heap := h', toks := tk }) :
    wpAny (model P w) A (call
                              (.type "set") [.ref l]) Q E s := by
  have sz : items.size = ms.length := by
    have q := hi.length
    rw [Array.length_toList] at q
    exact q
  obtain ⟨c, tl, hmro⟩ := F.called_set.mro
  have hmade := F.called_set.made
  have hsub := F.called_set.sub
  refine wpAny_call (codeAny_of_tree ?_)
  show wpAny _ _ (callAny (.type "set") _) _ _ _
  refine wpAny_pure ⟨Code.quiet_builtin _
                                          (by decide +kernel), codeAny_builtin F.entry_type_call ?_⟩
  rw [Around.under_plain
                         (weight_type_call_type "set" [.ref l] []) rfl]
  have h1 := F.called_set.notType
  have h2 := F.called_set.canCreate
  have hct := F.typeCall_set_1 (.ref l)
  repeat (any_goals (first | assumption | wp_step))
  refine codeAny_mono (code_set_led1 (.ref l) (E := E) (Q₁ := fun obj s₁ => obj = .ref s.heap.objs.size ∧ s₁ = { s with heap := s.heap.push (newObj0 w) }) ⟨rfl, rfl⟩) fun r s₁ hr => ?_
  cases r with
  | error e => exact hr
  | ok fl =>
    cases fl with
    | ret obj =>
      obtain ⟨rfl, rfl⟩ := hr
      have hS : (s.heap.push (newObj0 w)).get? s.heap.objs.size = some (newObj0 w) := Heap.get?_push_size _ rfl
      have hT : Shared.TypeIs { s with heap := s.heap.push (newObj0 w) } (.ref s.heap.objs.size) "set" := ⟨_, hS, rfl⟩
      have hli := F.called_set.init.lookup
      have hbi := F.called_set.init.bind (.ref s.heap.objs.size)
      repeat (any_goals (first | assumption | wp_step))
      refine codeAny_mono (codeAny_call_builtin (R := wants (fun r s₂ => r = .none ∧ ∃ h' tk L, s₂ = { s with heap := h', toks := tk } ∧ Z.sp h' s.heap.objs.size L ∧ From Z ms ms.length L ∧
          (∀ b o, s.heap.get? b = some o → h'.get? b = some o)) E) F.called_set.init.plain F.entry_set_init
                                                                                                            (check_set_init_1 hT ?_)) fun r₂ s₂ hr₂ => ?_
      · obtain ⟨ol, hol, hcl, nl, hdl⟩ := hl
        obtain ⟨ocls, odict, odata, oslots⟩ := ol
        simp only at hcl hdl
        subst hcl; subst hdl
        have hol' : (s.heap.push (newObj0 w)).get? l = some { cls := .type "list", dict := odict, data := .seq items nl, slots := oslots } := Heap.get?_push_of_some _ hol
        have hsls := F.sub_list_set
        have hslf := F.sub_list_frozenset
        have hne :
                   (Value.type "list" == Value.type "dict") = false := by decide
        have hl1 : (s.heap.push (newObj0 w)).IsList l items := ⟨_, hol', rfl, nl, rfl⟩
        unfold Builtin.«set.__init__» noKeywords Builtin.Frozenset.updateFrom
        generalize hPI : pyIter = PI
        wp_walk
        subst hPI
        refine wpAny_pyIter_list hl1 ?_
        refine wpAny_bind (wpAny_runValue ?_)
        have lS : l < s.heap.objs.size := Heap.lt_size hol
        have hh3 : A.in1.in1.in1.handled = none := by simp [hh]
        have z1 : (s.heap.push (newObj0 w)).objs.size = s.heap.objs.size + 1 := Heap.size_push ..
        have neI : l ≠ (s.heap.push (newObj0 w)).objs.size := by
          rw [z1]
          exact Nat.ne_of_lt (Nat.lt_succ_of_lt lS)
        have nS : s.heap.objs.size ∉ [(s.heap.push (newObj0 w)).objs.size, l] := by
          rw [z1]
          simp only [List.mem_cons, List.mem_singleton, List.not_mem_nil, or_false, not_or]
          exact ⟨Nat.ne_of_lt (Nat.lt_succ_self _), Nat.ne_of_gt lS⟩
        have vals : ∀ (i : Nat) (v : Value), items[i]? = some v → ∃ m, ms[i]? = some m ∧ Z.mv s.heap m v := fun i v hv => each_get hi (by rw [Array.getElem?_toList]; exact hv)
        have out : ∀ b, s.heap.objs.size ≤ b → s.heap.get? b = none := fun b hb => by
          cases q : s.heap.get? b with
          | none => rfl
          | some o => exact absurd (Nat.lt_of_lt_of_le
                                                       (Heap.lt_size q) hb) (Nat.lt_irrefl _)
        refine fill_loop Z ((Walks.list hh3 _ l neI items).toS) s.heap.objs.size nS ms sz few s.heap vals (fun m hm => each_has hi hm) (out _ (Nat.le_refl _))
          (fun b hb => out b (by rw [List.mem_singleton.mp hb, z1]; exact Nat.le_succ _)) hu (items.size - 0) 0 _ (by omega) (Nat.zero_le _)
          ⟨⟨_, Heap.get?_push_size _ rfl, rfl, rfl⟩, (hl1.push _)⟩ (fun b o e => Heap.get?_push_of_some _ (Heap.get?_push_of_some _ e)) ⟨[], Z.fresh (Heap.get?_push_of_some _ hS), From.start Z ms⟩ ?_
        intro s3 L mv sp g kp
        obtain ⟨h3, g3, d3, tk3, os3⟩ := s3
        have eg : g3 = s.gens := mv.gens
        have ed : d3 = s.drawn := mv.drawn
        have eo : os3 = s.os := mv.os
        subst eg; subst ed; subst eo
        rw [sz] at g
        exact wpAny_pure (wpAny_pure ⟨rfl, h3, tk3, L, rfl, sp, g, kp⟩)
      · cases r₂ with
        | error e => exact hr₂
        | ok fl₂ =>
          cases fl₂ with
          | ret r =>
            obtain ⟨rfl, h', tk, L, rfl, sp, g, kp⟩ := hr₂
            repeat (any_goals (first | assumption | wp_step))
            exact h _ _ _ sp g kp
          | _ => exact hr₂.elim
    | _ => exact hr.elim
end
end KS
set_option maxHeartbeats 3200000
/-! sorted(set) over a Kit -/
namespace KS
open PySem PySem.Spec PyProof.Rows L2
section
variable {P : Program} {w : World} {A : Around} {E : Value → Shared → Prop} {s : Shared} {μ κ : Type} (Z : Kit P w μ κ)
theorem each_reads {enc : μ → PyData} {h h' : Heap} {a : Addr} (rd : ∀ {h : Heap} {m : μ} {v : Value}, Z.mv h m v → Reads h v (enc m) []) (k : ∀ b o, h.get? b = some o → h'.get? b = some o) :
    ∀ {vs : List Value} {ms : List μ}, PySem.W.EachIs (fun v m => Z.mv h m v) vs ms → PySem.W.EachIs (fun v b => ∃ as, Reads h' v (enc b) as ∧ a ∉ as) vs ms
  | _, _, .nil => .nil
  | _, _, .cons r t => .cons ⟨[], rd (Z.mvK r k), by simp⟩ (each_reads rd k t)
/-- sorted(set) -/
theorem sorted_kit {a : Addr} {L : List μ} {enc : μ → PyData} {Q : Value → Shared → Prop} (rd : ∀ {h : Heap} {m : μ} {v : Value}, Z.mv h m v → Reads h v (enc m) []) (R : Z.sp s.heap a L) (hm : ∀ m ∈ L, ∃ v, Z.mv s.heap m v) (hh : A.handled = none)
    (hal : PySem.W.AllAlike (L.map enc)) (hk : PySem.W.Sortable (L.map enc)) (hu : ∀ m ∈ L, A.in1.units + 1 + (enc m).depth < cLine)
    (hQ : ∀ s' p (out : Array Value) (c : Nat) (L1 : List μ), (∀ b o, s.heap.get? b = some o → s'.heap.get? b = some o) → s'.gens = s.gens → s'.os = s.os → s.heap.objs.size ≤ p →
      s'.heap.get? p = some (seqObj "list" out c) → L1.Perm L → PySem.W.EachIs (fun v m => Z.mv s.heap m v) out.toList (L1.mergeSort (PySem.W.dataLe false enc)) → Q (.ref p) s') :
    wpAny (model P w) A (call
                              (.builtin "sorted") [.ref a]) Q E s := by
  have few := Z.spFew R
  refine Calls.call_function_entry kind_sorted plain_sorted entry_sorted
                                                                         (args_sorted1 _) ?_
  unfold Builtin.«sorted»
  refine wpAny_bind
                    (m := checkCount "sorted" 1 1 _) (wpAny_pure ?_)
  refine wpAny_bind (Z.col (A := A.in1) R hm hh fun s1 vs L1 k1 hz g1 o1 pm ei => ?_)
  have len : vs.length = L1.length := ei.length
  have small : vs.length < 64 := by
    rw [len, pm.length_eq]
    exact few
  refine wpAny_bind (wpAny_newList ?_
                                      (by rw [sizeLine_eq]; omega))
  have hoL : (s1.heap.push (seqObj "list" vs.toArray 0)).get? s1.heap.objs.size = some
                                                                                       (seqObj "list" vs.toArray 0) := Heap.get?_push_size _ rfl
  have kk : ∀ b o, s.heap.get? b = some o → (s1.heap.push (seqObj "list" vs.toArray 0)).get? b = some o := fun b o e => Heap.get?_push_of_some _ (k1 b o e)
  have al1 : PySem.W.AllAlike (L1.map enc) := fun d hd d' hd' => hal d ((pm.map enc).mem_iff.mp hd) d' ((pm.map enc).mem_iff.mp hd')
  have so1 : PySem.W.Sortable (L1.map enc) := hk.imp (fun q d hd => q d ((pm.map enc).mem_iff.mp hd)) fun q d hd => q d ((pm.map enc).mem_iff.mp hd)
  refine wpAny_bind (wpAny_holding (PySem.W.list_sort_data (s := { s1 with heap := s1.heap.push (seqObj "list" vs.toArray 0) }) (R := fun v m => Z.mv s.heap m v) hoL ei (each_reads Z rd kk ei) al1 so1 (by rw [← len, sizeLine_eq]; omega) (fun m hm => hu m (pm.mem_iff.mp hm)) fun out e1 e2 => ?_))
  obtain ⟨c, hc⟩ := sortedHeap_at (vs := vs) (out := out.toArray) hoL
  refine wpAny_pure ⟨_, rfl, hQ _ s1.heap.objs.size out.toArray c L1 (fun b u e => ?_) g1 o1 hz hc pm (by simpa using e2)⟩
  have lt := Heap.lt_size e
  show (sortedHeap (s1.heap.push (seqObj "list" vs.toArray 0)) s1.heap.objs.size vs out.toArray).get? b = some u
  rw [sortedHeap_old (Nat.ne_of_lt (Nat.lt_of_lt_of_le lt hz)) (by rw [size_push']; exact Nat.lt_succ_of_lt (Nat.lt_of_lt_of_le lt hz))]
  exact kk b u e
end
end KS
set_option maxHeartbeats 3200000
/-! sets of tuples whose items are ints and texts -/
namespace KS
open PySem PySem.Spec PyProof.Rows L2

abbrev HT (P : Program) (w : World) (k : List Key) : Int := tupleKeyHash (mixKind P w) k
abbrev TpK (P : Program) (w : World) (h : Heap) (k : List Key) (b : Addr) : Prop := IsTupleKey (mixKind P w) h k b
abbrev Mem := Addr × List Key
def hs (P : Program) (w : World) (L : List Mem) : List Int := L.map fun p => HT P w p.2
def rws (P : Program) (w : World) (L : List Mem) : List (Int × Value) := L.map fun p => (HT P w p.2, Value.ref p.1)

section
variable {P : Program} {w : World} {A : Around}
                                                {E : Value → Shared → Prop} {s : Shared}
theorem items_key {k : List Key} {vs : List Value} (h : ItemsAre (mixKind P w) k vs) : ∀ v ∈ vs, ∃ q, keyIs q v = true := by
  induction h with
  | nil => intro v hv; cases hv
  | cons h1 _ ih =>
    intro v hv
    rcases List.mem_cons.mp hv with e | hv
    · rw [e]
      exact ⟨_, h1⟩
    · exact ih v hv
theorem noClass (n : Nat) {q : Key} {v : Value} (h : keyIs q v = true) : ofAClassStatement n v = pure false := by
  rcases keyIs_shape h with ⟨i, t, rfl, rfl⟩ | ⟨x, t, rfl, rfl⟩ <;> cases n <;> rfl
theorem byVal (n : Nat) {q : Key} {v : Value} (h : keyIs q v = true) : ∃ b, hashByValue n v = pure b := by
  rcases keyIs_shape h with ⟨i, t, rfl, rfl⟩ | ⟨x, t, rfl, rfl⟩ <;> cases n <;> exact ⟨_, rfl⟩
theorem tup_noClass {k : List Key} {b : Addr} {Q : Bool → Shared → Prop} (hk : TpK P w s.heap k b) (h : Q false s) : wpAny (model P w) A (ofAClassStatement 8 (.ref b)) Q E s := by
  have hT := hk.typeIs
  obtain ⟨o, its, n, ho, _, hd, hi⟩ := hk
  unfold ofAClassStatement
  refine wpAny_bind (wpAny_typeOf hT ?_)
  dsimp only
  have e : (("tuple" : String) == "tuple") = true := by decide
  simp only [e, if_true, Bool.not_true, Bool.false_eq_true, if_false]
  try refine wpAny_bind (wpAny_pure ?_)
  try simp only [Bool.not_true, Bool.false_eq_true, if_false]
  show wpAny _ _ (seqItems? (.ref b) >>= _) _ _ s
  refine wpAny_bind (wpAny_seqItems ho hd ?_)
  dsimp only
  refine wpAny_bind ?_
  show wpAny _ _ (forIn its _ _) _ _ s
  rw [← Array.forIn_toList]
  refine wpAny_forIn_list _ (fun rest r s' => r.1 = none ∧ s' = s ∧ ∀ v ∈ rest, ∃ q, keyIs q v = true) _ ?_ ?_ _ _ ⟨rfl, rfl, items_key hi⟩
  · rintro v rest r s' ⟨hr, rfl, all⟩
    obtain ⟨q, hq⟩ := all v List.mem_cons_self
    rw [noClass _ hq]
    refine wpAny_bind (wpAny_pure ?_)
    simp only [Bool.false_eq_true, if_false]
    exact wpAny_pure ⟨rfl, rfl, fun u hu' => all u (List.mem_cons_of_mem _ hu')⟩
  · rintro ⟨r1, r2⟩ s' ⟨hr, rfl, _⟩
    simp only at hr
    subst hr
    exact wpAny_pure h
theorem tup_byVal {k : List Key} {b : Addr} {Q : Bool → Shared → Prop} (hk : TpK P w s.heap k b) (h : ∀ z, Q z s) : wpAny (model P w) A (hashByValue 8 (.ref b)) Q E s := by
  have hT := hk.typeIs
  obtain ⟨o, its, n, ho, _, hd, hi⟩ := hk
  unfold hashByValue
  refine wpAny_bind
                    (wpAny_specialOf hT F.slot_tuple_hash.lookup ?_)
  show wpAny _ _ (seqItems? (.ref b) >>= _) _ _ s
  refine wpAny_bind (wpAny_seqItems ho hd ?_)
  refine wpAny_bind ?_
  show wpAny _ _ (forIn its _ _) _ _ s
  rw [← Array.forIn_toList]
  refine wpAny_forIn_list _ (fun rest r s' => r.1 = none ∧ s' = s ∧ ∀ v ∈ rest, ∃ q, keyIs q v = true) _ ?_ ?_ _ _ ⟨rfl, rfl, items_key hi⟩
  · rintro v rest r s' ⟨hr, rfl, all⟩
    obtain ⟨q, hq⟩ := all v List.mem_cons_self
    obtain ⟨z, e⟩ := byVal 7 hq
    rw [e]
    refine wpAny_bind (wpAny_pure ?_)
    cases z with
    | true =>
      simp only [Bool.not_true, Bool.false_eq_true, if_false]
      exact wpAny_pure ⟨rfl, rfl, fun u hu' => all u (List.mem_cons_of_mem _ hu')⟩
    | false =>
      simp only [Bool.not_false, if_true]
      exact wpAny_pure (wpAny_pure (h _))
  · rintro ⟨r1, r2⟩ s' ⟨hr, rfl, _⟩
    simp only at hr
    subst hr
    exact wpAny_pure (h _)
/-- comparing tuples shows nothing -/
theorem tup_unseen {k : List Key} {b : Addr} {Q : Bool → Shared → Prop} (hk : TpK P w s.heap k b) {ys : List Value} (hy : ∀ y ∈ ys, ∃ k' c, y = Value.ref c ∧ TpK P w s.heap k' c) (h : Q false s) :
    wpAny (model P w) A (searchCouldBeSeen
                                           (.ref b) ys) Q E s := by
  unfold searchCouldBeSeen
  refine wpAny_bind ?_
  refine wpAny_forIn_list _ (fun rest r s' => r.1 = none ∧ s' = s ∧ ∀ y ∈ rest, ∃ k' c, y = Value.ref c ∧ TpK P w s.heap k' c) _ ?_ ?_ _ _ ⟨rfl, rfl, hy⟩
  · rintro v rest r s' ⟨hr, rfl, all⟩
    obtain ⟨k', c, rfl, hc⟩ := all v List.mem_cons_self
    have more : ∀ y ∈ rest, ∃ k' c, y = Value.ref c ∧ TpK P w s'.heap k' c := fun u hu' => all u (List.mem_cons_of_mem _ hu')
    dsimp only
    by_cases hv : (b == c || (carriedByValue
                                             (.ref b) && carriedByValue (.ref c))) = true
    · exact wp_if_pos hv (wpAny_pure ⟨rfl, rfl, more⟩)
    · refine wp_if_neg hv (wpAny_bind (wpAny_eqIsQuiet_tuple hk ?_))
      simp only [Bool.not_true, Bool.false_eq_true, if_false]
      refine wpAny_bind (wpAny_eqIsQuiet_tuple hc ?_)
      simp only [Bool.not_true, Bool.false_eq_true, if_false]
      refine wpAny_bind (tup_noClass hk ?_)
      simp only [Bool.false_eq_true, if_false]
      refine wpAny_bind (tup_noClass hc ?_)
      simp only [Bool.false_eq_true, if_false]
      exact wpAny_pure ⟨rfl, rfl, more⟩
  · rintro ⟨r1, r2⟩ s' ⟨hr, rfl, _⟩
    simp only at hr
    subst hr
    exact wpAny_pure h
end

/-! ### the table -/
structure SpT (P : Program) (w : World) (h : Heap) (a : Addr) (L : List Mem) (es : Array (Int × Value)) (ep : Nat) (t : SetTable) (o : Obj) : Prop where
  ho : h.get? a = some o
  hex : o.ExactSet
  hd : o.data = .set es ep t
  rows : es.toList = rws P w L
  tab : TabOk t (hs P w L)
  nd : (L.map (·.2)).Nodup
  led : w.params.followText "set-order" = true ∨ t.led = true
  room : L.length * 5 < t.mask * 3
  few : L.length < 64
section
variable {P : Program} {w : World} {A : Around} {E : Value → Shared → Prop} {s : Shared} {a : Addr} {L : List Mem} {es : Array (Int × Value)} {ep : Nat} {t : SetTable} {o : Obj}
theorem rws_len {es : Array (Int × Value)} {L : List Mem} (h : es.toList = rws P w L) : es.size = L.length := by
  have e := congrArg List.length h
  unfold rws at e
  rw [Array.length_toList, List.length_map] at e
  exact e
theorem hs_len (L : List Mem) : (hs P w L).length = L.length := List.length_map _
theorem fits_of {t : SetTable} {n : Nat} (hz : t.place.size = n) (hd : t.dummies = #[]) (hn : n ≤ t.mask) : t.fits n = true := by
  unfold SetTable.fits SetTable.fill
  rw [hd, Bool.and_eq_true, beq_iff_eq, decide_eq_true_eq]
  show t.place.size = n ∧ t.place.size + 0 ≤ t.mask
  omega
theorem SpT.fit {h : Heap} (R : SpT P w h a L es ep t o) : t.fits es.size = true := by
  have e := R.tab.sz
  rw [hs_len] at e
  have f := rws_len R.rows
  have g := R.room
  exact fits_of (by omega) R.tab.dm (by omega)
theorem SpT.at_ {h : Heap} (R : SpT P w h a L es ep t o) {i : Nat} {p : Mem} (e : L[i]? = some p) : es[i]? = some (HT P w p.2, Value.ref p.1) := by
  rw [← Array.getElem?_toList, R.rows]
  unfold rws
  rw [List.getElem?_map, e] <;> rfl
/-- the c-th step of a search -/
abbrev stp (t : SetTable) (h : Int) (c : Nat) : SetTable.Probe := nth t.mask (runAt t.mask (SetTable.bits h % (t.mask + 1)) (SetTable.bits h)) c
theorem stp_dm (t : SetTable) (h : Int) (c : Nat) : (stp t h c).dummy = none := by
  have key : ∀ (n : Nat) (p : SetTable.Probe), p.dummy = none →
                                                                (nth t.mask p n).dummy = none := by
    intro n
    induction n with
    | zero => intro p h; exact h
    | succ n ih =>
      intro p h
      refine ih (adv t.mask p) ?_
      unfold adv
      split <;> exact h
  exact key c _ rfl
theorem stp_add (t : SetTable) (h : Int) (c q : Nat) : nth t.mask (stp t h c) q = stp t h (c + q) := (nth_add t.mask c _ q).symm

/-- the search, from the c-th step on -/
theorem seek (R : SpT P w s.heap a L es ep t o) (tup : ∀ p ∈ L, TpK P w s.heap p.2 p.1) {x : Addr} {k : List Key} (hx : TpK P w s.heap k x) (hu : A.units < cLine) {K : Nat} (hKf : K < 10 * SetTable.turns t.mask)
    (hK : way t.mask (HT P w k) K ∉ t.place.toList) (hKb : ∀ c, c < K → way t.mask (HT P w k) c ∈ t.place.toList) {Q : SetFound → Shared → Prop}
    (hin : k ∈ L.map (·.2) → Q (.there none) s) (hout : k ∉ L.map (·.2) → Q (.free (way t.mask (HT P w k) K) false) s) :
    ∀ (f c : Nat) (stand : Option SetTable.Probe), stand.getD (t.probeStart (HT P w k)) = stp t (HT P w k) c → c ≤ K → K - c < f →
      (∀ (i : Nat) p, L[i]? = some p → p.2 = k → ∃ c', c ≤ c' ∧ c' < K ∧ t.place.toList[i]? = some (way t.mask (HT P w k) c')) →
      wpAny (model P w) A (setSearchFrom a (.ref x) (HT P w k) true f stand) Q E s
  | 0, c, stand, _, _, hf, _ => absurd hf (Nat.not_lt_zero _)
  | f + 1, c, stand, hst, hc, hf, hre => by
    have gw : ¬ t.gaveWay = true := by
      unfold SetTable.gaveWay
      rw [mask_odd R.tab.mok]
      decide
    rw [setSearchFrom_succ]
    refine wpAny_bind (wpAny_setState_of R.ho R.hd R.fit ?_)
    dsimp only
    refine wp_if_neg gw ?_
    try refine wpAny_bind (wpAny_pure ?_)
    have wj : ∀ q, (nth t.mask (stp t (HT P w k) c) q).j = way t.mask (HT P w k) (c + q) := fun q => congrArg SetTable.Probe.j (stp_add t _ c q)
    have hash_at : ∀ (i : Nat) p, L[i]? = some p → (es[i]?.map (·.1)).getD 0 = HT P w p.2 := fun i p hp => by
      rw [R.at_ hp] <;> rfl
    have spec := go_spec t R.tab.ris R.tab.dm (fun i => (es[i]?.map (·.1)).getD 0) (HT P w k) (10 * SetTable.turns t.mask) (K - c) _ (stp_dm t (HT P w k) c) (by omega)
      (fun q hq => by rw [wj]; exact hKb (c + q) (by omega)) (by rw [wj, show c + (K - c) = K by omega]; exact hK)
    rcases spec with ⟨q, i, hq, hi, hh, hno, hpr⟩ | ⟨hno, hpr⟩
    · have met : t.probe (fun i => (es[i]?.map (·.1)).getD 0) (HT P w k) (stand.getD (t.probeStart (HT P w k))) = some (.candidate (way t.mask (HT P w k) (c + q)) i (stp t (HT P w k) (c + (q + 1)))) := by
        rw [hst, ← wj, ← stp_add]
        exact hpr
      rw [met]
      dsimp only
      rw [wj] at hi
      have hil : i < L.length := by
        have h1 : i < t.place.toList.length :=
                                               (List.getElem?_eq_some_iff.mp hi).1
        have h2 := R.tab.sz
        rw [hs_len] at h2
        rw [Array.length_toList] at h1
        omega
      obtain ⟨p, hp⟩ : ∃ p, L[i]? = some p := ⟨_, List.getElem?_eq_getElem hil⟩
      have pm : p ∈ L := List.mem_of_getElem? hp
      have rest : wpAny (model P w) A (searchRest a (.ref x) (HT P w k) true f es t (way t.mask (HT P w k) (c + q)) i (stp t (HT P w k) (c + (q + 1)))) Q E s := by
        unfold searchRest
        rw [R.at_ hp]
        dsimp only
        refine wpAny_bind (wpAny_holding (wpAny_eqBool_tuple hu (tup p pm) hx ?_))
        refine wpAny_bind (wpAny_setState_of R.ho R.hd R.fit ?_)
        dsimp only
        by_cases same : p.2 = k
        · exact wp_if_pos (by simp [same]) (wpAny_pure (hin (List.mem_map.mpr ⟨p, pm, same⟩)))
        · refine wp_if_neg (by simp [same]) ?_
          try refine wpAny_bind (wpAny_pure ?_)
          rw [sameMem]
          dsimp only
          have here : t.slot (way t.mask (HT P w k) (c + q)) = .live i := slot_live R.tab.ris hi
          simp only [if_true, here, R.at_ hp]
          refine wpAny_bind (wpAny_isSame_ref_self
                                                   (wpAny_bind (wpAny_pure ?_)))
          simp only [if_true]
          refine wp_if_neg (by simp [same]) ?_
          refine seek R tup hx hu hKf hK hKb hin hout f (c + (q + 1)) _ rfl (by omega) (by omega) fun i0 p0 h0 k0 => ?_
          obtain ⟨c', a1, a2, a3⟩ := hre i0 p0 h0 k0
          refine ⟨c', ?_, a2, a3⟩
          -- it has not been passed: neither before the candidate nor at it
          rcases Nat.lt_trichotomy c' (c + q) with z | z | z
          · exact absurd ((hash_at i0 p0 h0).trans (congrArg (HT P w) k0)) (hno (c' - c) i0 (by omega) (by rw [wj, show c + (c' - c) = c' by omega]; exact a3))
          · rw [z] at a3
            have e0 := slot_live R.tab.ris a3
            rw [here] at e0
            injection e0 with e0
            rw [← e0, hp] at h0
            exact absurd ((congrArg Prod.snd (Option.some.inj h0)).trans k0) same
          · omega
      by_cases hl : t.led = true
      · refine wp_if_neg (by simp [hl]) ?_
        try refine wpAny_bind (wpAny_pure ?_)
        exact rest
      · refine wp_if_pos (by simp [hl]) ?_
        refine wpAny_bind (tup_unseen hx (fun y hy => ?_) ?_)
        · obtain ⟨e, he, ee⟩ := List.mem_map.mp hy
          have he1 : e ∈ es ∧ e.1 = HT P w k := by simpa using he
          have he2 : e ∈ es.toList := by simpa using he1.1
          rw [R.rows] at he2
          obtain ⟨p2, m2, e2⟩ := List.mem_map.mp he2
          exact ⟨p2.2, p2.1, by rw [← ee, ← e2], tup p2 m2⟩
        · refine wp_if_neg (by decide) ?_
          try refine wpAny_bind (wpAny_pure ?_)
          exact rest
    · have met : t.probe (fun i => (es[i]?.map (·.1)).getD 0) (HT P w k) (stand.getD (t.probeStart (HT P w k))) = some (.empty (way t.mask (HT P w k) K) none) := by
        have e2 : way t.mask (HT P w k) K = (nth t.mask (stp t (HT P w k) c) (K - c)).j := by
          rw [wj, show c + (K - c) = K by omega]
        rw [hst, e2]
        exact hpr
      rw [met]
      dsimp only
      refine wpAny_pure (hout fun hm => ?_)
      obtain ⟨p0, m0, k0⟩ := List.mem_map.mp hm
      obtain ⟨i0, l0, e0⟩ := List.getElem_of_mem m0
      have h0 : L[i0]? = some p0 := by rw [List.getElem?_eq_getElem l0, e0]
      obtain ⟨c', a1, a2, a3⟩ := hre i0 p0 h0 k0
      exact absurd ((hash_at i0 p0 h0).trans (congrArg (HT P w) k0)) (hno (c' - c) i0 (by omega) (by rw [wj, show c + (c' - c) = c' by omega]; exact a3))
theorem seek0 (R : SpT P w s.heap a L es ep t o) (tup : ∀ p ∈ L, TpK P w s.heap p.2 p.1) {x : Addr} {k : List Key} (hx : TpK P w s.heap k x) (hu : A.units < cLine) {Q : SetFound → Shared → Prop}
    (hin : k ∈ L.map (·.2) → Q (.there none) s)
    (hout : ∀ K, k ∉ L.map (·.2) → way t.mask (HT P w k) K ∉ t.place.toList → (∀ c, c < K → way t.mask (HT P w k) c ∈ t.place.toList) → Q (.free (way t.mask (HT P w k) K) false) s) :
    wpAny (model P w) A (setSearch a (.ref x) (HT P w k) true) Q E s := by
  have hroom := R.room
  obtain ⟨K, f1, f2, f3⟩ := R.tab.first (by rw [hs_len]; omega) (HT P w k)
  have big : 10 * SetTable.turns t.mask ≤ 1420 := by
    unfold SetTable.turns
    rcases R.tab.mok with e | e | e <;> omega
  unfold setSearch
  refine seek R tup hx hu f1 f2 f3 hin (fun hn => hout K hn f2 f3) 100000 0 none rfl (Nat.zero_le _) (by omega) fun i p hp hk => ?_
  have hi : (hs P w L)[i]? = some (HT P w k) := by
    unfold hs
    rw [List.getElem?_map, hp, ← hk] <;> rfl
  have lt : i < t.place.toList.length := by
    have h1 : i < L.length :=
                              (List.getElem?_eq_some_iff.mp hp).1
    have h2 := R.tab.sz
    rw [hs_len] at h2
    rw [Array.length_toList]
    omega
  obtain ⟨c, hc, e⟩ := R.tab.before f2 hi (List.getElem?_eq_getElem lt)
  exact ⟨c, Nat.zero_le _, hc, by rw [List.getElem?_eq_getElem lt, e]⟩
end
end KS
set_option maxHeartbeats 3200000
namespace KS
open PySem PySem.Spec PyProof.Rows L2

section
variable {P : Program} {w : World} {A : Around} {E : Value → Shared → Prop} {s : Shared} {a : Addr} {L : List Mem} {es : Array (Int × Value)} {ep : Nat} {t : SetTable} {o : Obj}
/-- a tuple is not the set that changes -/
theorem tt_same {h h' : Heap} {k : List Key} {b : Addr} (x : TpK P w h k b) (ho : h.get? a = some o) (hd : o.data = .set es ep t) (sb : Heap.SameBut a h h') : TpK P w h' k b := by
  obtain ⟨u, its, n, hu, hc, hd', hi⟩ := x
  refine ⟨u, its, n, (sb.2 b ?_).trans hu, hc, hd', hi⟩
  rintro rfl
  rw [ho] at hu
  rw [← Option.some.inj hu, hd] at hd'
  exact nomatch hd'
theorem tt_keep {h h' : Heap} {k : List Key} {b : Addr} (x : TpK P w h k b) (kk : ∀ c o, h.get? c = some o → h'.get? c = some o) : TpK P w h' k b := by
  obtain ⟨u, its, n, hu, r⟩ := x
  exact ⟨u, its, n, kk b u hu, r⟩
theorem hs_ins (L : List Mem) (i : Nat) (m : Mem) : hs P w (L.take i ++ m :: L.drop i) = (hs P w L).take i ++ HT P w m.2 :: (hs P w L).drop i := by
  unfold hs
  rw [List.map_append, List.map_cons, List.map_take, List.map_drop]
theorem rws_ins (L : List Mem) (i : Nat) (m : Mem) : rws P w (L.take i ++ m :: L.drop i) = (rws P w L).take i ++ (HT P w m.2, Value.ref m.1) :: (rws P w L).drop i := by
  unfold rws
  rw [List.map_append, List.map_cons, List.map_take, List.map_drop]
/-- rows picked by an order -/
theorem picked {es : Array (Int × Value)} (hr : es.toList = rws P w L) : ∀ l : List Nat, (∀ i ∈ l, i < L.length) →
    l.filterMap (fun i => es[i]?) = rws P w (l.filterMap fun i => L[i]?) ∧ hs P w (l.filterMap fun i => L[i]?) = l.map fun i => (es.map (·.1)).getD i 0
  | [], _ => ⟨rfl, rfl⟩
  | i :: l, hl => by
    have lt := hl i List.mem_cons_self
    obtain ⟨e1, e2⟩ := picked hr l fun j hj => hl j (List.mem_cons_of_mem _ hj)
    have q : L[i]? = some L[i] := List.getElem?_eq_getElem lt
    have en : es[i]? = some (HT P w (L[i]).2, Value.ref (L[i]).1) := by
      rw [← Array.getElem?_toList, hr]
      unfold rws
      rw [List.getElem?_map, q] <;> rfl
    have eg : (es.map (·.1)).getD i 0 = HT P w (L[i]).2 := by
      have e5 : (es.map (·.1))[i]? = some (HT P w (L[i]).2) := by rw [Array.getElem?_map, en] <;> rfl
      simp [Array.getD_eq_getD_getElem?, e5]
    refine ⟨?_, ?_⟩
    · rw [List.filterMap_cons_some en, List.filterMap_cons_some q, e1] <;> rfl
    · rw [List.filterMap_cons_some q, List.map_cons, eg, ← e2] <;> rfl
theorem pick_all {α : Type} (L : List α) : ∀ n, n ≤ L.length → (List.range n).filterMap (fun i => L[i]?) = L.take n
  | 0, _ => rfl
  | n + 1, h => by
    have lt : n < L.length := h
    rw [List.range_succ, List.filterMap_append, pick_all L n (Nat.le_of_lt lt), List.take_succ, List.getElem?_eq_getElem lt, List.filterMap_cons_some (List.getElem?_eq_getElem lt)] <;> rfl

theorem relay (ho : s.heap.get? a = some o) (hex : o.ExactSet) (hd : o.data = .set es ep t) (hr : es.toList = rws P w L) (hz : t.place.size = es.size) (dm : t.dummies = #[]) (hm : es.size ≤ t.mask)
    (nd : (L.map (·.2)).Nodup) (led : w.params.followText "set-order" = true ∨ t.led = true) (few : L.length < 64) {wanted M : Nat} (hw : SetTable.sizeAbove wanted - 1 = M) (hM : MaskOk M) (h128 : SetTable.sizeAbove wanted ≤ 128) (room : L.length * 5 < M * 3)
    {Q : Unit → Shared → Prop} (hQ : ∀ h' L' es' ep' t' o', Heap.SameBut a s.heap h' → SpT P w h' a L' es' ep' t' o' → L'.Perm L → Q () { s with heap := h' }) : wpAny (model P w) A (setRelay a wanted) Q E s := by
  have len := rws_len hr
  obtain ⟨t', order, e, pm, T, em, el, _, _⟩ := relaid_ok t (hs := es.map (·.1)) (wanted := wanted) hw hM (by rw [Array.size_map, len]; omega)
  rw [Array.size_map, len] at pm
  obtain ⟨r1, r2⟩ := picked (P := P) (w := w) hr order.toList fun i hi => List.mem_range.mp (pm.mem_iff.mp hi)
  have p2 : (order.toList.filterMap fun i => L[i]?).Perm L := by
    have q := pm.filterMap fun i => L[i]?
    rw [pick_all L L.length (Nat.le_refl _), List.take_length] at q
    exact q
  generalize order.toList.filterMap (fun i => L[i]?) = L2 at r1 r2 p2
  rw [← r2] at T
  have r1' : (order.filterMap (es[·]?)).toList = rws P w L2 := by first | (rw [Array.toList_filterMap]; exact r1) | simpa using r1
  have sz2 : (order.filterMap (es[·]?)).size = es.size := by rw [rws_len r1', p2.length_eq, len]
  rw [setRelay_eq]
  refine wpAny_bind (wpAny_setState_of ho hd (fits_of hz dm hm) ?_)
  dsimp only
  refine wp_if_neg (by rw [sizeLine_eq]; omega) ?_
  try refine wpAny_bind (wpAny_pure ?_)
  rw [e]
  dsimp only
  refine wpAny_bind ?_
  refine wp_if_neg (by rw [sz2]; simp) ?_
  try refine wpAny_bind (wpAny_pure ?_)
  refine wpAny_pure ?_
  dsimp only
  refine wpAny_storeSet_of ho hd ?_ (by rw [sz2, len, sizeLine_eq]; omega)
  exact hQ _ L2 _ (ep + 1) t' _ (Heap.SameBut.update ..) ⟨store_at ho hd, ⟨hex.1, hex.2.1, hex.2.2⟩, rfl, r1', T, (p2.map (·.2)).nodup_iff.mpr nd, by rw [el]; exact led, by rw [p2.length_eq, em]; exact room, by rw [p2.length_eq]; exact few⟩ p2

theorem add_tup (R : SpT P w s.heap a L es ep t o) (tup : ∀ p ∈ L, TpK P w s.heap p.2 p.1) {x : Addr} {k : List Key} (hx : TpK P w s.heap k x) (hu : A.units < cLine) (few : L.length + 1 < 64) {Q : Bool → Shared → Prop}
    (hQ : ∀ b h' L' es' ep' t' o', Heap.SameBut a s.heap h' → SpT P w h' a L' es' ep' t' o' → (k ∈ L.map (·.2) → L' = L) → (k ∉ L.map (·.2) → L'.Perm ((x, k) :: L)) → Q b { s with heap := h' }) :
    wpAny (model P w) A (setAddHashed a (.ref x) (HT P w k)) Q E s := by
  have hroom := R.room
  unfold setAddHashed
  refine wpAny_holding ?_
  rw [show (100000 : Nat) = 99999 + 1 from rfl, setAddHashedIn_succ]
  refine wpAny_bind (wpAny_setState_of R.ho R.hd R.fit ?_)
  dsimp only
  refine wp_if_neg (by simp [byScan, Value.scannable]) ?_
  try refine wpAny_bind (wpAny_pure ?_)
  refine wpAny_bind (seek0 R tup hx hu (fun hm => ?_) fun K hm hK hb => ?_)
  · exact wpAny_pure (hQ false s.heap L es ep t o (Heap.SameBut.refl a s.heap) R (fun _ => rfl) fun z => absurd hm z)
  dsimp only
  refine wpAny_bind (wpAny_setState_of R.ho R.hd R.fit ?_)
  dsimp only
  obtain ⟨q1, q2, q3, q4, q5, _, _, _, q9⟩ := R.tab.put hK hb
  generalize t.put (way t.mask (HT P w k) K) = pt at q1 q3 q4 q5 q9 ⊢
  obtain ⟨t1, i⟩ := pt
  dsimp only at q1 q3 q4 q5 q9 ⊢
  subst q1
  generalize SetTable.below t.place (way t.mask (HT P w k) K) = i at q2 q3 ⊢
  rw [← hs_ins L i (x, k)] at q3
  rw [hs_len] at q9
  have pm : (L.take i ++ (x, k) :: L.drop i).Perm ((x, k) :: L) := put_perm L i (x, k)
  have hr : (SetTable.insertAt es i (HT P w k, Value.ref x)).toList = rws P w (L.take i ++ (x, k) :: L.drop i) := by rw [SetTable.toList_insertAt, rws_ins, R.rows]
  have len : (L.take i ++ (x, k) :: L.drop i).length = L.length + 1 := pm.length_eq
  have nd1 : ((L.take i ++ (x, k) :: L.drop i).map (·.2)).Nodup := by
    refine (pm.map (·.2)).nodup_iff.mpr ?_
    rw [List.map_cons]
    exact List.nodup_cons.mpr ⟨hm, R.nd⟩
  generalize SetTable.insertAt es i (HT P w k, Value.ref x) = es1 at hr ⊢
  generalize L.take i ++ (x, k) :: L.drop i = L1 at pm hr len nd1 q3
  have sz1 : es1.size = L.length + 1 := by rw [rws_len hr, len]
  have led1 : w.params.followText "set-order" = true ∨ t1.led = true := by rw [q5]; exact R.led
  have lenT : t1.place.size = L.length + 1 := by
    have e := q3.sz
    rw [hs_len, len] at e
    exact e
  rw [rws_len R.rows]
  -- what follows, whether or not the table stays plain
  have rest : ∀ t2 : SetTable, t2.mask = t1.mask → t2.place = t1.place → t2.dummies = t1.dummies → t2.led = t1.led → TabOk t2 (hs P w L1) →
      wpAny (model P w) A (do
        storeSet a es1 t2
        if (!false && t2.tooFull) = true then setRelay a (SetTable.grown (L.length + 1))
        return true) Q E s := fun t2 m2 p2 d2 l2 T2 => by
    refine wpAny_bind (wpAny_storeSet_of R.ho R.hd ?_ (by rw [sz1, sizeLine_eq]; omega))
    have sb : Heap.SameBut a s.heap (s.heap.update a (Obj.putSet es1 t2)) := Heap.SameBut.update ..
    have o1 := store_at (es' := es1) (t' := t2) R.ho R.hd
    generalize s.heap.update a (Obj.putSet es1 t2) = h1 at sb o1 ⊢
    have led2 : w.params.followText "set-order" = true ∨ t2.led = true := by rw [l2]; exact led1
    have fill2 : t2.fill = L.length + 1 := by
      show t2.place.size + t2.dummies.size = L.length + 1
      rw [p2, d2]
      exact q9
    by_cases full : t2.tooFull = true
    · have big : (L.length + 1) * 5 ≥ t2.mask * 3 := by
        have h := full
        unfold SetTable.tooFull at h
        rw [decide_eq_true_eq, fill2] at h
        exact h
      have two : (t.mask = 7 ∧ L.length = 4) ∨ (t.mask = 31 ∧ L.length = 18) := by
        rcases R.tab.mok with e | e | e
        · left; rw [m2, q4, e] at big; rw [e] at hroom; exact ⟨e, by omega⟩
        · right; rw [m2, q4, e] at big; rw [e] at hroom; exact ⟨e, by omega⟩
        · exfalso; rw [m2, q4, e] at big; omega
      have go : ∀ M, SetTable.sizeAbove (SetTable.grown (L.length + 1)) - 1 = M → MaskOk M → SetTable.sizeAbove
                                                                                                                (SetTable.grown (L.length + 1)) ≤ 128 → (L.length + 1) * 5 < M * 3 →
          wpAny (model P w) A (setRelay a (SetTable.grown (L.length + 1))) (fun _ s' => wpAny (model P w) A (pure true) Q E s') E { s with heap := h1 } := fun M g1 g2 g3 g4 => by
        refine relay (s := { s with heap := h1 }) o1 ⟨R.hex.1, R.hex.2.1, R.hex.2.2⟩ rfl hr (by rw [p2, lenT, sz1]) (by rw [d2]; exact q3.dm) (by rw [sz1, m2, q4]; rcases two with ⟨e, e2⟩ | ⟨e, e2⟩ <;> omega) nd1 led2 (by rw [len]; exact few) g1 g2 g3 (by rw [len]; exact g4) ?_
        intro h2 L3 es3 ep3 t3 o3 sb3 R3 pm3
        exact wpAny_pure (hQ true h2 L3 es3 ep3 t3 o3 (sb.trans sb3) R3 (fun z => absurd z hm) fun _ => pm3.trans pm)
      first
        | (refine wpAny_bind ?_; refine wp_if_pos (by simp [full]) ?_)
        | (refine wp_if_pos (by simp [full]) ?_; refine wpAny_bind ?_)
      rcases two with ⟨_, e2⟩ | ⟨_, e2⟩
      · exact go 31 (by rw [e2, size_20]) (.inr (.inl rfl)) (by rw [e2, size_20]; decide) (by omega)
      · exact go 127 (by rw [e2, size_76]) (.inr (.inr rfl)) (by rw [e2, size_76]; decide) (by omega)
    · first
        | refine wp_if_neg (by simp [full]) ?_
        | (refine wpAny_bind ?_; refine wp_if_neg (by simp [full]) ?_; refine wpAny_pure ?_)
      refine wpAny_pure (hQ true h1 L1 es1 (ep + 1) t2 _ sb ⟨o1, ⟨R.hex.1, R.hex.2.1, R.hex.2.2⟩, rfl, hr, T2, nd1, led2, ?_, by rw [len]; exact few⟩ (fun z => absurd z hm) fun _ => pm)
      have h := full
      unfold SetTable.tooFull at h
      rw [decide_eq_true_eq, fill2] at h
      rw [len]
      omega
  have T0 : TabOk { t1 with plain := false } (hs P w L1) := ⟨q3.ris, q3.dm, q3.sz, q3.mok, q3.bd, q3.reach⟩
  by_cases pl : t1.plain = true
  · first
      | (refine wpAny_bind ?_; refine wp_if_pos pl ?_; refine tup_byVal hx fun z => ?_)
      | refine wp_if_pos pl (wpAny_bind (tup_byVal hx fun z => ?_))
    cases z with
    | true =>
      simp only [if_true]
      exact rest t1 rfl rfl rfl rfl q3
    | false =>
      simp only [Bool.false_eq_true, if_false]
      exact rest { t1 with plain := false } rfl rfl rfl rfl T0
  · first
      | (refine wpAny_bind ?_; refine wp_if_neg pl ?_; refine wpAny_pure ?_)
      | refine wp_if_neg pl (wpAny_bind (wpAny_pure ?_))
    simp only [if_true]
    exact rest t1 rfl rfl rfl rfl q3
end
end KS
set_option maxHeartbeats 3200000
namespace KS
open PySem PySem.Spec PyProof.Rows L2

theorem perm_pre {α β : Type} {f : α → β} {out l : List β} (p : out.Perm l) : ∀ L : List α, l = L.map f → ∃ L' : List α, L'.Perm L ∧ out = L'.map f := by
  induction p with
  | nil =>
    intro L e
    cases L with
    | nil => exact ⟨[], .nil, rfl⟩
    | cons x L => exact nomatch e
  | cons x _ ih =>
    intro L e
    cases L with
    | nil => exact nomatch e
    | cons y L =>
      rw [List.map_cons] at e
      injection e with e1 e2
      obtain ⟨L', q1, q2⟩ := ih L e2
      exact ⟨y :: L', q1.cons y, by rw [List.map_cons, ← q2, e1]⟩
  | swap x y l =>
    intro L e
    match L, e with
    | a :: b :: L, e =>
      rw [List.map_cons, List.map_cons] at e
      injection e with e1 e2
      injection e2 with e2 e3
      exact ⟨b :: a :: L, .swap _ _ _, by rw [List.map_cons, List.map_cons, e1, e2, e3]⟩
  | trans _ _ ih1 ih2 =>
    intro L e
    obtain ⟨L2, q1, q2⟩ := ih2 L e
    obtain ⟨L1, q3, q4⟩ := ih1 L2 q2
    exact ⟨L1, q3.trans q1, q4⟩
theorem each_map_of {α : Type} {R : Value → α → Prop} {f : α → Value} : ∀ {ms : List α}, (∀ m ∈ ms, R (f m) m) → PySem.W.EachIs R (ms.map f) ms
  | [], _ => .nil
  | m :: ms, h => .cons (h m List.mem_cons_self) (each_map_of fun u hu => h u (List.mem_cons_of_mem _ hu))

/-- tuples of ints and texts -/
def tupKit (P : Program) (w : World) : Kit P w Mem (List Key) where
  key := fun m => m.2
  mv := fun h m v => v = .ref m.1 ∧ TpK P w h m.2 m.1
  sp := fun h a L => ∃ es ep t o, SpT P w h a L es ep t o
  mvK := fun x k => ⟨x.1, tt_keep x.2 k⟩
  spAt := fun R k => by
    obtain ⟨es, ep, t, o, R⟩ := R
    exact ⟨es, ep, t, o, { R with ho := k o R.ho }⟩
  spEx := fun R => by
    obtain ⟨es, ep, t, o, R⟩ := R
    exact ⟨o, R.ho, R.hex.1⟩
  spNd := fun R => by
    obtain ⟨es, ep, t, o, R⟩ := R
    exact R.nd
  spFew := fun R => by
    obtain ⟨es, ep, t, o, R⟩ := R
    exact R.few
  fresh := fun ho => ⟨#[], 0, _, _, ho, ⟨rfl, rfl, rfl⟩, rfl, rfl, ⟨List.Pairwise.nil, rfl, rfl, .inl rfl, (fun x hx => by cases hx), fun i h j hi => by simp [hs] at hi⟩, List.nodup_nil, (by
    show _ ∨ (!w.params.followText "set-order") = true
    cases w.params.followText "set-order"
    · exact .inr rfl
    · exact .inl rfl), (by show 0 * 5 < 7 * 3; decide), by show 0 < 64; decide⟩
  add := fun {A E s a L m v Q} R ht hk room hu hQ => by
    obtain ⟨es, ep, t, o, R⟩ := R
    obtain ⟨rfl, hx⟩ := hk
    unfold setAdd
    refine wpAny_holding (wpAny_bind (wpAny_pyHash_tuple hu hx ?_))
    refine add_tup (s := { s with toks := s.toks + (m.2.length + 1) }) R (fun p hp => ?_) hx hu room fun b h' L' es' ep' t' o' sb r c1 c2 => hQ b h' _ L' sb (Nat.le_add_right _ _) ⟨es', ep', t', o', r⟩ c1 c2
    obtain ⟨_, _, q⟩ := ht p hp
    exact q
  col := fun {A E s a L Q} R ht hh hQ => by
    obtain ⟨es, ep, t, o, R⟩ := R
    have few := R.few
    refine collect_set hh ⟨o, R.ho, R.hex.1, R.hd⟩ R.fit (by rw [rws_len R.rows]; unfold scanBound; omega) R.tab.ris R.led fun s' out k z g os pm => ?_
    have e : es.toList.map (·.2) = L.map fun p => Value.ref p.1 := by
      rw [R.rows]
      unfold rws
      rw [List.map_map] <;> rfl
    obtain ⟨L', q1, q2⟩ := perm_pre pm L e
    subst q2
    refine hQ s' _ L' k z g os q1 (each_map_of fun m hm => ⟨rfl, ?_⟩)
    obtain ⟨_, _, q⟩ := ht m (q1.mem_iff.mp hm)
    exact q
end KS
set_option maxHeartbeats 3200000
/-! rules over tracked heaps: set(xs), sorted(set), the comprehension's add -/
namespace KS
open PySem PySem.Spec PyProof.Rows L2

/-- the set at a with the members L -/
def SetO {P : Program} {w : World} {μ κ : Type} (Z : Kit P w μ κ) (a : Addr) (L : List μ) : HO := .ext fun h => Z.sp h a L
theorem setO_new {P : Program} {w : World} {μ κ : Type} {Z : Kit P w μ κ} {H : Hp} {h : Heap} {a : Addr} {L : List μ} (R : Z.sp h a L) : ObjOk P w H h a (SetO Z a L) := by
  have ⟨o, ho, _⟩ := Z.spEx R
  exact ⟨R, ⟨o, ho⟩, fun h1 h2 p k => Z.spAt p k⟩
/-- how members stand in a tracked heap -/
structure Lnk (X : Cx) {μ κ : Type} (Z : Kit X.prog X.w μ κ) where
  vOf : μ → V
  ok : Hp → μ → Prop
  get : ∀ {pins : List (Addr × Obj)} {σ : L2.St} {H : Hp} {s : Shared} {m : μ} {u : Value}, Inv X pins σ H s → ok H m → RelV (vOf m) u → Z.mv s.heap m u
  some_ : ∀ m, ∃ u, RelV (vOf m) u
  back : ∀ {h : Heap} {m : μ} {u : Value}, Z.mv h m u → RelV (vOf m) u
section
variable {X : Cx} {μ κ : Type} {Z : Kit X.prog X.w μ κ} (K : Lnk X Z)
def linkKey (X : Cx) : Lnk X (keyKit X.prog X.w) where
  vOf := kV
  ok := fun _ _ => True
  get := fun _ _ r => kV_is (P := X.prog) (w := X.w) r
  some_ := fun m => by
    cases m with
    | inl i => exact ⟨.int i 0, 0, rfl⟩
    | inr x => exact ⟨.str x 0, 0, rfl⟩
  back := fun {h m u} q => by
    rcases keyIs_shape (show keyIs m u = true from q) with ⟨i, t, rfl, rfl⟩ | ⟨x, t, rfl, rfl⟩ <;> exact ⟨t, rfl⟩
def linkTup (X : Cx) : Lnk X (tupKit X.prog X.w) where
  vOf := fun m => .ref m.1
  ok := fun H m => SqT X.K H m.1 (m.2.map kV)
  get := fun {pins σ H s m u} I h r => by
    cases r
    obtain ⟨its, rv, ⟨o, ho, hc, n, hd⟩, _⟩ := I.tuple h
    exact ⟨rfl, o, its.toArray, n, ho, hc, hd, by simpa using items_are rv⟩
  some_ := fun m => ⟨.ref m.1, rfl⟩
  back := fun q => q.1
theorem vals_each {pins : List (Addr × Obj)} {σ : L2.St} {H : Hp} {s : Shared} (I : Inv X pins σ H s) : ∀ {ms : List μ} {us : List Value}, (∀ m ∈ ms, K.ok H m) → Vals (ms.map K.vOf) us → PySem.W.EachIs (fun v m => Z.mv s.heap m v) us ms
  | [], _, _, r => by cases r; exact .nil
  | m :: ms, _, h, r => by
    cases r with
    | cons r t => exact .cons (K.get I (h m List.mem_cons_self) r) (vals_each I (fun x hx => h x (List.mem_cons_of_mem _ hx)) t)
theorem each_vals {h : Heap} : ∀ {us : List Value} {ms : List μ}, PySem.W.EachIs (fun v m => Z.mv h m v) us ms → Vals (ms.map K.vOf) us
  | _, _, .nil => .nil
  | _, _, .cons r t => .cons (K.back r) (each_vals t)
theorem all_mv {pins : List (Addr × Obj)} {σ : L2.St} {H : Hp} {s : Shared} (I : Inv X pins σ H s) {L : List μ} (h : ∀ m ∈ L, K.ok H m) : ∀ m ∈ L, ∃ v, Z.mv s.heap m v := fun m hm => by
  obtain ⟨u, hu⟩ := K.some_ m
  exact ⟨u, K.get I (h m hm) hu⟩
/-- set(xs), xs a list of members -/
def rSetOf : List V → Hp → VK → Prop := fun xs H Q => ∃ (l : Addr) (ms : List μ), xs = [V.ref l] ∧ SqL X.K H l (ms.map K.vOf) ∧ (∀ m ∈ ms, K.ok H m) ∧ ms.length < 64 ∧
  ∀ a L, H a = none → From Z ms ms.length L → (L.map Z.key).Nodup → Q (.ref a) (upd H a (SetO Z a L))
theorem cr_setOf (hc : X.calm = true) (hu : X.A.units + 3 < cLine) : CallR X (.type "set") (rSetOf K) := by
  intro pins s σ H xs us Q I r h
  obtain ⟨l, ms, rfl, hl, hk, hf, q⟩ := h
  rw [Vals.ref1 r]
  obtain ⟨its, rv, pl, hz⟩ := I.list hl
  refine call_set Z ms (I.ok.hd hc) pl.isList (by simpa using vals_each K I hk rv) hf hu fun h' tk L R g k => ?_
  exact ⟨.ref s.heap.objs.size, upd H s.heap.objs.size (SetO Z s.heap.objs.size L), I.laid (t' := tk) k (Nat.le_refl _) (setO_new R), rfl, q _ L (I.hok.fresh (Nat.le_refl _)) g (Z.spNd R)⟩
/-- sorted(set) -/
def rSortedK (enc : μ → PyData) : List V → Hp → VK → Prop := fun vs H Q => ∃ (a : Addr) (L : List μ), vs = [V.ref a] ∧ H a = some (SetO Z a L) ∧ (∀ m ∈ L, K.ok H m) ∧ PySem.W.AllAlike (L.map enc) ∧ PySem.W.Sortable (L.map enc) ∧
  ∀ (L1 : List μ) (p : Addr), L1.Perm L → (L.map Z.key).Nodup → H p = none → Q (.ref p) (upd H p (.lst ((L1.mergeSort (PySem.W.dataLe false enc)).map K.vOf)))
theorem cr_sortedK {enc : μ → PyData} (hc : X.calm = true) (rd : ∀ {h : Heap} {m : μ} {v : Value}, Z.mv h m v → Reads h v (enc m) []) (hu : ∀ m, X.A.in1.units + 1 + (enc m).depth < cLine) : CallR X (.builtin "sorted") (rSortedK K enc) := by
  intro pins s σ H vs us Q I r h
  obtain ⟨a, L, rfl, ha, hk, al, so, q⟩ := h
  have R : Z.sp s.heap a L := (I.hok a _ ha).1
  rw [Vals.ref1 r]
  refine sorted_kit Z rd R (all_mv K I hk) (I.ok.hd hc) al so (fun m _ => hu m) fun s' p out c L1 k g o hp hg pm ei => ?_
  have few : (L1.mergeSort (PySem.W.dataLe false enc)).length < 64 := by
    rw [List.length_mergeSort, pm.length_eq]
    exact Z.spFew R
  have hlen : ((L1.mergeSort (PySem.W.dataLe false enc)).map K.vOf).length ≤ sizeLine := by
    rw [List.length_map, sizeLine_eq]
    omega
  have hn : H p = none := I.hok.fresh hp
  have J : Inv X pins σ (upd H p (.lst ((L1.mergeSort (PySem.W.dataLe false enc)).map K.vOf))) { s with heap := s'.heap, gens := s'.gens, drawn := s'.drawn, toks := s'.toks } :=
    I.call (ch := []) (Un.laid k hp hn) (I.hok.laid k hp ⟨hlen, out.toList, c, each_vals K ei, hg⟩) (by rw [g]; exact I.bare) (fun _ z => nomatch z)
  have e : s' =
                { s with heap := s'.heap, gens := s'.gens, drawn := s'.drawn, toks := s'.toks } := by
    cases s'
    cases s
    cases o
    rfl
  rw [e]
  exact ⟨.ref p, _, J, rfl, q L1 p pm (Z.spNd R) hn⟩
end
section
variable {P : Program} {w : World} {A : Around} {E : Value → Shared → Prop} {s : Shared} {μ κ : Type} (Z : Kit P w μ κ)
/-- found.add(x) -/
theorem call_add {a : Addr} {L : List μ} {m : μ} {v : Value} {Q : Value → Shared → Prop} (R : Z.sp s.heap a L) (hm : ∀ m ∈ L, ∃ v, Z.mv s.heap m v) (hv : Z.mv s.heap m v) (room : L.length + 1 < 64) (hu : A.in1.units < cLine)
    (hQ : ∀ h' tk L', Heap.SameBut a s.heap h' → Z.sp h' a L' → (Z.key m ∈ L.map Z.key → L' = L) → (Z.key m ∉ L.map Z.key → L'.Perm (m :: L)) → Q .none { s with heap := h', toks := tk }) :
    wpAny (model P w) A (call (.builtin "set.add") [.ref a, v]) Q E s := by
  obtain ⟨o, ho, hc⟩ := Z.spEx R
  refine wpAny_call_entry F.slot_set_add ⟨o, ho, hc⟩ F.entry_set_add ?_ (F.args_set_add_2 _ _)
  unfold Builtin.«set.add» Builtin.Frozenset.oneOther
  simp only [List.isEmpty_nil, bind_assoc]
  unfold Builtin.Frozenset.addrOf
  refine wpAny_bind (wpAny_pure ?_)
  try dsimp only
  refine wpAny_bind (wpAny_pure ?_)
  try dsimp only
  refine wpAny_bind ?_
  refine Z.add R hm hv room hu fun b h' tk L' sb ht r c1 c2 => ?_
  show wpAny _ _ (ret Value.none) _ _ _
  exact wpAny_pure ⟨_, rfl, hQ h' tk L' sb r c1 c2⟩
end
section
variable {X : Cx} {μ κ : Type} {Z : Kit X.prog X.w μ κ} (K : Lnk X Z)
/-- L and m make L' -/
def Grow (Z : Kit X.prog X.w μ κ) (L : List μ) (m : μ) (L' : List μ) : Prop := (Z.key m ∈ L.map Z.key → L' = L) ∧ (Z.key m ∉ L.map Z.key → L'.Perm (m :: L))
theorem addK_ok {pins : List (Addr × Obj)} {σ : L2.St} {H : Hp} {s : Shared} {E : Value → Shared → Prop} {D : Addr} {L : List μ} {m : μ} {u : Value} {Q : Value → Shared → Prop} (I : Inv X pins σ H s) (hD : H D = some (SetO Z D L))
    (hk : ∀ m ∈ L, K.ok H m) (hm : K.ok H m) (ru : RelV (K.vOf m) u) (room : L.length + 1 < 64) (hu : X.A.in1.units < cLine)
    (h : ∀ s' L', Grow Z L m L' → Inv X pins σ (upd H D (SetO Z D L')) s' → Q .none s') : wpAny (model X.prog X.w) X.A (call (.builtin "set.add") [.ref D, u]) Q E s := by
  have R : Z.sp s.heap D L := (I.hok D _ hD).1
  refine call_add Z R (all_mv K I hk) (K.get I hm ru) room hu fun h' tk L' sb new c1 c2 => ?_
  have he : ∃ u, h'.get? D = some u := by
    have ⟨o, ho, _⟩ := Z.spEx new
    exact ⟨o, ho⟩
  exact h _ L' ⟨c1, c2⟩ (I.write (e := D) (t' := tk) (by rw [hD]; trivial) (.inl rfl) (fun b u hb hu => (sb.2 b hb).trans hu) he (setO_new new))
end
end KS
set_option maxHeartbeats 3200000
/-! {elt for tg in iter if ..} over a Kit -/
namespace KS
open PySem PySem.Spec PyProof.Rows L2
section
variable {X : Cx} {μ κ : Type} {Z : Kit X.prog X.w μ κ} (K : Lnk X Z)
/-- D the new set; W i m: what holds ahead of the i-th turn, m goes down -/
def tSetC (wi : TI) (g : TG) (tt : TT) (te : TE) (vs : List Nat) : TE := fun σ H Q => wi σ H fun J H1 => ∀ D, H1 D = none → ∃ W : Nat → Nat → Hp → Prop, (∃ m, W 0 m (upd H1 D (SetO Z D []))) ∧ ∀ i m H, W i m H →
  (J.stop i H ∧ Q (.ref D) H) ∨ (J.go i H ∧ ∃ Nx : Hp → Prop, (∀ H', Nx H' → ∃ m', m' < m ∧ W
                                                                                              (i + 1) m' H') ∧ ∀ x H', J.yld i H x H' → g x (wipe σ vs) H' fun σ2 H2 => wipe σ2 vs = wipe σ vs ∧ tt σ2 H2 fun b H3 =>
    if b = true then te σ2 H3 fun y H4 => ∃ (m : μ) (L : List μ), y = K.vOf m ∧ H4 D = some (SetO Z D L) ∧ K.ok H4 m ∧ (∀ x ∈ L, K.ok H4 x) ∧ L.length + 1 < 64 ∧ (∀ L', Grow Z L m L' → Nx (upd H4 D (SetO Z D L'))) else Nx H3)
theorem setc {pins : List (Addr × Obj)} {s : Shared} {σ : L2.St} {H : Hp} {Q : VK} {elt tg iter : Expr} {ifs : List Expr} {scope : Scope} {own : List (PySem.Str × Nat)} {pos pos' : Pos} {wi : TI} {g : TG} {tt : TT} {te : TE} {use : Option (Value → Sem Unit)} {Qf : Value → Shared → Prop}
    (hc : X.calm = true) (hu : X.A.in1.units < cLine) (hN : X.N.Nodup) (I : Inv X pins σ H s) (hi : PI X tg iter wi) (ok : BlkOk X.N X.env.scope scope own)
    (hg : ∀ (s : Shared) (H : Hp) (C : Addr) (cl : List (PySem.Str × Addr)) (fp : List Addr), PG (X.blk s H scope (compEnvC scope cl C X.env) fp) tg g)
                                                                                                                                                        (ht : ∀ (s : Shared) (H : Hp) (C : Addr) (cl : List (PySem.Str × Addr)) (fp : List Addr), PTs (X.blk s H scope (compEnvC scope cl C X.env) fp) ifs tt)
    (he : ∀ (s : Shared) (H : Hp) (C : Addr) (cl : List (PySem.Str × Addr)) (fp : List Addr), PE
                                                                                                 (X.blk s H scope (compEnvC scope cl C X.env) fp) elt te) (hs : ∀ x, foldedSetIterable iter X.env x = pure x)
    (hK : ∀ (s : Shared) (H : Hp) (env : Env) (fp : List Addr), ∃ K' : Lnk (X.blk s H scope env fp) Z, K'.vOf = K.vOf ∧ K'.ok = K.ok)
    (h : tSetC K wi g tt te (own.map (·.2)) σ H Q)
    (hRR : ∀ D C s' m H', Inv X pins σ H' s' → Q (.ref D) H' → s'.heap.Ns C m → FpOk X pins H' C → compPost
                                                                                                            (model X.prog X.w) X.A X.xe use Qf (.ref D) C (.ok .next) s') :
    wpAny (model X.prog X.w) X.A (comprehension (.SetComp elt [⟨tg, iter, ifs, 0⟩] scope pos) scope X.env pos'
                                                                                                               (newSet (.type "set")) false (eval iter X.env) use) Qf X.xe s := by
  have free : ∀ y ∈ scope.names, y.2 = .free → ∃ c, X.env.cells.lookup y.1 = some c := fun y hy e => (ok.free y hy e).elim (fun k => I.ok.has _ (.inl k)) fun k => I.ok.has _ (.inr k)
  refine wpAny_comprehension_free (use := use) rfl hs (closure_ok free) ok.kind (fun y hy e => by rw [ok.uniq y hy, e]) (thn (hi.run pins s σ H _ I h) fun xv s1 hx => thn hx fun itv s2 h2 => ?_)
  obtain ⟨it, fp, tn, J, H2, e, I2, T, st2, f2, q⟩ := h2
  subst e
  refine PpSet.newSet_ok (newEnv_comp ?_)
  generalize hD : s2.heap.objs.size = D
  obtain ⟨W, ⟨m0, w0⟩, turn⟩ := q D (I2.hok.fresh (Nat.le_of_eq hD))
  generalize hs3 : ({ s2 with heap := s2.heap.push (newObj0 X.w) } : Shared) = s3
  have hs3' : ({ s2 with heap := s2.heap.push { cls := .type "set", dict := none, data := .set #[] 0 (.fresh 0 0 (!X.w.params.followText "set-order")) } } : Shared) = s3 := hs3
  rw [hs3']
  have h3 : s3.heap = s2.heap.push (newObj0 X.w) := by rw [← hs3]
  have I3 : Inv X pins σ (upd H2 D (SetO Z D [])) s3 := by
    rw [← hs3]
    refine I2.laid (t' := s2.toks) (fun b o e => Heap.get?_push_of_some _ e) (Nat.le_of_eq hD) (setO_new (Z.fresh ?_))
    rw [← hD]
    exact Heap.get?_push_size _ rfl
  have lt : ∀ b ∈ fp, b < s2.heap.objs.size := fun b hb => by
    obtain ⟨o, e, _⟩ := T.obj _ _ st2 b hb
    exact Heap.lt_size e
  have f3 : ∀ b ∈ fp, FpOk X pins (upd H2 D (SetO Z D [])) b ∧ b < s3.heap.objs.size := fun b hb => by
    refine ⟨⟨?_, (f2 b hb).2⟩, by rw [h3, Heap.size_push]; exact Nat.lt_succ_of_lt (lt b hb)⟩
    rw [upd_ne (by rw [← hD]; exact Nat.ne_of_lt (lt b hb))]
    exact (f2 b hb).1
  have st3 : tn 0 s3.heap := T.keep _ _ _ st2 fun b _ o e => by rw [h3]; exact Heap.get?_push_of_some _ e
  generalize hH3 : upd H2 D (SetO Z D []) = H3 at I3 w0 f3
  have I4 := block_start I3 ok hN f3
  have pg := hg s3 H3 s3.heap.objs.size (cellsFrom (s3.heap.objs.size + 1) scope.names (cloFrom X.env.cells scope.names [])) fp
  have pt := ht s3 H3 s3.heap.objs.size (cellsFrom (s3.heap.objs.size + 1) scope.names (cloFrom X.env.cells scope.names [])) fp
  have pe := he s3 H3 s3.heap.objs.size (cellsFrom (s3.heap.objs.size + 1) scope.names (cloFrom X.env.cells scope.names [])) fp
  show codeAny _ _ (.compStart (.SetComp elt [⟨tg, iter, ifs, 0⟩] scope pos) 0 (.ref it) (.ref D) (compEnvC scope (cellsFrom (s3.heap.objs.size + 1) scope.names (cloFrom X.env.cells scope.names [])) s3.heap.objs.size X.env))
                                                                                                                                                                                                                                 (compPost (model X.prog X.w) X.A X.xe use Qf (.ref D) s3.heap.objs.size) { s3 with heap := pushCells (s3.heap.push { cls := .type "dict", data := .dict #[] }) scope.names }
  generalize hce : compEnvC scope (cellsFrom (s3.heap.objs.size + 1) scope.names
                                                                                 (cloFrom X.env.cells scope.names [])) s3.heap.objs.size X.env = ce at I4 pg pt pe ⊢
  have cL : ce.locals = s3.heap.objs.size := by subst hce; rfl
  obtain ⟨K', ev, eo⟩ := hK s3 H3 ce fp
  generalize hs4 : ({ s3 with heap := pushCells (s3.heap.push
                                                              { cls := .type "dict", data := .dict #[] }) scope.names } : Shared) = s4 at I4 ⊢
  have st4 : tn 0 s4.heap := T.keep _ _ _ st3 fun b _ o e => by rw [← hs4]; exact pushCells_keeps _ _ _ _
                                                                                                          (Heap.get?_push_of_some _ e)
  have stat : ∀ {σ' : L2.St} {H' : Hp} {s' : Shared}, Inv (X.blk s3 H3 scope ce fp) [] σ' H' s' →
                                                                                                  (∀ b ∈ fp, H' b = none) → ∀ b ∈ fp, FpOk (X.blk s3 H3 scope ce fp) [] H' b := fun {σ' H' s'} I' hn b hb =>
    ⟨hn b hb, (I'.ok.exf b hb).1, I'.ok.exfs b hb, .inl hb, fun x c e =>
                                                                         (I'.ok.exf b hb).2 x c e, fun p hp => absurd (show p ∈ ([] : List (Addr × Obj)) ++ [] from hp) (by simp)⟩
  have loop : codeAny (model X.prog X.w) X.A (.compLoop (.SetComp elt [⟨tg, iter, ifs, 0⟩] scope pos) 0
                                                                                                        (.ref it) (.ref D) ce) (compPost (model X.prog X.w) X.A X.xe use Qf (.ref D) s3.heap.objs.size) s4 := by
    refine PpSet.compLoopS_any (fun n s' => ∃ i H', Inv (X.blk s3 H3 scope ce fp) [] (wipe σ (own.map (·.2))) H' s' ∧ tn i s'.heap ∧ (∀ b ∈ fp, H' b = none) ∧ W i n H') ?_ m0 ⟨0, H3, I4, st4, fun b hb => (f3 b hb).1.1, w0⟩
    rintro n s5 ⟨i, H5, I5, st5, n5, w5⟩
    rcases turn i n H5 w5 with ⟨stop, qq⟩ | ⟨go, Nx, hNx, step⟩
    · have td := T.done (X.blk s3 H3 scope ce fp) rfl rfl rfl hc i [] s5 _ H5
                                                                              (fun _ _ => False) I5 (stat I5 n5) st5 stop
      refine thnF td fun r s6 ⟨hr, I6⟩ => ?_
      subst hr
      have I7 : Inv X pins σ H5 s6 := I3.call' (ch := fp) I6.os I6.base I6.hok I6.bare fun b hb =>
                                                                                                   ⟨(f3 b hb).1.2.2.2.1, (f3 b hb).1.2.1, (f3 b hb).1.2.2.2.2.1, (f3 b hb).1.2.2.2.2.2⟩
      have z : H5 ce.locals = none := I6.free
      obtain ⟨m, hn, _⟩ := I6.loc
      have hn : s6.heap.Ns ce.locals m := hn
      rw [cL] at hn z
      exact hRR D s3.heap.objs.size s6 m H5 I7 qq hn (I3.fpOk (Nat.le_refl _) z)
    · have ti := T.item (X.blk s3 H3 scope ce fp) rfl rfl rfl hc i [] s5 _ H5
                                                                              (fun _ _ => False) I5 (stat I5 n5) st5 go
      refine thnF ti fun r s6 ⟨u, hr, h6⟩ => ?_
      subst hr
      refine thnF h6 fun _ s7 ⟨x, H7, I7, r7, y7, st7, n7⟩ => ?_
      have P7 := I7.pinned (stat I7 n7) (T.obj _ _ st7)
      refine thnF (pg.run _ s7 _ H7 x u _ P7 r7 (step x H7 y7)) fun _ s8 ⟨σ8, H8, I8, hw8, q8⟩ => ?_
      refine thnF (pt.run _ s8 σ8 H8 _ I8 q8) fun b s9
                                                       ⟨H9, I9, q9⟩ => ?_
      have fin : ∀ {s' : Shared} {H' : Hp}, Inv (X.blk s3 H3 scope ce fp) ([] ++ pinsAt fp s7.heap) σ8 H' s' → Nx H' → ∃ m, m < n ∧ ∃ i H', Inv
                                                                                                                                                (X.blk s3 H3 scope ce fp) [] (wipe σ (own.map (·.2))) H' s' ∧ tn i s'.heap ∧ (∀ b ∈ fp, H' b = none) ∧ W i m H' := fun {s' H'} I' nx => by
        obtain ⟨m', hm, w'⟩ := hNx H' nx
        have pin : ∀ b ∈ fp, ∀ o, s7.heap.get? b = some o → s'.heap.get? b = some o ∧ H' b = none := fun b hb o e =>
          let z := I'.pin (b, o) (List.mem_append_right _
                                                          (List.mem_append_right _ (mem_pinsAt hb e)))
          ⟨z.1, z.2.1⟩
        refine ⟨m', hm, i + 1, H', (I'.unpinned (pins := [])).weak (by rw [← hw8, wipe_length]) (fun j v e => ?_), T.keep _ _ _ st7 fun b hb o e => (pin b hb o e).1, fun b hb => ?_, w'⟩
        · rw [← hw8] at e
          exact (wipe_some e).1
        · obtain ⟨o, e, _⟩ := T.obj _ _ st7 b hb
          exact (pin b hb o e).2
      cases b with
      | false =>
        simp only [Bool.false_eq_true, if_false] at q9 ⊢
        exact fin I9 q9
      | true =>
        simp only [if_true] at q9 ⊢
        refine thnF (pe.run _ s9 σ8 H9 _ I9 q9) fun z s10 ⟨yv, H10, I10, r10, m, L, ey, hD10, om, oL, room, nx⟩ => ?_
        subst ey
        exact addK_ok (X := X.blk s3 H3 scope ce fp) K' I10 hD10 (by rw [eo]; exact oL) (by rw [eo]; exact om) (by rw [ev]; exact r10) room hu fun s11 L' gr I11 => fin I11 (nx L' gr)
  exact PpSet.codeAny_compStart_set loop (T.self X.A 0 _ _ _ st4 loop)
/-- as a value -/
theorem pe_setc {elt tg iter : Expr} {ifs : List Expr} {scope : Scope} {own : List (PySem.Str × Nat)} {pos : Pos} {wi : TI} {g : TG} {tt : TT} {te : TE} (hc : X.calm = true) (hu : X.A.in1.units < cLine) (hN : X.N.Nodup) (hi : PI X tg iter wi) (ok : BlkOk X.N X.env.scope scope own)
    (hg : ∀ (s : Shared) (H : Hp) (C : Addr) (cl : List (PySem.Str × Addr)) (fp : List Addr), PG (X.blk s H scope (compEnvC scope cl C X.env) fp) tg g)
                                                                                                                                                        (ht : ∀ (s : Shared) (H : Hp) (C : Addr) (cl : List (PySem.Str × Addr)) (fp : List Addr), PTs (X.blk s H scope (compEnvC scope cl C X.env) fp) ifs tt)
    (he : ∀ (s : Shared) (H : Hp) (C : Addr) (cl : List (PySem.Str × Addr)) (fp : List Addr), PE (X.blk s H scope (compEnvC scope cl C X.env) fp) elt te)
    (hK : ∀ (s : Shared) (H : Hp) (env : Env) (fp : List Addr), ∃ K' : Lnk (X.blk s H scope env fp) Z, K'.vOf = K.vOf ∧ K'.ok = K.ok) (hs : ∀ x, foldedSetIterable iter X.env x = pure x := by intro _; rfl) :
    PE X (.SetComp elt [⟨tg, iter, ifs, 0⟩] scope pos) (tSetC K wi g tt te (own.map (·.2))) := by
  refine ⟨fun pins s σ H Q I h => ?_⟩
  rw [PpSet.eval_SetComp]
  refine setc K hc hu hN I hi ok hg ht he hs hK h fun D C s' m H' I' q hn f => ⟨m, hn, fun h'' sb => ?_⟩
  obtain ⟨f0, f1, f2, f3, f4, f5⟩ := f
  exact ⟨.ref D, H', I'.turned (t' := s'.toks)
                                               (fun b o hb e => (sb.2 b hb).trans e) f0 f1 f3 f4 f5, rfl, q⟩
end
end KS
/-! sets of texts; sets of pairs of a text and an int -/
namespace KS
open PySem PySem.Spec PyProof.Rows L2

section
variable {P : Program} {w : World} {μ κ ν κ' : Type}
theorem pull_mem {Z : Kit P w μ κ} {f : ν → μ} {key' : ν → κ'} (hk : ∀ a b, key' a = key' b ↔ Z.key (f a) = Z.key (f b)) {m : ν} {L : List ν} : key' m ∈ L.map key' ↔ Z.key (f m) ∈ (L.map f).map Z.key := by
  rw [List.mem_map, List.map_map, List.mem_map]
  exact ⟨fun ⟨x, hx, e⟩ => ⟨x, hx, (hk x m).1 e⟩, fun ⟨x, hx, e⟩ => ⟨x, hx, (hk x m).2 e⟩⟩
/-- a kind of members, told otherwise -/
def Kit.pull (Z : Kit P w μ κ) (f : ν → μ) (key' : ν → κ') (hk : ∀ a b, key' a = key' b ↔ Z.key (f a) = Z.key (f b)) : Kit P w ν κ' where
  key := key'
  mv := fun h n v => Z.mv h (f n) v
  sp := fun h a L => Z.sp h a (L.map f)
  mvK := Z.mvK
  spAt := Z.spAt
  spEx := Z.spEx
  spNd := fun {h a L} R => by
    have q := Z.spNd R
    rw [List.map_map] at q
    refine List.pairwise_map.mpr (List.Pairwise.imp (fun {x y} ne e => ne ?_) (List.pairwise_map.mp q))
    exact (hk x y).1 e
  spFew := fun R => by
    have q := Z.spFew R
    rw [List.length_map] at q
    exact q
  fresh := fun ho => Z.fresh ho
  add := fun {A E s a L m v Q} R hm hv room hu hQ => by
    refine Z.add R (fun x hx => ?_) hv (by rw [List.length_map]; exact room) hu fun b h' tk L' sb ht r c1 c2 => ?_
    · obtain ⟨y, hy, e⟩ := List.mem_map.mp hx
      rw [← e]
      exact hm y hy
    · by_cases c : Z.key (f m) ∈ (L.map f).map Z.key
      · have e := c1 c
        subst e
        exact hQ b h' tk L sb ht r (fun _ => rfl) fun z => absurd ((pull_mem hk).2 c) z
      · obtain ⟨L2, p2, e2⟩ := perm_pre (f := f) (c2 c) (m :: L) rfl
        subst e2
        exact hQ b h' tk L2 sb ht r (fun z => absurd ((pull_mem hk).1 z) c) fun _ => p2
  col := fun {A E s a L Q} R hm hh hQ => by
    refine Z.col R (fun x hx => ?_) hh fun s' out L' k z g o pm ei => ?_
    · obtain ⟨y, hy, e⟩ := List.mem_map.mp hx
      rw [← e]
      exact hm y hy
    · obtain ⟨L2, p2, e2⟩ := perm_pre (f := f) pm L rfl
      subst e2
      exact hQ s' out L2 k z g o p2 (each_un ei)
where each_un {R : Value → μ → Prop} : ∀ {vs : List Value} {ms : List ν}, PySem.W.EachIs R vs (ms.map f) → PySem.W.EachIs (fun v m => R v (f m)) vs ms
  | _, [], e => by cases e; exact .nil
  | _, m :: ms, e => by
    cases e with
    | cons r t => exact .cons r (each_un t)
end
/-- texts -/
def strKit (P : Program) (w : World) : Kit P w Str Str := (keyKit P w).pull Sum.inr id fun a b => by
  show a = b ↔ (Sum.inr a : Key) = Sum.inr b
  exact ⟨fun e => by rw [e], fun e => Sum.inr.inj e⟩
/-- pairs -/
def pairKit (P : Program) (w : World) : Kit P w (Addr × Str × Int) (Str × Int) := (tupKit P w).pull (fun m => (m.1, [.inr m.2.1, .inl m.2.2])) (fun m => m.2) fun a b => by
  obtain ⟨a1, a2, a3⟩ := a
  obtain ⟨b1, b2, b3⟩ := b
  show (a2, a3) = (b2, b3) ↔ ([.inr a2, .inl a3] : List Key) = [.inr b2, .inl b3]
  constructor
  · intro e
    injection e with e1 e2
    rw [e1, e2]
  · intro e
    injection e with e1 e2
    injection e2 with e2 _
    rw [Sum.inr.inj e1, Sum.inl.inj e2]
def linkStr (X : Cx) : Lnk X (strKit X.prog X.w) where
  vOf := V.str
  ok := fun _ _ => True
  get := fun _ _ r => (linkKey X).get (m := .inr _) (by assumption) True.intro r
  some_ := fun m => ⟨.str m 0, 0, rfl⟩
  back := fun {h m u} q => (linkKey X).back (h := h) (m := .inr m) q
def linkPair (X : Cx) : Lnk X (pairKit X.prog X.w) where
  vOf := fun m => .ref m.1
  ok := fun H m => SqT X.K H m.1 [.str m.2.1, .int m.2.2]
  get := fun I h r => (linkTup X).get (m := (_, [.inr _, .inl _])) I h r
  some_ := fun m => ⟨.ref m.1, rfl⟩
  back := fun q => q.1

/-! ### sorted -/
theorem rd_str {P : Program} {w : World} {h : Heap} {m : Str} {v : Value} (q : (strKit P w).mv h m v) : Reads h v (.str m) [] := by
  have q : keyIs (.inr m) v = true := q
  rcases keyIs_shape q with ⟨i, t, e, _⟩ | ⟨x, t, e, rfl⟩
  · cases e
  · cases e
    exact .str _ _
def encP (m : Addr × Str × Int) : PyData := .tuple [.str m.2.1, .int m.2.2]
theorem rd_pair {P : Program} {w : World} {h : Heap} {m : Addr × Str × Int} {v : Value} (q : (pairKit P w).mv h m v) : Reads h v (encP m) [] := by
  obtain ⟨a, x, i⟩ := m
  obtain ⟨rfl, o, its, n, ho, hc, hd, hi⟩ := q
  refine .tuple ho hc hd ?_
  cases hi' : its.toList with
  | nil => rw [hi'] at hi; cases hi
  | cons u us =>
    rw [hi'] at hi
    cases hi with
    | cons h1 h2 =>
      cases h2 with
      | cons h3 h4 =>
        cases h4
        rcases keyIs_shape (show keyIs (.inr x) u = true from h1) with ⟨j, t, e, _⟩ | ⟨y, t, e, rfl⟩
        · cases e
        · cases e
          rcases keyIs_shape (show keyIs (.inl i) _ = true from h3) with ⟨j, t2, e, rfl⟩ | ⟨y, t2, e, _⟩
          · cases e
            exact .cons (as := []) (bs := []) (.str _ _) (.cons (as := []) (bs := []) (.int _ _) .nil)
          · cases e
/-- ys are the members of xs, each once, ascending -/
def Srt (xs ys : List Str) : Prop := ys.Pairwise (fun a b => a.cps.toList < b.cps.toList) ∧ ∀ z, z ∈ ys ↔ z ∈ xs
theorem cps_ext {a b : Str} (h : a.cps.toList = b.cps.toList) : a = b := by
  obtain ⟨a⟩ := a
  obtain ⟨b⟩ := b
  exact congrArg Str.mk (Array.toList_inj.mp h)
theorem srt_unique {xs : List Str} : ∀ {ys zs : List Str}, ys.Pairwise (fun a b => a.cps.toList < b.cps.toList) → zs.Pairwise (fun a b => a.cps.toList < b.cps.toList) → (∀ z, z ∈ ys ↔ z ∈ zs) → ys = zs
  | [], [], _, _, _ => rfl
  | [], z :: zs, _, _, h => absurd ((h z).2 List.mem_cons_self) (by simp)
  | y :: ys, [], _, _, h => absurd ((h y).1 List.mem_cons_self) (by simp)
  | y :: ys, z :: zs, h1, h2, h => by
    obtain ⟨a1, a2⟩ := List.pairwise_cons.mp h1
    obtain ⟨b1, b2⟩ := List.pairwise_cons.mp h2
    have e : y = z := by
      rcases List.mem_cons.mp ((h y).1 List.mem_cons_self) with e | m1
      · exact e
      · rcases List.mem_cons.mp ((h z).2 List.mem_cons_self) with e | m2
        · exact e.symm
        · exact absurd (List.lt_trans (a1 z m2) (b1 y m1)) (List.lt_irrefl _)
    subst e
    refine congrArg _ (srt_unique (xs := xs) a2 b2 fun w => ⟨fun m => ?_, fun m => ?_⟩)
    · rcases List.mem_cons.mp ((h w).1 (List.mem_cons_of_mem _ m)) with e | m'
      · exact absurd (a1 w m) (by rw [e]; exact List.lt_irrefl _)
      · exact m'
    · rcases List.mem_cons.mp ((h w).2 (List.mem_cons_of_mem _ m)) with e | m'
      · exact absurd (b1 w m) (by rw [e]; exact List.lt_irrefl _)
      · exact m'
theorem Srt.eq {xs ys zs : List Str} (a : Srt xs ys) (b : Srt xs zs) : ys = zs := srt_unique (xs := xs) a.1 b.1 fun z => (a.2 z).trans (b.2 z).symm
theorem srt_of {xs L L1 : List Str} (nd : L.Nodup) (mem : ∀ z, z ∈ L ↔ z ∈ xs) (pm : L1.Perm L) : Srt xs (L1.mergeSort (PySem.W.dataLe false PyData.str)) := by
  have e : PySem.W.dataLe false PyData.str = fun a b : Str => decide (a.cps.toList ≤ b.cps.toList) := PySem.W.dataLe_str (fun b : Str => b)
  rw [e]
  have pp := List.mergeSort_perm L1 (fun a b : Str => decide (a.cps.toList ≤ b.cps.toList))
  have tr : ∀ a b c : Str, decide (a.cps.toList ≤ b.cps.toList) = true → decide (b.cps.toList ≤ c.cps.toList) = true → decide (a.cps.toList ≤ c.cps.toList) = true :=
    fun a b c h1 h2 => decide_eq_true (List.le_trans (of_decide_eq_true h1) (of_decide_eq_true h2))
  have tt : ∀ a b : Str, (decide (a.cps.toList ≤ b.cps.toList) || decide (b.cps.toList ≤ a.cps.toList)) = true := fun a b => by
    rcases List.le_total a.cps.toList b.cps.toList with h | h
    · rw [decide_eq_true h, Bool.true_or]
    · rw [decide_eq_true h, Bool.or_true]
  have st := List.pairwise_mergeSort (le := fun a b : Str => decide (a.cps.toList ≤ b.cps.toList)) tr tt L1
  have nd1 : (L1.mergeSort (fun a b : Str => decide (a.cps.toList ≤ b.cps.toList))).Nodup := (pp.trans pm).nodup_iff.mpr nd
  refine ⟨?_, fun z => by rw [(pp.trans pm).mem_iff]; exact mem z⟩
  have both := st.and nd1
  refine List.Pairwise.imp (fun {a b} h => ?_) both
  have h1 : a.cps.toList ≤ b.cps.toList := of_decide_eq_true h.1
  rcases Classical.em (a.cps.toList < b.cps.toList) with c | c
  · exact c
  · exact absurd (cps_ext (List.le_antisymm h1 c)) h.2
end KS
namespace K06
open PySem L2
theorem un1 {k : Nat} {A : Around} (r : Room k A) : A.in1.units < cLine := by
  have := r.un
  show A.units + 1 < cLine
  omega
theorem un2 {k : Nat} {A : Around} (r : Room k A) : A.in1.units + 1 + 0 < cLine := by
  have := r.un
  show A.units + 1 + 1 + 0 < cLine
  omega
/-- what an operation reads or uses -/
abbrev Prs := List (Str × Int)
def pD (p : Str × Int) : PyData := .tuple [.str p.1, .int p.2]
def tD (ps : Prs) : PyData := .tuple (ps.map pD)
def lD (ps : Prs) : PyData := .list (ps.map pD)
theorem dataLt_si (x y : Str) (i j : Int) : PySem.W.dataLt (pD (x, i)) (pD (y, j)) = decide (x.cps.toList < y.cps.toList ∨ (x = y ∧ i < j)) := by
  unfold pD
  rw [PySem.W.dataLt_pair (by simp [PySem.W.alike]) (by simp [PySem.W.alike]), PySem.W.dataLt_int, PySem.W.dataLt_str]
  simp only [PyData.eqv, beq_iff_eq]
  by_cases h1 : x = y <;> by_cases h2 : i = j <;> simp [h1, h2, List.lt_irrefl]
theorem le_strict {m n : Addr × Str × Int} (h : PySem.W.dataLe false KS.encP m n = true) (ne : m.2 ≠ n.2) : PySem.W.dataLt (pD m.2) (pD n.2) = true := by
  obtain ⟨a, x, i⟩ := m
  obtain ⟨b, y, j⟩ := n
  have h1 : (!PySem.W.dataLt (pD (y, j)) (pD (x, i))) = true := h
  rw [dataLt_si] at h1 ⊢
  have h2 : ¬ (y.cps.toList < x.cps.toList ∨ (y = x ∧ j < i)) := fun z => by
    rw [decide_eq_true z] at h1
    cases h1
  refine decide_eq_true ?_
  by_cases e : x = y
  · refine .inr ⟨e, ?_⟩
    have h3 : ¬ j < i := fun z => h2 (.inr ⟨e.symm, z⟩)
    have h4 : i ≠ j := fun z => ne (by rw [e, z])
    omega
  · refine .inl ?_
    have h3 : ¬ y.cps.toList < x.cps.toList := fun z => h2 (.inl z)
    rcases Classical.em (x.cps.toList < y.cps.toList) with c | c
    · exact c
    · exact absurd (KS.cps_ext (List.le_antisymm h3 c)) e
/-- strictly ascending -/
def Asc (us : Prs) : Prop := us.Pairwise fun p q => PySem.W.dataLt (pD p) (pD q) = true
theorem asc_of {L L1 : List (Addr × Str × Int)} (nd : (L.map (·.2)).Nodup) (pm : L1.Perm L) : Asc ((L1.mergeSort (PySem.W.dataLe false KS.encP)).map (·.2)) ∧ (L1.mergeSort (PySem.W.dataLe false KS.encP)).Perm L := by
  have pp : (L1.mergeSort (PySem.W.dataLe false KS.encP)).Perm L := (List.mergeSort_perm L1 _).trans pm
  have st : (L1.mergeSort (PySem.W.dataLe false KS.encP)).Pairwise (fun a b => PySem.W.dataLe false KS.encP a b = true) := PySem.W.sort_pairwise (PySem.W.sortLe_total _ _ _) L1
  refine ⟨?_, pp⟩
  have n1 := List.pairwise_map.mp ((pp.map (·.2)).nodup_iff.mpr nd)
  exact List.pairwise_map.mpr (List.Pairwise.imp (fun {a b} h => le_strict h.1 h.2) (st.and n1))
theorem asc_data {us : Prs} (h : Asc us) : ascD (us.map pD) = true := by
  unfold ascD
  rw [List.all_eq_true]
  intro i hi
  have hi2 := List.mem_range.mp hi
  rw [List.length_map] at hi2
  have h1 : i < us.length := by omega
  have h2 : i + 1 < us.length := by omega
  have e1 : (us.map pD).getD i .none = pD us[i] := by simp [List.getD_eq_getElem?_getD, List.getElem?_map, List.getElem?_eq_getElem h1]
  have e2 : (us.map pD).getD (i + 1) .none = pD us[i + 1] := by simp [List.getD_eq_getElem?_getD, List.getElem?_map, List.getElem?_eq_getElem h2]
  rw [e1, e2]
  exact List.pairwise_iff_getElem.mp h i (i + 1) h1 h2 (Nat.lt_succ_self _)
theorem dpa_pairs {K : PySem.W.Frag} {H : Hp} : ∀ {ps : Prs} {xs : List V} {i : Nat} {x : V}, DpAll K H xs (ps.map pD) → xs[i]? = some x → ∃ p a, ps[i]? = some p ∧ x = .ref a ∧ SqT K H a [.str p.1, .int p.2]
  | [], _, i, x, h, e => by cases h; simp at e
  | p :: ps, _, i, x, h, e => by
    cases h with
    | cons h1 h2 =>
      cases i with
      | zero =>
        obtain rfl := Option.some.inj e
        cases h1 with
        | tup t1 t2 =>
          cases t2 with
          | cons t2 t3 =>
            cases t2
            cases t3 with
            | cons t3 t4 =>
              cases t3
              cases t4
              exact ⟨p, _, rfl, rfl, t1⟩
      | succ i => exact dpa_pairs (i := i) h2 (by simpa using e)
section
variable {X : Cx} {μ κ : Type} {Z : KS.Kit X.prog X.w μ κ} (K : KS.Lnk X Z)
/-- a set comprehension over a walk: Pv by the turn and the heap -/
theorem sc_it {J : It} {n : Nat} {G : Hp → Prop} {Y : Nat → Hp → V → Hp → Prop} (w : Walk J n G Y) {g : TG} {tt : TT} {te : TE} {vs : List Nat} {σ : L2.St} {H1 : Hp} {D : Addr} {Qd : Hp → Prop} (Pv : Nat → Hp → Prop)
    (h0 : Pv 0 (upd H1 D (KS.SetO Z D []))) (hG : ∀ i H, i ≤ n → Pv i H → G H)
    (hs : ∀ i x H H', i < n → Pv i H → Y i H x H' → g x
                                                        (wipe σ vs) H' fun σ2 H2 => wipe σ2 vs = wipe σ vs ∧ tt σ2 H2 fun b H3 =>
      if b = true then te σ2 H3 fun y H4 => ∃ (m : μ) (L : List μ), y = K.vOf m ∧ H4 D = some (KS.SetO Z D L) ∧ K.ok H4 m ∧ (∀ x ∈ L, K.ok H4 x) ∧ L.length + 1 < 64 ∧ (∀ L', KS.Grow Z L m L' → Pv (i + 1) (upd H4 D (KS.SetO Z D L'))) else Pv (i + 1) H3)
    (hd : ∀ H, Pv n H → Qd H) :
    ∃ W : Nat → Nat → Hp → Prop, (∃ m, W 0 m (upd H1 D (KS.SetO Z D []))) ∧ ∀ i m H, W i m H →
      (J.stop i H ∧ Qd H) ∨ (J.go i H ∧ ∃ Nx : Hp → Prop, (∀ H', Nx H' → ∃ m', m' < m ∧ W
                                                                                          (i + 1) m' H') ∧ ∀ x H', J.yld i H x H' → g x (wipe σ vs) H' fun σ2 H2 => wipe σ2 vs = wipe σ vs ∧ tt σ2 H2 fun b H3 =>
        if b = true then te σ2 H3 fun y H4 => ∃ (m : μ) (L : List μ), y = K.vOf m ∧ H4 D = some (KS.SetO Z D L) ∧ K.ok H4 m ∧ (∀ x ∈ L, K.ok H4 x) ∧ L.length + 1 < 64 ∧ (∀ L', KS.Grow Z L m L' → Nx (upd H4 D (KS.SetO Z D L'))) else Nx H3) := by
  refine ⟨fun i m H => m = n - i ∧ i ≤ n ∧ Pv i H,
                                                   ⟨n, by simp, Nat.zero_le _, h0⟩, ?_⟩
  rintro i m H ⟨rfl, hi, p⟩
  have q := hG i H hi p
  by_cases lt : i < n
  · exact .inr ⟨w.goes i H lt q, Pv (i + 1), fun H' p' => ⟨n - (i + 1), by omega, rfl, lt, p'⟩, fun x H' y => hs i x H H' lt p (w.yields i H x H' lt q y)⟩
  · obtain rfl : i = n := by omega
    exact .inl ⟨w.stops H q, hd H p⟩
end
section
variable {P : Program} {w : World} {K : PySem.W.Frag}
                                                      {mg : Str → Option Value} {base : Heap}
def sp_first_items (K : PySem.W.Frag) : Sp := fun vs H Q _ => ∃ (x : V) (ps : Prs), vs = [x] ∧ Dp K H x (tD ps) ∧ ps.length < 60 ∧ ∀ (ys : List Str) (l : Addr) H', KS.Srt (ps.map (·.1)) ys → Same H H' → SqT K H' l (ys.map V.str) → Q (.ref l) H'
theorem ok_first_items (T : T K mg) : FnOk P w K mg base CX0 1 T.f_first_items T.d_first_items ["rows"] (sp_first_items K) := by
  refine T.F_first_items.ok sc_first_items (fun vs H Q E h => ?_) (fun cdv A outer s H vs Q E hr h => ?_)
  · obtain ⟨x, ps, rfl, _⟩ := h
    rfl
  · obtain ⟨x, ps, rfl, hx, few, k⟩ := h
    have hu := hu_of hr
    refine ⟨_, (pss_one (ps_ret (pe_callTy call_tuple_of (by rfl) T.z_tuple (by decide +kernel) (pa_cons (pe_callB (KS.cr_sortedK (KS.linkStr _) (enc := PyData.str) rfl KS.rd_str (fun m => un2 hr)) (by rfl) T.z_sorted (by decide +kernel)
      (pa_cons (KS.pe_setc (KS.linkStr _) (own := [("row", 1)]) (g := gName 1) rfl (un1 hr) sc_first_items.nd (pi_tup (pv 0)) (blkOk_by (N := ["rows", "row"]) (sc := defScope s_first_items) (by decide +kernel)) (fun _ _ _ _ _ => pg_name (i := 1) sc_first_items.nd rfl (Or.inl rfl)) (fun _ _ _ _ _ => pts_nil)
        (fun _ _ _ _ _ => pe_ix (r := rIx K) ix_seq (pv 1) pe_int (fun _ _ => rfl)) (fun _ _ _ _ => ⟨KS.linkStr _, rfl, rfl⟩)) pa_nil)) pa_nil)))), ?_⟩
    obtain ⟨a, xs, rfl, hS, hd⟩ : ∃ a xs, x = .ref a ∧ SqT K H a xs ∧ DpAll K H xs (ps.map pD) := by
      cases hx with
      | tup h1 h2 => exact ⟨_, _, rfl, h1, h2⟩
    have hn : ps.length = xs.length := by
      have q := dpa_len hd
      rw [List.length_map] at q
      exact q
    refine ⟨_, rfl, a, rfl, ⟨_, hS⟩, fun D hD => ?_⟩
    refine sc_it (KS.linkStr _) (walk_tup (K := K) (a := a) (xs := xs)) (fun i H' => ∃ L, H' D = some (KS.SetO (KS.strKit P w) D L) ∧ Same H H' ∧ KS.From (KS.strKit P w) (ps.map (·.1)) i L) ⟨[], upd_same, Same.new hD, KS.From.start _ _⟩ (fun i H' _ ⟨_, _, S, _⟩ => Same.seqT S hS) ?_ ?_
    · rintro i y H1 H2 hi ⟨L, eD, S, g⟩ ⟨rfl, hy⟩
      obtain ⟨p, b, e0, rfl, ht⟩ := dpa_pairs hd hy
      refine ⟨rfl, ?_⟩
      unfold tYes
      dsimp only
      rw [if_pos rfl]
      have lt : L.length ≤ i := g.len
      have e1 : (ps.map (·.1))[i]? = some p.1 := by rw [List.getElem?_map, e0]; rfl
      refine ⟨_, rfl, .inr (.inl ⟨b, [.str p.1, .int p.2], 0, .str p.1, rfl, rfl, Same.seqT S ht, rfl, p.1, L, rfl, eD, True.intro, fun _ _ => True.intro, by omega, fun L' gr => ⟨L', upd_same, Same.at hD S, g.step e1 gr.1 gr.2⟩⟩)⟩
    · rintro H9 ⟨L, eD, S, g⟩
      rw [← hn] at g
      refine ⟨D, L, rfl, eD, fun _ _ => True.intro, PySem.W.AllAlike.of (enc := PyData.str) (fun b b' => by simp [PySem.W.alike]), PySem.W.Sortable.others (enc := PyData.str) (fun b => ⟨by simp, by simp⟩), fun L1 p pm nd hp => ?_⟩
      have nd2 : L.Nodup := by
        have q : (L.map id).Nodup := nd
        rw [List.map_id] at q
        exact q
      have mem : ∀ z, z ∈ L ↔ z ∈ ps.map (·.1) := fun z => by
        have tk : (ps.map (·.1)).take ps.length = ps.map (·.1) := List.take_of_length_le (by rw [List.length_map]; exact Nat.le_refl _)
        constructor
        · intro m
          have q := g.sub z m
          rw [tk] at q
          exact q
        · intro m
          have q : z ∈ L.map id := g.all z (by rw [tk]; exact m)
          rw [List.map_id] at q
          exact q
      have st := KS.srt_of (xs := ps.map (·.1)) nd2 mem pm
      refine ⟨p, _, rfl, .inl ⟨SqL.of upd_same, fun l hl => ?_⟩⟩
      refine k _ l _ st (fun b o e => ?_) (SqT.of upd_same)
      have e9 := S b o e
      rw [upd_ne (ne_of_none (by rw [upd_ne (ne_of_none e9 hp)]; exact e9) hl), upd_ne (ne_of_none e9 hp)]
      exact e9
end
end K06
namespace K06
open PySem L2
/-- the parts of an f-string -/
def tJ (ts : List TE) : TE := fun σ H Q => tJs ts Str.empty σ H fun out H1 => Q (.str out) H1
theorem pe_J {X : Cx} {v1 v2 : Expr} {rest : List Expr} {ts : List TE} {pos : Pos} (h : PJ X (v1 :: v2 :: rest) ts) : PE X (.JoinedStr (v1 :: v2 :: rest) pos) (tJ ts) := pe_joined h
/-- a text as a pair is told -/
def partS (p : Str × Int) : Str := Str.empty ++ p.1 ++ Str.ofString " " ++ toString p.2
def joinS (ps : Prs) : Str := Txt.join (Str.ofString ", ") (ps.map partS)
def toldS (w : Str) (ps : Prs) : Str := if ps.isEmpty then Str.empty else Str.empty ++ Str.ofString " " ++ w ++ Str.ofString " " ++ joinS ps
/-- short names, small numbers -/
def Small (ps : Prs) : Prop := ps.length ≤ 4 ∧ ∀ p ∈ ps, p.1.length ≤ 8 ∧ 0 ≤ p.2 ∧ p.2 ≤ 4
theorem len_app (a b : Str) : (a ++ b).length = a.length + b.length := by
  show (a.cps ++ b.cps).size = a.cps.size + b.cps.size
  exact Array.size_append
theorem small_int {i : Int} (h0 : 0 ≤ i) (h1 : i ≤ 4) : (toString i : Str).length = 1 ∧ i.natAbs.log2 < 1920 := by
  have h : i = 0 ∨ i = 1 ∨ i = 2 ∨ i = 3 ∨ i = 4 := by omega
  rcases h with h | h | h | h | h <;> subst h <;> exact ⟨by decide +kernel, by decide +kernel⟩
theorem part_len {p : Str × Int} (h : p.1.length ≤ 8 ∧ 0 ≤ p.2 ∧ p.2 ≤ 4) : (partS p).length ≤ 10 := by
  unfold partS
  rw [len_app, len_app, len_app, (small_int h.2.1 h.2.2).1]
  have e1 : Str.empty.length = 0 := rfl
  have e2 : (Str.ofString " ").length = 1 := by decide +kernel
  omega
theorem parts_sum : ∀ {ps : Prs}, (∀ p ∈ ps, p.1.length ≤ 8 ∧ 0 ≤ p.2 ∧ p.2 ≤ 4) → ((ps.map partS).map (·.length)).sum ≤ 10 * ps.length
  | [], _ => Nat.le_refl _
  | p :: ps, h => by
    have h1 := part_len (h p List.mem_cons_self)
    have h2 := parts_sum fun q hq => h q (List.mem_cons_of_mem _ hq)
    rw [List.map_cons, List.map_cons, List.sum_cons, List.length_cons]
    omega
theorem join_len (y : Str) : ∀ ps : List Str, (Str.join y ps).length ≤ (ps.map (·.length)).sum + ps.length * y.length
  | [] => Nat.zero_le _
  | [x] => by
    show x.length ≤ _
    rw [List.map_cons, List.sum_cons]
    omega
  | x :: z :: r => by
    show (x ++ y ++ Str.join y (z :: r)).length ≤ _
    have h := join_len y (z :: r)
    rw [len_app, len_app, List.map_cons, List.sum_cons, List.length_cons, Nat.succ_mul]
    omega
theorem joinS_len {ps : Prs} (h : Small ps) : (joinS ps).length ≤ 60 := by
  unfold joinS
  rw [TL.join_eq]
  have h1 := join_len (Str.ofString ", ") (ps.map partS)
  have h2 := parts_sum h.2
  have e2 : (Str.ofString ", ").length = 2 := by decide +kernel
  rw [e2, List.length_map] at h1
  have := h.1
  omega
section
variable {P : Program} {w : World} {K : PySem.W.Frag}
                                                      {mg : Str → Option Value} {base : Heap}
def sp_told (K : PySem.W.Frag) : Sp := fun vs H Q _ => ∃ (z : Str) (x : V) (ps : Prs), vs = [.str z, x] ∧ z.length ≤ 100 ∧ Dp K H x (tD ps) ∧ Small ps ∧ ∀ H', Same H H' → Q (.str (toldS z ps)) H'
theorem ok_told (T : T K mg) : FnOk P w K mg base CX0 1 T.f_told T.d_told ["word", "pairs"] (sp_told K) := by
  refine T.F_told.ok sc_told (fun vs H Q E h => ?_) (fun cdv A outer s H vs Q E hr h => ?_)
  · obtain ⟨z, x, ps, rfl, _⟩ := h
    rfl
  · obtain ⟨z, x, ps, rfl, hz, hx, sm, k⟩ := h
    have hu := hu_of hr
    refine ⟨_, (pss_cons (ps_if (pt_not (pt_truth (pv 1) (fun _ => rfl)))
      (pss_one (ps_ret pe_str))
      pss_nil)
      (pss_cons (ps_set (i := 2) sc_told.nd rfl (Or.inl rfl) (pe_join pe_str (pe_lc (own := [("name", 3), ("number", 4)]) (g := gTup K 2 (gCons (gName 3) (gCons (gName 4) gNil))) rfl sc_told.nd (pi_tup (pv 1)) (blkOk_by (N := ["word", "pairs", "told", "name", "number"]) (sc := defScope s_told) (by decide +kernel)) (fun _ _ _ _ _ => (pg_tup rfl (pgs_cons (pg_name (i := 3) sc_told.nd rfl (Or.inl rfl)) (pgs_cons (pg_name (i := 4) sc_told.nd rfl (Or.inl rfl)) pgs_nil)))) (fun _ _ _ _ _ => pts_nil)
        (fun _ _ _ _ _ => pe_J (.cons (pe_fmt (pv 3)) (.cons pe_str (.cons (pe_fmt (pv 4)) .nil)))))))
      (pss_one (ps_ret (pe_joined (.cons pe_str (.cons (pe_fmt (pv 0)) (.cons pe_str (.cons (pe_fmt (pv 2)) .nil))))))))), ?_⟩
    obtain ⟨a, xs, rfl, hS, hd⟩ : ∃ a xs, x = .ref a ∧ SqT K H a xs ∧ DpAll K H xs (ps.map pD) := by
      cases hx with
      | tup h1 h2 => exact ⟨_, _, rfl, h1, h2⟩
    have hn : ps.length = xs.length := by
      have q := dpa_len hd
      rw [List.length_map] at q
      exact q
    have he : ps.isEmpty = xs.isEmpty := by
      cases ps <;> cases xs <;> first | rfl | (simp at hn)
    refine ⟨_, rfl, !xs.isEmpty, .inr (.inl ⟨xs, hS, rfl⟩), ?_⟩
    cases hb : xs.isEmpty with
    | true =>
      refine iteT ?_
      have e : toldS z ps = Str.ofString "" := by
        unfold toldS
        rw [he, hb]
        rfl
      have q := k H (Same.refl _)
      rw [e] at q
      exact q
    | false =>
      refine iteF ?_
      have e : toldS z ps = Str.empty ++ Str.ofString " " ++ z ++ Str.ofString " " ++ joinS ps := by
        unfold toldS
        rw [he, hb]
        rfl
      refine ⟨⟨_, rfl⟩, _, rfl, a, rfl, ⟨_, hS⟩, fun D hD => ?_⟩
      dsimp only [gName, tSeq, tAsg, tDrop]
      refine lc_it walk_tup (fun i H' => H' D = some (.lst (((ps.take i).map partS).map V.str)) ∧ Same H H') ⟨upd_same, Same.new hD⟩ (fun i H' _ ⟨_, S⟩ => Same.seqT S hS) ?_ ?_
      · rintro i y H1 H2 hi ⟨eD, S⟩ ⟨rfl, hy⟩
        obtain ⟨p, b, e0, rfl, ht⟩ := dpa_pairs hd hy
        have sp := sm.2 p (List.mem_of_getElem? e0)
        have si := small_int sp.2.1 sp.2.2
        refine ⟨b, _, rfl, Same.seqT S ht, rfl, _, _, rfl, _, _, rfl, rfl, ?_⟩
        refine ⟨rfl, ?_⟩
        unfold tYes
        dsimp only
        rw [if_pos rfl]
        have l1 : (Str.empty ++ p.1).length ≤ 100 := by rw [len_app]; show 0 + _ ≤ _; omega
        have l2 : (Str.empty ++ p.1 ++ Str.ofString " ").length ≤ 101 := by rw [len_app]; have : (Str.ofString " ").length = 1 := (by decide +kernel); omega
        have l3 := part_len sp
        refine ⟨_, rfl, .inl ⟨p.1, rfl, by rw [sizeLine_eq]; omega, _, rfl, by rw [sizeLine_eq]; omega, _, rfl, by rw [sizeLine_eq]; omega, _, rfl, .inr ⟨p.2, rfl, si.2, _, rfl, by rw [sizeLine_eq]; have : (partS p).length ≤ 10 := l3; unfold partS at this; omega, ?_⟩⟩⟩
        refine ⟨_, eD, ?_, ?_, Same.at hD S⟩
        · rw [List.length_map, List.length_map, List.length_take]
          have := sm.1
          exact Nat.lt_of_le_of_lt (Nat.le_trans (Nat.min_le_right _ _) (by omega : ps.length ≤ 100)) (by decide)
        · rw [upd_same, List.take_add_one, e0, List.map_append, List.map_append]
          rfl
      · rintro H9 ⟨eD, S⟩
        have tk : ps.take xs.length = ps := by rw [← hn, List.take_length]
        rw [tk] at eD
        have h2 := parts_sum sm.2
        have h1 := sm.1
        have e2 : (Str.ofString ", ").length = 2 := by decide +kernel
        refine ⟨_, D, ps.map partS, rfl, rfl, .inl (SqL.of eD), ?_, ?_⟩
        · rw [e2, List.length_map]
          omega
        have jl := joinS_len sm
        have q := k _ S
        rw [e] at q
        have b1 : (Str.ofString " ").length = 1 := by decide +kernel
        have b0 : Str.empty.length = 0 := rfl
        have n1 : (Str.empty ++ Str.ofString " ").length ≤ sizeLine := by rw [len_app, sizeLine_eq]; omega
        have n2 : (Str.empty ++ Str.ofString " " ++ z).length ≤ sizeLine := by rw [len_app, len_app, sizeLine_eq]; omega
        have n3 : (Str.empty ++ Str.ofString " " ++ z ++ Str.ofString " ").length ≤ sizeLine := by rw [len_app, len_app, len_app, sizeLine_eq]; omega
        have n4 : (Str.empty ++ Str.ofString " " ++ z ++ Str.ofString " " ++ joinS ps).length ≤ sizeLine := by rw [len_app, len_app, len_app, len_app, sizeLine_eq]; omega
        exact ⟨_, rfl, n1, _, rfl, .inl ⟨z, rfl, by rw [sizeLine_eq]; omega, _, rfl, n2, _, rfl, n3, _, rfl, .inl ⟨joinS ps, rfl, by rw [sizeLine_eq]; omega, _, rfl, n4, q⟩⟩⟩
end
end K06
/-! an own class's ==, !=, str, by the promises of its defs -/
namespace OW
open PySem PySem.Spec PyProof.Rows L2

section
variable {prog : Program} {w : World} {A : Around} {E : Value → Shared → Prop} {s : Shared} {K : PySem.W.Frag} {x C L : Addr} {h₀ : Heap} {m : Str → Option Value} {ox : Obj} {od : Option Obj} {b tb : Value}
/-- a comparison by what the left one's special method gives -/
theorem cmp_left {op : CmpOp} {Q : Value → Shared → Prop} (hu : A.units < cLine) (X : K.In s.heap) (I : PySem.W.InstAt s.heap x ox C od) (hb : PySem.W.Looks (model prog w) s.heap (typeOf b) tb) (hn : PySem.W.notFirst K C tb = true)
    (one : wpAny (model prog w) A (tryCompare (.ref x) (cmpInfo op).2.1 b) (fun r s' => ∃ v, r = some v ∧ Q v s') E s) : wpAny (model prog w) A (richCompare op (.ref x) b) Q E s := by
  unfold richCompare
  simp only [oneThing_ref]
  refine wpAny_holding (wpAny_bind (wpAny_cRoomFor hu (wpAny_bind (I.type.here (wpAny_bind (hb.here ?_))))))
  have fin : ∀ {k : Option Value → Sem Value}, (∀ v, k (some v) = pure v) → wpAny (model prog w) A (tryCompare (.ref x) (cmpInfo op).2.1 b >>= k) Q E s := fun hk => by
    refine wpAny_bind (wpAny_mono one
                                      (fun r s' z => ?_) fun _ _ e => e)
    obtain ⟨v, rfl, q⟩ := z
    rw [hk]
    exact wpAny_pure q
  split
  · rename_i q
    have e : PySem.W.subIn K tb (.ref C) = some false := by
      rcases Bool.or_eq_true_iff.mp hn with e | e
      · rw [beq_iff_eq.mp e] at q
        simp at q
      · exact beq_iff_eq.mp e
    refine wpAny_bind ((PySem.W.looks_subIn X e).here ?_)
    simp only [Bool.false_eq_true, if_false]
    exact fin fun v => rfl
  · refine wpAny_bind (wpAny_pure ?_)
    simp only [Bool.false_eq_true, if_false]
    exact fin fun v => rfl
/-- a special method that the class has from object -/
theorem if_builtin {M : Model} {name : Str} {id : String} {args : List Value} {Q : Option Value → Shared → Prop} (X : K.In s.heap) (I : PySem.W.InstAt s.heap x ox C od) (hs : PySem.W.findIn K (.ref C) name = some (some (.builtin id)))
    (hb : ∀ self, bindSpecial (.builtin id) self = pure (.builtin id, [self])) (h : wpAny M A (call (.builtin id) (.ref x :: args)) (fun v => Q (some v)) E s) : wpAny M A (callSpecialIfBound? (.ref x) name args) Q E s := by
  simp only [callSpecialIfBound?, bindSpecialIfBound?]
  refine wpAny_holding (wpAny_bind (wpAny_bind (wpAny_bind (I.type.here ((PySem.W.looks_findIn X hs).here (wpAny_bind (wpAny_askSetting (wpAny_ite ?_))))))))
  have fin : wpAny M A (call (.builtin id) ([.ref x] ++ args) >>= fun v => pure (some v)) Q E s := wpAny_bind (wpAny_mono h (fun v s' h' => wpAny_pure h') fun _ _ h' => h')
  split
  · exact wpAny_bind (wpAny_of_eq (hb _) (wpAny_pure (by exact fin)))
  · exact wpAny_tryCatch (wpAny_bind (wpAny_of_eq (hb _) (wpAny_pure (by exact fin))))
/-- != from an own == -/
theorem ne_left {f : Addr} {Q : Value → Shared → Prop} (hu : A.in1.units < cLine) (X : K.In s.heap) (I : PySem.W.InstAt s.heap x ox C od) (hm : PySem.W.mroIn K C (.type "object") = some true) (hn : PySem.W.findIn K (.ref C) "__ne__" = some (some (.builtin "object.__ne__")))
    (hs : PySem.W.findIn K (.ref C) "__eq__" = some (some (.ref f))) (hf : PySem.W.isFn K (.ref f) = true)
    (h : wpAny (model prog w) A.in1 (call (.ref f) [.ref x, b]) (fun v s' => ∃ z, v = .bool z ∧ Q (.bool (!z)) s') E s) : wpAny (model prog w) A (tryCompare (.ref x) (cmpInfo .NotEq).2.1 b) (fun r s' => ∃ v, r = some v ∧ Q v s') E s := by
  unfold tryCompare
  refine wpAny_bind (if_builtin X I hn F.cmp_object.ne.bind (wpAny_call (codeAny_call_builtin F.cmp_object.ne.plain F.cmpEntry_ne (PySem.W.check_slot F.cmpKind_ne F.cmpSplit_ne (I.type.andThen (PySem.W.looks_mroIn X hm)) (F.cmpArgs_ne _ _) ?_))))
  unfold Builtin.«object.__ne__»
  refine wpAny_bind (wpAny_of_eq (a := ((Value.ref x), [b])) rfl ?_)
  dsimp only
  refine wpAny_bind (wpAny_cRoomFor hu ?_)
  refine wpAny_bind (PySem.W.ifBound_K X I hs hf (wpAny_mono h (fun v s' z => ?_) fun _ _ e => e))
  obtain ⟨z, rfl, q⟩ := z
  refine wpAny_bind (wpAny_truthy_bool ?_)
  exact wpAny_pure (wpAny_pure ⟨_, rfl, q⟩)
end

/-- the type of a value -/
def Tyd (K : PySem.W.Frag) (H : Hp) (y : V) (tb : Value) : Prop :=
  match y with
  | .non => tb = .type "NoneType"
  | .bl _ => tb = .type "bool"
  | .int _ => tb = .type "int"
  | .str _ => tb = .type "str"
  | .ref a => ((∃ xs, SqL K H a xs) ∧ tb = .type "list") ∨ ((∃ xs, SqT K H a xs) ∧ tb = .type "tuple") ∨ ∃ C dx fs, H a = some (.ins C dx fs) ∧ tb = .ref C
  | _ => False
section
variable {X : Cx} {pins : List (Addr × Obj)} {σ : L2.St} {H : Hp} {s : Shared} {y : V} {u tb : Value}
theorem tyd_at {h : Heap} {a : Addr} {o : Obj} {M : Model} {t : Value} (ho : h.get? a = some o) (hc : o.cls = t) : PySem.W.Looks M h (typeOf (.ref a)) t := fun A Q E s k q => wpAny_typeOf_ref (k _ _ ho) (by rw [hc]; exact q)
theorem tyd_looks (I : Inv X pins σ H s) (r : RelV y u) (t : Tyd X.K H y tb) : PySem.W.Looks (model X.prog X.w) s.heap (typeOf u) tb := by
  cases y with
  | non => cases r; cases t; exact PySem.W.Looks.of_pure rfl
  | bl b => cases r; cases t; exact PySem.W.Looks.of_pure rfl
  | int i => obtain ⟨tk, rfl⟩ := r; cases t; exact PySem.W.Looks.of_pure rfl
  | str x => obtain ⟨tk, rfl⟩ := r; cases t; exact PySem.W.Looks.of_pure rfl
  | ref a =>
    cases r
    rcases t with ⟨⟨xs, h⟩, rfl⟩ | ⟨⟨xs, h⟩, rfl⟩ | ⟨C, dx, fs, h, rfl⟩
    · obtain ⟨its, _, pl, _⟩ := I.list h
      obtain ⟨o, ho, hc, _⟩ := pl.isList
      exact tyd_at ho hc
    · obtain ⟨its, _, ⟨o, ho, hc, _⟩, _⟩ := I.tuple h
      exact tyd_at ho hc
    · obtain ⟨mA, O, _⟩ := ins_get I.hok h
      obtain ⟨od, J, _⟩ := O.look
      exact J.type
  | byt _ => exact t.elim
  | flt _ => exact t.elim
  | ty _ => exact t.elim

/-- a def called from within a builtin -/
theorem run_at {CX : CXT} {n : Nat} {f : Addr} {fd : FuncData} {ps : List Str} {sp : Sp} {E : XK} {A : Around} {Q : VK} {us : List Value} {vs : List V} (F : FnOk X.prog X.w X.K X.mg X.base CX n f fd ps sp) (sb : Sub X n A) (hb : Binds X.K fd ps []) (hx : Passes CX X E)
    (I : Inv X pins σ H s) (r : Vals vs us) (h : sp vs H Q E) : wpAny (model X.prog X.w) A (call (.ref f) us) (EP X pins σ Q) X.xe s := by
  have e0 : Env0 X.prog X.w X.K X.mg X.base A X.stack s H := by
    have e := I.env0
    exact ⟨by rw [sb.fr]; exact e.frames, e.mod, e.bs, e.bsz, e.funs, e.frf, e.hok, e.bare⟩
  have hl := F.len _ _ _ _ h
  refine wpAny_call (codeAny_mono (F.run A X.stack s H ⟨us, []⟩ us vs Q E sb.room e0 (by
    have := hb s us I.kIn (by rw [List.append_nil, ← r.length]; exact hl)
    rwa [List.append_nil] at this) r h) fun r s' hq => ?_)
  cases r with
  | error e => exact hx pins σ H s e s' I hq
  | ok fl =>
    cases fl with
    | ret w => exact I.after hq
    | next => exact False.elim hq
    | brk => exact False.elim hq
    | cont => exact False.elim hq
theorem not_ni {z : V} {v : Value} {R : Prop} (r : RelV z v) (h : v ≠ .notImplemented → R) : R := h fun e => by
  subst e
  cases z <;> first | exact nomatch r | (obtain ⟨t, e⟩ := r; exact nomatch e) | (cases r)

/-- the class's own == -/
structure OwnEq (X : Cx) (C f : Addr) : Prop where
  fs : PySem.W.findIn X.K (.ref C) "__eq__" = some (some (.ref f))
  fn : PySem.W.isFn X.K (.ref f) = true
def rOwnEq (K : PySem.W.Frag) (C : Addr) (sp : Sp) (E : XK) : R2 := fun x y H Q => ∃ a dx fs tb, x = .ref a ∧ H a = some (.ins C dx fs) ∧ Tyd K H y tb ∧ PySem.W.notFirst K C tb = true ∧ sp [x, y] H Q E
theorem op_ownEq {CX : CXT} {n : Nat} {C f : Addr} {fd : FuncData} {ps : List Str} {sp : Sp} {E : XK} (F : FnOk X.prog X.w X.K X.mg X.base CX n f fd ps sp) (o : OwnEq X C f) (hr : Room n X.A) (hb : Binds X.K fd ps []) (hx : Passes CX X E) :
    OpR X (compareOp .Eq) (rOwnEq X.K C sp E) := by
  intro pins s σ H x y v u Q I rx ry h
  obtain ⟨a, dx, fs, tb, rfl, ha, ty, nf, q⟩ := h
  cases rx
  obtain ⟨mA, O, _⟩ := ins_get I.hok ha
  obtain ⟨od, J, _⟩ := O.look
  show wpAny _ _ (richCompare .Eq (.ref a) u) _ _ _
  refine cmp_left hr.units0 I.kIn J (tyd_looks I ry ty) nf ?_
  unfold tryCompare
  refine wpAny_bind (PySem.W.ifBound_K I.kIn J o.fs o.fn (wpAny_mono (run_at F ⟨hr, rfl⟩ hb hx I (vs := [.ref a, y]) (.cons rfl (.cons ry .nil)) q) (fun v s' z => ?_) fun _ _ e => e))
  obtain ⟨zv, H', I', r', q'⟩ := z
  refine not_ni r' fun ne => ?_
  cases v <;> first | exact absurd rfl ne | exact wpAny_pure ⟨_, rfl, zv, H', I', r', q'⟩
def rOwnNe (K : PySem.W.Frag) (C : Addr) (sp : Sp) (E : XK) : R2 := fun x y H Q => ∃ a dx fs tb, x = .ref a ∧ H a = some (.ins C dx fs) ∧ Tyd K H y tb ∧ PySem.W.notFirst K C tb = true ∧ sp [x, y] H (fun v H' => ∃ b, v = .bl b ∧ Q (.bl (!b)) H') E
theorem op_ownNe {CX : CXT} {n : Nat} {C f : Addr} {fd : FuncData} {ps : List Str} {sp : Sp} {E : XK} (F : FnOk X.prog X.w X.K X.mg X.base CX n f fd ps sp) (o : OwnEq X C f) (hm : PySem.W.mroIn X.K C (.type "object") = some true)
    (hn : PySem.W.findIn X.K (.ref C) "__ne__" = some (some (.builtin "object.__ne__"))) (hr : Room (n + 1) X.A) (hb : Binds X.K fd ps []) (hx : Passes CX X E) :
    OpR X (compareOp .NotEq) (rOwnNe X.K C sp E) := by
  intro pins s σ H x y v u Q I rx ry h
  obtain ⟨a, dx, fs, tb, rfl, ha, ty, nf, q⟩ := h
  cases rx
  obtain ⟨mA, O, _⟩ := ins_get I.hok ha
  obtain ⟨od, J, _⟩ := O.look
  show wpAny _ _ (richCompare .NotEq (.ref a) u) _ _ _
  refine cmp_left hr.units0 I.kIn J (tyd_looks I ry ty) nf ?_
  refine ne_left hr.in1.units0 I.kIn J hm hn o.fs o.fn (wpAny_mono (run_at F ⟨hr.in1, rfl⟩ hb hx I (vs := [.ref a, y]) (.cons rfl (.cons ry .nil)) q) (fun v s' z => ?_) fun _ _ e => e)
  obtain ⟨zv, H', I', r', b, rfl, q'⟩ := z
  cases r'
  exact ⟨b, rfl, .bl (!b), H', I', rfl, q'⟩
end
end OW
/-! an own class's in, len, [..], +, str, by the promises of its defs -/
namespace OW
open PySem PySem.Spec PyProof.Rows L2
section
variable {X : Cx} {CX : CXT} {n : Nat} {C f : Addr} {fd : FuncData} {ps : List Str} {sp : Sp} {E : XK}
/-- the class has a def at f as its special method -/
structure OwnM (X : Cx) (C : Addr) (name : Str) (f : Addr) : Prop where
  fs : PySem.W.findIn X.K (.ref C) name = some (some (.ref f))
  fn : PySem.W.isFn X.K (.ref f) = true
/-- what holds of a tracked instance -/
theorem inst_at {pins : List (Addr × Obj)} {σ : L2.St} {H : Hp} {s : Shared} {a dx : Addr} {fs : List (Str × V)} (I : Inv X pins σ H s) (ha : H a = some (.ins C dx fs)) : ∃ ox od, PySem.W.InstAt s.heap a ox C od := by
  obtain ⟨mA, O, _⟩ := ins_get I.hok ha
  obtain ⟨od, J, _⟩ := O.look
  exact ⟨_, od, J⟩
def rOwnIn (C : Addr) (sp : Sp) (E : XK) (neg : Bool) : R2 := fun y x H Q => ∃ a dx fs, x = .ref a ∧ H a = some (.ins C dx fs) ∧ sp [x, y] H (fun v H' => ∃ b, v = .bl b ∧ Q (.bl (if neg then !b else b)) H') E
theorem op_ownIn (F : FnOk X.prog X.w X.K X.mg X.base CX n f fd ps sp) (o : OwnM X C "__contains__" f) (hr : Room n X.A) (hb : Binds X.K fd ps []) (hx : Passes CX X E) : OpR X (compareOp .In) (rOwnIn C sp E false) := by
  intro pins s σ H y x u v Q I ry rx h
  obtain ⟨a, dx, fs, rfl, ha, q⟩ := h
  cases rx
  obtain ⟨ox, od, J⟩ := inst_at I ha
  obtain ⟨m, hF⟩ := I.fr
  refine PySem.W.in_K hF I.ok.mod.kin J o.fs o.fn (wpAny_mono (run_at F ⟨hr, rfl⟩ hb hx I (vs := [.ref a, y]) (.cons rfl (.cons ry .nil)) q) (fun v s' z => ?_) fun _ _ e => e)
  obtain ⟨zv, H', I', r', b, rfl, q'⟩ := z
  cases r'
  exact wpAny_truthy_bool ⟨.bl b, H', I', rfl, q'⟩
theorem op_ownNotIn (F : FnOk X.prog X.w X.K X.mg X.base CX n f fd ps sp) (o : OwnM X C "__contains__" f) (hr : Room n X.A) (hb : Binds X.K fd ps []) (hx : Passes CX X E) : OpR X (compareOp .NotIn) (rOwnIn C sp E true) := by
  intro pins s σ H y x u v Q I ry rx h
  obtain ⟨a, dx, fs, rfl, ha, q⟩ := h
  cases rx
  obtain ⟨ox, od, J⟩ := inst_at I ha
  obtain ⟨m, hF⟩ := I.fr
  refine PySem.W.notIn_K hF I.ok.mod.kin J o.fs o.fn (wpAny_mono (run_at F ⟨hr, rfl⟩ hb hx I (vs := [.ref a, y]) (.cons rfl (.cons ry .nil)) q) (fun v s' z => ?_) fun _ _ e => e)
  obtain ⟨zv, H', I', r', b, rfl, q'⟩ := z
  cases r'
  exact wpAny_truthy_bool ⟨.bl (!b), H', I', rfl, q'⟩
/-- len(o) -/
def rOwnLen (C : Addr) (sp : Sp) (E : XK) : List V → Hp → VK → Prop := fun xs H Q => ∃ a dx fs, xs = [.ref a] ∧ H a = some (.ins C dx fs) ∧ sp [.ref a] H (fun v H' => ∃ i : Int, v = .int i ∧ 0 ≤ i ∧ i < 2 ^ 63 ∧ Q (.int i) H') E
theorem cr_ownLen (F : FnOk X.prog X.w X.K X.mg X.base CX n f fd ps sp) (o : OwnM X C "__len__" f) (hr : Room (n + 1) X.A) (hb : Binds X.K fd ps []) (hx : Passes CX X E) : CallR X (.builtin "len") (rOwnLen C sp E) := by
  intro pins s σ H xs us Q I r h
  obtain ⟨a, dx, fs, rfl, ha, q⟩ := h
  rw [Vals.ref1 r]
  obtain ⟨ox, od, J⟩ := inst_at I ha
  obtain ⟨m, hF⟩ := I.fr
  refine PySem.W.len_K hF I.ok.mod.kin J o.fs o.fn (wpAny_mono (run_at F ⟨hr.in1, rfl⟩ hb hx I (vs := [.ref a]) (.cons rfl .nil) q) (fun v s' z => ?_) fun _ _ e => e)
  obtain ⟨zv, H', I', r', i, rfl, h0, h1, q'⟩ := z
  obtain ⟨t, rfl⟩ := r'
  exact ⟨⟨h0, h1⟩, .int i, H', I'.tok _, ⟨_, rfl⟩, q'⟩
/-- o + p of one class -/
def rOwnAdd (C : Addr) (sp : Sp) (E : XK) : R2 := fun x y H Q => ∃ a dx fs b dy gs, x = .ref a ∧ H a = some (.ins C dx fs) ∧ y = .ref b ∧ H b = some (.ins C dy gs) ∧ sp [x, y] H Q E
theorem op_ownAdd (F : FnOk X.prog X.w X.K X.mg X.base CX n f fd ps sp) (o : OwnM X C "__add__" f) (hc : PySem.W.selfFirst X.K C = true) (hr : Room n X.A) (hb : Binds X.K fd ps []) (hx : Passes CX X E) : OpR X (binaryOp .Add) (rOwnAdd C sp E) := by
  intro pins s σ H x y u v Q I rx ry h
  obtain ⟨a, dx, fs, b, dy, gs, rfl, ha, rfl, hb', q⟩ := h
  cases rx
  cases ry
  obtain ⟨ox, od, J⟩ := inst_at I ha
  obtain ⟨oy, od', J'⟩ := inst_at I hb'
  obtain ⟨m, hF⟩ := I.fr
  refine PySem.W.binop_K hF I.ok.mod.kin J J'.type hc o.fs o.fn (wpAny_mono (run_at F ⟨hr, rfl⟩ hb hx I (vs := [.ref a, .ref b]) (.cons rfl (.cons rfl .nil)) q) (fun v s' z => ?_) fun _ _ e => e)
  obtain ⟨zv, H', I', r', q'⟩ := z
  refine not_ni r' fun ne => ?_
  cases v <;> first | exact absurd rfl ne | exact ⟨zv, H', I', r', q'⟩
end
section
variable {prog : Program} {w : World} {A : Around} {E : Value → Shared → Prop} {s : Shared} {K : PySem.W.Frag} {x C f : Addr} {ox : Obj} {od : Option Obj}
open Builtin Builtin.Str in
/-- str(o), an own __str__ -/
theorem str_own {Q : Value → Shared → Prop} (hu : A.in1.in1.units < cLine) (X : K.In s.heap) (I : PySem.W.InstAt s.heap x ox C od) (hs : PySem.W.findIn K (.ref C) "__str__" = some (some (.ref f))) (hf : PySem.W.isFn K (.ref f) = true)
    (h : wpAny (model prog w) A.in1.in1 (call (.ref f) [.ref x]) (PySem.W.StrBack Q) E s) : wpAny (model prog w) A (call (.type "str") [.ref x]) Q E s := by
  refine callType_codes (T := "str") (Bi := Builtin.«object.__init__»)
                                                                       (Q₁ := fun r s₁ => ∃ y u, r = .str y u ∧ Q r s₁) PySem.F.called_str (PySem.F.typeCall_str_1 _) PySem.F.entry_object_init ?_ ?_
  · refine codeAny_of_tree ?_
    show wpAny _ A.in1.in1 (do checkBuiltinCall "str.__new__"
                                                              ⟨[.type "str", .ref x], []⟩; again (.builtin "str.__new__" ⟨[.type "str", .ref x], []⟩)) _ _ s
    refine wpAny_bind (wpAny_of_eq (PySem.F.newCall_str_1 _) (wpAny_pure
                                                                         ⟨plainId_quiet (by decide +kernel) _, codeAny_builtin PySem.F.entry_str_new ?_⟩))
    rw [Around.under_plainId (by decide +kernel) _, str_new_tree]
    refine wpAny_bind (wpAny_pure (wpAny_bind (wpAny_of_eq isSubtype_str_str ?_)))
    have key : wpAny (model prog w) A.in1.in1 (PySem.Builtin.Str.strOf
                                                                       (.ref x)) (fun r s₁ => ∃ y u, r = .str y u ∧ Q r s₁) E s := by
      unfold PySem.Builtin.Str.strOf
      rw [show isExactStr (.ref x) = false from rfl]
      refine wpAny_bind
                        (m := cRoomFor _ _) (wpAny_cRoomFor hu ?_)
      refine wpAny_bind (m := callSpecial? (.ref x) (Str.ofString "__str__")) (PySem.W.special_fn X I hs (beq_iff_eq.mp hf) (wpAny_mono h (fun r s' z => ?_) fun _ _ y => y))
      cases r <;> first | exact z.elim | exact wpAny_pure
                                                          ⟨_, _, rfl, z⟩
    exact wpAny_bind (wpAny_mono key
                                     (fun r s₁ hr => wpAny_pure hr) fun _ _ y => y)
  · rintro obj s₁ ⟨y, u, rfl, hq⟩
    exact ⟨typeIs_str _ _ _, PySem.F.args_object_init_2 _ _, object_init_meets PySem.F.called_str.init.lookup PySem.F.called_str.made
                                                                                                                                      (by decide) prog w A.in1 _ s₁ ⟨typeIs_str _ _ _, rfl, hq⟩⟩
end
section
variable {X : Cx} {CX : CXT} {n : Nat} {C f : Addr} {fd : FuncData} {ps : List Str} {sp : Sp} {E : XK}
def rOwnStr (C : Addr) (sp : Sp) (E : XK) : List V → Hp → VK → Prop := fun xs H Q => ∃ a dx fs, xs = [.ref a] ∧ H a = some (.ins C dx fs) ∧ sp [.ref a] H (fun v H' => ∃ z, v = .str z ∧ Q (.str z) H') E
theorem cr_ownStr (F : FnOk X.prog X.w X.K X.mg X.base CX n f fd ps sp) (o : OwnM X C "__str__" f) (hr : Room (n + 2) X.A) (hb : Binds X.K fd ps []) (hx : Passes CX X E) : CallR X (.type "str") (rOwnStr C sp E) := by
  intro pins s σ H xs us Q I r h
  obtain ⟨a, dx, fs, rfl, ha, q⟩ := h
  rw [Vals.ref1 r]
  obtain ⟨ox, od, J⟩ := inst_at I ha
  refine str_own hr.in1.in1.units0 I.kIn J o.fs o.fn (wpAny_mono (run_at F ⟨hr.in1.in1, rfl⟩ hb hx I (vs := [.ref a]) (.cons rfl .nil) q) (fun v s' z => ?_) fun _ _ e => e)
  obtain ⟨zv, H', I', r', y, rfl, q'⟩ := z
  obtain ⟨t, rfl⟩ := r'
  exact ⟨.str y, H', I', ⟨t, rfl⟩, q'⟩
/-- o[i] -/
def rOwnItem (C : Addr) (sp : Sp) (E : XK) : R2 := fun x y H Q => ∃ a dx fs, x = .ref a ∧ H a = some (.ins C dx fs) ∧ sp [x, y] H Q E
theorem pe_ownItem {a b : Expr} {ta tb : TE} {pos : Pos} (ha : PE X a ta) (hb : PE X b tb) (F : FnOk X.prog X.w X.K X.mg X.base CX n f fd ps sp) (o : OwnM X C "__getitem__" f) (hfn : PySem.W.fnIn X.K f = true) (hr : Room (n + 1) X.A) (hbd : Binds X.K fd ps []) (hx : Passes CX X E)
    (hsl : ∀ x i, subscripted b true (.ref x) i = runValue (.builtin "lifetime.subscript" ⟨[.ref x, i], []⟩)) : PE X (.Subscript a b pos) (tOp (rOwnItem C sp E) ta tb) := by
  refine ⟨fun pins s σ H Q I h => ?_⟩
  refine Subscript_
                    (binT ha hb I h fun v u s2 x y H2 I2 rx ry q => ?_)
  obtain ⟨p, dx, fs, rfl, hp, q⟩ := q
  cases rx
  obtain ⟨ox, od, J⟩ := inst_at I2 hp
  obtain ⟨m, hF⟩ := I2.fr
  exact PySem.W.sub_K hF I2.ok.mod.kin J o.fs hfn o.fn (run_at F ⟨hr.in1, rfl⟩ hbd hx I2 (vs := [.ref p, y]) (.cons rfl (.cons ry .nil)) q) (hsl _ _)
end
end OW
namespace K06
open PySem L2
/-- an empty tuple of the written part -/
def Nul (K : PySem.W.Frag) (a : Addr) : Prop := ∃ (o : Obj) (its : Array Value) (n : Nat), K.lookup a = some o ∧ o.cls = .type "tuple" ∧ o.data = .seq its n ∧ its.size ≤ sizeLine ∧ Vals [] its.toList
theorem Nul.seqT {K : PySem.W.Frag} {a : Addr} {H : Hp} (h : Nul K a) : SqT K H a [] := .inr h
/-- a property of the class -/
structure Pp (K : PySem.W.Frag) (C : Addr) (x qual : Str) (st : Stmt) where
  p : Addr
  g : Addr
  d : FuncData
  F : FunD K x qual (defArgs st) (defBody st) (defScope st) [] [] g d
  pr : PropOf K C x p g
  b : Binds K d ["self"] []
/-- a method of the class -/
structure Mt (K : PySem.W.Frag) (C : Addr) (x qual : Str) (st : Stmt) (ps : List Str) where
  f : Addr
  d : FuncData
  F : FunD K x qual (defArgs st) (defBody st) (defScope st) [] [] f d
  m : Meth K C x f
  b : Binds K d ps []
structure UX (K : PySem.W.Frag) (mg : Str → Option Value) where
  C : Addr
  mC : mg "Operation" = some (.ref C)
  cl : Cls K C
  mo : PySem.W.mroIn K C (.type "object") = some true
  ne : PySem.W.findIn K (.ref C) "__ne__" = some (some (.builtin "object.__ne__"))
  r0 : Addr
  u0 : Addr
  nr : Nul K r0
  nu : Nul K u0
  fI : Addr
  dI : FuncData
  FI : FunD K "__init__" "Operation.__init__" (defArgs s_Operation_init) (defBody s_Operation_init) (defScope s_Operation_init) [] [("ticks", .int 1), ("reads", .ref r0), ("uses", .ref u0)] fI dI
  mkI : Mk K C fI
  n1 : NoAttr K C "_name"
  n2 : NoAttr K C "_ticks"
  n3 : NoAttr K C "_reads"
  n4 : NoAttr K C "_uses"
  pn : Pp K C "name" "Operation.name" s_Operation_name
  pt : Pp K C "ticks" "Operation.ticks" s_Operation_ticks
  pr : Pp K C "reads" "Operation.reads" s_Operation_reads
  pu : Pp K C "uses" "Operation.uses" s_Operation_uses
  prn : Pp K C "read_names" "Operation.read_names" s_Operation_read_names
  pun : Pp K C "units" "Operation.units" s_Operation_units
  mr : Mt K C "renamed" "Operation.renamed" s_Operation_renamed ["self", "names"]
  mw : Mt K C "with_ticks" "Operation.with_ticks" s_Operation_with_ticks ["self", "ticks"]
  me : Mt K C "__eq__" "Operation.__eq__" s_Operation_eq ["self", "other"]
  ms : Mt K C "__str__" "Operation.__str__" s_Operation_str ["self"]
  tin : ∀ n, n ∈ ["NoneType", "bool", "int", "str", "list", "tuple"] → PySem.W.notFirst K C (.type n) = true ∧ PySem.W.kitOne K (.type n) (.ref C) = some false
  ca : PySem.W.findIn K (.ref C) "__class__" = some
                                                    (some (.builtin "object.__class__"))
  cg : PySem.W.specialIn K (.builtin "object.__class__") "__get__" = some (some (.builtin "getset_descriptor.__get__"))
  ct : PySem.W.takesIn K
                         (.builtin "object.__class__") = some true
/-- what an operation keeps -/
def opF (x1 x2 x3 x4 : V) : List (Str × V) := putF "_uses" x4 (putF "_reads" x3 (putF "_ticks" x2 (putF "_name" x1 [])))
theorem opF1 (x1 x2 x3 x4 : V) : (opF x1 x2 x3 x4).lookup (("_name" : Str)) = some x1 := rfl
theorem opF2 (x1 x2 x3 x4 : V) : (opF x1 x2 x3 x4).lookup (("_ticks" : Str)) = some x2 := rfl
theorem opF3 (x1 x2 x3 x4 : V) : (opF x1 x2 x3 x4).lookup (("_reads" : Str)) = some x3 := rfl
theorem opF4 (x1 x2 x3 x4 : V) : (opF x1 x2 x3 x4).lookup (("_uses" : Str)) = some x4 := rfl
/-- a name, ticks, what is read, what is used -/
structure Rw where
  n : Str
  t : Int
  rs : Prs
  us : Prs
structure Rw.Ok (r : Rw) : Prop where
  n : nmC r.n = true
  t : 1 ≤ r.t ∧ r.t ≤ 4
  rl : r.rs.length ≤ 3
  ul : r.us.length ≤ 4
  rs : ∀ p ∈ r.rs, nmC p.1 = true ∧ 0 ≤ p.2 ∧ p.2 ≤ 3
  us : ∀ p ∈ r.us, nmC p.1 = true ∧ 0 ≤ p.2 ∧ p.2 ≤ 3
  asc : Asc r.us
theorem nm_len {z : Str} (h : nmC z = true) : z.length ≤ 8 := by
  unfold nmC at h
  exact (of_decide_eq_true (Bool.and_eq_true_iff.mp h).1).2
theorem small_of {ps : Prs} (hl : ps.length ≤ 4) (h : ∀ p ∈ ps, nmC p.1 = true ∧ 0 ≤ p.2 ∧ p.2 ≤ 3) : Small ps := ⟨hl, fun p hp => ⟨nm_len (h p hp).1, (h p hp).2.1, by have := (h p hp).2.2; omega⟩⟩
theorem row_ok {ps : Prs} {most : Nat} (hl : ps.length ≤ most) (h : ∀ p ∈ ps, nmC p.1 = true ∧ 0 ≤ p.2 ∧ p.2 ≤ 3) : rwD most 3 (tD ps) = true := by
  show (decide ((ps.map pD).length ≤ most) && (ps.map pD).all (prD 3)) = true
  rw [List.length_map, decide_eq_true hl, Bool.true_and, List.all_map, List.all_eq_true]
  intro p hp
  obtain ⟨h1, h2, h3⟩ := h p hp
  show (nmC p.1 && ((decide (-1000000000000 < p.2) && decide (p.2 < 1000000000000)) && (decide (0 ≤ p.2) && decide (p.2 ≤ 3)))) = true
  rw [h1, decide_eq_true (by omega), decide_eq_true (by omega), decide_eq_true h2, decide_eq_true h3]
  rfl
theorem all_pr {ps : Prs} (h : ∀ p ∈ ps, nmC p.1 = true ∧ 0 ≤ p.2 ∧ p.2 ≤ 3) : (ps.map pD).all (prD 3) = true := by
  have q := row_ok (Nat.le_refl _) h
  exact (Bool.and_eq_true_iff.mp (show (decide ((ps.map pD).length ≤ ps.length) && (ps.map pD).all (prD 3)) = true from q)).2
theorem okD_str' {z : Str} (h : z.length ≤ 8) : okD (.str z) := by
  unfold okD
  rw [PyData.weight]
  have e : z.cps.size = z.length := rfl
  omega
theorem okD_prs {ps : Prs} (hl : ps.length ≤ 4) (h : ∀ p ∈ ps, nmC p.1 = true ∧ 0 ≤ p.2 ∧ p.2 ≤ 3) : okD (tD ps) := by
  have key : ∀ ps : Prs, (∀ p ∈ ps, p.1.length ≤ 8 ∧ p.2.natAbs.log2 < 1920) → PyData.weightAll (ps.map pD) ≤ 2000 * ps.length := by
    intro ps
    induction ps with
    | nil => intro _; rw [List.map_nil, PyData.weightAll]; exact Nat.zero_le _
    | cons p ps ih =>
      intro h
      have h1 := ih fun q hq => h q (List.mem_cons_of_mem _ hq)
      have h2 := h p List.mem_cons_self
      rw [List.map_cons, PyData.weightAll, List.length_cons]
      have hp : (pD p).weight ≤ 1950 := by
        unfold pD
        rw [PyData.weight, PyData.weightAll, PyData.weightAll, PyData.weightAll, PyData.weight]
        have e : p.1.cps.size = p.1.length := rfl
        first
          | (split <;> omega)
          | (rw [PyData.weight]; split <;> omega)
      omega
  have q := key ps fun p hp => ⟨nm_len (h p hp).1, (small_int (h p hp).2.1 (by have := (h p hp).2.2; omega)).2⟩
  unfold okD tD
  rw [PyData.weight]
  omega
/-- an operation stands at p -/
def OpAt (K : PySem.W.Frag) (H : Hp) (C p : Addr) (r : Rw) : Prop := r.Ok ∧ ∃ dx x3 x4, H p = some (.ins C dx (opF (.str r.n) (.int r.t) x3 x4)) ∧ Dp K H x3 (tD r.rs) ∧ Dp K H x4 (tD r.us)
theorem OpAt.same {K : PySem.W.Frag} {H H' : Hp} {C p : Addr} {r : Rw} (s : Same H H') (h : OpAt K H C p r) : OpAt K H' C p r := by
  obtain ⟨ok, dx, x3, x4, h1, h2, h3⟩ := h
  exact ⟨ok, dx, x3, x4, s _ _ h1, dp_same s _ _ h2, dp_same s _ _ h3⟩
section
variable {P : Program} {w : World} {K : PySem.W.Frag}
                                                      {mg : Str → Option Value} {base : Heap}
def sp_init (K : PySem.W.Frag) (C : Addr) : Sp := fun vs H Q _ => ∃ (p dx : Addr) (x3 x4 : V) (r : Rw), vs = [.ref p, .str r.n, .int r.t, x3, x4] ∧ r.Ok ∧ H p = some (.ins C dx []) ∧ Dp K H x3 (tD r.rs) ∧ Dp K H x4 (tD r.us) ∧
  ∀ H', Same H H' → Q .non (upd H' p (.ins C dx (opF (.str r.n) (.int r.t) x3 x4)))
theorem ok_init (T : T K mg) (U : UX K mg) : FnOk P w K mg base CX0 5 U.fI U.dI ["self", "name", "ticks", "reads", "uses"] (sp_init K U.C) := by
  have G_ascends : FnOk P w K mg base CX0 1 T.f_ascends T.d_ascends ["row"] (sp_ascends K) := ok_ascends T
  have G_is_between : FnOk P w K mg base CX0 2 T.f_is_between T.d_is_between ["value", "low", "high"] (sp_is_between K) := ok_is_between T
  have G_is_name : FnOk P w K mg base CX0 1 T.f_is_name T.d_is_name ["value"] (sp_is_name K) := ok_is_name T
  have G_is_row_of_pairs : FnOk P w K mg base CX0 4 T.f_is_row_of_pairs T.d_is_row_of_pairs ["value", "most", "highest"] (sp_is_row_of_pairs K) := ok_is_row_of_pairs T
  refine U.FI.ok sc_Operation_init (fun vs H Q E h => ?_) (fun cdv A outer s H vs Q E hr h => ?_)
  · obtain ⟨p, dx, x3, x4, r, rfl, _⟩ := h
    rfl
  · obtain ⟨p, dx, x3, x4, r, rfl, ok, hp, h3, h4, k⟩ := h
    have hu := hu_of hr
    have hr_ascends : Room 1 _ := hr.mono (by decide)
    have hr_is_between : Room 2 _ := hr.mono (by decide)
    have hr_is_name : Room 1 _ := hr.mono (by decide)
    have hr_is_row_of_pairs : Room 4 _ := hr.mono (by decide)
    obtain ⟨_, c_MAX_DISTANCE⟩ := T.c_MAX_DISTANCE
    obtain ⟨_, c_MAX_OFFSET⟩ := T.c_MAX_OFFSET
    obtain ⟨_, c_MAX_READS⟩ := T.c_MAX_READS
    obtain ⟨_, c_MAX_TICKS⟩ := T.c_MAX_TICKS
    obtain ⟨_, c_MAX_USES⟩ := T.c_MAX_USES
    refine ⟨_, (pss_cons (ps_if (pt_not (pt_val (pe_call G_is_name hr_is_name rfl T.m_is_name T.F_is_name.kp T.b_is_name .nil pass0 (pa_cons (pv 1) pa_nil))))
      (pss_one ps_never)
      pss_nil)
      (pss_cons (ps_if (pt_not (pt_val (pe_call G_is_between hr_is_between rfl T.m_is_between T.F_is_between.kp T.b_is_between .nil pass0 (pa_cons (pv 2) (pa_cons pe_int (pa_cons (pe_glob (v := V.int 4) rfl c_MAX_TICKS ⟨_, rfl⟩) pa_nil))))))
      (pss_one ps_never)
      pss_nil)
      (pss_cons (ps_if (pt_not (pt_val (pe_call G_is_row_of_pairs hr_is_row_of_pairs rfl T.m_is_row_of_pairs T.F_is_row_of_pairs.kp T.b_is_row_of_pairs .nil pass0 (pa_cons (pv 3) (pa_cons (pe_glob (v := V.int 3) rfl c_MAX_READS ⟨_, rfl⟩) (pa_cons (pe_glob (v := V.int 3) rfl c_MAX_DISTANCE ⟨_, rfl⟩) pa_nil))))))
      (pss_one ps_never)
      pss_nil)
      (pss_cons (ps_if (PW.pt (pw_or (pt_not (pt_val (pe_call G_is_row_of_pairs hr_is_row_of_pairs rfl T.m_is_row_of_pairs T.F_is_row_of_pairs.kp T.b_is_row_of_pairs .nil pass0 (pa_cons (pv 4) (pa_cons (pe_glob (v := V.int 4) rfl c_MAX_USES ⟨_, rfl⟩) (pa_cons (pe_glob (v := V.int 3) rfl c_MAX_OFFSET ⟨_, rfl⟩) pa_nil)))))) (pw_or1 (pt_not (pt_val (pe_call G_ascends hr_ascends rfl T.m_ascends T.F_ascends.kp T.b_ascends .nil pass0 (pa_cons (pv 4) pa_nil)))))))
      (pss_one ps_never)
      pss_nil)
      (pss_cons (ps_fld (pv 0) (pv 1) rfl)
      (pss_cons (ps_fld (pv 0) (pv 2) rfl)
      (pss_cons (ps_fld (pv 0) (pv 3) rfl)
      (pss_one (ps_fld (pv 0) (pv 4) rfl))))))))), ?_⟩
    refine ⟨_, rfl, _, .str r.n, rfl, .inl (.str _), okD_str' (nm_len ok.n), fun H1 S1 => ⟨_, rfl, ?_⟩⟩
    rw [show nmD (.str r.n) = true from ok.n]
    refine iteF ?_
    refine ⟨_, rfl, _, .int r.t, 1, 4, rfl, .inl (.int _), _, rfl, ?_⟩
    rw [show inD 1 4 (.int r.t) = true by
      obtain ⟨h1, h2⟩ := ok.t
      show ((decide (-1000000000000 < r.t) && decide (r.t < 1000000000000)) && (decide (1 ≤ r.t) && decide (r.t ≤ 4))) = true
      rw [decide_eq_true (by omega), decide_eq_true (by omega), decide_eq_true h1, decide_eq_true h2]
      rfl]
    refine iteF ?_
    refine ⟨_, rfl, x3, tD r.rs, 3, 3, rfl, .inl (dp_same S1 _ _ h3), okD_prs (Nat.le_trans ok.rl (by decide)) ok.rs, by decide, fun H2 S2 => ⟨_, rfl, ?_⟩⟩
    have S12 : Same H H2 := Same.trans S1 S2
    rw [row_ok ok.rl ok.rs]
    refine iteF ?_
    refine ⟨_, rfl, x4, tD r.us, 4, 3, rfl, .inl (dp_same S12 _ _ h4), okD_prs ok.ul ok.us, by decide, fun H3 S3 => ⟨_, rfl, ?_⟩⟩
    have S13 : Same H H3 := Same.trans S12 S3
    rw [row_ok ok.ul ok.us]
    refine iteF ?_
    refine ⟨_, rfl, x4, r.us.map pD, 3, rfl, dp_same S13 _ _ h4, all_pr ok.us, by rw [List.length_map]; have := ok.ul; omega, fun H4 S4 => ⟨_, rfl, ?_⟩⟩
    have S14 : Same H H4 := Same.trans S13 S4
    rw [asc_data ok.asc]
    refine iteF ?_
    refine ⟨_, rfl, _, rfl, p, U.C, dx, _, rfl, S14 _ _ hp, U.cl, U.n1, (by show 0 < 1000; decide), ?_⟩
    refine ⟨_, rfl, _, rfl, p, U.C, dx, _, rfl, upd_same, U.cl, U.n2, (by show 1 < 1000; decide), ?_⟩
    refine ⟨_, rfl, _, rfl, p, U.C, dx, _, rfl, upd_same, U.cl, U.n3, (by show 2 < 1000; decide), ?_⟩
    refine ⟨_, rfl, _, rfl, p, U.C, dx, _, rfl, upd_same, U.cl, U.n4, (by show 3 < 1000; decide), ?_⟩
    rw [upd_upd, upd_upd, upd_upd]
    exact k H4 S14
end
end K06
namespace K06
open PySem L2
def eqR (r q : Rw) : Bool := decide (V.str r.n = V.str q.n) && (decide (V.int r.t = V.int q.t) && (PyData.eqv (tD r.rs) (tD q.rs) && PyData.eqv (tD r.us) (tD q.us)))
theorem nm_ok {z : Str} (h : nmC z = true) : PyData.strOk z = true := by
  unfold nmC at h
  have q := (Bool.and_eq_true_iff.mp h).2
  unfold PyData.strOk
  rw [← Array.all_toList, List.all_eq_true]
  intro c hc
  have e := List.all_eq_true.mp q c hc
  have e2 := of_decide_eq_true (Bool.and_eq_true_iff.mp e).2
  exact decide_eq_true (by omega)
theorem shaped_prs {ps : Prs} (h : ∀ p ∈ ps, nmC p.1 = true ∧ 0 ≤ p.2 ∧ p.2 ≤ 3) : SeqAt.shaped (tD ps) = true ∧ SeqAt.shaped (lD ps) = true := by
  have key : ∀ ps : Prs, (∀ p ∈ ps, nmC p.1 = true ∧ 0 ≤ p.2 ∧ p.2 ≤ 3) → PyData.canLayAll0 (ps.map pD) = true ∧ PyData.depthAll (ps.map pD) ≤ 1 := by
    intro ps
    induction ps with
    | nil => intro _; exact ⟨by simp [PyData.canLayAll0], by simp [PyData.depthAll]⟩
    | cons p ps ih =>
      intro h
      obtain ⟨h1, h2⟩ := ih fun q hq => h q (List.mem_cons_of_mem _ hq)
      have h3 := nm_ok (h p List.mem_cons_self).1
      refine ⟨?_, ?_⟩
      · simp [PyData.canLayAll0, PyData.canLay0, pD, h1, h3]
      · simp [PyData.depthAll, PyData.depth, pD]
        omega
  obtain ⟨k1, k2⟩ := key ps h
  unfold SeqAt.shaped tD lD
  refine ⟨?_, ?_⟩
  · rw [Bool.and_eq_true]
    refine ⟨by simpa [PyData.canLay0] using k1, decide_eq_true ?_⟩
    rw [PyData.depth]
    omega
  · rw [Bool.and_eq_true]
    refine ⟨by simpa [PyData.canLay0] using k1, decide_eq_true ?_⟩
    rw [PyData.depth]
    omega
theorem un64 {k : Nat} {A : Around} (r : Room k A) : A.units + 64 < cLine := by
  have := r.un
  omega
section
variable {P : Program} {w : World} {K : PySem.W.Frag}
                                                      {mg : Str → Option Value} {base : Heap}
theorem ok_get {x qual f : Str} {st : Stmt} {C : Addr} (c : Cls K C) (p : Pp K C x qual st) (S : FnScope ["self"] ["self"] (defScope st)) (n : NoAttr K C f)
    (hb : ∃ p1 p2 p3, defBody st = [.Return (some (.Attribute (.Name "self" p1) f p2)) p3]) : FnOk P w K mg base CX0 1 p.g p.d ["self"] (getSp C f) := by
  obtain ⟨oc, od, dV, kV, doc, pm, an, cdv, ct, osl, e, lk, hcd, _, _⟩ := p.F.ex
  obtain ⟨p1, p2, p3, hb⟩ := hb
  rw [e] at lk ⊢
  exact fn_getter lk hcd S rfl hb c n
def sp_fst (K : PySem.W.Frag) (C : Addr) (g : Rw → Prs) : Sp := fun vs H Q _ => ∃ (p : Addr) (r : Rw), vs = [.ref p] ∧ OpAt K H C p r ∧ ∀ (ys : List Str) (l : Addr) H', KS.Srt ((g r).map (·.1)) ys → Same H H' → SqT K H' l (ys.map V.str) → Q (.ref l) H'
theorem ok_read_names (T : T K mg) (U : UX K mg) : FnOk P w K mg base CX0 3 U.prn.g U.prn.d ["self"] (sp_fst K U.C Rw.rs) := by
  have G_first_items : FnOk P w K mg base CX0 1 T.f_first_items T.d_first_items ["rows"] (sp_first_items K) := ok_first_items T
  refine U.prn.F.ok sc_Operation_read_names (fun vs H Q E h => ?_) (fun cdv A outer s H vs Q E hr h => ?_)
  · obtain ⟨p, r, rfl, _⟩ := h
    rfl
  · obtain ⟨p, r, rfl, ⟨ok, dx, x3, x4, hp, h3, h4⟩, k⟩ := h
    have hu := hu_of hr
    have hr_first_items : Room 1 _ := hr.mono (by decide)
    refine ⟨_, (pss_one (ps_ret (pe_call G_first_items hr_first_items rfl T.m_first_items T.F_first_items.kp T.b_first_items .nil pass0 (pa_cons (pe_fld (pv 0) rfl) pa_nil)))), ?_⟩
    exact ⟨_, rfl, p, U.C, dx, _, x3, rfl, hp, U.cl, U.n3, rfl, x3, r.rs, rfl, h3, by have := ok.rl; omega, k⟩
theorem ok_units (T : T K mg) (U : UX K mg) : FnOk P w K mg base CX0 3 U.pun.g U.pun.d ["self"] (sp_fst K U.C Rw.us) := by
  have G_first_items : FnOk P w K mg base CX0 1 T.f_first_items T.d_first_items ["rows"] (sp_first_items K) := ok_first_items T
  refine U.pun.F.ok sc_Operation_units (fun vs H Q E h => ?_) (fun cdv A outer s H vs Q E hr h => ?_)
  · obtain ⟨p, r, rfl, _⟩ := h
    rfl
  · obtain ⟨p, r, rfl, ⟨ok, dx, x3, x4, hp, h3, h4⟩, k⟩ := h
    have hu := hu_of hr
    have hr_first_items : Room 1 _ := hr.mono (by decide)
    refine ⟨_, (pss_one (ps_ret (pe_call G_first_items hr_first_items rfl T.m_first_items T.F_first_items.kp T.b_first_items .nil pass0 (pa_cons (pe_fld (pv 0) rfl) pa_nil)))), ?_⟩
    exact ⟨_, rfl, p, U.C, dx, _, x4, rfl, hp, U.cl, U.n4, rfl, x4, r.us, rfl, h4, by have := ok.ul; omega, k⟩
def sp_eq (K : PySem.W.Frag) (C : Addr) : Sp := fun vs H Q _ => ∃ (p : Addr) (r : Rw) (y : V), vs = [.ref p, y] ∧ OpAt K H C p r ∧
  ((∃ q r2, y = .ref q ∧ OpAt K H C q r2 ∧ Q (.bl (eqR r r2)) H) ∨ ∃ n, n ∈ ["NoneType", "bool", "int", "str", "list", "tuple"] ∧ TyX K H y (.type n) ∧ Q (.bl false) H)
theorem ok_eq (T : T K mg) (U : UX K mg) : FnOk P w K mg base CX0 3 U.me.f U.me.d ["self", "other"] (sp_eq K U.C) := by
  refine U.me.F.ok sc_Operation_eq (fun vs H Q E h => ?_) (fun cdv A outer s H vs Q E hr h => ?_)
  · obtain ⟨p, r, y, rfl, _⟩ := h
    rfl
  · obtain ⟨p, r, y, rfl, ⟨ok, dx, x3, x4, hp, h3, h4⟩, alt⟩ := h
    have hu := hu_of hr
    have hu64 := hr.un
    refine ⟨_, (pss_one (ps_ret (pe_and (pe_callB call_isi (by rfl) T.z_isinstance (by decide +kernel) (pa_cons (pv 1) (pa_cons (pe_glob (v := V.ref U.C) rfl U.mC rfl) pa_nil))) (pe_and (pe_cmpR op_eq (pe_fld (pv 0) rfl) (pe_fld (pv 1) rfl) (nomark _)) (pe_and (pe_cmpR op_eq (pe_fld (pv 0) rfl) (pe_fld (pv 1) rfl) (nomark _)) (pe_and (pe_cmpR (op_eqD (un64 hr)) (pe_fld (pv 0) rfl) (pe_fld (pv 1) rfl) (nomark _)) (pe_one (pe_cmpR (op_eqD (un64 hr)) (pe_fld (pv 0) rfl) (pe_fld (pv 1) rfl) (nomark _))))))))), ?_⟩
    rcases alt with ⟨q, r2, rfl, ⟨ok2, dy, y3, y4, hq, h3', h4'⟩, k⟩ | ⟨n, hn, ty, k⟩
    · refine ⟨_, rfl, _, _, _, _, true, rfl, .own _, .base (.ins hq U.cl U.ca U.cg U.ct U.mo), by unfold PySem.W.kitOne; rw [if_pos (beq_self_eq_true _)], ?_⟩
      refine ⟨_, rfl, ?_⟩
      refine iteT ?_
      refine ⟨_, rfl, p, U.C, dx, _, .str r.n, rfl, hp, U.cl, U.n1, rfl, _, rfl, q, U.C, dy, _, .str r2.n, rfl, hq, U.cl, U.n1, rfl, rfl, _, rfl, ?_⟩
      unfold eqR at k
      by_cases c1 : V.str r.n = V.str r2.n
      · rw [decide_eq_true c1] at k ⊢
        refine iteT ?_
        rw [Bool.true_and] at k
        refine ⟨_, rfl, p, U.C, dx, _, .int r.t, rfl, hp, U.cl, U.n2, rfl, _, rfl, q, U.C, dy, _, .int r2.t, rfl, hq, U.cl, U.n2, rfl, rfl, _, rfl, ?_⟩
        by_cases c2 : V.int r.t = V.int r2.t
        · rw [decide_eq_true c2] at k ⊢
          refine iteT ?_
          rw [Bool.true_and] at k
          refine ⟨_, rfl, p, U.C, dx, _, x3, rfl, hp, U.cl, U.n3, rfl, _, rfl, q, U.C, dy, _, y3, rfl, hq, U.cl, U.n3, rfl, _, _, h3, h3', (shaped_prs ok.rs).1, (shaped_prs ok2.rs).1, _, rfl, ?_⟩
          by_cases c3 : PyData.eqv (tD r.rs) (tD r2.rs) = true
          · rw [c3] at k ⊢
            refine iteT ?_
            rw [Bool.true_and] at k
            exact ⟨_, rfl, p, U.C, dx, _, x4, rfl, hp, U.cl, U.n4, rfl, _, rfl, q, U.C, dy, _, y4, rfl, hq, U.cl, U.n4, rfl, _, _, h4, h4', (shaped_prs ok.us).1, (shaped_prs ok2.us).1, k⟩
          · rw [Bool.eq_false_iff.mpr c3] at k ⊢
            exact iteF k
        · rw [decide_eq_false c2] at k ⊢
          exact iteF k
      · rw [decide_eq_false c1] at k ⊢
        exact iteF k
    · refine ⟨_, rfl, _, _, _, _, false, rfl, .own _, ty, (U.tin n hn).2, ?_⟩
      exact ⟨_, rfl, iteF k⟩
/-- the text of an operation -/
def headS (r : Rw) : Str := Str.empty ++ r.n ++ Str.ofString " " ++ toString r.t
def opS (r : Rw) : Str := Txt.join (Str.ofString "") [headS r, toldS (Str.ofString "reads") r.rs, toldS (Str.ofString "uses") r.us]
theorem told_len {z : Str} {ps : Prs} (hz : z.length ≤ 100) (h : Small ps) : (toldS z ps).length ≤ 200 := by
  unfold toldS
  have b1 : (Str.ofString " ").length = 1 := by decide +kernel
  have b0 : Str.empty.length = 0 := rfl
  have jl := joinS_len h
  split
  · omega
  · rw [len_app, len_app, len_app, len_app]
    omega
def sp_str (K : PySem.W.Frag) (C : Addr) : Sp := fun vs H Q _ => ∃ (p : Addr) (r : Rw), vs = [.ref p] ∧ OpAt K H C p r ∧ ∀ H', Same H H' → Q (.str (opS r)) H'
theorem ok_str (T : T K mg) (U : UX K mg) : FnOk P w K mg base CX0 3 U.ms.f U.ms.d ["self"] (sp_str K U.C) := by
  have G_told : FnOk P w K mg base CX0 1 T.f_told T.d_told ["word", "pairs"] (sp_told K) := ok_told T
  refine U.ms.F.ok sc_Operation_str (fun vs H Q E h => ?_) (fun cdv A outer s H vs Q E hr h => ?_)
  · obtain ⟨p, r, rfl, _⟩ := h
    rfl
  · obtain ⟨p, r, rfl, ⟨ok, dx, x3, x4, hp, h3, h4⟩, k⟩ := h
    have hu := hu_of hr
    have hr_told : Room 1 _ := hr.mono (by decide)
    refine ⟨_, (pss_one (ps_ret (pe_join pe_str (pe_lst (pa_cons (pe_J (.cons (pe_fmt (pe_fld (pv 0) rfl)) (.cons pe_str (.cons (pe_fmt (pe_fld (pv 0) rfl)) .nil)))) (pa_cons (pe_call G_told hr_told rfl T.m_told T.F_told.kp T.b_told .nil pass0 (pa_cons pe_str (pa_cons (pe_fld (pv 0) rfl) pa_nil))) (pa_cons (pe_call G_told hr_told rfl T.m_told T.F_told.kp T.b_told .nil pass0 (pa_cons pe_str (pa_cons (pe_fld (pv 0) rfl) pa_nil))) pa_nil))))))), ?_⟩
    have nl := nm_len ok.n
    have ti := small_int (i := r.t) (by have := ok.t; omega) ok.t.2
    have b1 : (Str.ofString " ").length = 1 := by decide +kernel
    have b0 : Str.empty.length = 0 := rfl
    have n1 : (Str.empty ++ r.n).length ≤ sizeLine := by rw [len_app, sizeLine_eq]; omega
    have n2 : (Str.empty ++ r.n ++ Str.ofString " ").length ≤ sizeLine := by rw [len_app, len_app, sizeLine_eq]; omega
    have n3 : (Str.empty ++ r.n ++ Str.ofString " " ++ toString r.t).length ≤ sizeLine := by rw [len_app, len_app, len_app, ti.1, sizeLine_eq]; omega
    have sr := small_of (Nat.le_trans ok.rl (by decide)) ok.rs
    have su := small_of ok.ul ok.us
    refine ⟨⟨_, rfl⟩, _, rfl, p, U.C, dx, _, .str r.n, rfl, hp, U.cl, U.n1, rfl, .inl ⟨r.n, rfl, by rw [sizeLine_eq]; omega, _, rfl, n1, _, rfl, n2, _, rfl, p, U.C, dx, _, .int r.t, rfl, hp, U.cl, U.n2, rfl, .inr ⟨r.t, rfl, ti.2, _, rfl, n3, ?_⟩⟩⟩
    refine ⟨_, rfl, p, U.C, dx, _, x3, rfl, hp, U.cl, U.n3, rfl, Str.ofString "reads", x3, r.rs, rfl, by decide +kernel, h3, sr, fun H1 S1 => ?_⟩
    refine ⟨_, rfl, p, U.C, dx, _, x4, rfl, S1 _ _ hp, U.cl, U.n4, rfl, Str.ofString "uses", x4, r.us, rfl, by decide +kernel, dp_same S1 _ _ h4, su, fun H2 S2 => ?_⟩
    refine ⟨by show 3 ≤ sizeLine; decide, fun l hl => ?_⟩
    have S12 : Same H H2 := Same.trans S1 S2
    refine ⟨_, l, [headS r, toldS (Str.ofString "reads") r.rs, toldS (Str.ofString "uses") r.us], rfl, rfl, .inl (SqL.of upd_same), ?_, k _ (Same.trans S12 (Same.new hl))⟩
    have t1 := told_len (z := Str.ofString "reads") (by decide +kernel) sr
    have t2 := told_len (z := Str.ofString "uses") (by decide +kernel) su
    have t0 : (headS r).length ≤ 20 := by unfold headS; rw [len_app, len_app, len_app, ti.1]; omega
    have e0 : (Str.ofString "").length = 0 := by decide +kernel
    rw [e0]
    simp only [List.map_cons, List.map_nil, List.sum_cons, List.sum_nil, Nat.mul_zero]
    omega
end
end K06
namespace K06
open PySem L2
section
variable {P : Program} {w : World} {K : PySem.W.Frag}
                                                      {mg : Str → Option Value} {base : Heap}
theorem lt1 {n : Nat} (h : n + 64 < cLine) : n + 1 < cLine := by omega
/-- kept: all but dicts and tables -/
def Kp (H H' : Hp) : Prop := ∀ b o, H b = some o → (∀ kvs, o ≠ .dK kvs) → (∀ ps, o ≠ .tbl ps) → H' b = some o
theorem Kp.seqL {H H' : Hp} {a : Addr} {xs : List V} (e : Kp H H') (h : SqL K H a xs) : SqL K H' a xs := by
  rcases h with (h | ⟨o, h⟩) | h
  · exact .inl (.inl (e _ _ h (by intro _ z; cases z) (by intro _ z; cases z)))
  · exact .inl (.inr ⟨o, e _ _ h (by intro _ z; cases z) (by intro _ z; cases z)⟩)
  · exact .inr h
theorem Kp.seqT {H H' : Hp} {a : Addr} {xs : List V} (e : Kp H H') (h : SqT K H a xs) : SqT K H' a xs := by
  rcases h with (h | ⟨o, h⟩) | h
  · exact .inl (.inl (e _ _ h (by intro _ z; cases z) (by intro _ z; cases z)))
  · exact .inl (.inr ⟨o, e _ _ h (by intro _ z; cases z) (by intro _ z; cases z)⟩)
  · exact .inr h
mutual
theorem dp_kp {H H' : Hp} (s : Kp H H') : ∀ (d : PyData) (x : V), Dp K H x d → Dp K H' x d
  | .none, _, h => by cases h; exact .non
  | .bool b, _, h => by cases h; exact .bl b
  | .int i, _, h => by cases h; exact .int i
  | .str z, _, h => by cases h; exact .str z
  | .list ds, _, h => by
    cases h with
    | lst h1 h2 => exact .lst (Kp.seqL s h1) (dpa_kp s ds _ h2)
  | .tuple ds, _, h => by
    cases h with
    | tup h1 h2 => exact .tup (Kp.seqT s h1) (dpa_kp s ds _ h2)
  | .dict _, _, h => by cases h
theorem dpa_kp {H H' : Hp} (s : Kp H H') : ∀ (ds : List PyData) (xs : List V), DpAll K H xs ds → DpAll K H' xs ds
  | [], _, h => by cases h; exact .nil
  | d :: ds, _, h => by
    cases h with
    | cons h1 h2 => exact .cons (dp_kp s d _ h1) (dpa_kp s ds _ h2)
end
theorem Same.kp {H H' : Hp} (s : Same H H') : Kp H H' := fun b o e _ _ => s b o e
theorem Kp.trans {H H1 H2 : Hp} (a : Kp H H1) (b : Kp H1 H2) : Kp H H2 := fun c o h n m => b c o (a c o h n m) n m
theorem Kp.lock {H : Hp} {a : Addr} {kvs : List (Key × V)} {o : HO} (h : H a = some (.dK kvs)) : Kp H (upd H a o) := fun b u e n _ => by
  rw [upd_ne (fun z => n kvs (by rw [z, h] at e; exact (Option.some.inj e).symm))]
  exact e
def keyD : Key → PyData
  | .inl n => .int n
  | .inr z => .str z
theorem keyD_dp {H : Hp} : ∀ k : Key, Dp K H (kV k) (keyD k)
  | .inl n => .int n
  | .inr z => .str z
abbrev Qu := Key × V × PyData
def okQ (q : Qu) : Bool := nmD (keyD q.1) && nmD q.2.2
def kvQ (qs : List Qu) : List (Key × V) := qs.map fun q => (q.1, q.2.1)
def toD (r : Str × Int) : PyData := .tuple [.str r.1, .int r.2]
theorem dpa_of {H : Hp} (g : Str → Str) : ∀ (rs : List (Str × Int)) (acc : List V), acc.length = rs.length → (∀ (j : Nat) (r : Str × Int), rs[j]? = some r → ∃ b : Addr, acc[j]? = some (V.ref b) ∧ H b = some (.tup [V.str (g r.1), V.int r.2])) → DpAll K H acc (rs.map fun r => toD (g r.1, r.2))
  | [], [], _, _ => .nil
  | r :: rs, v :: acc, l, h => by
    obtain ⟨b, e1, e2⟩ := h 0 r rfl
    obtain rfl := Option.some.inj e1
    exact .cons (.tup (SqT.of e2) (.cons (.str _) (.cons (.int _) .nil))) (dpa_of g rs acc (Nat.succ.inj l) fun j r hj => h (j + 1) r hj)
/-- the row with other names -/
def renR (g : Str → Str) (r : Rw) : Rw := { n := g r.n, t := r.t, rs := r.rs.map fun p => (g p.1, p.2), us := r.us }
def sp_ren (K : PySem.W.Frag) (C : Addr) : Sp := fun vs H Q _ => ∃ (p : Addr) (r : Rw) (a : Addr) (qs : List Qu) (g : Str → Str), vs = [.ref p, .ref a] ∧ OpAt K H C p r ∧ H a = some (.dK (kvQ qs)) ∧ qs.length ≤ 100 ∧ (∀ q ∈ qs, Dp K H q.2.1 q.2.2 ∧ okD q.2.2 ∧ okD (keyD q.1)) ∧
  qs.all okQ = true ∧ valV (kvQ qs) (.inr r.n) = some (.str (g r.n)) ∧ (∀ p ∈ r.rs, valV (kvQ qs) (.inr p.1) = some (.str (g p.1))) ∧ (renR g r).Ok ∧ ∀ q H', Same H H' → OpAt K H' C q (renR g r) → Q (.ref q) H'
theorem ty_dict {d : PyData} {H : Hp} {x : V} (h : Dp K H x d) : kitB (tyD d) "dict" = some false := by
  cases h <;> (simp only [tyD]; decide +kernel)
theorem rd_get {H : Hp} {rs : List (Str × Int)} {xs : List V} {i : Nat} {y : V} (h : DpAll K H xs (rs.map toD)) (e : xs[i]? = some y) : ∃ (r : Str × Int) (b : Addr), rs[i]? = some r ∧ y = .ref b ∧ SqT K H b [.str r.1, .int r.2] := by
  obtain ⟨d, e1, p1⟩ := dpa_get h e
  rw [List.getElem?_map] at e1
  obtain ⟨r, e2, rfl⟩ := Option.map_eq_some_iff.mp e1
  refine ⟨r, ?_⟩
  cases p1 with
  | tup q1 q2 =>
    cases q2 with
    | cons a1 a2 =>
      cases a1
      cases a2 with
      | cons b1 b2 =>
        cases b1
        cases b2
        exact ⟨_, e2, rfl, q1⟩
theorem kb_all (U : UX K mg) : ∃ mv, KBn K U.dI ["self", "name", "ticks", "reads", "uses"] 2 ["ticks", "reads", "uses"] (fun us ws => us ++ (mv ++ ws)) (fun vs zs => vs ++ ([] ++ zs)) :=
  U.FI.kbinds0 2 ["ticks", "reads", "uses"] [] (fun vs mz zs => vs ++ (mz ++ zs)) (by simp) (by simp) (fun a b c => a.append (b.append c)) fun D doc pm an cdv ct us mv ws l1 l2 l3 => by
    match us, mv, ws, l1, l2, l3 with
    | [_, _], [], [_, _, _], _, _, _ => rfl
theorem b_none (U : UX K mg) : ∃ ds, Vals [.int 1, .ref U.r0, .ref U.u0] ds ∧ Binds K U.dI ["self", "name", "ticks", "reads", "uses"] ds :=
  U.FI.binds0 2 (by simp) rfl fun D doc pm an cdv ct us ks l1 l2 => by
    match us, ks, l1, l2 with
    | [_, _], [_, _, _], _, _ => exact ⟨_, _, _, _, _, _, rfl, rfl, _, _, _, _, _, _, rfl, rfl, _, _, _, _, _, _, rfl, rfl, rfl⟩
def sp_with (K : PySem.W.Frag) (C : Addr) : Sp := fun vs H Q _ => ∃ (p : Addr) (r : Rw) (t : Int), vs = [.ref p, .int t] ∧ OpAt K H C p r ∧ 1 ≤ t ∧ t ≤ 4 ∧ ∀ q H', Same H H' → OpAt K H' C q { r with t := t } → Q (.ref q) H'
theorem ok_with (T : T K mg) (U : UX K mg) : FnOk P w K mg base CX0 7 U.mw.f U.mw.d ["self", "ticks"] (sp_with K U.C) := by
  have G_init : FnOk P w K mg base CX0 5 U.fI U.dI ["self", "name", "ticks", "reads", "uses"] (sp_init K U.C) := ok_init T U
  refine U.mw.F.ok sc_Operation_with_ticks (fun vs H Q E h => ?_) (fun cdv A outer s H vs Q E hr h => ?_)
  · obtain ⟨p, r, t, rfl, _⟩ := h
    rfl
  · obtain ⟨p, r, t, rfl, ⟨ok, dx, x3, x4, hp, h3, h4⟩, t1, t2, k⟩ := h
    obtain ⟨mv, hb⟩ := kb_all U
    refine ⟨_, (pss_one (ps_ret (pe_makeK U.mkI G_init hr rfl U.mC hb pass0 (pa_cons (pe_fld (pv 0) rfl) pa_nil) (pk_cons (pv 1) (pk_cons (pe_fld (pv 0) rfl) (pk_cons (pe_fld (pv 0) rfl) pk_nil)))))), ?_⟩
    refine ⟨_, rfl, p, U.C, dx, _, .str r.n, rfl, hp, U.cl, U.n1, rfl, _, rfl, _, rfl, p, U.C, dx, _, x3, rfl, hp, U.cl, U.n3, rfl, _, rfl, p, U.C, dx, _, x4, rfl, hp, U.cl, U.n4, rfl, rfl, rfl, fun q dq hq hdq ne => ?_⟩
    have S1 : Same H (upd (upd H dq (.own q)) q (.ins U.C dq [])) := fun b o e => by
      rw [upd_ne (ne_of_none e hq), upd_ne (ne_of_none e hdq)]
      exact e
    have ok' : Rw.Ok { r with t := t } := { ok with t := ⟨t1, t2⟩ }
    refine ⟨q, dq, x3, x4, { r with t := t }, rfl, ok', upd_same, dp_same S1 _ _ h3, dp_same S1 _ _ h4, fun H' S' => ⟨rfl, k q _ ?_ ⟨ok', dq, x3, x4, upd_same, ?_, ?_⟩⟩⟩
    · exact Same.at hq (Same.trans S1 S')
    · exact dp_same (Same.at hq (Same.trans S1 S')) _ _ h3
    · exact dp_same (Same.at hq (Same.trans S1 S')) _ _ h4
theorem ok_ren (T : T K mg) (U : UX K mg) : FnOk P w K mg base CX0 7 U.mr.f U.mr.d ["self", "names"] (sp_ren K U.C) := by
  have G_init : FnOk P w K mg base CX0 5 U.fI U.dI ["self", "name", "ticks", "reads", "uses"] (sp_init K U.C) := ok_init T U
  have G_is_name : FnOk P w K mg base CX0 1 T.f_is_name T.d_is_name ["value"] (sp_is_name K) := ok_is_name T
  refine U.mr.F.ok sc_Operation_renamed (fun vs H Q E h => ?_) (fun cdv A outer s H vs Q E hr h => ?_)
  · obtain ⟨p, r0, a, qs, g, rfl, _⟩ := h
    rfl
  · obtain ⟨p, r0, a, qs, g, rfl, ⟨ok0, dx, x3, x4, hp, h3o, h4⟩, ha, hl, hq, hall, eg, er, okn, k⟩ := h
    obtain ⟨a3, xs3, rfl, h3, h3d⟩ : ∃ a3 xs3, x3 = .ref a3 ∧ SqT K H a3 xs3 ∧ DpAll K H xs3 (r0.rs.map pD) := by
      cases h3o with
      | tup h1 h2 => exact ⟨_, _, rfl, h1, h2⟩
    have h3l : r0.rs.length ≤ 100 := Nat.le_trans ok0.rl (by decide)
    have hu := hu_of hr
    have hr_is_name : Room 1 _ := hr.mono (by decide)
    obtain ⟨mv, hb⟩ := kb_all U
    refine ⟨_, (pss_cons (ps_if (pt_not (pt_val (pe_callB call_isi (by rfl) T.z_isinstance (by decide +kernel) (pa_cons (pv 1) (pa_cons (pe_bltn (v := V.ty "dict") (u := Value.type "dict") (by rfl) T.z_dict (by decide +kernel) rfl) pa_nil)))))
      (pss_one ps_never)
      pss_nil)
      (pss_cons (ps_if (pt_not (pt_val (pe_callB (cr_all rfl) (by rfl) T.z_all (by decide +kernel) (pa_cons (pe_lock (pe_lc (own := [("old", 3), ("new", 4)]) (g := gTup K 2 (gCons (gName 3) (gCons (gName 4) gNil))) rfl sc_Operation_renamed.nd (pi_items (pv 1)) (blkOk_by (N := ["self", "names", "reads", "old", "new", "name", "_", "distance"]) (sc := defScope s_Operation_renamed) (by decide +kernel)) (fun _ _ _ _ _ => (pg_tup rfl (pgs_cons (pg_name (i := 3) sc_Operation_renamed.nd rfl (Or.inl rfl)) (pgs_cons (pg_name (i := 4) sc_Operation_renamed.nd rfl (Or.inl rfl)) pgs_nil)))) (fun _ _ _ _ _ => pts_nil) (fun _ _ _ _ _ => (pe_and (pe_call G_is_name hr_is_name rfl T.m_is_name T.F_is_name.kp T.b_is_name .nil pass0 (pa_cons (pv 3) pa_nil)) (pe_one (pe_call G_is_name hr_is_name rfl T.m_is_name T.F_is_name.kp T.b_is_name .nil pass0 (pa_cons (pv 4) pa_nil))))))) pa_nil))))
      (pss_one ps_never)
      pss_nil)
      (pss_cons (ps_if (PW.pt (pw_or (pt_cmp (pc_dnotin (lt1 hr.units) (pe_fld (pv 0) rfl) (pv 1))) (pw_or1 (pt_not (pt_val (pe_callB (cr_all rfl) (by rfl) T.z_all (by decide +kernel) (pa_cons (pe_lc (own := [("name", 5), ("_", 6)]) (g := gTup K 2 (gCons (gName 5) (gCons (gName 6) gNil))) rfl sc_Operation_renamed.nd (pi_tup (pe_fld (pv 0) rfl)) (blkOk_by (N := ["self", "names", "reads", "old", "new", "name", "_", "distance"]) (sc := defScope s_Operation_renamed) (by decide +kernel)) (fun _ _ _ _ _ => (pg_tup rfl (pgs_cons (pg_name (i := 5) sc_Operation_renamed.nd rfl (Or.inl rfl)) (pgs_cons (pg_name (i := 6) sc_Operation_renamed.nd rfl (Or.inl rfl)) pgs_nil)))) (fun _ _ _ _ _ => pts_nil) (fun _ _ _ _ _ => (pe_cmp (pc_din (lt1 hr.units) (pv 5) (pv 1))))) pa_nil)))))))
      (pss_one ps_never)
      pss_nil)
      (pss_cons (ps_set (i := 2) sc_Operation_renamed.nd rfl (Or.inl rfl) (pe_callTy call_tuple_of (by rfl) T.z_tuple (by decide +kernel) (pa_cons (pe_lc (own := [("name", 5), ("distance", 7)]) (g := gTup K 2 (gCons (gName 5) (gCons (gName 7) gNil))) rfl sc_Operation_renamed.nd (pi_tup (pe_fld (pv 0) rfl)) (blkOk_by (N := ["self", "names", "reads", "old", "new", "name", "_", "distance"]) (sc := defScope s_Operation_renamed) (by decide +kernel)) (fun _ _ _ _ _ => (pg_tup rfl (pgs_cons (pg_name (i := 5) sc_Operation_renamed.nd rfl (Or.inl rfl)) (pgs_cons (pg_name (i := 7) sc_Operation_renamed.nd rfl (Or.inl rfl)) pgs_nil)))) (fun _ _ _ _ _ => pts_nil) (fun _ _ _ _ _ => (pe_tup (pa_cons (pe_dget (lt1 hr.units) (pv 1) (pv 5) (fun _ _ => rfl)) (pa_cons (pv 7) pa_nil))))) pa_nil)))
      (pss_one (ps_ret (pe_makeK U.mkI G_init hr rfl U.mC hb pass0 (pa_cons (pe_dget (lt1 hr.units) (pv 1) (pe_fld (pv 0) rfl) (fun _ _ => rfl)) pa_nil) (pk_cons (pe_fld (pv 0) rfl) (pk_cons (pv 2) (pk_cons (pe_fld (pv 0) rfl) pk_nil)))))))))), ?_⟩
    rcases Or.inr (a := False) True.intro with ff | _
    · exact ff.elim
    · refine ⟨_, rfl, _, _, _, _, true, rfl, .ty _, .base (.dK ha), kit_ty (a := "dict") (b := "dict") (by decide +kernel), _, rfl, iteF ?_⟩
      refine ⟨a, _, ha, trivial, fun od => ?_⟩
      refine ⟨_, rfl, a, od, kvQ qs, rfl, upd_same, fun D hD => ?_⟩
      have nDa : D ≠ a := fun z => by rw [z, upd_same] at hD; cases hD
      refine lc_it walk_items (fun i H' => H' D = some (.lst (((qs.take i).map okQ).map V.bl)) ∧ Same (upd H a (.frz od (.dK (kvQ qs)))) H') ⟨upd_same, Same.new hD⟩ (fun i H' _ ⟨_, S⟩ => S _ _ upd_same) ?_ ?_
      · rintro i y H1 H2 hi ⟨eD, S⟩ ⟨T0, x1, y1, rfl, hT0, rfl, e1, e2⟩
        have hi2 : i < qs.length := by
          have h0 : (kvQ qs).length = qs.length := List.length_map ..
          omega
        obtain ⟨q, eq, hqm⟩ : ∃ q, qs[i]? = some q ∧ q ∈ qs := ⟨qs[i], List.getElem?_eq_getElem hi2, List.getElem_mem hi2⟩
        have ekv : (kvQ qs)[i]? = some (q.1, q.2.1) := by unfold kvQ; rw [List.getElem?_map, eq]; rfl
        dsimp only at e1 e2
        obtain rfl : kV q.1 = x1 := by
          rw [ekv] at e1
          exact Option.some.inj e1
        obtain rfl : q.2.1 = y1 := by
          rw [ekv] at e2
          exact Option.some.inj e2
        obtain ⟨p1, w1, w2⟩ := hq q hqm
        have S2 : Same (upd H a (.frz od (.dK (kvQ qs)))) (upd H1 T0 (.tup [kV q.1, q.2.1])) := Same.trans S (Same.new hT0)
        have K2 : Kp H (upd H1 T0 (.tup [kV q.1, q.2.1])) := Kp.trans (Kp.lock ha) (Same.kp S2)
        have nDT : T0 ≠ D := fun z => by rw [z, eD] at hT0; cases hT0
        refine ⟨T0, _, rfl, SqT.of upd_same, rfl, _, _, rfl, _, _, rfl, rfl, ?_⟩
        refine ⟨rfl, ?_⟩
        unfold tYes
        dsimp only
        rw [if_pos rfl]
        have done : ∀ (H4 : Hp) (b : Bool), Same (upd H1 T0 (.tup [kV q.1, q.2.1])) H4 → b = okQ q → ∃ acc, H4 D = some (.lst acc) ∧ acc.length < sizeLine ∧ (upd H4 D (.lst (acc ++ [V.bl b]))) D = some (.lst (((qs.take (i + 1)).map okQ).map V.bl)) ∧ Same (upd H a (.frz od (.dK (kvQ qs)))) (upd H4 D (.lst (acc ++ [V.bl b]))) := by
          rintro H4 b S4 rfl
          refine ⟨_, S4 _ _ ((upd_ne nDT.symm).trans eD), ?_, ?_, Same.at hD (Same.trans S2 S4)⟩
          · rw [List.length_map, List.length_map, List.length_take]
            exact Nat.lt_of_le_of_lt (Nat.le_trans (Nat.min_le_right _ _) (by omega : qs.length ≤ 100)) (by decide)
          · rw [upd_same, List.take_add_one, eq, List.map_append, List.map_append]
            rfl
        refine ⟨_, rfl, kV q.1, keyD q.1, rfl, .inl (keyD_dp _), w2, fun H3 S3 => ?_⟩
        refine ⟨_, rfl, ?_⟩
        by_cases c : nmD (keyD q.1) = true
        · rw [c]
          refine iteT ?_
          refine ⟨_, rfl, q.2.1, q.2.2, rfl, .inl (dp_same S3 _ _ (dp_kp K2 _ _ p1)), w1, fun H4 S4 => ?_⟩
          exact done H4 _ (Same.trans S3 S4) (by unfold okQ; rw [c, Bool.true_and])
        · rw [Bool.eq_false_iff.mpr c]
          exact iteF (done H3 _ S3 (by unfold okQ; rw [Bool.eq_false_iff.mpr c, Bool.false_and]))
      · rintro H9 ⟨eD, S⟩
        have S0 : Same H (upd H9 a (.dK (kvQ qs))) := fun b o e => by
          by_cases hb : b = a
          · rw [hb] at e ⊢
            rw [upd_same]
            exact ha.symm.trans e
          · rw [upd_ne hb]
            exact S _ _ ((upd_ne hb).trans e)
        refine ⟨S _ _ upd_same, _, _, rfl, SqL.of ((upd_ne nDa).trans eD), ?_⟩
        have eall : ((List.map okQ (List.take (kvQ qs).length qs)).all id) = qs.all okQ := by
          have h0 : (kvQ qs).length = qs.length := List.length_map ..
          rw [h0, List.take_length, List.all_map]
          rfl
        refine ⟨_, rfl, ?_⟩
        rw [eall]
        rcases Or.inr (a := False) True.intro with ff | _
        · exact ff.elim
        · rw [hall]
          refine iteF ?_
          generalize upd H9 a (.dK (kvQ qs)) = G0 at S0 ⊢
          have hp2 := S0 _ _ hp
          have ha2 := S0 _ _ ha
          refine ⟨_, rfl, p, U.C, dx, _, .str r0.n, rfl, hp2, U.cl, U.n1, rfl, _, rfl, a, _, rfl, DGet.k (k := .inr r0.n) ha2, _, rfl, ?_⟩
          rcases Or.inr (a := False) True.intro with ff | _
          · exact ff.elim
          · rw [eg]
            refine iteF ?_
            refine ⟨_, rfl, p, U.C, dx, _, .ref a3, rfl, hp2, U.cl, U.n3, rfl, a3, rfl, ⟨_, Same.seqT S0 h3⟩, fun D2 hD2 => ?_⟩
            have hn3 := dpa_len h3d
            rw [List.length_map] at hn3
            refine lc_tup (K := K) (a := a3) (xs := xs3) (fun i H' => H' D2 = some (.lst (((r0.rs.take i).map fun r => (valV (kvQ qs) (.inr r.1)).isSome).map V.bl)) ∧ Same G0 H') ⟨upd_same, Same.new hD2⟩ (fun i H' _ ⟨_, S⟩ => Same.seqT (Same.trans S0 S) h3) ?_ ?_
            · rintro i y H1 hy ⟨eD2, S1⟩
              obtain ⟨r, b, er, rfl, hb2⟩ := rd_get (dpa_same (Same.trans S0 S1) _ _ h3d) hy
              refine ⟨b, _, rfl, hb2, rfl, _, _, rfl, _, _, rfl, rfl, ?_⟩
              refine ⟨rfl, ?_⟩
              unfold tYes
              dsimp only
              rw [if_pos rfl]
              refine ⟨_, rfl, _, rfl, a, _, rfl, DGet.k (k := .inr r.1) (S1 _ _ ha2), ?_⟩
              refine ⟨_, eD2, ?_, ?_, Same.at hD2 S1⟩
              · rw [List.length_map, List.length_map, List.length_take]
                exact Nat.lt_of_le_of_lt (Nat.le_trans (Nat.min_le_right _ _) h3l) (by decide)
              · rw [upd_same, List.take_add_one, er, List.map_append, List.map_append]
                rfl
            · rintro H7 ⟨eD2, S1⟩
              refine ⟨_, _, rfl, SqL.of eD2, ?_⟩
              refine ⟨_, rfl, ?_⟩
              have eall2 : ((List.map (fun r : Str × Int => (valV (kvQ qs) (.inr r.1)).isSome) (List.take xs3.length r0.rs)).all id) = r0.rs.all fun r => (valV (kvQ qs) (.inr r.1)).isSome := by
                rw [← hn3, List.take_length, List.all_map]
                rfl
              rw [eall2]
              by_cases c1 : (r0.rs.all fun r => (valV (kvQ qs) (.inr r.1)).isSome) = true
              · rw [c1]
                refine iteF ?_
                have S7 : Same H H7 := Same.trans S0 S1
                have hp7 := S7 _ _ hp
                have ha7 := S7 _ _ ha
                refine ⟨_, rfl, p, U.C, dx, _, .ref a3, rfl, hp7, U.cl, U.n3, rfl, a3, rfl, ⟨_, Same.seqT S7 h3⟩, fun D3 hD3 => ?_⟩
                refine lc_tup (K := K) (a := a3) (xs := xs3) (fun i H' => (∃ acc, H' D3 = some (.lst acc) ∧ acc.length = i ∧ ∀ (j : Nat) (r : Str × Int), j < i → r0.rs[j]? = some r → ∃ b : Addr, acc[j]? = some (V.ref b) ∧ H' b = some (.tup [V.str (g r.1), V.int r.2])) ∧ Same H7 H')
                  ⟨⟨[], upd_same, rfl, fun j r hj _ => absurd hj (Nat.not_lt_zero _)⟩, Same.new hD3⟩ (fun i H' _ ⟨_, S⟩ => Same.seqT (Same.trans S7 S) h3) ?_ ?_
                · rintro i y H1 hy ⟨⟨acc, eD3, lacc, hacc⟩, S2⟩
                  have S8 : Same H H1 := Same.trans S7 S2
                  obtain ⟨r, b, er2, rfl, hb2⟩ := rd_get (dpa_same S8 _ _ h3d) hy
                  have hrm : r ∈ r0.rs := List.mem_of_getElem? er2
                  refine ⟨b, _, rfl, hb2, rfl, _, _, rfl, _, _, rfl, rfl, ?_⟩
                  refine ⟨rfl, ?_⟩
                  unfold tYes
                  dsimp only
                  rw [if_pos rfl]
                  refine ⟨_, rfl, _, rfl, a, .str (g r.1), rfl, ?_, ?_⟩
                  · have h0 := DGet.k (k := .inr r.1) (S8 _ _ ha)
                    rw [er r hrm] at h0
                    exact h0
                  refine ⟨_, rfl, (by show 2 ≤ sizeLine; decide), fun t ht => ?_⟩
                  have nt : t ≠ D3 := fun z => by rw [z, eD3] at ht; cases ht
                  refine ⟨_, (upd_ne nt.symm).trans eD3, ?_, ⟨_, upd_same, ?_, fun j r' hj hr' => ?_⟩, Same.at hD3 (Same.trans S2 (Same.new ht))⟩
                  · have hil : i < r0.rs.length := by
                      have := (List.getElem?_eq_some_iff.mp er2).1
                      exact this
                    rw [lacc]
                    exact Nat.lt_of_lt_of_le (show i < 1000 by omega) (by decide)
                  · rw [List.length_append, lacc]
                    rfl
                  · by_cases hji : j < i
                    · obtain ⟨b', e1, e2⟩ := hacc j r' hji hr'
                      have nb : b' ≠ D3 := fun z => by rw [z, eD3] at e2; cases e2
                      have nbt : b' ≠ t := fun z => by rw [z, ht] at e2; cases e2
                      exact ⟨b', by rw [List.getElem?_append_left (by omega)]; exact e1, by rw [upd_ne nb, upd_ne nbt]; exact e2⟩
                    · obtain rfl : j = i := by omega
                      rw [er2] at hr'
                      obtain rfl := Option.some.inj hr'
                      refine ⟨t, ?_, by rw [upd_ne nt, upd_same]⟩
                      rw [List.getElem?_append_right (by omega), lacc, Nat.sub_self]
                      rfl
                · rintro H6 ⟨⟨acc, eD3, lacc, hacc⟩, S2⟩
                  have S6 : Same H H6 := Same.trans S7 S2
                  have hd6 : DpAll K H6 acc (r0.rs.map fun r => toD (g r.1, r.2)) := dpa_of g r0.rs acc (by omega) fun j r hr => hacc j r (by
                    have := (List.getElem?_eq_some_iff.mp hr).1
                    omega) hr
                  refine ⟨D3, acc, rfl, .inl ⟨SqL.of eD3, fun l hl => ?_⟩⟩
                  have S9 : Same H (upd H6 l (.tup acc)) := Same.trans S6 (Same.new hl)
                  have hdl : Dp K (upd H6 l (.tup acc)) (.ref l) (.tuple (r0.rs.map fun r => toD (g r.1, r.2))) := .tup (SqT.of upd_same) (dpa_same (Same.new hl) _ _ hd6)
                  generalize upd H6 l (.tup acc) = G9 at S9 hdl ⊢
                  have hp9 := S9 _ _ hp
                  refine ⟨_, rfl, _, rfl, p, U.C, dx, _, .str r0.n, rfl, hp9, U.cl, U.n1, rfl, a, .str (g r0.n), rfl, ?_, ?_⟩
                  · have h0 := DGet.k (k := .inr r0.n) (S9 _ _ ha)
                    rw [eg] at h0
                    exact h0
                  refine ⟨_, rfl, p, U.C, dx, _, .int r0.t, rfl, hp9, U.cl, U.n2, rfl, _, rfl, _, rfl, p, U.C, dx, _, x4, rfl, hp9, U.cl, U.n4, rfl, rfl, rfl, fun q dq hq' hdq ne => ?_⟩
                  have S5 : Same G9 (upd (upd G9 dq (.own q)) q (.ins U.C dq [])) := fun b o e => by
                    rw [upd_ne (ne_of_none e hq'), upd_ne (ne_of_none e hdq)]
                    exact e
                  have S95 := Same.trans S9 S5
                  have eT : tD (renR g r0).rs = .tuple (r0.rs.map fun r => toD (g r.1, r.2)) := by
                    unfold renR tD
                    rw [List.map_map]
                    rfl
                  refine ⟨q, dq, .ref l, x4, renR g r0, rfl, okn, upd_same, ?_, dp_same S95 _ _ h4, fun H' S' => ⟨rfl, k q _ ?_ ⟨okn, dq, .ref l, x4, upd_same, ?_, ?_⟩⟩⟩
                  · rw [eT]
                    exact dp_same S5 _ _ hdl
                  · exact Same.trans S9 (Same.at hq' (Same.trans S5 S'))
                  · rw [eT]
                    exact dp_same (Same.at hq' (Same.trans S5 S')) _ _ hdl
                  · exact dp_same (Same.trans S9 (Same.at hq' (Same.trans S5 S'))) _ _ h4
              · exact absurd (List.all_eq_true.mpr fun r hr => by
                  rw [er r hr]
                  rfl) c1
end
end K06
namespace K06
open PySem L2
/-- all but lists are kept -/
def NoL (H H' : Hp) : Prop := ∀ b o, H b = some o → (∀ xs, o ≠ .lst xs) → H' b = some o
theorem NoL.refl {H : Hp} : NoL H H := fun _ _ e _ => e
theorem NoL.trans {H H1 H2 : Hp} (a : NoL H H1) (b : NoL H1 H2) : NoL H H2 := fun c o e n => b c o (a c o e n) n
theorem NoL.same {H H' : Hp} (s : Same H H') : NoL H H' := fun b o e _ => s b o e
theorem NoL.put {H : Hp} {l : Addr} {xs : List V} {o : HO} (h : H l = some (.lst xs)) : NoL H (upd H l o) := fun b u e n => by
  rw [upd_ne (fun z => n xs (by rw [z, h] at e; exact (Option.some.inj e).symm))]
  exact e
theorem NoL.only {H H' : Hp} {r : Addr} (o : Only r H H') (h : Rl H r) : NoL H H' := fun b u e n => by
  obtain ⟨x, y, z, q⟩ := h
  exact o b u (fun w => n _ (by rw [w, q] at e; exact (Option.some.inj e).symm)) e
theorem NoL.seqT {K : PySem.W.Frag} {H H' : Hp} {a : Addr} {xs : List V} (e : NoL H H') (h : SqT K H a xs) : SqT K H' a xs := by
  rcases h with (h | ⟨o, h⟩) | h
  · exact .inl (.inl (e _ _ h (by intro _ z; cases z)))
  · exact .inl (.inr ⟨o, e _ _ h (by intro _ z; cases z)⟩)
  · exact .inr h
theorem pair_nol {K : PySem.W.Frag} {H H' : Hp} (e : NoL H H') {x : V} {p : Str × Int} (h : Dp K H x (pD p)) : Dp K H' x (pD p) := by
  cases h with
  | tup h1 h2 =>
    cases h2 with
    | cons a1 a2 =>
      cases a1
      cases a2 with
      | cons b1 b2 =>
        cases b1
        cases b2
        exact .tup (NoL.seqT e h1) (.cons (.str _) (.cons (.int _) .nil))
theorem pairs_nol {K : PySem.W.Frag} {H H' : Hp} (e : NoL H H') : ∀ {ps : Prs} {xs : List V}, DpAll K H xs (ps.map pD) → DpAll K H' xs (ps.map pD)
  | [], _, h => by cases h; exact .nil
  | p :: ps, _, h => by
    cases h with
    | cons h1 h2 => exact .cons (pair_nol e h1) (pairs_nol e h2)
theorem dpa_snoc {K : PySem.W.Frag} {H : Hp} : ∀ {ds : List PyData} {xs : List V} {d : PyData} {x : V}, DpAll K H xs ds → Dp K H x d → DpAll K H (xs ++ [x]) (ds ++ [d])
  | [], _, _, _, h, q => by cases h; exact .cons q .nil
  | d :: ds, _, _, _, h, q => by
    cases h with
    | cons h1 h2 => exact .cons h1 (dpa_snoc h2 q)
theorem dpa_erase {K : PySem.W.Frag} {H : Hp} : ∀ {ps : Prs} {xs : List V} {k : Nat}, DpAll K H xs (ps.map pD) → DpAll K H (xs.eraseIdx k) ((ps.eraseIdx k).map pD)
  | [], _, _, h => by cases h; exact .nil
  | p :: ps, _, k, h => by
    cases h with
    | cons h1 h2 =>
      cases k with
      | zero => exact h2
      | succ k => exact .cons h1 (dpa_erase (k := k) h2)
theorem dpa_at {K : PySem.W.Frag} {H : Hp} : ∀ {ps : Prs} {xs : List V} {k : Nat} {y : V}, DpAll K H xs (ps.map pD) → xs[k]? = some y → ∃ p, ps[k]? = some p ∧ Dp K H y (pD p)
  | [], _, k, y, h, e => by cases h; simp at e
  | p :: ps, _, k, y, h, e => by
    cases h with
    | cons h1 h2 =>
      cases k with
      | zero =>
        obtain rfl := Option.some.inj e
        exact ⟨p, rfl, h1⟩
      | succ k => exact dpa_at (k := k) h2 (by simpa using e)
abbrev OkP (ps : Prs) : Prop := ∀ p ∈ ps, nmC p.1 = true ∧ 0 ≤ p.2 ∧ p.2 ≤ 3
section
variable {P : Program} {w : World} {K : PySem.W.Frag}
                                                      {mg : Str → Option Value} {base : Heap}
/-- ahead of a turn of _law_few -/
def FewW (K : PySem.W.Frag) (r a b : Addr) (H : Hp) (ps : Prs) (many : Nat) (σ0 : L2.St) (m : Nat) (σ' : L2.St) (G : Hp) : Prop := σ' = σ0 ∧ ∃ (xs : List V) (L : Prs) (ys : List V) (fd : Prs), G a = some (.lst xs) ∧ G b = some (.lst ys) ∧ DpAll K G xs (L.map pD) ∧ DpAll K G ys (fd.map pD) ∧
  (∀ p ∈ L, p ∈ ps) ∧ (∀ p ∈ fd, p ∈ ps) ∧ fd.length ≤ many ∧ L.length = m ∧ m ≤ 100 ∧ Rl G r ∧ Only r H G
def sp_w_few (K : PySem.W.Frag) : Sp := fun vs H Q _ => ∃ (r l : Addr) (xs : List V) (ps : Prs) (many : Nat), vs = [.ref r, .ref l, .int (many : Int)] ∧ Rl H r ∧ H l = some (.lst xs) ∧ l ≠ r ∧ DpAll K H xs (ps.map pD) ∧ OkP ps ∧ ps.length ≤ 100 ∧ many ≤ 100 ∧
  ∀ l' ys (fd : Prs) H', Rl H' r → Only r H H' → H l' = none → H' l' = some (.lst ys) → DpAll K H' ys (fd.map pD) → fd.length ≤ many → (∀ p ∈ fd, p ∈ ps) → Q (.ref l') H'
theorem ok_w_few (T : T K mg) : FnOk P w K mg base CX0 2 T.f_w_few T.d_w_few ["reel", "items", "many"] (sp_w_few K) := by
  have G_w_spin : FnOk P w K mg base CX0 1 T.f_w_spin T.d_w_spin ["reel", "total"] (sp_w_spin K) := ok_w_spin T
  refine T.F_w_few.ok sc_w_few (fun vs H Q E h => ?_) (fun cdv A outer s H vs Q E hr h => ?_)
  · obtain ⟨r, l, xs, ps, many, rfl, _⟩ := h
    rfl
  · obtain ⟨r, l, xs, ps, many, rfl, hR, hl, nlr, hd, okp, few, few2, k⟩ := h
    have hu := hu_of hr
    have hr_w_spin : Room 1 _ := hr.mono (by decide)
    refine ⟨_, (pss_cons (ps_par (i := 3) (j := 4) (by rfl) sc_w_few.nd rfl rfl (by decide) rfl rfl (pa_cons (pe_callTy call_list_of (by rfl) T.z_list (by decide +kernel) (pa_cons (pv 1) pa_nil)) (pa_cons (pe_lst pa_nil) pa_nil)) (by rfl))
      (pss_cons (ps_while PassesOwn.never (PW.pt (pw_and (pt_cmpR (op_neD (un64 hr)) (pv 3) (pe_lst pa_nil) (nomark _)) (pw_and1 (pt_cmpR op_lt (pe_callB call_len (by rfl) T.z_len (by decide +kernel) (pa_cons (pv 4) pa_nil)) (pv 2) (nomark _)))))
      (pss_one (ps_expr (pe_bm PySem.F.plainAttrs_list PySem.F.slot_list_append PySem.F.type_list_append mt_append (pv 4) (pa_cons (pe_bm PySem.F.plainAttrs_list PySem.F.slot_list_pop PySem.F.type_list_pop mt_popAt (pv 3) (pa_cons (pe_call G_w_spin hr_w_spin rfl T.m_w_spin T.F_w_spin.kp T.b_w_spin .nil pass0 (pa_cons (pv 0) (pa_cons (pe_callB call_len (by rfl) T.z_len (by decide +kernel) (pa_cons (pv 3) pa_nil)) pa_nil))) pa_nil)) pa_nil)))))
      (pss_one (ps_ret (pv 4))))), ?_⟩
    refine ⟨_, rfl, l, xs, rfl, .inl (SqL.of hl), fun a ha => ?_⟩
    refine ⟨by show 0 ≤ sizeLine; decide, fun b hb => ?_⟩
    refine ⟨_, _, rfl, ?_⟩
    have nab : b ≠ a := fun z => by rw [z, upd_same] at hb; cases hb
    have hb0 : H b = none := by
      rw [upd_ne nab] at hb
      exact hb
    have nra : r ≠ a := fun z => by obtain ⟨x, y, z', q⟩ := hR; rw [z, ha] at q; cases q
    have nrb : r ≠ b := fun z => by obtain ⟨x, y, z', q⟩ := hR; rw [z, hb0] at q; cases q
    have nla : a ≠ l := fun z => by rw [z, hl] at ha; cases ha
    have nlb : b ≠ l := fun z => by rw [z, hl] at hb0; cases hb0
    have S2 : Same H (upd (upd H a (.lst xs)) b (.lst [])) := fun c o e => by
      rw [upd_ne (ne_of_none e hb0), upd_ne (ne_of_none e ha)]
      exact e
    have hlen := dpa_len hd
    rw [List.length_map] at hlen
    refine ⟨FewW K r a b H ps many [some (.ref r), some (.ref l), some (.int many), some (.ref a), some (.ref b)], ⟨ps.length, rfl, xs, ps, [], [], by rw [upd_ne nab.symm, upd_same], upd_same, dpa_same S2 _ _ hd, .nil, (fun p hp => hp), (fun p hp => by cases hp), Nat.zero_le _, rfl, few, Same.rl S2 hR, Same.only S2⟩, ?_⟩
    rintro m σ' G ⟨rfl, xs', L, ys, fd, eA, eB, dA, dB, mA, mB, lf, rfl, lm, RG, OG⟩
    have okL : OkP L := fun p hp => okp p (mA p hp)
    refine ⟨_, rfl, by show 0 ≤ sizeLine; decide, fun e he => ?_⟩
    have nae : a ≠ e := fun z => by rw [← z, eA] at he; cases he
    have nbe : b ≠ e := fun z => by rw [← z, eB] at he; cases he
    have S3 : Same G (upd G e (.lst [])) := Same.new he
    refine ⟨lD L, lD [], .lst (SqL.of (S3 _ _ eA)) (dpa_same S3 _ _ dA), .lst (SqL.of upd_same) .nil, (shaped_prs okL).2, (shaped_prs (ps := []) (fun p hp => by cases hp)).2, _, rfl, ?_⟩
    have fin : ∀ G', Same G G' → Rl G' r → Q (.ref b) G' := fun G' S RG' => by
      refine k b ys fd G' RG' (fun c o n e => S _ _ (OG c o n e)) hb0 (S _ _ eB) (dpa_same S _ _ dB) lf mB
    have R3 := Same.rl S3 RG
    have dl := dpa_len dA
    rw [List.length_map] at dl
    cases L with
    | nil =>
      have e0 : PyData.eqv (lD []) (lD []) = true := by decide +kernel
      rw [e0]
      refine iteF ?_
      exact iteF ⟨_, rfl, fin _ S3 R3⟩
    | cons p0 L =>
      have e0 : PyData.eqv (lD (p0 :: L)) (lD []) = false := by
        unfold lD
        simp [PyData.eqv, PyData.eqvAll]
      rw [e0]
      refine iteT ?_
      have dfl := dpa_len dB
      rw [List.length_map] at dfl
      refine ⟨_, rfl, _, _, rfl, .inl ⟨_, SqL.of (S3 _ _ eB), rfl⟩, _, rfl, _, _, rfl, rfl, _, rfl, ?_⟩
      refine ite2 (fun c => ?_) (fun c => ?_)
      · have c1 := of_decide_eq_true c
        refine ⟨fun σ'' G'' => ∃ m', m' < (p0 :: L).length ∧ FewW K r a b H ps many [some (.ref r), some (.ref l), some (.int many), some (.ref a), some (.ref b)] m' σ'' G'', fun _ _ h => h, ?_⟩
        have hlt : fd.length < many := by omega
        refine ⟨_, rfl, .inl ⟨rfl, _, SqL.of (S3 _ _ eB)⟩, ?_⟩
        refine ⟨_, rfl, .inl ⟨rfl, _, SqL.of (S3 _ _ eA)⟩, ?_⟩
        refine ⟨_, rfl, _, rfl, _, _, rfl, .inl ⟨_, SqL.of (S3 _ _ eA), rfl⟩, r, _, rfl, R3, by rw [← dl, List.length_cons]; omega, ?_, fun v G4 v0 v1 R4 O4 => ?_⟩
        · exact Nat.lt_trans (lg (b := 63) (by omega) (by rw [← dl]; rw [List.length_cons] at lm ⊢; omega) (by decide)) (by decide)
        have eA4 : G4 a = some (.lst xs') := O4 _ _ nra.symm (S3 _ _ eA)
        have eB4 : G4 b = some (.lst ys) := O4 _ _ nrb.symm (S3 _ _ eB)
        have N4 : NoL G G4 := NoL.trans (NoL.same S3) (NoL.only O4 R3)
        have dA4 := pairs_nol N4 dA
        have dB4 := pairs_nol N4 dB
        have hv : v.toNat < xs'.length := by omega
        have ey : xs'[v.toNat]? = some xs'[v.toNat] := List.getElem?_eq_getElem hv
        generalize xs'[v.toNat] = y at ey
        obtain ⟨p, ep, dy⟩ := dpa_at dA4 ey
        have nb : b ≠ a := nab
        refine ⟨a, xs', v, v.toNat, y, rfl, rfl, eA4, by omega, by omega, PySem.StrLaws.seqIndex_nonneg v0 (by omega), ey, ?_⟩
        have eA5 : (upd G4 a (.lst (xs'.eraseIdx v.toNat))) a = some (.lst (xs'.eraseIdx v.toNat)) := upd_same
        have eB5 : (upd G4 a (.lst (xs'.eraseIdx v.toNat))) b = some (.lst ys) := by rw [upd_ne nab]; exact eB4
        have N5 : NoL G4 (upd (upd G4 a (.lst (xs'.eraseIdx v.toNat))) b (.lst (ys ++ [y]))) := NoL.trans (NoL.put eA4) (NoL.put eB5)
        refine ⟨b, ys, y, rfl, rfl, eB5, by rw [sizeLine_eq]; omega, ?_⟩
        have hpL : p ∈ p0 :: L := List.mem_of_getElem? ep
        have hvL : v.toNat < (p0 :: L).length := (List.getElem?_eq_some_iff.mp ep).1
        refine ⟨((p0 :: L).eraseIdx v.toNat).length, ?_, rfl, xs'.eraseIdx v.toNat, (p0 :: L).eraseIdx v.toNat, ys ++ [y], fd ++ [p], ?_, upd_same, dpa_erase (pairs_nol N5 dA4), ?_, ?_, ?_, ?_, rfl, ?_, ?_, ?_⟩
        · rw [List.length_eraseIdx, if_pos hvL]
          omega
        · rw [upd_ne nab.symm]
          exact eA5
        · rw [List.map_append]
          exact dpa_snoc (pairs_nol N5 dB4) (pair_nol N5 dy)
        · exact fun q hq => mA q (List.mem_of_mem_eraseIdx hq)
        · intro q hq
          rcases List.mem_append.mp hq with h | h
          · exact mB q h
          · rw [List.mem_singleton.mp h]
            exact mA p hpL
        · rw [List.length_append]
          show fd.length + 1 ≤ many
          omega
        · rw [List.length_eraseIdx, if_pos hvL]
          omega
        · obtain ⟨x1, x2, x3, q⟩ := R4
          exact ⟨x1, x2, x3, by rw [upd_ne nrb, upd_ne nra]; exact q⟩
        · intro c o nc e
          have nca : c ≠ a := ne_of_none e ha
          have ncb : c ≠ b := ne_of_none e hb0
          rw [upd_ne ncb, upd_ne nca]
          exact O4 _ _ nc (S3 _ _ (OG _ _ nc e))
      · exact ⟨_, rfl, fin _ S3 R3⟩
end
end K06
namespace K06
open PySem L2
def off (z : Str) (n : Nat) : Prs := (List.range n).map fun j => (z, (0 : Int) + (j : Nat))
theorem off_succ (z : Str) (n : Nat) : off z (n + 1) = off z n ++ [(z, (0 : Int) + (n : Nat))] := by
  unfold off
  rw [List.range_succ, List.map_append]
  rfl
theorem off_ok {z : Str} (hz : nmC z = true) : OkP (off z 4) := by
  intro p hp
  obtain ⟨j, hj, rfl⟩ := List.mem_map.mp hp
  have := List.mem_range.mp hj
  exact ⟨hz, by show (0 : Int) ≤ 0 + (j : Nat); omega, by show (0 : Int) + (j : Nat) ≤ 3; omega⟩
theorem dpa_app {K : PySem.W.Frag} {H : Hp} : ∀ {ds es : List PyData} {xs ys : List V}, DpAll K H xs ds → DpAll K H ys es → DpAll K H (xs ++ ys) (ds ++ es)
  | [], _, _, _, h, q => by cases h; exact q
  | d :: ds, _, _, _, h, q => by
    cases h with
    | cons h1 h2 => exact .cons h1 (dpa_app h2 q)
theorem none_of {H H' : Hp} {b : Addr} (s : Same H H') (n : H' b = none) : H b = none := by
  cases h : H b with
  | none => rfl
  | some u => rw [s _ _ h] at n; cases n
abbrev Mb := Addr × Str × Int
theorem mems_of {K : PySem.W.Frag} {H : Hp} : ∀ {ps : Prs} {xs : List V}, DpAll K H xs (ps.map pD) → ∃ ms : List Mb, ms.map (·.2) = ps ∧ xs = ms.map (fun m => V.ref m.1) ∧ ∀ m ∈ ms, SqT K H m.1 [.str m.2.1, .int m.2.2]
  | [], _, h => by cases h; exact ⟨[], rfl, rfl, fun m hm => by cases hm⟩
  | p :: ps, _, h => by
    cases h with
    | cons h1 h2 =>
      obtain ⟨ms, e1, e2, e3⟩ := mems_of h2
      cases h1 with
      | tup q1 q2 =>
        cases q2 with
        | cons a1 a2 =>
          cases a1
          cases a2 with
          | cons b1 b2 =>
            cases b1
            cases b2
            refine ⟨(_, p) :: ms, by rw [List.map_cons, e1], by rw [List.map_cons, e2], fun m hm => ?_⟩
            rcases List.mem_cons.mp hm with e | hm
            · rw [e]
              exact q1
            · exact e3 m hm
theorem dpa_mems {K : PySem.W.Frag} {H : Hp} : ∀ {ms : List Mb}, (∀ m ∈ ms, SqT K H m.1 [.str m.2.1, .int m.2.2]) → DpAll K H (ms.map fun m => V.ref m.1) ((ms.map (·.2)).map pD)
  | [], _ => .nil
  | m :: ms, h => .cons (.tup (h m List.mem_cons_self) (.cons (.str _) (.cons (.int _) .nil))) (dpa_mems fun x hx => h x (List.mem_cons_of_mem _ hx))
theorem un3 {k : Nat} {A : Around} (r : Room k A) : A.units + 3 < cLine := by
  have := r.un
  omega
theorem un4 {k : Nat} {A : Around} (r : Room k A) (m : Mb) : A.in1.units + 1 + (KS.encP m).depth < cLine := by
  have := r.un
  have e : (KS.encP m).depth ≤ 2 := by simp [KS.encP, PyData.depth, PyData.depthAll]
  show A.units + 1 + 1 + _ < cLine
  omega
theorem pairs_app {K : PySem.W.Frag} {H : Hp} {ds es : List PyData} {xs ys : List V} (h : DpAll K H xs ds) (q : DpAll K H ys es) : DpAll K H (xs ++ ys) (ds ++ es) := dpa_app h q
theorem dpa_nol2 {K : PySem.W.Frag} {H : Hp} {D t : Addr} {o1 o2 : HO} {acc xs : List V} {ps : Prs} (ht : H t = none) (eD : H D = some (.lst acc)) (h : DpAll K H xs (ps.map pD)) : DpAll K (upd (upd H t o1) D o2) xs (ps.map pD) := by
  refine pairs_nol (NoL.trans (NoL.same (Same.new ht)) (NoL.put (l := D) (xs := acc) ?_)) h
  rw [upd_ne (ne_of_none eD ht)]
  exact eD
section
variable {P : Program} {w : World} {K : PySem.W.Frag}
                                                      {mg : Str → Option Value} {base : Heap}
def sp_w_uses (K : PySem.W.Frag) : Sp := fun vs H Q _ => ∃ (r : Addr) (lots : Nat), vs = [.ref r, .int (lots : Int)] ∧ Rl H r ∧ lots ≤ 4 ∧
  ∀ l ys (us : Prs) H', Rl H' r → Only r H H' → H l = none → H' l = some (.lst ys) → DpAll K H' ys (us.map pD) → us.length ≤ 4 → OkP us → Asc us → Q (.ref l) H'
theorem ok_w_uses (T : T K mg) : FnOk P w K mg base CX0 3 T.f_w_uses T.d_w_uses ["reel", "lots"] (sp_w_uses K) := by
  have G_w_few : FnOk P w K mg base CX0 2 T.f_w_few T.d_w_few ["reel", "items", "many"] (sp_w_few K) := ok_w_few T
  refine T.F_w_uses.ok sc_w_uses (fun vs H Q E h => ?_) (fun cdv A outer s H vs Q E hr h => ?_)
  · obtain ⟨r, lots, rfl, _⟩ := h
    rfl
  · obtain ⟨r, lots, rfl, hR, l4, k⟩ := h
    have hu := hu_of hr
    have hr_w_few : Room 2 _ := hr.mono (by decide)
    refine ⟨_, (pss_cons (ps_set (i := 2) sc_w_uses.nd rfl (Or.inl rfl) (pe_op op_cat (pe_op op_rep (pe_lc (own := [("offset", 3)]) (g := gName 3) rfl sc_w_uses.nd (pi_range1 (by rfl) T.z_range (pa_cons pe_int pa_nil)) (blkOk_by (N := ["reel", "lots", "pairs", "offset"]) (sc := defScope s_w_uses) (by decide +kernel)) (fun _ _ _ _ _ => (pg_name (i := 3) sc_w_uses.nd rfl (Or.inl rfl))) (fun _ _ _ _ _ => pts_nil) (fun _ _ _ _ _ => (pe_tup (pa_cons pe_str (pa_cons (pv 3) pa_nil))))) pe_int) (pe_lc (own := [("offset", 3)]) (g := gName 3) rfl sc_w_uses.nd (pi_range1 (by rfl) T.z_range (pa_cons pe_int pa_nil)) (blkOk_by (N := ["reel", "lots", "pairs", "offset"]) (sc := defScope s_w_uses) (by decide +kernel)) (fun _ _ _ _ _ => (pg_name (i := 3) sc_w_uses.nd rfl (Or.inl rfl))) (fun _ _ _ _ _ => pts_nil) (fun _ _ _ _ _ => (pe_tup (pa_cons pe_str (pa_cons (pv 3) pa_nil)))))))
      (pss_one (ps_ret (pe_callB (KS.cr_sortedK (KS.linkPair _) (enc := KS.encP) rfl KS.rd_pair (un4 hr)) (by rfl) T.z_sorted (by decide +kernel) (pa_cons (pe_callTy (KS.cr_setOf (KS.linkPair _) rfl (un3 hr)) (by rfl) T.z_set (by decide +kernel) (pa_cons (pe_call G_w_few hr_w_few rfl T.m_w_few T.F_w_few.kp T.b_w_few .nil pass0 (pa_cons (pv 0) (pa_cons (pv 2) (pa_cons (pv 1) pa_nil)))) pa_nil)) pa_nil))))), ?_⟩
    refine ⟨4, rfl, by decide, by decide, fun D hD => ?_⟩
    refine lc_it walk_range (fun i H' => (∃ acc, H' D = some (.lst acc) ∧ DpAll K H' acc ((off (Str.ofString "p") i).map pD)) ∧ Same H H') ⟨⟨[], upd_same, .nil⟩, Same.new hD⟩ (fun _ _ _ _ => True.intro) ?_ ?_
    · rintro i y H1 H2 hi ⟨⟨acc, eD, da⟩, S⟩ ⟨rfl, rfl⟩
      refine ⟨rfl, ?_⟩
      unfold tYes
      dsimp only
      rw [if_pos rfl]
      refine ⟨_, rfl, (by show 2 ≤ sizeLine; decide), fun t ht => ?_⟩
      have nt : t ≠ D := fun z => by rw [z, eD] at ht; cases ht
      have dl := dpa_len da
      rw [List.length_map] at dl
      have ol : (off (Str.ofString "p") i).length = i := by unfold off; rw [List.length_map, List.length_range]
      refine ⟨acc, (upd_ne nt.symm).trans eD, by rw [sizeLine_eq]; omega, ⟨_, upd_same, ?_⟩, Same.at hD (Same.trans S (Same.new ht))⟩
      rw [off_succ, List.map_append]
      refine pairs_app (dpa_nol2 ht eD da) (.cons (.tup (SqT.of ?_) (.cons (.str _) (.cons (.int _) .nil))) .nil)
      rw [upd_ne nt, upd_same]
    · rintro H9 ⟨⟨acc, eD, da⟩, S⟩
      refine ⟨_, 2, _, rfl, rfl, eD, by decide, by decide, ?_, fun D1 hD1 => ?_⟩
      · have dl := dpa_len da
        rw [List.length_map] at dl
        have ol : (off (Str.ofString "p") (4 : Int).toNat).length = 4 := by decide +kernel
        show acc.length * 2 ≤ _
        rw [sizeLine_eq]
        omega
      have S1 : Same H (upd H9 D1 (.lst (List.replicate (2 : Int).toNat acc).flatten)) := Same.trans S (Same.new hD1)
      have da1 := pairs_nol (NoL.same (Same.new (o := .lst (List.replicate (2 : Int).toNat acc).flatten) hD1)) da
      have e1 : (upd H9 D1 (.lst (List.replicate (2 : Int).toNat acc).flatten)) D1 = some (.lst (List.replicate (2 : Int).toNat acc).flatten) := upd_same
      have e2 : (List.replicate (2 : Int).toNat acc).flatten = acc ++ acc := by
        show (List.replicate 2 acc).flatten = acc ++ acc
        simp [List.replicate]
      rw [e2] at S1 e1 da1 ⊢
      generalize upd H9 D1 (.lst (acc ++ acc)) = G1 at S1 e1 da1 ⊢
      refine ⟨4, rfl, by decide, by decide, fun E1 hE1 => ?_⟩
      have nE : E1 ≠ D1 := fun z => by rw [z, e1] at hE1; cases hE1
      refine lc_it walk_range (fun i H' => (∃ acc2, H' E1 = some (.lst acc2) ∧ DpAll K H' acc2 ((off (Str.ofString "q") i).map pD)) ∧ Same G1 H') ⟨⟨[], upd_same, .nil⟩, Same.new hE1⟩ (fun _ _ _ _ => True.intro) ?_ ?_
      · rintro i y H1 H2 hi ⟨⟨acc2, eD, da⟩, S⟩ ⟨rfl, rfl⟩
        refine ⟨rfl, ?_⟩
        unfold tYes
        dsimp only
        rw [if_pos rfl]
        refine ⟨_, rfl, (by show 2 ≤ sizeLine; decide), fun t ht => ?_⟩
        have nt : t ≠ E1 := fun z => by rw [z, eD] at ht; cases ht
        have dl := dpa_len da
        rw [List.length_map] at dl
        have ol : (off (Str.ofString "q") i).length = i := by unfold off; rw [List.length_map, List.length_range]
        refine ⟨acc2, (upd_ne nt.symm).trans eD, by rw [sizeLine_eq]; omega, ⟨_, upd_same, ?_⟩, Same.at hE1 (Same.trans S (Same.new ht))⟩
        rw [off_succ, List.map_append]
        refine pairs_app (dpa_nol2 ht eD da) (.cons (.tup (SqT.of ?_) (.cons (.str _) (.cons (.int _) .nil))) .nil)
        rw [upd_ne nt, upd_same]
      · rintro H8 ⟨⟨acc2, eE, db⟩, S8⟩
        have e18 : H8 D1 = some (.lst (acc ++ acc)) := S8 _ _ e1
        have da8 := dpa_same S8 _ _ da1
        have dl1 := dpa_len da1
        have dl2 := dpa_len db
        rw [List.length_map] at dl1 dl2
        have ol1 : (off (Str.ofString "p") (4 : Int).toNat).length = 4 := by decide +kernel
        have ol2 : (off (Str.ofString "q") (4 : Int).toNat).length = 4 := by decide +kernel
        refine ⟨D1, E1, acc ++ acc, acc2, rfl, rfl, e18, eE, by rw [List.length_append, sizeLine_eq]; omega, fun p hp => ?_⟩
        have S9 : Same H (upd H8 p (.lst (acc ++ acc ++ acc2))) := Same.trans S1 (Same.trans S8 (Same.new hp))
        have dn : DpAll K H8 (acc ++ acc ++ acc2) ((off (Str.ofString "p") 4 ++ off (Str.ofString "p") 4 ++ off (Str.ofString "q") 4).map pD) := by
          rw [List.map_append, List.map_append]
          exact dpa_app (dpa_app da8 da8) db
        have dn9 := dpa_same (Same.new (o := .lst (acc ++ acc ++ acc2)) hp) _ _ dn
        have e9 : (upd H8 p (.lst (acc ++ acc ++ acc2))) p = some (.lst (acc ++ acc ++ acc2)) := upd_same
        have hp0 : H p = none := none_of (Same.trans S1 S8) hp
        generalize upd H8 p (.lst (acc ++ acc ++ acc2)) = G9 at S9 dn9 e9 ⊢
        have npr : p ≠ r := fun z => by
          obtain ⟨x1, x2, x3, q⟩ := hR
          rw [z, q] at hp0
          cases hp0
        have okps : OkP (off (Str.ofString "p") 4 ++ off (Str.ofString "p") 4 ++ off (Str.ofString "q") 4) := by
          intro x hx
          rcases List.mem_append.mp hx with h | h
          · rcases List.mem_append.mp h with h | h
            · exact off_ok (by decide +kernel) x h
            · exact off_ok (by decide +kernel) x h
          · exact off_ok (by decide +kernel) x h
        refine ⟨_, rfl, _, rfl, _, rfl, r, p, acc ++ acc ++ acc2, off (Str.ofString "p") 4 ++ off (Str.ofString "p") 4 ++ off (Str.ofString "q") 4, lots, rfl, Same.rl S9 hR, e9, npr, dn9, okps, by decide +kernel, by omega, fun l' ys fd H' R' O' ln el dl fl mem => ?_⟩
        obtain ⟨ms, m1, m2, m3⟩ := mems_of dl
        subst m2
        have ml : ms.length = fd.length := by rw [← m1, List.length_map]
        refine ⟨l', ms, rfl, SqL.of el, m3, by omega, fun a L ha fr nd => ?_⟩
        have sa : Same H' (upd H' a (KS.SetO (KS.pairKit P w) a L)) := Same.new ha
        have mL : ∀ m ∈ L, m ∈ ms := fun m hm => List.mem_of_mem_take (fr.sub m hm)
        refine ⟨a, L, rfl, upd_same, fun m hm => Same.seqT sa (m3 m (mL m hm)), PySem.W.AllAlike.of (enc := KS.encP) (fun b b' => by simp [KS.encP, PySem.W.alike, PySem.W.alikeAll]), PySem.W.Sortable.tuples (enc := KS.encP) (fun b => ⟨_, _, rfl⟩), fun L1 p' pm nd' hp' => ?_⟩
        obtain ⟨asc, pm2⟩ := asc_of (L := L) (L1 := L1) nd' pm
        have mem2 : ∀ m ∈ L1.mergeSort (PySem.W.dataLe false KS.encP), m ∈ ms := fun m hm => mL m (pm2.mem_iff.mp hm)
        have S10 : Same H' (upd (upd H' a (KS.SetO (KS.pairKit P w) a L)) p' (.lst ((L1.mergeSort (PySem.W.dataLe false KS.encP)).map fun m => V.ref m.1))) := Same.trans sa (Same.new hp')
        refine k p' _ ((L1.mergeSort (PySem.W.dataLe false KS.encP)).map fun m : Mb => m.2) _ (Same.rl S10 R') (fun c o n e => S10 _ _ (O' _ _ n (S9 _ _ e))) ?_ upd_same (dpa_mems fun m hm => Same.seqT S10 (m3 m (mem2 m hm))) ?_ ?_ asc
        · cases q : H p' with
          | none => rfl
          | some o =>
            exfalso
            have npr' : p' ≠ r := fun z => by
              obtain ⟨x1, x2, x3, q2⟩ := Same.rl sa R'
              rw [z] at hp'
              exact nomatch (q2.symm.trans hp')
            have := sa _ _ (O' _ _ npr' (S9 _ _ q))
            exact nomatch (this.symm.trans hp')
        · rw [List.length_map, pm2.length_eq]
          have := fr.len
          omega
        · intro x hx
          obtain ⟨m, hm, e⟩ := List.mem_map.mp hx
          have := mem2 m hm
          rw [← e]
          refine okps _ (mem _ ?_)
          rw [← m1]
          exact List.mem_map.mpr ⟨m, this, rfl⟩
end
end K06
namespace K06
open PySem L2
/-- a row as a list -/
def rowD (r : Rw) : PyData := .list [.str r.n, .int r.t, lD r.rs, lD r.us]
/-- a row stands at l, in lists that are new since H0 -/
structure RowAt (K : PySem.W.Frag) (H : Hp) (l : Addr) (r : Rw) where
  ok : r.Ok
  at_ : ∃ a3 a4 xs ys, H l = some (.lst [.str r.n, .int r.t, .ref a3, .ref a4]) ∧ H a3 = some (.lst xs) ∧ H a4 = some (.lst ys) ∧ DpAll K H xs (r.rs.map pD) ∧ DpAll K H ys (r.us.map pD)
section
variable {P : Program} {w : World} {K : PySem.W.Frag}
                                                      {mg : Str → Option Value} {base : Heap}
theorem RowAt.same {H H' : Hp} {l : Addr} {r : Rw} (s : Same H H') (h : RowAt K H l r) : RowAt K H' l r := by
  obtain ⟨a3, a4, xs, ys, h1, h2, h3, h4, h5⟩ := h.at_
  exact ⟨h.ok, a3, a4, xs, ys, s _ _ h1, s _ _ h2, s _ _ h3, dpa_same s _ _ h4, dpa_same s _ _ h5⟩
theorem RowAt.dp {H : Hp} {l : Addr} {r : Rw} (h : RowAt K H l r) : Dp K H (.ref l) (rowD r) := by
  obtain ⟨a3, a4, xs, ys, h1, h2, h3, h4, h5⟩ := h.at_
  exact .lst (SqL.of h1) (.cons (.str _) (.cons (.int _) (.cons (.lst (SqL.of h2) h4) (.cons (.lst (SqL.of h3) h5) .nil))))
def sp_w_made_one (K : PySem.W.Frag) (C : Addr) : Sp := fun vs H Q _ => ∃ (l : Addr) (r : Rw), vs = [.ref l] ∧ RowAt K H l r ∧ ∀ q H', Same H H' → OpAt K H' C q r → H q = none → Q (.ref q) H'
theorem ok_w_made_one (T : T K mg) (U : UX K mg) : FnOk P w K mg base CX0 7 T.f_w_made_one T.d_w_made_one ["row"] (sp_w_made_one K U.C) := by
  have G_init : FnOk P w K mg base CX0 5 U.fI U.dI ["self", "name", "ticks", "reads", "uses"] (sp_init K U.C) := ok_init T U
  refine T.F_w_made_one.ok sc_w_made_one (fun vs H Q E h => ?_) (fun cdv A outer s H vs Q E hr h => ?_)
  · obtain ⟨l, r, rfl, _⟩ := h
    rfl
  · obtain ⟨l, r, rfl, R, k⟩ := h
    have hu := hu_of hr
    obtain ⟨a3, a4, xs, ys, h1, h2, h3, h4, h5⟩ := R.at_
    obtain ⟨mv, hb⟩ := kb_all U
    refine ⟨_, (pss_one (ps_ret (pe_makeK U.mkI G_init hr rfl U.mC hb pass0 (pa_cons (pe_ix ix_seq (pv 0) pe_int (fun _ _ => rfl)) pa_nil) (pk_cons (pe_ix ix_seq (pv 0) pe_int (fun _ _ => rfl)) (pk_cons (pe_callTy call_tuple_of (by rfl) T.z_tuple (by decide +kernel) (pa_cons (pe_ix ix_seq (pv 0) pe_int (fun _ _ => rfl)) pa_nil)) (pk_cons (pe_callTy call_tuple_of (by rfl) T.z_tuple (by decide +kernel) (pa_cons (pe_ix ix_seq (pv 0) pe_int (fun _ _ => rfl)) pa_nil)) pk_nil)))))), ?_⟩
    refine ⟨_, rfl, .inl ⟨l, _, 0, _, rfl, rfl, SqL.of h1, rfl, _, rfl, .inl ⟨l, _, 1, _, rfl, rfl, SqL.of h1, rfl, ?_⟩⟩⟩
    refine ⟨_, rfl, .inl ⟨l, _, 2, _, rfl, rfl, SqL.of h1, rfl, a3, xs, rfl, .inl ⟨SqL.of h2, fun b3 hb3 => ?_⟩⟩⟩
    have S1 : Same H (upd H b3 (.tup xs)) := Same.new hb3
    refine ⟨_, rfl, .inl ⟨l, _, 3, _, rfl, rfl, SqL.of (S1 _ _ h1), rfl, a4, ys, rfl, .inl ⟨SqL.of (S1 _ _ h3), fun b4 hb4 => ?_⟩⟩⟩
    have S2 : Same H (upd (upd H b3 (.tup xs)) b4 (.tup ys)) := Same.trans S1 (Same.new hb4)
    have n34 : b3 ≠ b4 := fun z => by rw [← z, upd_same] at hb4; cases hb4
    have e3 : (upd (upd H b3 (.tup xs)) b4 (.tup ys)) b3 = some (.tup xs) := by rw [upd_ne n34, upd_same]
    have e4 : (upd (upd H b3 (.tup xs)) b4 (.tup ys)) b4 = some (.tup ys) := upd_same
    generalize upd (upd H b3 (.tup xs)) b4 (.tup ys) = G at S2 e3 e4 ⊢
    refine ⟨rfl, rfl, fun q dq hq hdq ne => ?_⟩
    have d3 : Dp K G (.ref b3) (tD r.rs) := .tup (SqT.of e3) (dpa_same S2 _ _ h4)
    have d4 : Dp K G (.ref b4) (tD r.us) := .tup (SqT.of e4) (dpa_same S2 _ _ h5)
    have S5 : Same G (upd (upd G dq (.own q)) q (.ins U.C dq [])) := fun b o e => by
      rw [upd_ne (ne_of_none e hq), upd_ne (ne_of_none e hdq)]
      exact e
    refine ⟨q, dq, .ref b3, .ref b4, r, rfl, R.ok, upd_same, dp_same S5 _ _ d3, dp_same S5 _ _ d4, fun H' S' => ⟨rfl, k q _ ?_ ⟨R.ok, dq, .ref b3, .ref b4, upd_same, ?_, ?_⟩ (none_of S2 hq)⟩⟩
    · exact Same.trans S2 (Same.at hq (Same.trans S5 S'))
    · exact dp_same (Same.at hq (Same.trans S5 S')) _ _ d3
    · exact dp_same (Same.at hq (Same.trans S5 S')) _ _ d4
/-- a text as the law tells a pair -/
def partL (p : Str × Int) : Str := p.1 ++ Str.ofString " " ++ toString p.2
theorem empty_app (x : Str) : Str.empty ++ x = x := KS.cps_ext (by
  show ((#[] : Array Nat) ++ x.cps).toList = x.cps.toList
  simp)
theorem part_eq (p : Str × Int) : partS p = partL p := by
  unfold partS partL
  rw [empty_app]
def addL (w : Str) (ps : Prs) (f : Str) : Str := if ps.isEmpty then f else f ++ w ++ joinS ps
def textL (r : Rw) : Str := addL (Str.ofString " uses ") r.us (addL (Str.ofString " reads ") r.rs (r.n ++ Str.ofString " " ++ toString r.t))
end
end K06
namespace K06
open PySem L2
def rAddS : R2 := fun x y H Q => ∃ i j, x = .str i ∧ y = .str j ∧ i.length + j.length ≤ sizeLine ∧ Q (.str (i ++ j)) H
theorem op_addS {X : Cx} : OpR X (binaryOp .Add) rAddS := op_add_str
def rStrI : List V → Hp → VK → Prop := fun xs H Q => ∃ i, xs = [.int i] ∧ i.natAbs.log2 < 1920 ∧ Q (.str (toString i)) H
theorem cr_strI {X : Cx} : CallR X (.type "str") rStrI := call_str_int
theorem partL_len {p : Str × Int} (h : p.1.length ≤ 8 ∧ 0 ≤ p.2 ∧ p.2 ≤ 4) : (partL p).length ≤ 10 := by
  rw [← part_eq]
  exact part_len h
theorem parts_eq (ps : Prs) : ps.map partL = ps.map partS := List.map_congr_left fun p _ => (part_eq p).symm
section
variable {P : Program} {w : World} {K : PySem.W.Frag}
                                                      {mg : Str → Option Value} {base : Heap}
def sp_w_text (K : PySem.W.Frag) : Sp := fun vs H Q _ => ∃ (l : Addr) (r : Rw), vs = [.ref l] ∧ RowAt K H l r ∧ ∀ H', Same H H' → Q (.str (textL r)) H'
theorem ok_w_text (T : T K mg) : FnOk P w K mg base CX0 1 T.f_w_text T.d_w_text ["row"] (sp_w_text K) := by
  refine T.F_w_text.ok sc_w_text (fun vs H Q E h => ?_) (fun cdv A outer s H vs Q E hr h => ?_)
  · obtain ⟨l, r, rfl, _⟩ := h
    rfl
  · obtain ⟨l, r, rfl, R, k⟩ := h
    have hu := hu_of hr
    obtain ⟨a3, a4, xs, ys, h1, h2, h3, h4, h5⟩ := R.at_
    have ok := R.ok
    refine ⟨_, (pss_cons (ps_set (i := 1) sc_w_text.nd rfl (Or.inl rfl) (pe_op op_addS (pe_op op_addS (pe_ix ix_seq (pv 0) pe_int (fun _ _ => rfl)) pe_str) (pe_callTy cr_strI (by rfl) T.z_str (by decide +kernel) (pa_cons (pe_ix ix_seq (pv 0) pe_int (fun _ _ => rfl)) pa_nil))))
      (pss_cons (ps_if (pt_cmpR (op_neD (un64 hr)) (pe_ix ix_seq (pv 0) pe_int (fun _ _ => rfl)) (pe_lst pa_nil) (nomark _))
      (pss_one (ps_set (i := 1) sc_w_text.nd rfl (Or.inl rfl) (pe_op op_addS (pe_op op_addS (pv 1) pe_str) (pe_join pe_str (pe_lc (own := [("name", 2), ("number", 3)]) (g := gTup K 2 (gCons (gName 2) (gCons (gName 3) gNil))) rfl sc_w_text.nd (pi_list (pe_ix ix_seq (pv 0) pe_int (fun _ _ => rfl))) (blkOk_by (N := ["row", "found", "name", "number"]) (sc := defScope s_w_text) (by decide +kernel)) (fun _ _ _ _ _ => (pg_tup rfl (pgs_cons (pg_name (i := 2) sc_w_text.nd rfl (Or.inl rfl)) (pgs_cons (pg_name (i := 3) sc_w_text.nd rfl (Or.inl rfl)) pgs_nil)))) (fun _ _ _ _ _ => pts_nil) (fun _ _ _ _ _ => (pe_op op_addS (pe_op op_addS (pv 2) pe_str) (pe_callTy cr_strI (by rfl) T.z_str (by decide +kernel) (pa_cons (pv 3) pa_nil)))))))))
      pss_nil)
      (pss_cons (ps_if (pt_cmpR (op_neD (un64 hr)) (pe_ix ix_seq (pv 0) pe_int (fun _ _ => rfl)) (pe_lst pa_nil) (nomark _))
      (pss_one (ps_set (i := 1) sc_w_text.nd rfl (Or.inl rfl) (pe_op op_addS (pe_op op_addS (pv 1) pe_str) (pe_join pe_str (pe_lc (own := [("name", 2), ("number", 3)]) (g := gTup K 2 (gCons (gName 2) (gCons (gName 3) gNil))) rfl sc_w_text.nd (pi_list (pe_ix ix_seq (pv 0) pe_int (fun _ _ => rfl))) (blkOk_by (N := ["row", "found", "name", "number"]) (sc := defScope s_w_text) (by decide +kernel)) (fun _ _ _ _ _ => (pg_tup rfl (pgs_cons (pg_name (i := 2) sc_w_text.nd rfl (Or.inl rfl)) (pgs_cons (pg_name (i := 3) sc_w_text.nd rfl (Or.inl rfl)) pgs_nil)))) (fun _ _ _ _ _ => pts_nil) (fun _ _ _ _ _ => (pe_op op_addS (pe_op op_addS (pv 2) pe_str) (pe_callTy cr_strI (by rfl) T.z_str (by decide +kernel) (pa_cons (pv 3) pa_nil)))))))))
      pss_nil)
      (pss_one (ps_ret (pv 1)))))), ?_⟩
    have nl := nm_len ok.n
    have ti := small_int (i := r.t) (by have := ok.t; omega) ok.t.2
    have b1 : (Str.ofString " ").length = 1 := by decide +kernel
    have n1 : (r.n ++ Str.ofString " ").length ≤ 9 := by rw [len_app]; omega
    have n2 : (r.n ++ Str.ofString " " ++ toString r.t).length ≤ 10 := by rw [len_app, ti.1]; omega
    have sr := small_of (Nat.le_trans ok.rl (by decide)) ok.rs
    have su := small_of ok.ul ok.us
    have jr := joinS_len sr
    have ju := joinS_len su
    refine ⟨_, rfl, .inl ⟨l, _, 0, _, rfl, rfl, SqL.of h1, rfl, ?_⟩⟩
    refine ⟨r.n, _, rfl, rfl, by rw [sizeLine_eq]; omega, ?_⟩
    refine ⟨_, rfl, .inl ⟨l, _, 1, _, rfl, rfl, SqL.of h1, rfl, r.t, rfl, ti.2, ?_⟩⟩
    refine ⟨_, _, rfl, rfl, by rw [ti.1, sizeLine_eq]; omega, ?_⟩
    generalize hF0 : r.n ++ Str.ofString " " ++ toString r.t = F0 at n2 ⊢
    -- the first part
    refine ⟨_, rfl, .inl ⟨l, _, 2, _, rfl, rfl, SqL.of h1, rfl, by show 0 ≤ sizeLine; decide, fun e he => ?_⟩⟩
    have S1 : Same H (upd H e (.lst [])) := Same.new he
    refine ⟨lD r.rs, lD [], .lst (SqL.of (S1 _ _ h2)) (dpa_same S1 _ _ h4), .lst (SqL.of upd_same) .nil, (shaped_prs ok.rs).2, (shaped_prs (ps := []) (fun p hp => by cases hp)).2, _, rfl, ?_⟩
    generalize upd H e (.lst []) = G1 at S1 ⊢
    cases hps : r.rs with
    | nil =>
      have e0 : PyData.eqv (lD []) (lD []) = true := by decide +kernel
      rw [e0]
      refine iteF ?_
      have eF : addL (Str.ofString " reads ") r.rs F0 = F0 := by rw [hps]; rfl
      have eF1 := eF
      refine ⟨_, rfl, .inl ⟨l, _, 3, _, rfl, rfl, SqL.of (S1 _ _ h1), rfl, by show 0 ≤ sizeLine; decide, fun e' he' => ?_⟩⟩
      have S2 : Same H (upd G1 e' (.lst [])) := Same.trans S1 (Same.new he')
      refine ⟨lD r.us, lD [], .lst (SqL.of (S2 _ _ h3)) (dpa_same S2 _ _ h5), .lst (SqL.of upd_same) .nil, (shaped_prs ok.us).2, (shaped_prs (ps := []) (fun p hp => by cases hp)).2, _, rfl, ?_⟩
      generalize upd G1 e' (.lst []) = G2 at S2 ⊢
      cases hps : r.us with
      | nil =>
        have e0 : PyData.eqv (lD []) (lD []) = true := by decide +kernel
        rw [e0]
        refine iteF ?_
        have eF : addL (Str.ofString " uses ") r.us F0 = F0 := by rw [hps]; rfl
        have q := k _ S2
        unfold textL at q
        rw [hF0, eF1, eF] at q
        exact ⟨_, rfl, q⟩
      | cons p0 L0 =>
        have e0 : PyData.eqv (lD (p0 :: L0)) (lD []) = false := by
          unfold lD
          simp [PyData.eqv, PyData.eqvAll]
        rw [e0]
        refine iteT ?_
        have eF : addL (Str.ofString " uses ") r.us F0 = F0 ++ Str.ofString " uses " ++ joinS r.us := by rw [hps]; rfl
        have w3 : (Str.ofString " uses ").length = 6 := by decide +kernel
        refine ⟨_, rfl, F0, _, rfl, rfl, by rw [sizeLine_eq]; omega, ⟨_, rfl⟩, ?_⟩
        refine ⟨_, rfl, .inl ⟨l, _, 3, _, rfl, rfl, SqL.of (S2 _ _ h1), rfl, a4, rfl, ⟨_, SqL.of (S2 _ _ h3)⟩, fun D hD => ?_⟩⟩
        dsimp only [gName, tSeq, tAsg, tDrop]
        refine lc_it walk_list (fun i H' => H' D = some (.lst (((r.us.take i).map partL).map V.str)) ∧ Same G2 H') ⟨upd_same, Same.new hD⟩ (fun i H' _ ⟨_, S⟩ => SqL.of (S _ _ (S2 _ _ h3))) ?_ ?_
        · rintro i y H1 H2 hi ⟨eD, S⟩ ⟨rfl, hy⟩
          obtain ⟨p, b, e9, rfl, ht⟩ := dpa_pairs (dpa_same (Same.trans S2 S) _ _ h5) hy
          have sp := su.2 p (List.mem_of_getElem? e9)
          have si := small_int sp.2.1 sp.2.2
          refine ⟨b, _, rfl, ht, rfl, _, _, rfl, _, _, rfl, rfl, ?_⟩
          refine ⟨rfl, ?_⟩
          unfold tYes
          dsimp only
          rw [if_pos rfl]
          have l3 := partL_len sp
          have l2 : (p.1 ++ Str.ofString " ").length ≤ 9 := by rw [len_app]; omega
          refine ⟨_, rfl, p.1, _, rfl, rfl, by rw [sizeLine_eq]; omega, _, rfl, p.2, rfl, si.2, _, _, rfl, rfl, by rw [si.1, sizeLine_eq]; omega, ?_⟩
          refine ⟨_, eD, ?_, ?_, Same.at hD S⟩
          · rw [List.length_map, List.length_map, List.length_take]
            have := su.1
            exact Nat.lt_of_le_of_lt (Nat.le_trans (Nat.min_le_right _ _) (by omega : r.us.length ≤ 100)) (by decide)
          · rw [upd_same, List.take_add_one, e9, List.map_append, List.map_append]
            rfl
        · rintro H9 ⟨eD, S⟩
          have ln := dpa_len h5
          rw [List.length_map] at ln
          have tk : r.us.take ys.length = r.us := by rw [← ln, List.take_length]
          rw [tk, parts_eq] at eD
          have h2s := parts_sum su.2
          have h1s := su.1
          have e2 : (Str.ofString ", ").length = 2 := by decide +kernel
          refine ⟨_, D, r.us.map partS, rfl, rfl, .inl (SqL.of eD), by rw [e2, List.length_map]; omega, ?_⟩
          refine ⟨_, _, rfl, rfl, by rw [len_app, sizeLine_eq, show (Txt.join (Str.ofString ", ") (r.us.map partS)).length = (joinS r.us).length from rfl]; omega, ?_⟩
          have nF : (F0 ++ Str.ofString " uses " ++ joinS r.us).length ≤ 300 := by rw [len_app, len_app]; omega
          have SS : Same H H9 := Same.trans S2 S
          have q := k _ SS
          unfold textL at q
          rw [hF0, eF1, eF] at q
          exact ⟨_, rfl, q⟩
    | cons p0 L0 =>
      have e0 : PyData.eqv (lD (p0 :: L0)) (lD []) = false := by
        unfold lD
        simp [PyData.eqv, PyData.eqvAll]
      rw [e0]
      refine iteT ?_
      have eF : addL (Str.ofString " reads ") r.rs F0 = F0 ++ Str.ofString " reads " ++ joinS r.rs := by rw [hps]; rfl
      have w2 : (Str.ofString " reads ").length = 7 := by decide +kernel
      refine ⟨_, rfl, F0, _, rfl, rfl, by rw [sizeLine_eq]; omega, ⟨_, rfl⟩, ?_⟩
      refine ⟨_, rfl, .inl ⟨l, _, 2, _, rfl, rfl, SqL.of (S1 _ _ h1), rfl, a3, rfl, ⟨_, SqL.of (S1 _ _ h2)⟩, fun D hD => ?_⟩⟩
      dsimp only [gName, tSeq, tAsg, tDrop]
      refine lc_it walk_list (fun i H' => H' D = some (.lst (((r.rs.take i).map partL).map V.str)) ∧ Same G1 H') ⟨upd_same, Same.new hD⟩ (fun i H' _ ⟨_, S⟩ => SqL.of (S _ _ (S1 _ _ h2))) ?_ ?_
      · rintro i y H1 H2 hi ⟨eD, S⟩ ⟨rfl, hy⟩
        obtain ⟨p, b, e9, rfl, ht⟩ := dpa_pairs (dpa_same (Same.trans S1 S) _ _ h4) hy
        have sp := sr.2 p (List.mem_of_getElem? e9)
        have si := small_int sp.2.1 sp.2.2
        refine ⟨b, _, rfl, ht, rfl, _, _, rfl, _, _, rfl, rfl, ?_⟩
        refine ⟨rfl, ?_⟩
        unfold tYes
        dsimp only
        rw [if_pos rfl]
        have l3 := partL_len sp
        have l2 : (p.1 ++ Str.ofString " ").length ≤ 9 := by rw [len_app]; omega
        refine ⟨_, rfl, p.1, _, rfl, rfl, by rw [sizeLine_eq]; omega, _, rfl, p.2, rfl, si.2, _, _, rfl, rfl, by rw [si.1, sizeLine_eq]; omega, ?_⟩
        refine ⟨_, eD, ?_, ?_, Same.at hD S⟩
        · rw [List.length_map, List.length_map, List.length_take]
          have := sr.1
          exact Nat.lt_of_le_of_lt (Nat.le_trans (Nat.min_le_right _ _) (by omega : r.rs.length ≤ 100)) (by decide)
        · rw [upd_same, List.take_add_one, e9, List.map_append, List.map_append]
          rfl
      · rintro H9 ⟨eD, S⟩
        have ln := dpa_len h4
        rw [List.length_map] at ln
        have tk : r.rs.take xs.length = r.rs := by rw [← ln, List.take_length]
        rw [tk, parts_eq] at eD
        have h2s := parts_sum sr.2
        have h1s := sr.1
        have e2 : (Str.ofString ", ").length = 2 := by decide +kernel
        refine ⟨_, D, r.rs.map partS, rfl, rfl, .inl (SqL.of eD), by rw [e2, List.length_map]; omega, ?_⟩
        refine ⟨_, _, rfl, rfl, by rw [len_app, sizeLine_eq, show (Txt.join (Str.ofString ", ") (r.rs.map partS)).length = (joinS r.rs).length from rfl]; omega, ?_⟩
        have nF : (F0 ++ Str.ofString " reads " ++ joinS r.rs).length ≤ 200 := by rw [len_app, len_app]; omega
        have SS : Same H H9 := Same.trans S1 S
        have eF1 := eF
        refine ⟨_, rfl, .inl ⟨l, _, 3, _, rfl, rfl, SqL.of (SS _ _ h1), rfl, by show 0 ≤ sizeLine; decide, fun e' he' => ?_⟩⟩
        have S2 : Same H (upd H9 e' (.lst [])) := Same.trans SS (Same.new he')
        refine ⟨lD r.us, lD [], .lst (SqL.of (S2 _ _ h3)) (dpa_same S2 _ _ h5), .lst (SqL.of upd_same) .nil, (shaped_prs ok.us).2, (shaped_prs (ps := []) (fun p hp => by cases hp)).2, _, rfl, ?_⟩
        generalize upd H9 e' (.lst []) = G2 at S2 ⊢
        cases hps : r.us with
        | nil =>
          have e0 : PyData.eqv (lD []) (lD []) = true := by decide +kernel
          rw [e0]
          refine iteF ?_
          have eF : addL (Str.ofString " uses ") r.us (F0 ++ Str.ofString " reads " ++ joinS r.rs) = (F0 ++ Str.ofString " reads " ++ joinS r.rs) := by rw [hps]; rfl
          have q := k _ S2
          unfold textL at q
          rw [hF0, eF1, eF] at q
          exact ⟨_, rfl, q⟩
        | cons p0 L0 =>
          have e0 : PyData.eqv (lD (p0 :: L0)) (lD []) = false := by
            unfold lD
            simp [PyData.eqv, PyData.eqvAll]
          rw [e0]
          refine iteT ?_
          have eF : addL (Str.ofString " uses ") r.us (F0 ++ Str.ofString " reads " ++ joinS r.rs) = (F0 ++ Str.ofString " reads " ++ joinS r.rs) ++ Str.ofString " uses " ++ joinS r.us := by rw [hps]; rfl
          have w3 : (Str.ofString " uses ").length = 6 := by decide +kernel
          refine ⟨_, rfl, (F0 ++ Str.ofString " reads " ++ joinS r.rs), _, rfl, rfl, by rw [sizeLine_eq]; omega, ⟨_, rfl⟩, ?_⟩
          refine ⟨_, rfl, .inl ⟨l, _, 3, _, rfl, rfl, SqL.of (S2 _ _ h1), rfl, a4, rfl, ⟨_, SqL.of (S2 _ _ h3)⟩, fun D hD => ?_⟩⟩
          dsimp only [gName, tSeq, tAsg, tDrop]
          refine lc_it walk_list (fun i H' => H' D = some (.lst (((r.us.take i).map partL).map V.str)) ∧ Same G2 H') ⟨upd_same, Same.new hD⟩ (fun i H' _ ⟨_, S⟩ => SqL.of (S _ _ (S2 _ _ h3))) ?_ ?_
          · rintro i y H1 H2 hi ⟨eD, S⟩ ⟨rfl, hy⟩
            obtain ⟨p, b, e9, rfl, ht⟩ := dpa_pairs (dpa_same (Same.trans S2 S) _ _ h5) hy
            have sp := su.2 p (List.mem_of_getElem? e9)
            have si := small_int sp.2.1 sp.2.2
            refine ⟨b, _, rfl, ht, rfl, _, _, rfl, _, _, rfl, rfl, ?_⟩
            refine ⟨rfl, ?_⟩
            unfold tYes
            dsimp only
            rw [if_pos rfl]
            have l3 := partL_len sp
            have l2 : (p.1 ++ Str.ofString " ").length ≤ 9 := by rw [len_app]; omega
            refine ⟨_, rfl, p.1, _, rfl, rfl, by rw [sizeLine_eq]; omega, _, rfl, p.2, rfl, si.2, _, _, rfl, rfl, by rw [si.1, sizeLine_eq]; omega, ?_⟩
            refine ⟨_, eD, ?_, ?_, Same.at hD S⟩
            · rw [List.length_map, List.length_map, List.length_take]
              have := su.1
              exact Nat.lt_of_le_of_lt (Nat.le_trans (Nat.min_le_right _ _) (by omega : r.us.length ≤ 100)) (by decide)
            · rw [upd_same, List.take_add_one, e9, List.map_append, List.map_append]
              rfl
          · rintro H9 ⟨eD, S⟩
            have ln := dpa_len h5
            rw [List.length_map] at ln
            have tk : r.us.take ys.length = r.us := by rw [← ln, List.take_length]
            rw [tk, parts_eq] at eD
            have h2s := parts_sum su.2
            have h1s := su.1
            have e2 : (Str.ofString ", ").length = 2 := by decide +kernel
            refine ⟨_, D, r.us.map partS, rfl, rfl, .inl (SqL.of eD), by rw [e2, List.length_map]; omega, ?_⟩
            refine ⟨_, _, rfl, rfl, by rw [len_app, sizeLine_eq, show (Txt.join (Str.ofString ", ") (r.us.map partS)).length = (joinS r.us).length from rfl]; omega, ?_⟩
            have nF : ((F0 ++ Str.ofString " reads " ++ joinS r.rs) ++ Str.ofString " uses " ++ joinS r.us).length ≤ 300 := by rw [len_app, len_app]; omega
            have SS : Same H H9 := Same.trans S2 S
            have q := k _ SS
            unfold textL at q
            rw [hF0, eF1, eF] at q
            exact ⟨_, rfl, q⟩
end
end K06
namespace K06
open PySem L2
theorem app_assoc (a b c : Str) : a ++ b ++ c = a ++ (b ++ c) := KS.cps_ext (by
  show ((a.cps ++ b.cps) ++ c.cps).toList = (a.cps ++ (b.cps ++ c.cps)).toList
  simp)
theorem app_empty (x : Str) : x ++ Str.empty = x := KS.cps_ext (by
  show (x.cps ++ (#[] : Array Nat)).toList = x.cps.toList
  simp)
theorem join3 (a b c : Str) : Txt.join (Str.ofString "") [a, b, c] = a ++ (b ++ c) := by
  rw [TL.join_eq]
  show a ++ Str.ofString "" ++ (b ++ Str.ofString "" ++ c) = a ++ (b ++ c)
  have e : Str.ofString "" = Str.empty := by rfl
  rw [e, app_empty, app_empty]
theorem told_add (w : Str) (ps : Prs) (f : Str) : f ++ toldS w ps = addL (Str.ofString " " ++ w ++ Str.ofString " ") ps f := by
  unfold toldS addL
  split
  · rw [app_empty]
  · simp only [empty_app, app_assoc]
theorem text_eq (r : Rw) : opS r = textL r := by
  unfold opS textL
  rw [join3, ← app_assoc, told_add, told_add]
  have e1 : Str.ofString " " ++ Str.ofString "uses" ++ Str.ofString " " = Str.ofString " uses " := by decide +kernel
  have e2 : Str.ofString " " ++ Str.ofString "reads" ++ Str.ofString " " = Str.ofString " reads " := by decide +kernel
  rw [e1, e2]
  unfold headS
  rw [empty_app]
theorem ok_app {a b : Str} (ha : PyData.strOk a = true) (hb : PyData.strOk b = true) : PyData.strOk (a ++ b) = true := by
  unfold PyData.strOk at ha hb ⊢
  show (a.cps ++ b.cps).all _ = true
  rw [Array.all_append, ha, hb]
  rfl
theorem ok_int {i : Int} (h0 : 0 ≤ i) (h1 : i ≤ 4) : PyData.strOk (toString i : Str) = true := by
  have h : i = 0 ∨ i = 1 ∨ i = 2 ∨ i = 3 ∨ i = 4 := by omega
  rcases h with h | h | h | h | h <;> subst h <;> decide +kernel
theorem ok_join {y : Str} (hy : PyData.strOk y = true) : ∀ {ps : List Str}, (∀ p ∈ ps, PyData.strOk p = true) → PyData.strOk (Str.join y ps) = true
  | [], _ => by
    show PyData.strOk Str.empty = true
    decide +kernel
  | [x], h => h x List.mem_cons_self
  | x :: z :: r, h => by
    show PyData.strOk (x ++ y ++ Str.join y (z :: r)) = true
    exact ok_app (ok_app (h x List.mem_cons_self) hy) (ok_join hy fun p hp => h p (List.mem_cons_of_mem _ hp))
theorem ok_joinS {ps : Prs} (h : OkP ps) : PyData.strOk (joinS ps) = true := by
  unfold joinS
  rw [TL.join_eq]
  refine ok_join (by decide +kernel) fun x hx => ?_
  obtain ⟨p, hp, rfl⟩ := List.mem_map.mp hx
  rw [part_eq]
  unfold partL
  exact ok_app (ok_app (nm_ok (h p hp).1) (by decide +kernel)) (ok_int (h p hp).2.1 (by have := (h p hp).2.2; omega))
theorem ok_addL {w f : Str} {ps : Prs} (hw : PyData.strOk w = true) (hf : PyData.strOk f = true) (h : OkP ps) : PyData.strOk (addL w ps f) = true := by
  unfold addL
  split
  · exact hf
  · exact ok_app (ok_app hf hw) (ok_joinS h)
theorem ok_text {r : Rw} (ok : r.Ok) : PyData.strOk (textL r) = true := by
  unfold textL
  exact ok_addL (by decide +kernel) (ok_addL (by decide +kernel) (ok_app (ok_app (nm_ok ok.n) (by decide +kernel)) (ok_int (by have := ok.t; omega) ok.t.2)) ok.rs) ok.us
theorem depth_l (ps : Prs) : (lD ps).depth ≤ 2 := by
  have key : PyData.depthAll (ps.map pD) ≤ 1 := by
    induction ps with
    | nil => simp [PyData.depthAll]
    | cons p ps ih =>
      simp [PyData.depthAll, PyData.depth, pD]
      omega
  unfold lD
  rw [PyData.depth]
  omega
def fullD (r : Rw) : PyData := .list [.str r.n, .int r.t, lD r.rs, lD r.us, .str (textL r)]
theorem full_ok {r : Rw} (ok : r.Ok) : SeqAt.shaped (fullD r) = true := by
  have h1 := (shaped_prs ok.rs).2
  have h2 := (shaped_prs ok.us).2
  unfold SeqAt.shaped at h1 h2 ⊢
  rw [Bool.and_eq_true] at h1 h2 ⊢
  have d1 := of_decide_eq_true h1.2
  have d2 := of_decide_eq_true h2.2
  refine ⟨?_, decide_eq_true ?_⟩
  · unfold fullD
    simp [PyData.canLay0, PyData.canLayAll0, nm_ok ok.n, h1.1, h2.1, ok_text ok]
  · unfold fullD
    have q1 := depth_l r.rs
    have q2 := depth_l r.us
    simp only [PyData.depth, PyData.depthAll]
    omega
theorem eqv_self {d : PyData} (h : SeqAt.shaped d = true) : PyData.eqv d d = true := by
  unfold SeqAt.shaped at h
  exact PySem.SeqAt.eqv_refl d (Bool.and_eq_true_iff.mp h).1
theorem names_ok {ps : Prs} (h : OkP ps) {ys : List Str} (s : KS.Srt (ps.map (·.1)) ys) : SeqAt.shaped (.tuple (ys.map PyData.str)) = true := by
  have key : ∀ ys : List Str, (∀ y ∈ ys, PyData.strOk y = true) → PyData.canLayAll0 (ys.map PyData.str) = true ∧ PyData.depthAll (ys.map PyData.str) ≤ 0 := by
    intro ys
    induction ys with
    | nil => intro _; exact ⟨by simp [PyData.canLayAll0], by simp [PyData.depthAll]⟩
    | cons y ys ih =>
      intro h
      obtain ⟨k1, k2⟩ := ih fun z hz => h z (List.mem_cons_of_mem _ hz)
      exact ⟨by simp [PyData.canLayAll0, PyData.canLay0, h y List.mem_cons_self, k1], by simp [PyData.depthAll, PyData.depth]; omega⟩
  obtain ⟨k1, k2⟩ := key ys fun y hy => by
    obtain ⟨p, hp, e⟩ := List.mem_map.mp ((s.2 y).1 hy)
    rw [← e]
    exact nm_ok (h p hp).1
  unfold SeqAt.shaped
  rw [Bool.and_eq_true]
  refine ⟨by simpa [PyData.canLay0] using k1, decide_eq_true ?_⟩
  rw [PyData.depth]
  omega
end K06
namespace K06
open PySem L2
section
variable {P : Program} {w : World} {K : PySem.W.Frag}
                                                      {mg : Str → Option Value} {base : Heap}
theorem srt_full {ps : Prs} {L L1 : List Str} (fr : KS.From (KS.strKit P w) (ps.map (·.1)) (ps.map (·.1)).length L) (nd : (L.map (KS.strKit P w).key).Nodup) (pm : L1.Perm L) : KS.Srt (ps.map (·.1)) (L1.mergeSort (PySem.W.dataLe false PyData.str)) := by
  have nd2 : L.Nodup := by
    have q : (L.map id).Nodup := nd
    rw [List.map_id] at q
    exact q
  refine KS.srt_of nd2 (fun z => ?_) pm
  constructor
  · intro m
    have q := fr.sub z m
    rw [List.take_length] at q
    exact q
  · intro m
    have q : z ∈ L.map id := fr.all z (by rw [List.take_length]; exact m)
    rw [List.map_id] at q
    exact q
theorem dp_strs {H : Hp} : ∀ ys : List Str, DpAll K H (ys.map V.str) (ys.map PyData.str)
  | [] => .nil
  | y :: ys => .cons (.str y) (dp_strs ys)
def sp_w_is_row (K : PySem.W.Frag) (C : Addr) : Sp := fun vs H Q _ => ∃ (p l : Addr) (r : Rw), vs = [.ref p, .ref l] ∧ OpAt K H C p r ∧ RowAt K H l r ∧ ∀ H', Same H H' → Q (.bl true) H'
theorem ok_w_is_row (T : T K mg) (U : UX K mg) : FnOk P w K mg base CX0 9 T.f_w_is_row T.d_w_is_row ["one", "row"] (sp_w_is_row K U.C) := by
  have G_w_text : FnOk P w K mg base CX0 1 T.f_w_text T.d_w_text ["row"] (sp_w_text K) := ok_w_text T
  have G1 : FnOk P w K mg base CX0 1 U.pn.g U.pn.d ["self"] (getSp U.C "_name") := ok_get U.cl U.pn sc_Operation_name U.n1 ⟨_, _, _, rfl⟩
  have G2 : FnOk P w K mg base CX0 1 U.pt.g U.pt.d ["self"] (getSp U.C "_ticks") := ok_get U.cl U.pt sc_Operation_ticks U.n2 ⟨_, _, _, rfl⟩
  have G3 : FnOk P w K mg base CX0 1 U.pr.g U.pr.d ["self"] (getSp U.C "_reads") := ok_get U.cl U.pr sc_Operation_reads U.n3 ⟨_, _, _, rfl⟩
  have G4 : FnOk P w K mg base CX0 1 U.pu.g U.pu.d ["self"] (getSp U.C "_uses") := ok_get U.cl U.pu sc_Operation_uses U.n4 ⟨_, _, _, rfl⟩
  have G5 : FnOk P w K mg base CX0 3 U.prn.g U.prn.d ["self"] (sp_fst K U.C Rw.rs) := ok_read_names T U
  have G6 : FnOk P w K mg base CX0 3 U.pun.g U.pun.d ["self"] (sp_fst K U.C Rw.us) := ok_units T U
  have G7 : FnOk P w K mg base CX0 3 U.ms.f U.ms.d ["self"] (sp_str K U.C) := ok_str T U
  refine T.F_w_is_row.ok sc_w_is_row (fun vs H Q E h => ?_) (fun cdv A outer s H vs Q E hr h => ?_)
  · obtain ⟨p, l, r, rfl, _⟩ := h
    rfl
  · obtain ⟨p, l, r, rfl, O, R, k⟩ := h
    have hu := hu_of hr
    have hr_w_text : Room 1 _ := hr.mono (by decide)
    refine ⟨_, (pss_cons (ps_if (pt_cmpR (op_neD (un64 hr)) (pe_lst (pa_cons (pe_prop (pv 0) U.cl U.pn.pr G1 (hr.mono (by decide)) U.pn.b .nil pass0 rfl) (pa_cons (pe_prop (pv 0) U.cl U.pt.pr G2 (hr.mono (by decide)) U.pt.b .nil pass0 rfl) (pa_cons (pe_callTy call_list_of (by rfl) T.z_list (by decide +kernel) (pa_cons (pe_prop (pv 0) U.cl U.pr.pr G3 (hr.mono (by decide)) U.pr.b .nil pass0 rfl) pa_nil)) (pa_cons (pe_callTy call_list_of (by rfl) T.z_list (by decide +kernel) (pa_cons (pe_prop (pv 0) U.cl U.pu.pr G4 (hr.mono (by decide)) U.pu.b .nil pass0 rfl) pa_nil)) (pa_cons (pe_callTy (OW.cr_ownStr G7 ⟨U.ms.m.at_, U.ms.m.fn⟩ (hr.mono (by decide)) U.ms.b pass0) (by rfl) T.z_str (by decide +kernel) (pa_cons (pv 0) pa_nil)) pa_nil)))))) (pe_op op_cat (pv 1) (pe_lst (pa_cons (pe_call G_w_text hr_w_text rfl T.m_w_text T.F_w_text.kp T.b_w_text .nil pass0 (pa_cons (pv 1) pa_nil)) pa_nil))) (nomark _))
      (pss_one (ps_ret pe_bl))
      pss_nil)
      (pss_cons (ps_set (i := 2) sc_w_is_row.nd rfl (Or.inl rfl) (pe_callTy call_tuple_of (by rfl) T.z_tuple (by decide +kernel) (pa_cons (pe_callB (KS.cr_sortedK (KS.linkStr _) (enc := PyData.str) rfl KS.rd_str (fun m => un2 hr)) (by rfl) T.z_sorted (by decide +kernel) (pa_cons (pe_callTy (KS.cr_setOf (KS.linkStr _) rfl (un3 hr)) (by rfl) T.z_set (by decide +kernel) (pa_cons (pe_lc (own := [("name", 3), ("number", 4)]) (g := gTup K 2 (gCons (gName 3) (gCons (gName 4) gNil))) rfl sc_w_is_row.nd (pi_list (pe_ix ix_seq (pv 1) pe_int (fun _ _ => rfl))) (blkOk_by (N := ["one", "row", "read_names", "name", "number"]) (sc := defScope s_w_is_row) (by decide +kernel)) (fun _ _ _ _ _ => (pg_tup rfl (pgs_cons (pg_name (i := 3) sc_w_is_row.nd rfl (Or.inl rfl)) (pgs_cons (pg_name (i := 4) sc_w_is_row.nd rfl (Or.inl rfl)) pgs_nil)))) (fun _ _ _ _ _ => pts_nil) (fun _ _ _ _ _ => (pv 3))) pa_nil)) pa_nil)) pa_nil)))
      (pss_one (ps_ret (pe_and (pe_cmpR (op_eqD (un64 hr)) (pe_prop (pv 0) U.cl U.prn.pr G5 (hr.mono (by decide)) U.prn.b .nil pass0 rfl) (pv 2) (nomark _)) (pe_one (pe_cmpR (op_eqD (un64 hr)) (pe_prop (pv 0) U.cl U.pun.pr G6 (hr.mono (by decide)) U.pun.b .nil pass0 rfl) (pe_callTy call_tuple_of (by rfl) T.z_tuple (by decide +kernel) (pa_cons (pe_callB (KS.cr_sortedK (KS.linkStr _) (enc := PyData.str) rfl KS.rd_str (fun m => un2 hr)) (by rfl) T.z_sorted (by decide +kernel) (pa_cons (pe_callTy (KS.cr_setOf (KS.linkStr _) rfl (un3 hr)) (by rfl) T.z_set (by decide +kernel) (pa_cons (pe_lc (own := [("name", 3), ("number", 4)]) (g := gTup K 2 (gCons (gName 3) (gCons (gName 4) gNil))) rfl sc_w_is_row.nd (pi_list (pe_ix ix_seq (pv 1) pe_int (fun _ _ => rfl))) (blkOk_by (N := ["one", "row", "read_names", "name", "number"]) (sc := defScope s_w_is_row) (by decide +kernel)) (fun _ _ _ _ _ => (pg_tup rfl (pgs_cons (pg_name (i := 3) sc_w_is_row.nd rfl (Or.inl rfl)) (pgs_cons (pg_name (i := 4) sc_w_is_row.nd rfl (Or.inl rfl)) pgs_nil)))) (fun _ _ _ _ _ => pts_nil) (fun _ _ _ _ _ => (pv 3))) pa_nil)) pa_nil)) pa_nil)) (nomark _)))))))), ?_⟩
    obtain ⟨ok, dx, x3, x4, hp, d3, d4⟩ := O
    obtain ⟨b3, ys3, rfl, T3, D3⟩ : ∃ b3 ys3, x3 = .ref b3 ∧ SqT K H b3 ys3 ∧ DpAll K H ys3 (r.rs.map pD) := by
      cases d3 with
      | tup h1 h2 => exact ⟨_, _, rfl, h1, h2⟩
    obtain ⟨b4, ys4, rfl, T4, D4⟩ : ∃ b4 ys4, x4 = .ref b4 ∧ SqT K H b4 ys4 ∧ DpAll K H ys4 (r.us.map pD) := by
      cases d4 with
      | tup h1 h2 => exact ⟨_, _, rfl, h1, h2⟩
    refine ⟨_, rfl, p, dx, _, rfl, hp, p, dx, _, .str r.n, rfl, hp, rfl, _, rfl, p, dx, _, rfl, hp, p, dx, _, .int r.t, rfl, hp, rfl, ?_⟩
    refine ⟨_, rfl, p, dx, _, rfl, hp, p, dx, _, .ref b3, rfl, hp, rfl, b3, ys3, rfl, .inr T3, fun l3 hl3 => ?_⟩
    have S1 : Same H (upd H l3 (.lst ys3)) := Same.new hl3
    refine ⟨_, rfl, p, dx, _, rfl, S1 _ _ hp, p, dx, _, .ref b4, rfl, S1 _ _ hp, rfl, b4, ys4, rfl, .inr (Same.seqT S1 T4), fun l4 hl4 => ?_⟩
    have S2 : Same H (upd (upd H l3 (.lst ys3)) l4 (.lst ys4)) := Same.trans S1 (Same.new hl4)
    have n34 : l3 ≠ l4 := fun z => by rw [← z, upd_same] at hl4; cases hl4
    have e3 : (upd (upd H l3 (.lst ys3)) l4 (.lst ys4)) l3 = some (.lst ys3) := by rw [upd_ne n34, upd_same]
    have e4 : (upd (upd H l3 (.lst ys3)) l4 (.lst ys4)) l4 = some (.lst ys4) := upd_same
    generalize upd (upd H l3 (.lst ys3)) l4 (.lst ys4) = G at S2 e3 e4 ⊢
    refine ⟨_, rfl, p, dx, _, rfl, S2 _ _ hp, p, r, rfl, ⟨ok, dx, _, _, S2 _ _ hp, dp_same S2 _ _ d3, dp_same S2 _ _ d4⟩, fun G1 S3 => ⟨_, rfl, ?_⟩⟩
    have SA : Same H G1 := Same.trans S2 S3
    refine ⟨by show 5 ≤ sizeLine; decide, fun e he => ?_⟩
    have SB : Same G1 (upd G1 e (.lst [.str r.n, .int r.t, .ref l3, .ref l4, .str (opS r)])) := Same.new he
    have eE : (upd G1 e (.lst [.str r.n, .int r.t, .ref l3, .ref l4, .str (opS r)])) e = some (.lst [.str r.n, .int r.t, .ref l3, .ref l4, .str (opS r)]) := upd_same
    have eN : H e = none := none_of SA he
    generalize upd G1 e (.lst [.str r.n, .int r.t, .ref l3, .ref l4, .str (opS r)]) = G2 at SB eE ⊢
    have SC : Same H G2 := Same.trans SA SB
    refine ⟨_, rfl, _, rfl, l, r, rfl, RowAt.same SC R, fun G3 S5 => ?_⟩
    refine ⟨by show 1 ≤ sizeLine; decide, fun e2 he2 => ?_⟩
    have SD : Same H (upd G3 e2 (.lst [.str (textL r)])) := Same.trans SC (Same.trans S5 (Same.new he2))
    have S25 : Same G2 (upd G3 e2 (.lst [.str (textL r)])) := Same.trans S5 (Same.new he2)
    have eE2 : (upd G3 e2 (.lst [.str (textL r)])) e2 = some (.lst [.str (textL r)]) := upd_same
    generalize upd G3 e2 (.lst [.str (textL r)]) = G4 at SD S25 eE2 ⊢
    obtain ⟨a3, a4, xs, ys, h1, h2, h3, h4, h5⟩ := R.at_
    refine ⟨l, e2, _, _, rfl, rfl, SD _ _ h1, eE2, by show 5 ≤ sizeLine; decide, fun e5 he5 => ?_⟩
    have SE : Same G4 (upd G4 e5 (.lst ([.str r.n, .int r.t, .ref a3, .ref a4] ++ [.str (textL r)]))) := Same.new he5
    have eE5 : (upd G4 e5 (.lst ([.str r.n, .int r.t, .ref a3, .ref a4] ++ [.str (textL r)]))) e5 = some (.lst ([.str r.n, .int r.t, .ref a3, .ref a4] ++ [.str (textL r)])) := upd_same
    generalize upd G4 e5 (.lst ([.str r.n, .int r.t, .ref a3, .ref a4] ++ [.str (textL r)])) = G5 at SE eE5 ⊢
    have SF : Same H G5 := Same.trans SD SE
    have SG : Same G G5 := Same.trans S3 (Same.trans SB (Same.trans S25 SE))
    refine ⟨fullD r, fullD r, ?_, ?_, full_ok ok, full_ok ok, _, rfl, ?_⟩
    · refine .lst (SqL.of (Same.trans S25 SE _ _ eE)) (.cons (.str _) (.cons (.int _) (.cons (.lst (SqL.of (SG _ _ e3)) (dpa_same SF _ _ D3)) (.cons (.lst (SqL.of (SG _ _ e4)) (dpa_same SF _ _ D4)) (.cons ?_ .nil)))))
      rw [text_eq]
      exact .str _
    · exact .lst (SqL.of eE5) (.cons (.str _) (.cons (.int _) (.cons (.lst (SqL.of (SF _ _ h2)) (dpa_same SF _ _ h4)) (.cons (.lst (SqL.of (SF _ _ h3)) (dpa_same SF _ _ h5)) (.cons (.str _) .nil)))))
    rw [eqv_self (full_ok ok)]
    refine iteF ?_
    refine ⟨_, rfl, .inl ⟨l, _, 2, _, rfl, rfl, SqL.of (SF _ _ h1), rfl, a3, rfl, ⟨_, SqL.of (SF _ _ h2)⟩, fun DA hDA => ?_⟩⟩
    dsimp only [gName, tSeq, tAsg, tDrop]
    refine lc_it walk_list (fun i H' => H' DA = some (.lst (((r.rs.take i).map (·.1)).map V.str)) ∧ Same G5 H') ⟨upd_same, Same.new hDA⟩ (fun i H' _ ⟨_, S⟩ => SqL.of (S _ _ (SF _ _ h2))) ?_ ?_
    · rintro i y H1 H2 hi ⟨eD, S⟩ ⟨rfl, hy⟩
      obtain ⟨p9, b, e9, rfl, ht⟩ := dpa_pairs (dpa_same (Same.trans SF S) _ _ h4) hy
      refine ⟨b, _, rfl, ht, rfl, _, _, rfl, _, _, rfl, rfl, ?_⟩
      refine ⟨rfl, ?_⟩
      unfold tYes
      dsimp only
      rw [if_pos rfl]
      refine ⟨_, rfl, _, eD, ?_, ?_, Same.at hDA S⟩
      · rw [List.length_map, List.length_map, List.length_take]
        have h9 : r.rs.length ≤ 100 := by have := ok.rl; have := ok.ul; omega
        exact Nat.lt_of_le_of_lt (Nat.le_trans (Nat.min_le_right _ _) h9) (by decide)
      · rw [upd_same, List.take_add_one, e9, List.map_append, List.map_append]
        rfl
    rintro H9A ⟨eDA, TA⟩
    have lnA := dpa_len h4
    rw [List.length_map] at lnA
    rw [← lnA, List.take_length] at eDA
    have mA : (r.rs.map (·.1)).length < 64 := by rw [List.length_map]; have := ok.rl; have := ok.ul; omega
    refine ⟨DA, r.rs.map (fun p : Str × Int => p.1), rfl, SqL.of eDA, fun _ _ => True.intro, mA, fun aA LA haA frA ndA => ?_⟩
    refine ⟨aA, LA, rfl, upd_same, fun _ _ => True.intro, PySem.W.AllAlike.of (enc := PyData.str) (fun b b' => by simp [PySem.W.alike]), PySem.W.Sortable.others (enc := PyData.str) (fun b => ⟨by simp, by simp⟩), fun L1A pA pmA nd2A hpA => ?_⟩
    have stA := srt_full frA nd2A pmA
    refine ⟨pA, _, rfl, .inl ⟨SqL.of upd_same, fun tA htA => ?_⟩⟩
    have SXA : Same H (upd (upd (upd H9A aA (KS.SetO (KS.strKit P w) aA LA)) pA (.lst ((L1A.mergeSort (PySem.W.dataLe false PyData.str)).map V.str))) tA (.tup ((L1A.mergeSort (PySem.W.dataLe false PyData.str)).map V.str))) :=
      Same.trans SF (Same.trans TA (Same.trans (Same.new haA) (Same.trans (Same.new hpA) (Same.new htA))))
    have SYA : Same G5 (upd (upd (upd H9A aA (KS.SetO (KS.strKit P w) aA LA)) pA (.lst ((L1A.mergeSort (PySem.W.dataLe false PyData.str)).map V.str))) tA (.tup ((L1A.mergeSort (PySem.W.dataLe false PyData.str)).map V.str))) :=
      Same.trans TA (Same.trans (Same.new haA) (Same.trans (Same.new hpA) (Same.new htA)))
    have eTA : (upd (upd (upd H9A aA (KS.SetO (KS.strKit P w) aA LA)) pA (.lst ((L1A.mergeSort (PySem.W.dataLe false PyData.str)).map V.str))) tA (.tup ((L1A.mergeSort (PySem.W.dataLe false PyData.str)).map V.str))) tA = some (.tup ((L1A.mergeSort (PySem.W.dataLe false PyData.str)).map V.str)) := upd_same
    replace eTA := SqT.of (K := K) eTA
    refine ⟨_, rfl, p, dx, _, rfl, SXA _ _ hp, p, r, rfl, ⟨ok, dx, _, _, SXA _ _ hp, dp_same SXA _ _ d3, dp_same SXA _ _ d4⟩, fun ys1 t1 G6 srt1 S61 sq1 => ?_⟩
    have S60 : Same H G6 := Same.trans SXA S61
    have q1 := KS.Srt.eq srt1 stA
    refine ⟨_, rfl, .tuple (ys1.map PyData.str), .tuple (ys1.map PyData.str), .tup sq1 (dp_strs _), .tup (by rw [q1]; exact Same.seqT S61 eTA) (dp_strs _), names_ok ok.rs srt1, names_ok ok.rs srt1, ?_⟩
    rw [eqv_self (names_ok ok.rs srt1)]
    refine ⟨_, rfl, iteT ?_⟩
    refine ⟨_, rfl, p, dx, _, rfl, S60 _ _ hp, p, r, rfl, ⟨ok, dx, _, _, S60 _ _ hp, dp_same S60 _ _ d3, dp_same S60 _ _ d4⟩, fun ys2 t2 G7 srt2 S71 sq2 => ?_⟩
    have S70 : Same H G7 := Same.trans S60 S71
    refine ⟨_, rfl, .inl ⟨l, _, 3, _, rfl, rfl, SqL.of (S70 _ _ h1), rfl, a4, rfl, ⟨_, SqL.of (S70 _ _ h3)⟩, fun DB hDB => ?_⟩⟩
    dsimp only [gName, tSeq, tAsg, tDrop]
    refine lc_it walk_list (fun i H' => H' DB = some (.lst (((r.us.take i).map (·.1)).map V.str)) ∧ Same G7 H') ⟨upd_same, Same.new hDB⟩ (fun i H' _ ⟨_, S⟩ => SqL.of (S _ _ (S70 _ _ h3))) ?_ ?_
    · rintro i y H1 H2 hi ⟨eD, S⟩ ⟨rfl, hy⟩
      obtain ⟨p9, b, e9, rfl, ht⟩ := dpa_pairs (dpa_same (Same.trans S70 S) _ _ h5) hy
      refine ⟨b, _, rfl, ht, rfl, _, _, rfl, _, _, rfl, rfl, ?_⟩
      refine ⟨rfl, ?_⟩
      unfold tYes
      dsimp only
      rw [if_pos rfl]
      refine ⟨_, rfl, _, eD, ?_, ?_, Same.at hDB S⟩
      · rw [List.length_map, List.length_map, List.length_take]
        have h9 : r.us.length ≤ 100 := by have := ok.rl; have := ok.ul; omega
        exact Nat.lt_of_le_of_lt (Nat.le_trans (Nat.min_le_right _ _) h9) (by decide)
      · rw [upd_same, List.take_add_one, e9, List.map_append, List.map_append]
        rfl
    rintro H9B ⟨eDB, TB⟩
    have lnB := dpa_len h5
    rw [List.length_map] at lnB
    rw [← lnB, List.take_length] at eDB
    have mB : (r.us.map (·.1)).length < 64 := by rw [List.length_map]; have := ok.rl; have := ok.ul; omega
    refine ⟨DB, r.us.map (fun p : Str × Int => p.1), rfl, SqL.of eDB, fun _ _ => True.intro, mB, fun aB LB haB frB ndB => ?_⟩
    refine ⟨aB, LB, rfl, upd_same, fun _ _ => True.intro, PySem.W.AllAlike.of (enc := PyData.str) (fun b b' => by simp [PySem.W.alike]), PySem.W.Sortable.others (enc := PyData.str) (fun b => ⟨by simp, by simp⟩), fun L1B pB pmB nd2B hpB => ?_⟩
    have stB := srt_full frB nd2B pmB
    refine ⟨pB, _, rfl, .inl ⟨SqL.of upd_same, fun tB htB => ?_⟩⟩
    have SXB : Same H (upd (upd (upd H9B aB (KS.SetO (KS.strKit P w) aB LB)) pB (.lst ((L1B.mergeSort (PySem.W.dataLe false PyData.str)).map V.str))) tB (.tup ((L1B.mergeSort (PySem.W.dataLe false PyData.str)).map V.str))) :=
      Same.trans S70 (Same.trans TB (Same.trans (Same.new haB) (Same.trans (Same.new hpB) (Same.new htB))))
    have SYB : Same G7 (upd (upd (upd H9B aB (KS.SetO (KS.strKit P w) aB LB)) pB (.lst ((L1B.mergeSort (PySem.W.dataLe false PyData.str)).map V.str))) tB (.tup ((L1B.mergeSort (PySem.W.dataLe false PyData.str)).map V.str))) :=
      Same.trans TB (Same.trans (Same.new haB) (Same.trans (Same.new hpB) (Same.new htB)))
    have eTB : (upd (upd (upd H9B aB (KS.SetO (KS.strKit P w) aB LB)) pB (.lst ((L1B.mergeSort (PySem.W.dataLe false PyData.str)).map V.str))) tB (.tup ((L1B.mergeSort (PySem.W.dataLe false PyData.str)).map V.str))) tB = some (.tup ((L1B.mergeSort (PySem.W.dataLe false PyData.str)).map V.str)) := upd_same
    replace eTB := SqT.of (K := K) eTB
    have q2 := KS.Srt.eq srt2 stB
    refine ⟨.tuple (ys2.map PyData.str), .tuple (ys2.map PyData.str), .tup (Same.seqT SYB sq2) (dp_strs _), .tup (by rw [q2]; exact eTB) (dp_strs _), names_ok ok.us srt2, names_ok ok.us srt2, ?_⟩
    rw [eqv_self (names_ok ok.us srt2)]
    exact k _ SXB
end
end K06
namespace K06
open PySem L2
def NM : List Str := ["a", "b", "item", "sum", "zzzzzzzz", "p"]
theorem nm_all : ∀ z ∈ NM, nmC z = true := by decide +kernel
def InN (r : Rw) : Prop := r.n ∈ NM ∧ ∀ p ∈ r.rs, p.1 ∈ NM
theorem Only.rl2 {H H' : Hp} {r a : Addr} {xs : List V} (o : Only r H H') (n : a ≠ r) (h : H a = some (.lst xs)) : H' a = some (.lst xs) := o _ _ n h
theorem ne_rl {H : Hp} {r p : Addr} (h : Rl H r) (n : H p = none) : p ≠ r := by
  obtain ⟨a, b, c, e⟩ := h
  exact (ne_of_none e n).symm
section
variable {P : Program} {w : World} {K : PySem.W.Frag}
                                                      {mg : Str → Option Value} {base : Heap}
def sp_w_drawn (K : PySem.W.Frag) : Sp := fun vs H Q _ => ∃ (r : Addr), vs = [.ref r] ∧ Rl H r ∧ ∀ l row H', Rl H' r → Only r H H' → RowAt K H' l row → InN row → l ≠ r → Q (.ref l) H'
theorem ok_w_drawn (T : T K mg) : FnOk P w K mg base CX0 4 T.f_w_drawn T.d_w_drawn ["reel"] (sp_w_drawn K) := by
  have G_w_pick : FnOk P w K mg base CX0 2 T.f_w_pick T.d_w_pick ["reel", "items"] (sp_w_pick K) := ok_w_pick T
  have G_w_spin : FnOk P w K mg base CX0 1 T.f_w_spin T.d_w_spin ["reel", "total"] (sp_w_spin K) := ok_w_spin T
  have G_w_uses : FnOk P w K mg base CX0 3 T.f_w_uses T.d_w_uses ["reel", "lots"] (sp_w_uses K) := ok_w_uses T
  refine T.F_w_drawn.ok sc_w_drawn (fun vs H Q E h => ?_) (fun cdv A outer s H vs Q E hr h => ?_)
  · obtain ⟨r, rfl, _⟩ := h
    rfl
  · obtain ⟨r, rfl, hR, k⟩ := h
    have hu := hu_of hr
    have hr_w_pick : Room 2 _ := hr.mono (by decide)
    have hr_w_spin : Room 1 _ := hr.mono (by decide)
    have hr_w_uses : Room 3 _ := hr.mono (by decide)
    refine ⟨_, (pss_cons (ps_set (i := 1) sc_w_drawn.nd rfl (Or.inr rfl) (pe_lst (pa_cons pe_str (pa_cons pe_str (pa_cons pe_str (pa_cons pe_str (pa_cons pe_str (pa_cons pe_str pa_nil))))))))
      (pss_cons (ps_setLc (i := 2) (own := [("turn", 3)]) (g := gName 3) rfl sc_w_drawn.nd rfl rfl (sw_true rfl rfl rfl (by decide +kernel)) (pi_range1 (by rfl) T.z_range (pa_cons (pe_call G_w_spin hr_w_spin rfl T.m_w_spin T.F_w_spin.kp T.b_w_spin .nil pass0 (pa_cons (pv 0) (pa_cons pe_int pa_nil))) pa_nil)) (blkOk_by (N := ["reel", "names", "pairs", "turn"]) (sc := defScope s_w_drawn) (by decide +kernel)) (fun _ _ _ _ _ => (pg_name (i := 3) sc_w_drawn.nd rfl (Or.inl rfl))) (fun _ _ _ _ _ => pts_nil) (fun _ _ _ _ _ => (pe_tup (pa_cons (pe_call G_w_pick hr_w_pick rfl T.m_w_pick T.F_w_pick.kp T.b_w_pick .nil pass0 (pa_cons (pv 0) (pa_cons (pv 1) pa_nil))) (pa_cons (pe_call G_w_spin hr_w_spin rfl T.m_w_spin T.F_w_spin.kp T.b_w_spin .nil pass0 (pa_cons (pv 0) (pa_cons pe_int pa_nil))) pa_nil)))))
      (pss_one (ps_ret (pe_lst (pa_cons (pe_call G_w_pick hr_w_pick rfl T.m_w_pick T.F_w_pick.kp T.b_w_pick .nil pass0 (pa_cons (pv 0) (pa_cons (pv 1) pa_nil))) (pa_cons (pe_op op_add pe_int (pe_call G_w_spin hr_w_spin rfl T.m_w_spin T.F_w_spin.kp T.b_w_spin .nil pass0 (pa_cons (pv 0) (pa_cons pe_int pa_nil)))) (pa_cons (pv 2) (pa_cons (pe_call G_w_uses hr_w_uses rfl T.m_w_uses T.F_w_uses.kp T.b_w_uses .nil pass0 (pa_cons (pv 0) (pa_cons (pe_call G_w_spin hr_w_spin rfl T.m_w_spin T.F_w_spin.kp T.b_w_spin .nil pass0 (pa_cons (pv 0) (pa_cons pe_int pa_nil))) pa_nil))) pa_nil))))))))), ?_⟩
    refine ⟨by show 6 ≤ sizeLine; decide, fun a ha => ?_⟩
    have nar := ne_rl hR ha
    have S1 : Same H (upd H a (.lst (NM.map V.str))) := Same.new ha
    have R1 := Same.rl S1 hR
    have eA : (upd H a (.lst (NM.map V.str))) a = some (.lst (NM.map V.str)) := upd_same
    refine ⟨_, rfl, r, 4, rfl, R1, by decide, by decide +kernel, fun n H2 n0 n1 R2 O2 => ?_⟩
    have eA2 : H2 a = some (.lst (NM.map V.str)) := O2 _ _ nar eA
    refine ⟨n, rfl, by omega, by omega, fun D hD => ?_⟩
    have nDr := ne_rl R2 hD
    have nDa : D ≠ a := fun z => by rw [z, eA2] at hD; cases hD
    have R2' := Same.rl (Same.new (o := .lst []) hD) R2
    refine lc_it walk_range (fun i H' => (∃ acc ps, H' D = some (.lst acc) ∧ DpAll K H' acc (ps.map pD) ∧ ps.length = i ∧ OkP ps ∧ ∀ p ∈ ps, p.1 ∈ NM) ∧ Rl H' r ∧ Only r H2 H') ⟨⟨[], [], upd_same, .nil, rfl, (fun p hp => by cases hp), fun p hp => by cases hp⟩, R2', Same.only (Same.new hD)⟩ (fun _ _ _ _ => True.intro) ?_ ?_
    · rintro i y H4 H3 hi ⟨⟨acc, ps, eD, da, lp, okp, inp⟩, R3, O3⟩ ⟨rfl, rfl⟩
      refine ⟨rfl, ?_⟩
      unfold tYes
      dsimp only
      rw [if_pos rfl]
      have eA3 : H3 a = some (.lst (NM.map V.str)) := O3 _ _ nar eA2
      refine ⟨_, rfl, _, rfl, r, .ref a, NM.map V.str, rfl, R3, .inl ⟨a, rfl, nar, .inl (SqL.of eA3)⟩, by decide, by show 6 ≤ sizeLine; decide, fun v H5 hv R5 O5 => ?_⟩
      obtain ⟨z, hz, rfl⟩ := List.mem_map.mp hv
      refine ⟨_, rfl, r, 4, rfl, R5, by decide, by decide +kernel, fun m H6 m0 m1 R6 O6 => ?_⟩
      refine ⟨by show 2 ≤ sizeLine; decide, fun t ht => ?_⟩
      have eD6 : H6 D = some (.lst acc) := O6 _ _ nDr (O5 _ _ nDr eD)
      have nt : t ≠ D := fun z => by rw [z, eD6] at ht; cases ht
      have ntr := ne_rl R6 ht
      have N6 : NoL H3 H6 := NoL.trans (NoL.only O5 R3) (NoL.only O6 R5)
      have da6 := pairs_nol N6 da
      have dl := dpa_len da
      rw [List.length_map] at dl
      refine ⟨acc, (upd_ne nt.symm).trans eD6, by rw [sizeLine_eq]; omega, ⟨_, ps ++ [(z, m)], upd_same, ?_, by rw [List.length_append, lp]; rfl, ?_, ?_⟩, ?_, ?_⟩
      · rw [List.map_append]
        refine pairs_app (dpa_nol2 ht eD6 da6) (.cons (.tup (SqT.of ?_) (.cons (.str _) (.cons (.int _) .nil))) .nil)
        rw [upd_ne nt, upd_same]
      · intro p hp
        rcases List.mem_append.mp hp with h | h
        · exact okp p h
        · rw [List.mem_singleton.mp h]
          exact ⟨nm_all z hz, m0, by show m ≤ 3; omega⟩
      · intro p hp
        rcases List.mem_append.mp hp with h | h
        · exact inp p h
        · rw [List.mem_singleton.mp h]
          exact hz
      · obtain ⟨x1, x2, x3, q⟩ := R6
        exact ⟨x1, x2, x3, by rw [upd_ne nDr.symm, upd_ne ntr.symm]; exact q⟩
      · intro c o nc e
        have ncD : c ≠ D := ne_of_none e hD
        have e6 := O6 _ _ nc (O5 _ _ nc (O3 _ _ nc e))
        have nct : c ≠ t := ne_of_none e6 ht
        rw [upd_ne ncD, upd_ne nct]
        exact e6
    · rintro H9 ⟨⟨acc, ps, eD, da, lp, okp, inp⟩, R9, O9⟩
      have eA9 : H9 a = some (.lst (NM.map V.str)) := O9 _ _ nar eA2
      refine ⟨_, rfl, _, rfl, r, .ref a, NM.map V.str, rfl, R9, .inl ⟨a, rfl, nar, .inl (SqL.of eA9)⟩, by decide, by show 6 ≤ sizeLine; decide, fun v H10 hv R10 O10 => ?_⟩
      obtain ⟨z, hz, rfl⟩ := List.mem_map.mp hv
      refine ⟨_, rfl, r, 4, rfl, R10, by decide, by decide +kernel, fun t H11 t0 t1 R11 O11 => ?_⟩
      refine ⟨_, _, rfl, rfl, ?_⟩
      refine ⟨_, rfl, _, rfl, _, rfl, r, 5, rfl, R11, by decide, by decide +kernel, fun lo H12 lo0 lo1 R12 O12 => ?_⟩
      refine ⟨r, lo.toNat, by rw [Int.toNat_of_nonneg lo0]; rfl, R12, by omega, fun l4 ys us H13 R13 O13 nl4 el4 du lu oku asu => ?_⟩
      refine ⟨by show 4 ≤ sizeLine; decide, fun l hl => ?_⟩
      have e13 : H13 D = some (.lst acc) := O13 _ _ nDr (O12 _ _ nDr (O11 _ _ nDr (O10 _ _ nDr eD)))
      have N13 : NoL H9 H13 := NoL.trans (NoL.only O10 R9) (NoL.trans (NoL.only O11 R10) (NoL.trans (NoL.only O12 R11) (NoL.only O13 R12)))
      have d13 := pairs_nol N13 da
      have SL : Same H13 (upd H13 l (.lst [.str z, .int (1 + t), .ref D, .ref l4])) := Same.new hl
      have okr : Rw.Ok ⟨z, 1 + t, ps, us⟩ := ⟨nm_all z hz, ⟨by show 1 ≤ 1 + t; omega, by show 1 + t ≤ 4; omega⟩, by show ps.length ≤ 3; omega, lu, okp, oku, asu⟩
      refine k l ⟨z, 1 + t, ps, us⟩ _ (Same.rl SL R13) ?_ ⟨okr, D, l4, acc, ys, upd_same, SL _ _ e13, SL _ _ el4, dpa_same SL _ _ d13, dpa_same SL _ _ du⟩ ⟨hz, inp⟩ (ne_rl R13 hl)
      intro c o nc e
      exact SL _ _ (O13 _ _ nc (O12 _ _ nc (O11 _ _ nc (O10 _ _ nc (O9 _ _ nc (O2 _ _ nc (S1 _ _ e)))))))
end
end K06
namespace K06
open PySem L2
section
variable {P : Program} {w : World} {K : PySem.W.Frag}
                                                      {mg : Str → Option Value} {base : Heap}
theorem row_ne {H : Hp} {r l : Addr} {row : Rw} (hR : Rl H r) (R : RowAt K H l row) : l ≠ r := by
  obtain ⟨x1, x2, x3, q⟩ := hR
  obtain ⟨a3, a4, xs, ys, h1, _⟩ := R.at_
  intro z
  rw [z, q] at h1
  cases h1
theorem ne_pairs {H : Hp} {r a : Addr} {xs : List V} {ps : Prs} (hR : Rl H r) (h : H a = some (.lst xs)) (d : DpAll K H xs (ps.map pD)) : a ≠ r := by
  obtain ⟨x1, x2, x3, q⟩ := hR
  intro z
  rw [z, q] at h
  cases h
  cases ps with
  | nil => cases d
  | cons p ps =>
    cases d with
    | cons d1 d2 => cases d1
theorem dpa_rev {H : Hp} : ∀ {ds : List PyData} {xs : List V}, DpAll K H xs ds → DpAll K H xs.reverse ds.reverse
  | [], _, h => by cases h; exact .nil
  | d :: ds, _, h => by
    cases h with
    | cons h1 h2 =>
      rw [List.reverse_cons, List.reverse_cons]
      exact dpa_snoc (dpa_rev h2) h1
theorem dpa_take {H : Hp} : ∀ {ds : List PyData} {xs : List V} (n : Nat), DpAll K H xs ds → DpAll K H (xs.take n) (ds.take n)
  | [], _, n, h => by cases h; cases n <;> exact .nil
  | d :: ds, _, n, h => by
    cases h with
    | cons h1 h2 =>
      cases n with
      | zero => exact .nil
      | succ n => exact .cons h1 (dpa_take n h2)
theorem dpa_drop1 {H : Hp} : ∀ {ds : List PyData} {xs : List V}, DpAll K H xs ds → DpAll K H (xs.drop 1) (ds.drop 1)
  | [], _, h => by cases h; exact .nil
  | d :: ds, _, h => by
    cases h with
    | cons h1 h2 => exact h2
theorem cut_1 (xs : List V) : cutV xs (some 1) none = xs.drop 1 := by
  unfold cutV
  cases xs with
  | nil => rfl
  | cons x xs =>
    have e1 : HT.sIx (x :: xs).length 0 (some 1) = 1 := by
      show (if (1 : Int) < 0 then ((1 : Int) + ((x :: xs).length : Int)).toNat else min (1 : Int).toNat (x :: xs).length) = 1
      rw [if_neg (by decide), List.length_cons]
      show min 1 (xs.length + 1) = 1
      omega
    rw [e1]
    show List.take ((x :: xs).length - 1) (List.drop 1 (x :: xs)) = _
    exact List.take_of_length_le (by rw [List.length_drop]; exact Nat.le_refl _)
theorem cut_m1 (xs : List V) : cutV xs none (some (-1)) = xs.take (xs.length - 1) := by
  unfold cutV
  have e1 : HT.sIx xs.length xs.length (some (-1)) = xs.length - 1 := by
    show (if (-1 : Int) < 0 then ((-1 : Int) + (xs.length : Int)).toNat else min (-1 : Int).toNat xs.length) = _
    rw [if_pos (by decide)]
    omega
  rw [e1]
  rfl
theorem nm_cut {z : Str} (h : nmC z = true) : nmC (cutS z none (some 7) ++ Str.ofString "q") = true := by
  unfold nmC at h ⊢
  rw [Bool.and_eq_true] at h ⊢
  have h8 := of_decide_eq_true h.1
  have e1 : (HT.sIx z.length z.length (some 7)) = min 7 z.length := rfl
  have el : (cutS z none (some 7) ++ Str.ofString "q").cps.toList = (z.cps.toList.take (min 7 z.length)) ++ [113] := by
    show ((cutS z none (some 7)).cps ++ (Str.ofString "q").cps).toList = _
    unfold cutS
    rw [e1]
    simp [HT.sIx]
    rfl
  refine ⟨decide_eq_true ?_, ?_⟩
  · have e2 : (cutS z none (some 7) ++ Str.ofString "q").length = (cutS z none (some 7) ++ Str.ofString "q").cps.toList.length := by simp [Str.length]
    rw [e2, el, List.length_append, List.length_take]
    have e3 : ([113] : List Nat).length = 1 := rfl
    omega
  · rw [el, List.all_append, Bool.and_eq_true]
    refine ⟨List.all_eq_true.mpr fun c hc => List.all_eq_true.mp h.2 c (List.mem_of_mem_take hc), by decide⟩
def sp_w_near (K : PySem.W.Frag) : Sp := fun vs H Q _ => ∃ (r l : Addr) (row : Rw), vs = [.ref r, .ref l] ∧ Rl H r ∧ RowAt K H l row ∧ ∀ l' row' H', Rl H' r → Only r H H' → RowAt K H' l' row' → Q (.ref l') H'
theorem ok_w_near (T : T K mg) : FnOk P w K mg base CX0 2 T.f_w_near T.d_w_near ["reel", "row"] (sp_w_near K) := by
  have G_w_spin : FnOk P w K mg base CX0 1 T.f_w_spin T.d_w_spin ["reel", "total"] (sp_w_spin K) := ok_w_spin T
  refine T.F_w_near.ok sc_w_near (fun vs H Q E h => ?_) (fun cdv A outer s H vs Q E hr h => ?_)
  · obtain ⟨r, l, row, rfl, _⟩ := h
    rfl
  · obtain ⟨r, l, row, rfl, hR, R, k⟩ := h
    have hu := hu_of hr
    have hr_w_spin : Room 1 _ := hr.mono (by decide)
    refine ⟨_, (pss_cons (ps_par (i := 2) (j := 3) (by rfl) sc_w_near.nd rfl rfl (by decide) rfl rfl (pa_cons (pe_lst (pa_cons (pe_ix ix_seq (pv 1) pe_int (fun _ _ => rfl)) (pa_cons (pe_ix ix_seq (pv 1) pe_int (fun _ _ => rfl)) (pa_cons (pe_callTy call_list_of (by rfl) T.z_list (by decide +kernel) (pa_cons (pe_ix ix_seq (pv 1) pe_int (fun _ _ => rfl)) pa_nil)) (pa_cons (pe_callTy call_list_of (by rfl) T.z_list (by decide +kernel) (pa_cons (pe_ix ix_seq (pv 1) pe_int (fun _ _ => rfl)) pa_nil)) pa_nil))))) (pa_cons (pe_call G_w_spin hr_w_spin rfl T.m_w_spin T.F_w_spin.kp T.b_w_spin .nil pass0 (pa_cons (pv 0) (pa_cons pe_int pa_nil))) pa_nil)) (by rfl))
      (pss_cons (ps_if (pt_cmpR op_eq (pv 3) pe_int (nomark _))
      (pss_one (ps_asg (pe_op op_addS (pe_slice sl_str (pe_ix ix_seq (pv 1) pe_int (fun _ _ => rfl)) po_none (po_some pe_int)) pe_str) (pg_sub (pv 2) pe_int set_list)))
      pss_nil)
      (pss_cons (ps_if (pt_cmpR op_eq (pv 3) pe_int (nomark _))
      (pss_one (ps_asg (pe_op op_add (pe_op op_mod (pe_ix ix_seq (pv 1) pe_int (fun _ _ => rfl)) pe_int) pe_int) (pg_sub (pv 2) pe_int set_list)))
      pss_nil)
      (pss_cons (ps_if (pt_cmpR op_eq (pv 3) pe_int (nomark _))
      (pss_one (ps_asg (pe_revL (pe_ix ix_seq (pv 1) pe_int (fun _ _ => rfl))) (pg_sub (pv 2) pe_int set_list)))
      pss_nil)
      (pss_cons (ps_if (pt_cmpR op_eq (pv 3) pe_int (nomark _))
      (pss_one (ps_asg (pe_slice sl_list (pe_ix ix_seq (pv 1) pe_int (fun _ _ => rfl)) (po_some pe_int) po_none) (pg_sub (pv 2) pe_int set_list)))
      pss_nil)
      (pss_cons (ps_if (pt_cmpR op_eq (pv 3) pe_int (nomark _))
      (pss_one (ps_asg (pe_slice sl_list (pe_ix ix_seq (pv 1) pe_int (fun _ _ => rfl)) po_none (po_some (pe_un un_neg pe_int))) (pg_sub (pv 2) pe_int set_list)))
      pss_nil)
      (pss_one (ps_ret (pv 2))))))))), ?_⟩
    have ok := R.ok
    obtain ⟨a3, a4, xs, ys, h1, h2, h3, h4, h5⟩ := R.at_
    refine ⟨_, rfl, .inl ⟨l, _, 0, _, rfl, rfl, SqL.of h1, rfl, _, rfl, .inl ⟨l, _, 1, _, rfl, rfl, SqL.of h1, rfl, ?_⟩⟩⟩
    refine ⟨_, rfl, .inl ⟨l, _, 2, _, rfl, rfl, SqL.of h1, rfl, a3, xs, rfl, .inl (SqL.of h2), fun b3 hb3 => ?_⟩⟩
    have S1 : Same H (upd H b3 (.lst xs)) := Same.new hb3
    refine ⟨_, rfl, .inl ⟨l, _, 3, _, rfl, rfl, SqL.of (S1 _ _ h1), rfl, a4, ys, rfl, .inl (SqL.of (S1 _ _ h3)), fun b4 hb4 => ?_⟩⟩
    refine ⟨by show 4 ≤ sizeLine; decide, fun f hf => ?_⟩
    have S2 : Same (upd H b3 (.lst xs)) (upd (upd (upd H b3 (.lst xs)) b4 (.lst ys)) f (.lst [.str row.n, .int row.t, .ref b3, .ref b4])) := Same.trans (Same.new hb4) (Same.new hf)
    have S12 := Same.trans S1 S2
    have e3 := S2 _ _ (upd_same (H := H) (a := b3) (o := .lst xs))
    have n4f : b4 ≠ f := fun z => by rw [← z, upd_same] at hf; cases hf
    have e4 : (upd (upd (upd H b3 (.lst xs)) b4 (.lst ys)) f (.lst [.str row.n, .int row.t, .ref b3, .ref b4])) b4 = some (.lst ys) := by rw [upd_ne n4f, upd_same]
    have ef : (upd (upd (upd H b3 (.lst xs)) b4 (.lst ys)) f (.lst [.str row.n, .int row.t, .ref b3, .ref b4])) f = some (.lst [.str row.n, .int row.t, .ref b3, .ref b4]) := upd_same
    have f0 : H f = none := none_of S1 (none_of (Same.new hb4) hf)
    have n3f : b3 ≠ f := fun z => by
      have q := Same.new (o := .lst ys) hb4 _ _ (upd_same (H := H) (a := b3) (o := .lst xs))
      subst z
      exact nomatch (hf.symm.trans q)
    generalize upd (upd (upd H b3 (.lst xs)) b4 (.lst ys)) f (.lst [.str row.n, .int row.t, .ref b3, .ref b4]) = G at S12 e3 e4 ef ⊢
    refine ⟨_, rfl, r, 5, rfl, Same.rl S12 hR, by decide, by decide +kernel, fun v G2 v0 v1 R2 O2 => ?_⟩
    have nb3 := ne_rl hR hb3
    have nb4 := ne_rl hR (none_of S1 hb4)
    have nf := ne_rl hR f0
    have RG := Same.rl S12 hR
    have nlr := row_ne hR R
    have n3 := ne_pairs hR h2 h4
    have n4 := ne_pairs hR h3 h5
    have g1 := O2 _ _ nlr (S12 _ _ h1)
    have g2 := O2 _ _ n3 (S12 _ _ h2)
    have g3 := O2 _ _ n4 (S12 _ _ h3)
    replace e3 := O2 _ _ nb3 e3
    replace e4 := O2 _ _ nb4 e4
    replace ef := O2 _ _ nf ef
    have N2 : NoL H G2 := NoL.trans (NoL.same S12) (NoL.only O2 RG)
    have d3 := pairs_nol N2 h4
    have d4 := pairs_nol N2 h5
    have O12 : Only r H G2 := fun c o n e => O2 _ _ n (S12 _ _ e)
    have done : ∀ (G3 : Hp) (a b : Addr) (us vs : List V) (row' : Rw), Same G2 G3 → G3 a = some (.lst us) → G3 b = some (.lst vs) → a ≠ f → b ≠ f → DpAll K G2 us (row'.rs.map pD) → DpAll K G2 vs (row'.us.map pD) → row'.Ok →
        Q (.ref f) (upd G3 f (.lst [.str row'.n, .int row'.t, .ref a, .ref b])) := fun G3 a b us vs row' SS ea eb na nb da db ok' => by
      have NN : NoL G2 (upd G3 f (.lst [.str row'.n, .int row'.t, .ref a, .ref b])) := NoL.trans (NoL.same SS) (NoL.put (SS _ _ ef))
      refine k f row' _ ?_ ?_ ⟨ok', a, b, us, vs, upd_same, by rw [upd_ne na]; exact ea, by rw [upd_ne nb]; exact eb, pairs_nol NN da, pairs_nol NN db⟩
      · obtain ⟨x1, x2, x3, q⟩ := Same.rl SS R2
        exact ⟨x1, x2, x3, by rw [upd_ne nf.symm]; exact q⟩
      · intro c o nc e
        rw [upd_ne (ne_of_none e f0)]
        exact SS _ _ (O12 _ _ nc e)
    refine ⟨_, _, rfl, ?_⟩
    have hv : v = 0 ∨ v = 1 ∨ v = 2 ∨ v = 3 ∨ v = 4 := by omega
    rcases hv with rfl | rfl | rfl | rfl | rfl
    · refine ⟨_, rfl, rfl, _, rfl, iteT ?_⟩
      refine ⟨_, rfl, .inl ⟨l, _, 0, _, rfl, rfl, SqL.of g1, rfl, 7, rfl, row.n, rfl, by have := nm_len ok.n; rw [sizeLine_eq]; omega, ?_⟩⟩
      have ncut := nm_cut ok.n
      have lcut := nm_len ncut
      rw [len_app] at lcut
      refine ⟨_, _, rfl, rfl, by rw [sizeLine_eq]; omega, ?_⟩
      refine ⟨_, rfl, f, _, 0, 0, rfl, rfl, ef, rfl, ?_⟩
      have fin := done G2 b3 b4 xs ys { row with n := cutS row.n none (some 7) ++ Str.ofString "q" } (Same.refl _) e3 e4 n3f n4f d3 d4 { ok with n := ncut }
      refine ⟨_, rfl, rfl, _, rfl, iteF ?_⟩
      refine ⟨_, rfl, rfl, _, rfl, iteF ?_⟩
      refine ⟨_, rfl, rfl, _, rfl, iteF ?_⟩
      refine ⟨_, rfl, rfl, _, rfl, iteF ?_⟩
      exact ⟨_, rfl, fin⟩
    · refine ⟨_, rfl, rfl, _, rfl, iteF ?_⟩
      refine ⟨_, rfl, rfl, _, rfl, iteT ?_⟩
      refine ⟨_, rfl, .inl ⟨l, _, 1, _, rfl, rfl, SqL.of g1, rfl, ?_⟩⟩
      refine ⟨_, _, rfl, rfl, (by show (0 : Int) < _; decide), _, _, rfl, rfl, ?_⟩
      refine ⟨_, rfl, f, _, 0 + 1, 1, rfl, rfl, ef, rfl, ?_⟩
      have fin := done G2 b3 b4 xs ys { row with t := row.t % 4 + 1 } (Same.refl _) e3 e4 n3f n4f d3 d4 { ok with t := ⟨by show 1 ≤ row.t % 4 + 1; omega, by show row.t % 4 + 1 ≤ 4; omega⟩ }
      refine ⟨_, rfl, rfl, _, rfl, iteF ?_⟩
      refine ⟨_, rfl, rfl, _, rfl, iteF ?_⟩
      refine ⟨_, rfl, rfl, _, rfl, iteF ?_⟩
      exact ⟨_, rfl, fin⟩
    · refine ⟨_, rfl, rfl, _, rfl, iteF ?_⟩
      refine ⟨_, rfl, rfl, _, rfl, iteF ?_⟩
      refine ⟨_, rfl, rfl, _, rfl, iteT ?_⟩
      refine ⟨_, rfl, .inl ⟨l, _, 2, _, rfl, rfl, SqL.of g1, rfl, a3, xs, rfl, SqL.of g2, fun q hq => ?_⟩⟩
      have nqf : q ≠ f := fun z => by rw [z, ef] at hq; cases hq
      have SQ := Same.new (o := .lst xs.reverse) hq
      refine ⟨_, rfl, f, _, 2, 2, rfl, rfl, SQ _ _ ef, rfl, ?_⟩
      have fin := done _ q b4 xs.reverse ys { row with rs := row.rs.reverse } SQ upd_same (SQ _ _ e4) nqf n4f (by rw [List.map_reverse]; exact dpa_rev d3) d4 { ok with rl := by show row.rs.reverse.length ≤ 3; rw [List.length_reverse]; exact ok.rl, rs := fun p hp => ok.rs p (List.mem_reverse.mp hp) }
      refine ⟨_, rfl, rfl, _, rfl, iteF ?_⟩
      refine ⟨_, rfl, rfl, _, rfl, iteF ?_⟩
      exact ⟨_, rfl, fin⟩
    · refine ⟨_, rfl, rfl, _, rfl, iteF ?_⟩
      refine ⟨_, rfl, rfl, _, rfl, iteF ?_⟩
      refine ⟨_, rfl, rfl, _, rfl, iteF ?_⟩
      refine ⟨_, rfl, rfl, _, rfl, iteT ?_⟩
      refine ⟨_, rfl, .inl ⟨l, _, 2, _, rfl, rfl, SqL.of g1, rfl, 1, rfl, a3, xs, rfl, SqL.of g2, fun q hq => ?_⟩⟩
      rw [cut_1]
      have nqf : q ≠ f := fun z => by rw [z, ef] at hq; cases hq
      have SQ := Same.new (o := .lst (xs.drop 1)) hq
      refine ⟨_, rfl, f, _, 2, 2, rfl, rfl, SQ _ _ ef, rfl, ?_⟩
      have fin := done _ q b4 (xs.drop 1) ys { row with rs := row.rs.drop 1 } SQ upd_same (SQ _ _ e4) nqf n4f (by rw [List.map_drop]; exact dpa_drop1 d3) d4 { ok with rl := by show (row.rs.drop 1).length ≤ 3; rw [List.length_drop]; have := ok.rl; omega, rs := fun p hp => ok.rs p (List.mem_of_mem_drop hp) }
      refine ⟨_, rfl, rfl, _, rfl, iteF ?_⟩
      exact ⟨_, rfl, fin⟩
    · refine ⟨_, rfl, rfl, _, rfl, iteF ?_⟩
      refine ⟨_, rfl, rfl, _, rfl, iteF ?_⟩
      refine ⟨_, rfl, rfl, _, rfl, iteF ?_⟩
      refine ⟨_, rfl, rfl, _, rfl, iteF ?_⟩
      refine ⟨_, rfl, rfl, _, rfl, iteT ?_⟩
      refine ⟨_, rfl, .inl ⟨l, _, 3, _, rfl, rfl, SqL.of g1, rfl, _, rfl, _, rfl, a4, ys, rfl, SqL.of g3, fun q hq => ?_⟩⟩
      rw [cut_m1]
      have nqf : q ≠ f := fun z => by rw [z, ef] at hq; cases hq
      have SQ := Same.new (o := .lst (ys.take (ys.length - 1))) hq
      refine ⟨_, rfl, f, _, 3, 3, rfl, rfl, SQ _ _ ef, rfl, ?_⟩
      have fin := done _ b3 q xs (ys.take (ys.length - 1)) { row with us := row.us.take (ys.length - 1) } SQ (SQ _ _ e3) upd_same n3f nqf d3 (by rw [List.map_take]; exact dpa_take _ d4) { ok with ul := by show (row.us.take _).length ≤ 4; rw [List.length_take]; have := ok.ul; omega, us := fun p hp => ok.us p (List.mem_of_mem_take hp), asc := ok.asc.sublist (List.take_sublist _ _) }
      exact ⟨_, rfl, fin⟩
end
end K06
set_option maxHeartbeats 4000000
namespace K06
open PySem L2
section
variable {P : Program} {w : World} {K : PySem.W.Frag}
                                                      {mg : Str → Option Value} {base : Heap}
theorem OpAt.nol {H H' : Hp} {C p : Addr} {r : Rw} (e : NoL H H') (h : OpAt K H C p r) : OpAt K H' C p r := by
  obtain ⟨ok, dx, x3, x4, h1, h2, h3⟩ := h
  refine ⟨ok, dx, x3, x4, e _ _ h1 (fun _ z => by cases z), ?_, ?_⟩
  · cases h2 with
    | tup q1 q2 => exact .tup (NoL.seqT e q1) (pairs_nol e q2)
  · cases h3 with
    | tup q1 q2 => exact .tup (NoL.seqT e q1) (pairs_nol e q2)
theorem RowAt.only {H H' : Hp} {r l : Addr} {row : Rw} (hR : Rl H r) (o : Only r H H') (h : RowAt K H l row) : RowAt K H' l row := by
  have nl := row_ne hR h
  obtain ⟨a3, a4, xs, ys, h1, h2, h3, h4, h5⟩ := h.at_
  have e := NoL.only o hR
  exact ⟨h.ok, a3, a4, xs, ys, o _ _ nl h1, o _ _ (ne_pairs hR h2 h4) h2, o _ _ (ne_pairs hR h3 h5) h3, pairs_nol e h4, pairs_nol e h5⟩
theorem eqv_pairs (a b : Prs) : PyData.eqv (lD a) (lD b) = PyData.eqv (tD a) (tD b) := by
  unfold lD tD
  rw [PyData.eqv, PyData.eqv]
theorem dec_vbl (a b : Bool) : decide (V.bl a = V.bl b) = (a == b) := by cases a <;> cases b <;> rfl
theorem eqR_row (a b : Rw) : eqR a b = PyData.eqv (rowD a) (rowD b) := by
  unfold eqR rowD
  rw [PyData.eqv, PyData.eqvAll, PyData.eqvAll, PyData.eqvAll, PyData.eqvAll, PyData.eqvAll, eqv_pairs, eqv_pairs]
  have e1 : decide (V.str a.n = V.str b.n) = PyData.eqv (.str a.n) (.str b.n) := by
    rw [PyData.eqv]
    by_cases c : a.n = b.n <;> simp [c]
  have e2 : decide (V.int a.t = V.int b.t) = PyData.eqv (.int a.t) (.int b.t) := by
    rw [PyData.eqv]
    by_cases c : a.t = b.t <;> simp [c]
  rw [e1, e2, Bool.and_true]
theorem row_shaped {r : Rw} (ok : r.Ok) : SeqAt.shaped (rowD r) = true := by
  have h1 := (shaped_prs ok.rs).2
  have h2 := (shaped_prs ok.us).2
  unfold SeqAt.shaped at h1 h2 ⊢
  rw [Bool.and_eq_true] at h1 h2 ⊢
  refine ⟨?_, decide_eq_true ?_⟩
  · unfold rowD
    simp [PyData.canLay0, PyData.canLayAll0, nm_ok ok.n, h1.1, h2.1]
  · unfold rowD
    have q1 := depth_l r.rs
    have q2 := depth_l r.us
    simp only [PyData.depth, PyData.depthAll]
    omega
theorem ins_of {H : Hp} {C p : Addr} {r : Rw} (h : OpAt K H C p r) : ∃ dx fs, H p = some (.ins C dx fs) := by
  obtain ⟨_, dx, x3, x4, h1, _⟩ := h
  exact ⟨dx, _, h1⟩
theorem self_nf {C : Addr} : PySem.W.notFirst K C (.ref C) = true := by
  unfold PySem.W.notFirst
  rw [beq_self_eq_true]
  rfl
theorem eqR_self {r : Rw} (ok : r.Ok) : eqR r r = true := by
  rw [eqR_row]
  exact eqv_self (row_shaped ok)
/-- of a kind that is no operation -/
def Oth (K : PySem.W.Frag) (H : Hp) (y : V) : Prop := ∃ n, n ∈ ["NoneType", "bool", "int", "str", "list", "tuple"] ∧ OW.Tyd K H y (.type n) ∧ TyX K H y (.type n)
theorem Oth.same {H H' : Hp} {y : V} (s : Same H H') (h : Oth K H y) : Oth K H' y ∨ True := .inr True.intro
def QS : List Qu := [(.inr (Str.ofString "a"), .str (Str.ofString "b"), .str (Str.ofString "b")), (.inr (Str.ofString "b"), .str (Str.ofString "item"), .str (Str.ofString "item")), (.inr (Str.ofString "item"), .str (Str.ofString "item"), .str (Str.ofString "item")),
  (.inr (Str.ofString "sum"), .str (Str.ofString "a"), .str (Str.ofString "a")), (.inr (Str.ofString "zzzzzzzz"), .str (Str.ofString "c"), .str (Str.ofString "c")), (.inr (Str.ofString "p"), .str (Str.ofString "a"), .str (Str.ofString "a"))]
def gT (z : Str) : Str := match valV (kvQ QS) (.inr z) with
  | some (.str y) => y
  | _ => z
theorem gT_val : ∀ z ∈ NM, valV (kvQ QS) (.inr z) = some (.str (gT z)) ∧ nmC (gT z) = true := by decide +kernel
theorem gT_ok {row : Rw} (ok : row.Ok) (i : InN row) : (renR gT row).Ok where
  n := (gT_val _ i.1).2
  t := ok.t
  rl := by
    show (row.rs.map _).length ≤ 3
    rw [List.length_map]
    exact ok.rl
  ul := ok.ul
  rs := fun p hp => by
    obtain ⟨q, hq, rfl⟩ := List.mem_map.mp hp
    exact ⟨(gT_val _ (i.2 q hq)).2, (ok.rs q hq).2⟩
  us := ok.us
  asc := ok.asc
theorem qs_dp {H : Hp} : ∀ q ∈ QS, Dp K H q.2.1 q.2.2 ∧ okD q.2.2 ∧ okD (keyD q.1) := by
  intro q hq
  have key : ∀ q ∈ QS, ∃ a b : Str, q = (.inr a, .str b, .str b) ∧ a.length ≤ 8 ∧ b.length ≤ 8 := by
    intro q hq
    simp only [QS, List.mem_cons, List.not_mem_nil, or_false] at hq
    rcases hq with rfl | rfl | rfl | rfl | rfl | rfl <;> exact ⟨_, _, rfl, by decide +kernel, by decide +kernel⟩
  obtain ⟨a, b, rfl, ha, hb⟩ := key q hq
  exact ⟨.str b, okD_str' hb, okD_str' ha⟩
theorem merge_qs : mergeK [] (kvQ QS) = kvQ QS := by decide +kernel
theorem get_qs {H : Hp} {a : Addr} {z : Str} (h : H a = some (.dK (kvQ QS))) (hz : z ∈ NM) : DGet H a (.str z) (some (.str (gT z))) := by
  have q := DGet.k (k := .inr z) h
  rw [(gT_val z hz).1] at q
  exact q
def sp_w_cell_right (K : PySem.W.Frag) : Sp := fun vs H Q _ => ∃ (r : Addr), vs = [.ref r] ∧ Rl H r ∧ ∀ H', Only r H H' → Q (.bl true) H'
theorem ok_w_cell_right (T : T K mg) (U : UX K mg) : FnOk P w K mg base CX0 12 T.f_w_cell_right T.d_w_cell_right ["reel"] (sp_w_cell_right K) := by
  have G_w_drawn : FnOk P w K mg base CX0 4 T.f_w_drawn T.d_w_drawn ["reel"] (sp_w_drawn K) := ok_w_drawn T
  have G_is_row : FnOk P w K mg base CX0 9 T.f_w_is_row T.d_w_is_row ["one", "row"] (sp_w_is_row K U.C) := ok_w_is_row T U
  have G_made : FnOk P w K mg base CX0 7 T.f_w_made_one T.d_w_made_one ["row"] (sp_w_made_one K U.C) := ok_w_made_one T U
  have G_w_near : FnOk P w K mg base CX0 2 T.f_w_near T.d_w_near ["reel", "row"] (sp_w_near K) := ok_w_near T
  have G_eq : FnOk P w K mg base CX0 3 U.me.f U.me.d ["self", "other"] (sp_eq K U.C) := ok_eq T U
  have G_str : FnOk P w K mg base CX0 3 U.ms.f U.ms.d ["self"] (sp_str K U.C) := ok_str T U
  have G_ren : FnOk P w K mg base CX0 7 U.mr.f U.mr.d ["self", "names"] (sp_ren K U.C) := ok_ren T U
  have G_with : FnOk P w K mg base CX0 7 U.mw.f U.mw.d ["self", "ticks"] (sp_with K U.C) := ok_with T U
  refine T.F_w_cell_right.ok sc_w_cell_right (fun vs H Q E h => ?_) (fun cdv A outer s H vs Q E hr h => ?_)
  · obtain ⟨r, rfl, _⟩ := h
    rfl
  · obtain ⟨r, rfl, hR, k⟩ := h
    have hu := hu_of hr
    refine ⟨_, (pss_cons (ps_set (i := 1) sc_w_cell_right.nd rfl (Or.inl rfl) (pe_call G_w_drawn (hr.mono (by decide)) rfl T.m_w_drawn T.F_w_drawn.kp T.b_w_drawn .nil pass0 (pa_cons (pv 0) pa_nil)))
      (pss_cons (ps_asg (pe_tup (pa_cons (pe_call G_made (hr.mono (by decide)) rfl T.m_w_made_one T.F_w_made_one.kp T.b_w_made_one .nil pass0 (pa_cons (pv 1) pa_nil)) (pa_cons (pe_call G_w_near (hr.mono (by decide)) rfl T.m_w_near T.F_w_near.kp T.b_w_near .nil pass0 (pa_cons (pv 0) (pa_cons (pv 1) pa_nil))) pa_nil))) (pg_tup rfl (pgs_cons (pg_name (i := 2) sc_w_cell_right.nd rfl (Or.inr rfl)) (pgs_cons (pg_name (i := 3) sc_w_cell_right.nd rfl (Or.inl rfl)) pgs_nil))))
      (pss_cons (ps_set (i := 4) sc_w_cell_right.nd rfl (Or.inl rfl) (pe_call G_made (hr.mono (by decide)) rfl T.m_w_made_one T.F_w_made_one.kp T.b_w_made_one .nil pass0 (pa_cons (pv 3) pa_nil)))
      (pss_cons (ps_if (PW.pt (pw_or (pt_not (pt_val (pe_call G_is_row (hr.mono (by decide)) rfl T.m_w_is_row T.F_w_is_row.kp T.b_w_is_row .nil pass0 (pa_cons (pv 2) (pa_cons (pv 1) pa_nil))))) (pw_or (pt_not (pt_val (pe_call G_is_row (hr.mono (by decide)) rfl T.m_w_is_row T.F_w_is_row.kp T.b_w_is_row .nil pass0 (pa_cons (pv 4) (pa_cons (pv 3) pa_nil))))) (pw_or1 (pt_cmpR op_ne (pe_cmpR (OW.op_ownEq G_eq ⟨U.me.m.at_, U.me.m.fn⟩ (hr.mono (by decide)) U.me.b pass0) (pv 2) (pv 4) (nomark _)) (pe_cmpR (op_eqD (un64 hr)) (pv 1) (pv 3) (nomark _)) (nomark _))))))
      (pss_one (ps_ret pe_bl))
      pss_nil)
      (pss_cons (ps_if (PW.pt (pw_or (pt_cmpR op_eq (pe_cmpR (OW.op_ownNe G_eq ⟨U.me.m.at_, U.me.m.fn⟩ U.mo U.ne (hr.mono (by decide)) U.me.b pass0) (pv 2) (pv 4) (nomark _)) (pe_cmpR (op_eqD (un64 hr)) (pv 1) (pv 3) (nomark _)) (nomark _)) (pw_or1 (pt_not (pt_cmpR (OW.op_ownEq G_eq ⟨U.me.m.at_, U.me.m.fn⟩ (hr.mono (by decide)) U.me.b pass0) (pv 2) (pe_call G_made (hr.mono (by decide)) rfl T.m_w_made_one T.F_w_made_one.kp T.b_w_made_one .nil pass0 (pa_cons (pv 1) pa_nil)) (nomark _))))))
      (pss_one (ps_ret pe_bl))
      pss_nil)
      (pss_cons (ps_if (pt_cmpR (op_neD (un64 hr)) (pe_lc (own := [("value", 7)]) (g := gName 7) rfl sc_w_cell_right.nd (pi_list (pe_lst (pa_cons pe_non (pa_cons (pe_ix ix_seq (pv 1) pe_int (fun _ _ => rfl)) (pa_cons (pe_callTy call_tuple_of (by rfl) T.z_tuple (by decide +kernel) (pa_cons (pv 1) pa_nil)) (pa_cons (pe_callTy (OW.cr_ownStr G_str ⟨U.ms.m.at_, U.ms.m.fn⟩ (hr.mono (by decide)) U.ms.b pass0) (by rfl) T.z_str (by decide +kernel) (pa_cons (pv 2) pa_nil)) (pa_cons pe_int pa_nil))))))) (blkOk_by (N := ["reel", "row", "one", "near", "other", "to", "due", "value", "name", "number"]) (sc := defScope s_w_cell_right) (by decide +kernel)) (fun _ _ _ _ _ => (pg_name (i := 7) sc_w_cell_right.nd rfl (Or.inl rfl))) (fun _ _ _ _ _ => pts_one (PW.pt (pw_or (pt_cmpR (r := OW.rOwnEq K U.C (sp_eq K U.C) E0) (OW.op_ownEq G_eq ⟨U.me.m.at_, U.me.m.fn⟩ (hr.mono (by decide)) U.me.b pass0) (pv 2) (pv 7) (nomark _)) (pw_or1 (pt_not (pt_cmpR (r := OW.rOwnNe K U.C (sp_eq K U.C) E0) (OW.op_ownNe G_eq ⟨U.me.m.at_, U.me.m.fn⟩ U.mo U.ne (hr.mono (by decide)) U.me.b pass0) (pv 2) (pv 7) (nomark _))))))) (fun _ _ _ _ _ => (pv 7))) (pe_lst pa_nil) (nomark _))
      (pss_one (ps_ret pe_bl))
      pss_nil)
      (pss_cons (ps_set (i := 5) sc_w_cell_right.nd rfl (Or.inr rfl) (pe_disp (pps_cons pe_str pe_str (pps_cons pe_str pe_str (pps_cons pe_str pe_str (pps_cons pe_str pe_str (pps_cons pe_str pe_str (pps_cons pe_str pe_str pps_nil)))))) rfl rfl (by simp) (by decide)))
      (pss_cons (ps_set (i := 6) sc_w_cell_right.nd rfl (Or.inl rfl) (pe_lst (pa_cons (pe_dget (lt1 hr.units) (pv 5) (pe_ix ix_seq (pv 1) pe_int (fun _ _ => rfl)) (fun _ _ => rfl)) (pa_cons (pe_ix ix_seq (pv 1) pe_int (fun _ _ => rfl)) (pa_cons (pe_lc (own := [("name", 8), ("number", 9)]) (g := gTup K 2 (gCons (gName 8) (gCons (gName 9) gNil))) rfl sc_w_cell_right.nd (pi_list (pe_ix ix_seq (pv 1) pe_int (fun _ _ => rfl))) (blkOk_by (N := ["reel", "row", "one", "near", "other", "to", "due", "value", "name", "number"]) (sc := defScope s_w_cell_right) (by decide +kernel)) (fun _ _ _ _ _ => (pg_tup rfl (pgs_cons (pg_name (i := 8) sc_w_cell_right.nd rfl (Or.inl rfl)) (pgs_cons (pg_name (i := 9) sc_w_cell_right.nd rfl (Or.inl rfl)) pgs_nil)))) (fun _ _ _ _ _ => pts_nil) (fun _ _ _ _ _ => (pe_tup (pa_cons (pe_dget (lt1 hr.units) (pv 5) (pv 8) (fun _ _ => rfl)) (pa_cons (pv 9) pa_nil))))) (pa_cons (pe_ix ix_seq (pv 1) pe_int (fun _ _ => rfl)) pa_nil))))))
      (pss_cons (ps_if (pt_not (pt_val (pe_call G_is_row (hr.mono (by decide)) rfl T.m_w_is_row T.F_w_is_row.kp T.b_w_is_row .nil pass0 (pa_cons (pe_meth (pv 2) U.cl U.mr.m G_ren (hr.mono (by decide)) U.mr.b .nil pass0 (pa_cons (pv 5) pa_nil)) (pa_cons (pv 6) pa_nil)))))
      (pss_one (ps_ret pe_bl))
      pss_nil)
      (pss_cons (ps_if (pt_not (pt_val (pe_call G_is_row (hr.mono (by decide)) rfl T.m_w_is_row T.F_w_is_row.kp T.b_w_is_row .nil pass0 (pa_cons (pe_meth (pv 2) U.cl U.mw.m G_with (hr.mono (by decide)) U.mw.b .nil pass0 (pa_cons (pe_ix ix_seq (pv 3) pe_int (fun _ _ => rfl)) pa_nil)) (pa_cons (pe_op op_cat (pe_lst (pa_cons (pe_ix ix_seq (pv 1) pe_int (fun _ _ => rfl)) (pa_cons (pe_ix ix_seq (pv 3) pe_int (fun _ _ => rfl)) pa_nil))) (pe_slice sl_list (pv 1) (po_some pe_int) po_none)) pa_nil)))))
      (pss_one (ps_ret pe_bl))
      pss_nil)
      (pss_one (ps_ret (pe_and (pe_call G_is_row (hr.mono (by decide)) rfl T.m_w_is_row T.F_w_is_row.kp T.b_w_is_row .nil pass0 (pa_cons (pv 2) (pa_cons (pv 1) pa_nil))) (pe_and (pe_cmpR op_eq (pe_dget (lt1 hr.units) (pv 5) pe_str (fun _ _ => rfl)) pe_str (nomark _)) (pe_one (pe_cmpR op_eq (pe_callB call_lenD (by rfl) T.z_len (by decide +kernel) (pa_cons (pv 5) pa_nil)) pe_int (nomark _))))))))))))))))), ?_⟩
    refine ⟨_, rfl, r, rfl, hR, fun l row H1 R1 O1 RA inN nl => ?_⟩
    have ROK := RA.ok
    refine ⟨_, rfl, l, row, rfl, RA, fun p H2 S2 OP np => ?_⟩
    have R2 := Same.rl S2 R1
    have RA_2 := RowAt.same S2 RA
    refine ⟨_, rfl, _, rfl, r, l, row, rfl, R2, RA_2, fun l2 row2 H3 R3 O3 RB => ?_⟩
    refine ⟨by show 2 ≤ sizeLine; decide, fun t ht => ?_⟩
    have S4 := Same.new (o := .tup [.ref p, .ref l2]) ht
    have RA3 := RowAt.same S4 (RowAt.only R2 O3 RA_2)
    have OP3 := OpAt.same S4 (OpAt.nol (NoL.only O3 R2) OP)
    have RB3 := RowAt.same S4 RB
    have R4 := Same.rl S4 R3
    have O4 : Only r H (upd H3 t (.tup [.ref p, .ref l2])) := fun c o n e => S4 _ _ (O3 _ _ n (S2 _ _ (O1 _ _ n e)))
    have eT := upd_same (H := H3) (a := t) (o := .tup [.ref p, .ref l2])
    refine ⟨t, _, rfl, SqT.of eT, rfl, _, _, rfl, _, _, rfl, rfl, ?_⟩
    generalize upd H3 t (.tup [.ref p, .ref l2]) = H4 at RA3 OP3 RB3 R4 O4 ⊢
    refine ⟨_, rfl, l2, row2, rfl, RB3, fun p2 H5 S5 OP2 np2 => ?_⟩
    have RA5 := RowAt.same S5 RA3
    have OP5 := OpAt.same S5 OP3
    have RB5 := RowAt.same S5 RB3
    have OK2 := RB.ok
    have eqq := eqR_row row row2
    refine ⟨_, rfl, _, rfl, p, l, row, rfl, OP5, RA5, fun H6 S6 => ⟨_, rfl, ?_⟩⟩
    refine iteF ?_
    refine ⟨_, rfl, _, rfl, p2, l2, row2, rfl, OpAt.same S6 OP2, RowAt.same S6 RB5, fun H7 S7 => ⟨_, rfl, ?_⟩⟩
    refine iteF ?_
    have S57 : Same H5 H7 := Same.trans S6 S7
    have OP7 := OpAt.same S57 OP5
    have OP27 := OpAt.same S57 OP2
    have RA7 := RowAt.same S57 RA5
    have RB7 := RowAt.same S57 RB5
    obtain ⟨dx, fs, hp7⟩ := ins_of OP7
    obtain ⟨dx2, fs2, hp27⟩ := ins_of OP27
    refine ⟨_, rfl, _, rfl, p, dx, fs, .ref U.C, rfl, hp7, .inr (.inr ⟨_, dx2, fs2, hp27, rfl⟩), self_nf, p, row, _, rfl, OP7, .inl ⟨p2, row2, rfl, OP27, ?_⟩⟩
    refine ⟨_, rfl, _, rfl, rowD row, rowD row2, RowAt.dp RA7, RowAt.dp RB7, row_shaped ROK, row_shaped OK2, rfl, _, rfl, ?_⟩
    rw [dec_vbl, eqq, beq_self_eq_true]
    refine iteF ?_
    refine ⟨_, rfl, _, rfl, p, dx, fs, .ref U.C, rfl, hp7, .inr (.inr ⟨_, dx2, fs2, hp27, rfl⟩), self_nf, p, row, _, rfl, OP7, .inl ⟨p2, row2, rfl, OP27, _, rfl, ?_⟩⟩
    refine ⟨_, rfl, _, rfl, rowD row, rowD row2, RowAt.dp RA7, RowAt.dp RB7, row_shaped ROK, row_shaped OK2, rfl, _, rfl, ?_⟩
    rw [dec_vbl, eqq]
    have enb : ((!PyData.eqv (rowD row) (rowD row2)) == PyData.eqv (rowD row) (rowD row2)) = false := by cases PyData.eqv (rowD row) (rowD row2) <;> rfl
    rw [enb]
    refine iteF ?_
    refine ⟨_, rfl, _, rfl, l, row, rfl, RA7, fun p3 H8 S8 OP3c np3 => ?_⟩
    have OP8 := OpAt.same S8 OP7
    have hp8 := S8 _ _ hp7
    obtain ⟨dx3, fs3, hp38⟩ := ins_of OP3c
    refine ⟨p, dx, fs, .ref U.C, rfl, hp8, .inr (.inr ⟨_, dx3, fs3, hp38, rfl⟩), self_nf, p, row, _, rfl, OP8, .inl ⟨p3, row, rfl, OP3c, ?_⟩⟩
    rw [eqR_self ROK]
    refine ⟨_, rfl, ?_⟩
    refine iteF ?_
    have RA8 := RowAt.same S8 RA7
    obtain ⟨a3, a4, xs, ys, h1, h2, h3, h4, h5⟩ := RA8.at_
    refine ⟨_, rfl, .inl ⟨l, _, 0, _, rfl, rfl, SqL.of h1, rfl, ?_⟩⟩
    refine ⟨_, rfl, l, _, rfl, .inl ⟨SqL.of h1, fun tt htt => ?_⟩⟩
    have S9 := Same.new (o := .tup [.str row.n, .int row.t, .ref a3, .ref a4]) htt
    have eTT := upd_same (H := H8) (a := tt) (o := .tup [.str row.n, .int row.t, .ref a3, .ref a4])
    have OP9 := OpAt.same S9 OP8
    have hp9 := S9 _ _ hp8
    generalize upd H8 tt (.tup [.str row.n, .int row.t, .ref a3, .ref a4]) = H9 at S9 eTT OP9 hp9 ⊢
    refine ⟨_, rfl, p, dx, fs, rfl, hp9, p, row, rfl, OP9, fun H10 S10 => ⟨_, rfl, ?_⟩⟩
    refine ⟨by show 5 ≤ sizeLine; decide, fun q hq => ?_⟩
    have eQ := upd_same (H := H10) (a := q) (o := .lst [.non, .str row.n, .ref tt, .str (opS row), .int 3])
    have S11 : Same H9 (upd H10 q (.lst [.non, .str row.n, .ref tt, .str (opS row), .int 3])) := Same.trans S10 (Same.new hq)
    generalize upd H10 q (.lst [.non, .str row.n, .ref tt, .str (opS row), .int 3]) = H11 at S11 eQ ⊢
    have OP11 := OpAt.same S11 OP9
    have hp11 := S11 _ _ hp9
    have eTT11 := S11 _ _ eTT
    refine ⟨q, rfl, ⟨_, SqL.of eQ⟩, fun D hD => ?_⟩
    refine lc_it (walk_list (K := K) (a := q) (xs := [.non, .str row.n, .ref tt, .str (opS row), .int 3])) (fun i H' => H' D = some (.lst []) ∧ Same H11 H') ⟨upd_same, Same.new hD⟩ (fun i H' _ ⟨_, S⟩ => SqL.of (S _ _ eQ)) ?_ ?_
    · rintro i y Hb Ha hi ⟨eD, S⟩ ⟨rfl, hy⟩
      refine ⟨rfl, ?_⟩
      have oth : Oth K Ha y := by
        have hm := List.mem_of_getElem? hy
        have et := S _ _ eTT11
        simp only [List.mem_cons, List.not_mem_nil, or_false] at hm
        rcases hm with rfl | rfl | rfl | rfl | rfl
        · exact ⟨"NoneType", by simp, rfl, .base .non⟩
        · exact ⟨"str", by simp, rfl, .base (.str _)⟩
        · exact ⟨"tuple", by simp, .inr (.inl ⟨⟨_, SqT.of et⟩, rfl⟩), .base (.tup et)⟩
        · exact ⟨"str", by simp, rfl, .base (.str _)⟩
        · exact ⟨"int", by simp, rfl, .base (.int _)⟩
      obtain ⟨n, hn, td, tx⟩ := oth
      have nf := (U.tin n hn).1
      have OPa := OpAt.same S OP11
      have hpa := S _ _ hp11
      refine ⟨_, rfl, _, rfl, p, dx, fs, .type n, rfl, hpa, td, nf, p, row, _, rfl, OPa, .inr ⟨n, hn, tx, ?_⟩⟩
      refine ⟨_, rfl, ?_⟩
      refine iteF ?_
      refine ⟨_, rfl, _, rfl, p, dx, fs, .type n, rfl, hpa, td, nf, p, row, _, rfl, OPa, .inr ⟨n, hn, tx, _, rfl, ?_⟩⟩
      refine ⟨_, rfl, ?_⟩
      refine iteF ?_
      exact ⟨eD, S⟩
    rintro H12 ⟨eD, S12⟩
    refine ⟨by show 0 ≤ sizeLine; decide, fun e he => ?_⟩
    have S13 := Same.new (o := .lst []) he
    refine ⟨lD [], lD [], .lst (SqL.of (S13 _ _ eD)) .nil, .lst (SqL.of upd_same) .nil, (shaped_prs (ps := []) (fun p hp => by cases hp)).2, (shaped_prs (ps := []) (fun p hp => by cases hp)).2, _, rfl, ?_⟩
    rw [show PyData.eqv (lD []) (lD []) = true by decide +kernel]
    refine iteF ?_
    have SAll : Same H8 (upd H12 e (.lst [])) := Same.trans S9 (Same.trans S11 (Same.trans S12 S13))
    have RA13 := RowAt.same SAll RA8
    have OP13 := OpAt.same SAll OP8
    have RB13 := RowAt.same (Same.trans S8 SAll) RB7
    have R13 : Rl (upd H12 e (.lst [])) r := Same.rl (Same.trans S5 (Same.trans S57 (Same.trans S8 SAll))) R4
    have O13 : Only r H (upd H12 e (.lst [])) := fun c o n e => SAll _ _ (S8 _ _ (S57 _ _ (S5 _ _ (O4 _ _ n e))))
    generalize upd H12 e (.lst []) = G at RA13 OP13 RB13 R13 O13 ⊢
    refine fun a ha => ?_
    refine ⟨upd_same, kvQ QS, rfl, by decide, ?_⟩
    rw [merge_qs, upd_upd]
    have T1 := Same.new (o := .dK (kvQ QS)) ha
    have eA := upd_same (H := G) (a := a) (o := .dK (kvQ QS))
    have RA14 := RowAt.same T1 RA13
    have OP14 := OpAt.same T1 OP13
    have RB14 := RowAt.same T1 RB13
    have O14 : Only r H (upd G a (.dK (kvQ QS))) := fun c o n e => T1 _ _ (O13 _ _ n e)
    generalize upd G a (.dK (kvQ QS)) = G1 at eA RA14 OP14 RB14 O14 ⊢
    obtain ⟨a3, a4, xs, ys, h1, h2, h3, h4, h5⟩ := RA14.at_
    refine ⟨_, rfl, _, rfl, .inl ⟨l, _, 0, _, rfl, rfl, SqL.of h1, rfl, a, _, rfl, get_qs eA inN.1, ?_⟩⟩
    refine ⟨_, rfl, .inl ⟨l, _, 1, _, rfl, rfl, SqL.of h1, rfl, ?_⟩⟩
    refine ⟨_, rfl, .inl ⟨l, _, 2, _, rfl, rfl, SqL.of h1, rfl, a3, rfl, ⟨_, SqL.of h2⟩, fun D hD => ?_⟩⟩
    refine lc_it walk_list (fun i H' => (∃ acc, H' D = some (.lst acc) ∧ DpAll K H' acc ((row.rs.take i).map fun p => pD (gT p.1, p.2)) ∧ acc.length = i) ∧ Same G1 H') ⟨⟨[], upd_same, .nil, rfl⟩, Same.new hD⟩ (fun i H' _ ⟨_, S⟩ => SqL.of (S _ _ h2)) ?_ ?_
    · rintro i y Hb Ha hi ⟨⟨acc, eD, da, la⟩, S⟩ ⟨rfl, hy⟩
      obtain ⟨p9, b, e9, rfl, ht9⟩ := dpa_pairs (dpa_same S _ _ h4) hy
      refine ⟨b, _, rfl, ht9, rfl, _, _, rfl, _, _, rfl, rfl, ?_⟩
      refine ⟨rfl, ?_⟩
      unfold tYes
      dsimp only
      rw [if_pos rfl]
      refine ⟨_, rfl, _, rfl, a, _, rfl, get_qs (S _ _ eA) (inN.2 p9 (List.mem_of_getElem? e9)), ?_⟩
      refine ⟨_, rfl, by show 2 ≤ sizeLine; decide, fun t9 ht => ?_⟩
      have nt : t9 ≠ D := fun z => by rw [z, eD] at ht; cases ht
      have hi9 : i < row.rs.length := (List.getElem?_eq_some_iff.mp e9).1
      have := ROK.rl
      refine ⟨acc, (upd_ne nt.symm).trans eD, by rw [sizeLine_eq]; omega, ⟨_, upd_same, ?_, by rw [List.length_append, la]; rfl⟩, Same.at hD (Same.trans S (Same.new ht))⟩
      rw [List.take_add_one, e9, List.map_append]
      have dm : DpAll K Ha acc (((row.rs.take i).map fun p => (gT p.1, p.2)).map pD) := by rw [List.map_map]; exact da
      have dm2 := dpa_nol2 (o1 := .tup [.str (gT p9.1), .int p9.2]) (o2 := .lst (acc ++ [.ref t9])) ht eD dm
      rw [List.map_map] at dm2
      refine pairs_app dm2 (.cons (.tup (SqT.of ?_) (.cons (.str _) (.cons (.int _) .nil))) .nil)
      rw [upd_ne nt, upd_same]
    rintro G2 ⟨⟨acc, eD, da, la⟩, S2'⟩
    have ln := dpa_len h4
    rw [List.length_map] at ln
    rw [← ln, List.take_length] at da
    refine ⟨_, rfl, .inl ⟨l, _, 3, _, rfl, rfl, SqL.of (S2' _ _ h1), rfl, ?_⟩⟩
    refine ⟨by show 4 ≤ sizeLine; decide, fun u hu' => ?_⟩
    have T2 := Same.new (o := .lst [.str (gT row.n), .int row.t, .ref D, .ref a4]) hu'
    have T12 := Same.trans S2' T2
    have RD : RowAt K (upd G2 u (.lst [.str (gT row.n), .int row.t, .ref D, .ref a4])) u (renR gT row) := by
      refine ⟨gT_ok ROK inN, D, a4, acc, ys, upd_same, T2 _ _ eD, T12 _ _ h3, ?_, dpa_same T12 _ _ h5⟩
      have q := dpa_same T2 _ _ da
      show DpAll K _ acc ((row.rs.map fun p => (gT p.1, p.2)).map pD)
      rw [List.map_map]
      exact q
    have eA3 := T12 _ _ eA
    have RA15 := RowAt.same T12 RA14
    have OP15 := OpAt.same T12 OP14
    have RB15 := RowAt.same T12 RB14
    have O15 : Only r H (upd G2 u (.lst [.str (gT row.n), .int row.t, .ref D, .ref a4])) := fun c o n e => T12 _ _ (O14 _ _ n e)
    generalize upd G2 u (.lst [.str (gT row.n), .int row.t, .ref D, .ref a4]) = G3 at RD eA3 RA15 OP15 RB15 O15 ⊢
    obtain ⟨_, dy, y3, y4, hpy, _⟩ := id OP15
    refine ⟨_, rfl, p, dy, _, rfl, hpy, rfl, _, rfl, p, row, a, QS, gT, rfl, OP15, eA3, by decide, qs_dp, by decide +kernel, (gT_val _ inN.1).1, fun q hq => (gT_val _ (inN.2 q hq)).1, gT_ok ROK inN, fun p4 G4 S4' OP4 => ?_⟩
    refine ⟨_, rfl, p4, u, renR gT row, rfl, OP4, RowAt.same S4' RD, fun G5 S5' => ⟨_, rfl, ?_⟩⟩
    refine iteF ?_
    have SZ := Same.trans S4' S5'
    have RA16 := RowAt.same SZ RA15
    have RB16 := RowAt.same SZ RB15
    have OP16 := OpAt.same SZ OP15
    have eA4 := SZ _ _ eA3
    have O16 : Only r H G5 := fun c o n e => SZ _ _ (O15 _ _ n e)
    obtain ⟨_, dz, z3, z4, hpz, _⟩ := id OP16
    obtain ⟨c3, c4, us, vs, k1, k2, k3, k4, k5⟩ := RB16.at_
    refine ⟨_, rfl, p, dz, _, rfl, hpz, rfl, _, rfl, .inl ⟨l2, _, 1, _, rfl, rfl, SqL.of k1, rfl, p, row, row2.t, rfl, OP16, OK2.t.1, OK2.t.2, fun p5 G6 S6' OP5' => ?_⟩⟩
    have RA17 := RowAt.same S6' RA16
    obtain ⟨m3, m4, us', vs', j1, j2, j3, j4, j5⟩ := RA17.at_
    refine ⟨_, rfl, .inl ⟨l, _, 0, _, rfl, rfl, SqL.of j1, rfl, _, rfl, .inl ⟨l2, _, 1, _, rfl, rfl, SqL.of (S6' _ _ k1), rfl, ?_⟩⟩⟩
    refine ⟨by show 2 ≤ sizeLine; decide, fun e1 he1 => ?_⟩
    have Q1 := Same.new (o := .lst [.str row.n, .int row2.t]) he1
    have eE1 := upd_same (H := G6) (a := e1) (o := .lst [.str row.n, .int row2.t])
    refine ⟨_, rfl, 2, rfl, l, _, rfl, SqL.of (Q1 _ _ j1), fun e2 he2 => ?_⟩
    have ecut : cutV [.str row.n, .int row.t, .ref m3, .ref m4] (some 2) none = [.ref m3, .ref m4] := rfl
    rw [ecut]
    have Q2 := Same.new (o := .lst [.ref m3, .ref m4]) he2
    have eE2 := upd_same (H := upd G6 e1 (.lst [.str row.n, .int row2.t])) (a := e2) (o := .lst [.ref m3, .ref m4])
    refine ⟨e1, e2, _, _, rfl, rfl, Q2 _ _ eE1, eE2, by show 4 ≤ sizeLine; decide, fun e3 he3 => ?_⟩
    have Q3 := Same.new (o := .lst ([.str row.n, .int row2.t] ++ [.ref m3, .ref m4])) he3
    have Q13 := Same.trans Q1 (Same.trans Q2 Q3)
    refine ⟨p5, e3, { row with t := row2.t }, rfl, OpAt.same Q13 OP5', ⟨{ ROK with t := OK2.t }, m3, m4, us', vs', upd_same, Q13 _ _ j2, Q13 _ _ j3, dpa_same Q13 _ _ j4, dpa_same Q13 _ _ j5⟩, fun G7 S7' => ⟨_, rfl, ?_⟩⟩
    refine iteF ?_
    have SY := Same.trans S6' (Same.trans Q13 S7')
    refine ⟨_, rfl, _, rfl, p, l, row, rfl, OpAt.same SY OP16, RowAt.same SY RA16, fun G8 S8' => ⟨_, rfl, iteT ?_⟩⟩
    have SX := Same.trans SY S8'
    have esum : gT (Str.ofString "sum") = Str.ofString "a" := by decide +kernel
    refine ⟨_, rfl, a, _, rfl, get_qs (SX _ _ eA4) (by decide +kernel), rfl, _, rfl, ?_⟩
    rw [esum]
    refine iteT ?_
    refine ⟨_, rfl, a, _, rfl, SX _ _ eA4, rfl, ?_⟩
    exact k _ fun c o n e => SX _ _ (O16 _ _ n e)
end
end K06
set_option maxHeartbeats 4000000
namespace K06
open PySem L2
theorem srt_1 : KS.Srt [Str.ofString "add", Str.ofString "add"] [Str.ofString "add"] := ⟨by decide +kernel, fun z => by simp⟩
theorem srt_2 : KS.Srt [Str.ofString "sum", Str.ofString "item"] [Str.ofString "item", Str.ofString "sum"] := ⟨by decide +kernel, fun z => by
  simp only [List.mem_cons, List.not_mem_nil, or_false]
  exact Or.comm⟩
def bareR : Rw := ⟨Str.ofString "a", 1, [], []⟩
def fullR : Rw := ⟨Str.ofString "sum", 2, [(Str.ofString "sum", 1), (Str.ofString "item", 0)], [(Str.ofString "add", 0), (Str.ofString "add", 1)]⟩
theorem bare_ok : bareR.Ok := ⟨by decide +kernel, by decide, by decide, by decide, (fun p hp => by cases hp), (fun p hp => by cases hp), List.Pairwise.nil⟩
theorem full_okR : fullR.Ok := ⟨by decide +kernel, by decide, by decide, by decide, by decide +kernel, by decide +kernel, by
  unfold Asc fullR
  refine List.pairwise_cons.mpr ⟨fun q hq => ?_, List.pairwise_cons.mpr ⟨(fun q hq => by cases hq), List.Pairwise.nil⟩⟩
  obtain rfl := List.mem_singleton.mp hq
  rw [dataLt_si]
  decide +kernel⟩
section
variable {P : Program} {w : World} {K : PySem.W.Frag}
                                                      {mg : Str → Option Value} {base : Heap}
def sp_law (K : PySem.W.Frag) : Sp := fun vs H Q _ => ∃ (a : Addr) (ns : List Int), vs = [.ref a] ∧ SqL K H a (ns.map V.int) ∧ ns.length ≤ 63 ∧ ∀ H', Q (.bl true) H'
theorem ok_law (T : T K mg) (U : UX K mg) : FnOk P w K mg base CX0 13 T.f_law T.d_law ["script"] (sp_law K) := by
  have G_cell : FnOk P w K mg base CX0 12 T.f_w_cell_right T.d_w_cell_right ["reel"] (sp_w_cell_right K) := ok_w_cell_right T U
  have G_w_reel : FnOk P w K mg base CX0 1 T.f_w_reel T.d_w_reel ["script", "at"] (sp_w_reel K) := ok_w_reel T
  have G_init : FnOk P w K mg base CX0 5 U.fI U.dI ["self", "name", "ticks", "reads", "uses"] (sp_init K U.C) := ok_init T U
  have G2 : FnOk P w K mg base CX0 1 U.pt.g U.pt.d ["self"] (getSp U.C "_ticks") := ok_get U.cl U.pt sc_Operation_ticks U.n2 ⟨_, _, _, rfl⟩
  have G3 : FnOk P w K mg base CX0 1 U.pr.g U.pr.d ["self"] (getSp U.C "_reads") := ok_get U.cl U.pr sc_Operation_reads U.n3 ⟨_, _, _, rfl⟩
  have G4 : FnOk P w K mg base CX0 1 U.pu.g U.pu.d ["self"] (getSp U.C "_uses") := ok_get U.cl U.pu sc_Operation_uses U.n4 ⟨_, _, _, rfl⟩
  have G5 : FnOk P w K mg base CX0 3 U.prn.g U.prn.d ["self"] (sp_fst K U.C Rw.rs) := ok_read_names T U
  have G6 : FnOk P w K mg base CX0 3 U.pun.g U.pun.d ["self"] (sp_fst K U.C Rw.us) := ok_units T U
  have G7 : FnOk P w K mg base CX0 3 U.ms.f U.ms.d ["self"] (sp_str K U.C) := ok_str T U
  obtain ⟨mva, hba⟩ := kb_all U
  obtain ⟨ds, hds, hbn⟩ := b_none U
  refine T.F_law.ok sc_law (fun vs H Q E h => ?_) (fun cdv A outer s H vs Q E hr h => ?_)
  · obtain ⟨a, ns, rfl, _⟩ := h
    rfl
  · obtain ⟨a, ns, rfl, hS, hlen, k⟩ := h
    have hu := hu_of hr
    have hr_w_reel : Room 1 _ := hr.mono (by decide)
    refine ⟨_, (pss_cons (ps_for PassesOwn.never rfl (pi_range1 (by rfl) T.z_range (pa_cons (pe_callB (call_max2 rfl) (by rfl) T.z_max (by decide +kernel) (pa_cons pe_int (pa_cons (pe_callB (call_min2 rfl) (by rfl) T.z_min (by decide +kernel) (pa_cons pe_int (pa_cons (pe_callB call_len (by rfl) T.z_len (by decide +kernel) (pa_cons (pv 0) pa_nil)) pa_nil))) pa_nil))) pa_nil)) (pg_name (i := 1) sc_law.nd rfl (Or.inl rfl))
      (pss_one (ps_if (pt_not (pt_val (pe_call G_cell hr rfl T.m_w_cell_right T.F_w_cell_right.kp T.b_w_cell_right .nil pass0 (pa_cons (pe_call G_w_reel hr_w_reel rfl T.m_w_reel T.F_w_reel.kp T.b_w_reel .nil pass0 (pa_cons (pv 0) (pa_cons (pv 1) pa_nil))) pa_nil))))
      (pss_one (ps_ret pe_bl))
      pss_nil)))
      (pss_cons (ps_par (i := 2) (j := 3) (by rfl) sc_law.nd rfl rfl (by decide) rfl rfl (pa_cons (pe_make U.mkI G_init (hr.mono (by decide)) rfl U.mC hbn hds pass0 (pa_cons pe_str pa_nil)) (pa_cons (pe_tup (pa_cons (pe_tup (pa_cons pe_str (pa_cons pe_int pa_nil))) (pa_cons (pe_tup (pa_cons pe_str (pa_cons pe_int pa_nil))) pa_nil))) pa_nil)) (by rfl))
      (pss_cons (ps_set (i := 4) sc_law.nd rfl (Or.inl rfl) (pe_makeK U.mkI G_init (hr.mono (by decide)) rfl U.mC hba pass0 (pa_cons pe_str pa_nil) (pk_cons pe_int (pk_cons (pe_tup (pa_cons (pe_tup (pa_cons pe_str (pa_cons pe_int pa_nil))) (pa_cons (pe_tup (pa_cons pe_str (pa_cons pe_int pa_nil))) pa_nil))) (pk_cons (pv 3) pk_nil)))))
      (pss_cons (ps_set (i := 5) sc_law.nd rfl (Or.inl rfl) (pe_lst (pa_cons (pe_prop (pv 2) U.cl U.pt.pr G2 (hr.mono (by decide)) U.pt.b .nil pass0 rfl) (pa_cons (pe_prop (pv 2) U.cl U.pr.pr G3 (hr.mono (by decide)) U.pr.b .nil pass0 rfl) (pa_cons (pe_prop (pv 2) U.cl U.pu.pr G4 (hr.mono (by decide)) U.pu.b .nil pass0 rfl) (pa_cons (pe_callTy (OW.cr_ownStr G7 ⟨U.ms.m.at_, U.ms.m.fn⟩ (hr.mono (by decide)) U.ms.b pass0) (by rfl) T.z_str (by decide +kernel) (pa_cons (pv 2) pa_nil)) (pa_cons (pe_callTy (OW.cr_ownStr G7 ⟨U.ms.m.at_, U.ms.m.fn⟩ (hr.mono (by decide)) U.ms.b pass0) (by rfl) T.z_str (by decide +kernel) (pa_cons (pv 4) pa_nil)) (pa_cons (pe_prop (pv 4) U.cl U.pun.pr G6 (hr.mono (by decide)) U.pun.b .nil pass0 rfl) (pa_cons (pe_prop (pv 4) U.cl U.prn.pr G5 (hr.mono (by decide)) U.prn.b .nil pass0 rfl) pa_nil)))))))))
      (pss_cons (ps_set (i := 6) sc_law.nd rfl (Or.inl rfl) (pe_lst (pa_cons pe_int (pa_cons (pe_tup pa_nil) (pa_cons (pe_tup pa_nil) (pa_cons pe_str (pa_cons pe_str (pa_cons (pe_tup (pa_cons pe_str pa_nil)) (pa_cons (pe_tup (pa_cons pe_str (pa_cons pe_str pa_nil))) pa_nil)))))))))
      (pss_one (ps_ret (pe_cmpR (op_eqD (un64 hr)) (pv 5) (pv 6) (nomark _))))))))), ?_⟩
    refine ⟨_, rfl, _, _, rfl, .inl ⟨_, hS, rfl⟩, _, _, rfl, _, _, rfl, ?_⟩
    have hb := cells_n (ns.map V.int).length 8
    refine ⟨_, rfl, Int.le_trans (by decide) hb.2, Int.lt_of_le_of_lt hb.1 (by decide), ?_⟩
    refine for_range (fun i σ H' => ∃ v, σ = [some (.ref a), v, none, none, none, none, none] ∧ SqL K H' a (ns.map V.int)) ⟨none, rfl, hS⟩ ?_ ?_
    · rintro i σ H' hi ⟨v, rfl, hS'⟩
      refine ⟨_, rfl, _, rfl, a, ns, i, congrArg (fun z => [V.ref a, V.int z]) (Int.zero_add _), hS', fun p x y z hp => ?_⟩
      refine ⟨p, rfl, ⟨x, y, z, upd_same⟩, fun H2 O2 => ⟨_, rfl, iteF ?_⟩⟩
      refine ⟨_, rfl, ?_⟩
      rcases hS' with (h | ⟨u, h⟩) | h
      · exact .inl (.inl (O2 _ _ (ne_of_none h hp) ((upd_ne (ne_of_none h hp)).trans h)))
      · exact .inl (.inr ⟨u, O2 _ _ (ne_of_none h hp) ((upd_ne (ne_of_none h hp)).trans h)⟩)
      · exact .inr h
    · rintro σ H' ⟨v, rfl, hS'⟩
      refine fun q dq hq hdq ne => ?_
      have SA0 : Same H' (upd (upd H' dq (.own q)) q (.ins U.C dq [])) := fun b o e => by
        rw [upd_ne (ne_of_none e hq), upd_ne (ne_of_none e hdq)]
        exact e
      refine ⟨q, dq, .ref U.r0, .ref U.u0, bareR, rfl, bare_ok, upd_same, .tup U.nr.seqT .nil, .tup U.nu.seqT .nil, fun H1 S1 => ⟨rfl, ?_⟩⟩
      have SA : Same H' (upd H1 q (.ins U.C dq (opF (.str bareR.n) (.int bareR.t) (.ref U.r0) (.ref U.u0)))) := Same.at hq (Same.trans SA0 S1)
      have OB : OpAt K (upd H1 q (.ins U.C dq (opF (.str bareR.n) (.int bareR.t) (.ref U.r0) (.ref U.u0)))) U.C q bareR := ⟨bare_ok, dq, _, _, upd_same, .tup U.nr.seqT .nil, .tup U.nu.seqT .nil⟩
      generalize upd H1 q (.ins U.C dq (opF (.str bareR.n) (.int bareR.t) (.ref U.r0) (.ref U.u0))) = Ha at SA OB ⊢
      refine ⟨by show 2 ≤ sizeLine; decide, fun t1 ht1 => ?_⟩
      refine ⟨by show 2 ≤ sizeLine; decide, fun t2 ht2 => ?_⟩
      refine ⟨by show 2 ≤ sizeLine; decide, fun t3 ht3 => ?_⟩
      have A1 := Same.new (o := .tup [.str (Str.ofString "add"), .int 0]) ht1
      have A2 := Same.new (o := .tup [.str (Str.ofString "add"), .int 1]) ht2
      have A3 := Same.new (o := .tup [.ref t1, .ref t2]) ht3
      have DU : Dp K (upd (upd (upd Ha t1 (.tup [.str (Str.ofString "add"), .int 0])) t2 (.tup [.str (Str.ofString "add"), .int 1])) t3 (.tup [.ref t1, .ref t2])) (.ref t3) (tD fullR.us) :=
        .tup (SqT.of upd_same) (.cons (.tup (SqT.of (A3 _ _ (A2 _ _ upd_same))) (.cons (.str _) (.cons (.int _) .nil))) (.cons (.tup (SqT.of (A3 _ _ upd_same)) (.cons (.str _) (.cons (.int _) .nil))) .nil))
      have OB2 := OpAt.same (Same.trans A1 (Same.trans A2 A3)) OB
      generalize upd (upd (upd Ha t1 (.tup [.str (Str.ofString "add"), .int 0])) t2 (.tup [.str (Str.ofString "add"), .int 1])) t3 (.tup [.ref t1, .ref t2]) = Hb at DU OB2 ⊢
      refine ⟨_, _, rfl, ?_⟩
      refine ⟨by show 2 ≤ sizeLine; decide, fun u1 hu1 => ?_⟩
      refine ⟨by show 2 ≤ sizeLine; decide, fun u2 hu2 => ?_⟩
      refine ⟨by show 2 ≤ sizeLine; decide, fun u3 hu3 => ?_⟩
      have B1 := Same.new (o := .tup [.str (Str.ofString "sum"), .int 1]) hu1
      have B2 := Same.new (o := .tup [.str (Str.ofString "item"), .int 0]) hu2
      have B3 := Same.new (o := .tup [.ref u1, .ref u2]) hu3
      have DR : Dp K (upd (upd (upd Hb u1 (.tup [.str (Str.ofString "sum"), .int 1])) u2 (.tup [.str (Str.ofString "item"), .int 0])) u3 (.tup [.ref u1, .ref u2])) (.ref u3) (tD fullR.rs) :=
        .tup (SqT.of upd_same) (.cons (.tup (SqT.of (B3 _ _ (B2 _ _ upd_same))) (.cons (.str _) (.cons (.int _) .nil))) (.cons (.tup (SqT.of (B3 _ _ upd_same)) (.cons (.str _) (.cons (.int _) .nil))) .nil))
      have SB := Same.trans B1 (Same.trans B2 B3)
      have OB3 := OpAt.same SB OB2
      have DU3 := dp_same SB _ _ DU
      generalize upd (upd (upd Hb u1 (.tup [.str (Str.ofString "sum"), .int 1])) u2 (.tup [.str (Str.ofString "item"), .int 0])) u3 (.tup [.ref u1, .ref u2]) = Hc at DR OB3 DU3 ⊢
      refine ⟨_, rfl, rfl, rfl, fun q2 dq2 hq2 hdq2 ne2 => ?_⟩
      have SC0 : Same Hc (upd (upd Hc dq2 (.own q2)) q2 (.ins U.C dq2 [])) := fun b o e => by
        rw [upd_ne (ne_of_none e hq2), upd_ne (ne_of_none e hdq2)]
        exact e
      refine ⟨q2, dq2, .ref u3, .ref t3, fullR, rfl, full_okR, upd_same, dp_same SC0 _ _ DR, dp_same SC0 _ _ DU3, fun H2 S2 => ⟨rfl, ?_⟩⟩
      have SC : Same Hc (upd H2 q2 (.ins U.C dq2 (opF (.str fullR.n) (.int fullR.t) (.ref u3) (.ref t3)))) := Same.at hq2 (Same.trans SC0 S2)
      have OF : OpAt K (upd H2 q2 (.ins U.C dq2 (opF (.str fullR.n) (.int fullR.t) (.ref u3) (.ref t3)))) U.C q2 fullR := ⟨full_okR, dq2, _, _, upd_same, dp_same SC _ _ DR, dp_same SC _ _ DU3⟩
      have OB4 := OpAt.same SC OB3
      generalize upd H2 q2 (.ins U.C dq2 (opF (.str fullR.n) (.int fullR.t) (.ref u3) (.ref t3))) = G at OF OB4 ⊢
      obtain ⟨_, dx, x3, x4, hp, d3, d4⟩ := id OB4
      refine ⟨_, rfl, q, dx, _, rfl, hp, q, dx, _, _, rfl, hp, rfl, _, rfl, q, dx, _, rfl, hp, q, dx, _, _, rfl, hp, rfl, _, rfl, q, dx, _, rfl, hp, q, dx, _, _, rfl, hp, rfl, ?_⟩
      refine ⟨_, rfl, q, dx, _, rfl, hp, q, bareR, rfl, OB4, fun G1 T1 => ⟨_, rfl, ?_⟩⟩
      have OF1 := OpAt.same T1 OF
      obtain ⟨_, ex, w3, w4, hw, _⟩ := id OF1
      refine ⟨_, rfl, q2, ex, _, rfl, hw, q2, fullR, rfl, OF1, fun G2 T2 => ⟨_, rfl, ?_⟩⟩
      have OF2 := OpAt.same T2 OF1
      refine ⟨_, rfl, q2, ex, _, rfl, T2 _ _ hw, q2, fullR, rfl, OF2, fun ys1 l1 G3 srt1 T3 sq1 => ?_⟩
      have OF3 := OpAt.same T3 OF2
      refine ⟨_, rfl, q2, ex, _, rfl, T3 _ _ (T2 _ _ hw), q2, fullR, rfl, OF3, fun ys2 l2 G4 srt2 T4 sq2 => ?_⟩
      refine ⟨by show 7 ≤ sizeLine; decide, fun f hf => ?_⟩
      have T5 := Same.new (o := .lst [.int bareR.t, x3, x4, .str (opS bareR), .str (opS fullR), .ref l1, .ref l2]) hf
      have T05 := Same.trans T1 (Same.trans T2 (Same.trans T3 (Same.trans T4 T5)))
      have y1 := KS.Srt.eq srt1 srt_1
      have y2 := KS.Srt.eq srt2 srt_2
      have s1 : opS bareR = Str.ofString "a 1" := by decide +kernel
      have s2 : opS fullR = Str.ofString "sum 2 reads sum 1, item 0 uses add 0, add 1" := by decide +kernel
      have DL : Dp K (upd G4 f (.lst [.int bareR.t, x3, x4, .str (opS bareR), .str (opS fullR), .ref l1, .ref l2])) (.ref f) (.list [.int 1, .tuple [], .tuple [], .str (Str.ofString "a 1"), .str (Str.ofString "sum 2 reads sum 1, item 0 uses add 0, add 1"), .tuple [.str (Str.ofString "add")], .tuple [.str (Str.ofString "item"), .str (Str.ofString "sum")]]) := by
        refine .lst (SqL.of upd_same) (.cons (.int _) (.cons (dp_same T05 _ _ d3) (.cons (dp_same T05 _ _ d4) (.cons ?_ (.cons ?_ (.cons (.tup (Same.seqT (Same.trans T4 T5) sq1) ?_) (.cons (.tup (Same.seqT T5 sq2) ?_) .nil)))))))
        · rw [s1]
          exact .str _
        · rw [s2]
          exact .str _
        · rw [y1]
          exact .cons (.str _) .nil
        · rw [y2]
          exact .cons (.str _) (.cons (.str _) .nil)
      generalize upd G4 f (.lst [.int bareR.t, x3, x4, .str (opS bareR), .str (opS fullR), .ref l1, .ref l2]) = G5 at DL ⊢
      refine ⟨by show 0 ≤ sizeLine; decide, fun e1 he1 => ⟨by show 0 ≤ sizeLine; decide, fun e2 he2 => ?_⟩⟩
      refine ⟨by show 1 ≤ sizeLine; decide, fun e3 he3 => ⟨by show 2 ≤ sizeLine; decide, fun e4 he4 => ⟨by show 7 ≤ sizeLine; decide, fun e5 he5 => ?_⟩⟩⟩
      have C1 := Same.new (o := .tup []) he1
      have C2 := Same.new (o := .tup []) he2
      have C3 := Same.new (o := .tup [.str (Str.ofString "add")]) he3
      have C4 := Same.new (o := .tup [.str (Str.ofString "item"), .str (Str.ofString "sum")]) he4
      have C5 := Same.new (o := .lst [.int 1, .ref e1, .ref e2, .str (Str.ofString "a 1"), .str (Str.ofString "sum 2 reads sum 1, item 0 uses add 0, add 1"), .ref e3, .ref e4]) he5
      have C15 := Same.trans C1 (Same.trans C2 (Same.trans C3 (Same.trans C4 C5)))
      refine ⟨_, rfl, _, rfl, _, _, dp_same C15 _ _ DL, .lst (SqL.of upd_same) (.cons (.int _) (.cons (.tup (SqT.of (C5 _ _ (C4 _ _ (C3 _ _ (C2 _ _ upd_same))))) .nil) (.cons (.tup (SqT.of (C5 _ _ (C4 _ _ (C3 _ _ upd_same)))) .nil) (.cons (.str _) (.cons (.str _) (.cons (.tup (SqT.of (C5 _ _ (C4 _ _ upd_same))) (.cons (.str _) .nil)) (.cons (.tup (SqT.of (C5 _ _ upd_same)) (.cons (.str _) (.cons (.str _) .nil))) .nil))))))), by decide +kernel, by decide +kernel, ?_⟩
      rw [eqv_self (by decide +kernel)]
      exact k _
end
end K06
namespace K06
open PySem L2
theorem sub_NoneType {K : PySem.W.Frag} {C : Addr} : PySem.W.subIn K (.type "NoneType") (.ref C) = some false := by
  have e : PySem.fastBuiltinMro "NoneType" = some [.type "NoneType", .type "object"] := by decide +kernel
  show (PySem.fastBuiltinMro "NoneType").map (·.contains (.ref C)) = some false
  rw [e]
  first
    | rfl
    | simp
theorem sub_bool {K : PySem.W.Frag} {C : Addr} : PySem.W.subIn K (.type "bool") (.ref C) = some false := by
  have e : PySem.fastBuiltinMro "bool" = some [.type "bool", .type "int", .type "object"] := by decide +kernel
  show (PySem.fastBuiltinMro "bool").map (·.contains (.ref C)) = some false
  rw [e]
  first
    | rfl
    | simp
theorem sub_int {K : PySem.W.Frag} {C : Addr} : PySem.W.subIn K (.type "int") (.ref C) = some false := by
  have e : PySem.fastBuiltinMro "int" = some [.type "int", .type "object"] := by decide +kernel
  show (PySem.fastBuiltinMro "int").map (·.contains (.ref C)) = some false
  rw [e]
  first
    | rfl
    | simp
theorem sub_str {K : PySem.W.Frag} {C : Addr} : PySem.W.subIn K (.type "str") (.ref C) = some false := by
  have e : PySem.fastBuiltinMro "str" = some [.type "str", .type "object"] := by decide +kernel
  show (PySem.fastBuiltinMro "str").map (·.contains (.ref C)) = some false
  rw [e]
  first
    | rfl
    | simp
theorem sub_list {K : PySem.W.Frag} {C : Addr} : PySem.W.subIn K (.type "list") (.ref C) = some false := by
  have e : PySem.fastBuiltinMro "list" = some [.type "list", .type "object"] := by decide +kernel
  show (PySem.fastBuiltinMro "list").map (·.contains (.ref C)) = some false
  rw [e]
  first
    | rfl
    | simp
theorem sub_tuple {K : PySem.W.Frag} {C : Addr} : PySem.W.subIn K (.type "tuple") (.ref C) = some false := by
  have e : PySem.fastBuiltinMro "tuple" = some [.type "tuple", .type "object"] := by decide +kernel
  show (PySem.fastBuiltinMro "tuple").map (·.contains (.ref C)) = some false
  rw [e]
  first
    | rfl
    | simp
theorem tin_of {K : PySem.W.Frag} {C : Addr} {v : Value} (s : PySem.W.subIn K v (.ref C) = some false) (hv : (v == .ref C) = false) (g : PySem.W.isClsIn K C = true) (t : PySem.W.typeIn K (.ref C) = some (.type "type")) : PySem.W.notFirst K C v = true ∧ PySem.W.kitOne K v (.ref C) = some false := by
  refine ⟨?_, ?_⟩
  · unfold PySem.W.notFirst
    rw [s, hv]
    rfl
  · have h5 : (PySem.W.clsIn K C).isSome = true := g
    unfold PySem.W.kitOne PySem.W.kitCls
    rw [hv]
    dsimp only
    rw [h5, t, s]
    rfl
theorem mk_U {K : PySem.W.Frag} {h : Heap} {mg : Str → Option Value} (X : K.In h) (G : h.Ns mainGlobals mg)
    {C fI r0 u0 DI : Addr} {ocI dcI pmI cdI ctI : Value} {odI anI : Option Addr} {slI : Array (Option Value)} {tk : Tok} {odxE : Option Addr} {nxE : Nat} {slxE : Array (Option Value)} {odxG : Option Addr} {nxG : Nat} {slxG : Array (Option Value)} {pP1a fP1 : Addr} {restP1 : List Value} {ocP1 kVP1 dcP1 pmP1 cdP1 ctP1 : Value} {odP1 anP1 : Option Addr} {slP1 : Array (Option Value)} {pP2a fP2 : Addr} {restP2 : List Value} {ocP2 kVP2 dcP2 pmP2 cdP2 ctP2 : Value} {odP2 anP2 : Option Addr} {slP2 : Array (Option Value)} {pP3a fP3 : Addr} {restP3 : List Value} {ocP3 kVP3 dcP3 pmP3 cdP3 ctP3 : Value} {odP3 anP3 : Option Addr} {slP3 : Array (Option Value)} {pP4a fP4 : Addr} {restP4 : List Value} {ocP4 kVP4 dcP4 pmP4 cdP4 ctP4 : Value} {odP4 anP4 : Option Addr} {slP4 : Array (Option Value)} {pP5a fP5 : Addr} {restP5 : List Value} {ocP5 kVP5 dcP5 pmP5 cdP5 ctP5 : Value} {odP5 anP5 : Option Addr} {slP5 : Array (Option Value)} {pP6a fP6 : Addr} {restP6 : List Value} {ocP6 kVP6 dcP6 pmP6 cdP6 ctP6 : Value} {odP6 anP6 : Option Addr} {slP6 : Array (Option Value)} {fN : Addr} {ocN kVN dcN pmN cdN ctN : Value} {odN anN : Option Addr} {slN : Array (Option Value)} {fW : Addr} {ocW kVW dcW pmW cdW ctW : Value} {odW anW : Option Addr} {slW : Array (Option Value)} {fQ : Addr} {ocQ kVQ dcQ pmQ cdQ ctQ : Value} {odQ anQ : Option Addr} {slQ : Array (Option Value)} {fS : Addr} {ocS kVS dcS pmS cdS ctS : Value} {odS anS : Option Addr} {slS : Array (Option Value)}
    (aC : PySem.W.nsIn K mainGlobals "Operation" = some (some (.ref C)))
    (c1 : PySem.W.plainGet K C Str.empty = true)
    (c2 : PySem.W.hasDictIn K C = true)
    (c3 : PySem.W.plainOver K C = true)
    (c4 : PySem.W.findIn K (.ref C) "__setattr__" = some (some (.builtin "object.__setattr__")))
    (c5 : PySem.W.makesIn K C = true)
    (c6 : PySem.W.findIn K (.ref C) "__init__" = some (some (.ref fI)))
    (c7 : PySem.W.isFn K (.ref fI) = true)
    (c8 : PySem.W.keepIn K (.ref C) = true)
    (lI : K.lookup fI = some ⟨ocI, odI, .func (PySem.W.fnOf "__init__" "Operation.__init__" (defArgs s_Operation_init) (defBody s_Operation_init) (defScope s_Operation_init) .none (.ref DI) dcI pmI anI cdI ctI), slI⟩)
    (kI : PySem.W.codeIn K cdI "Operation.__init__" = true)
    (pI : PySem.W.keepIn K (.ref fI) = true)
    (w1 : PySem.W.nsIn K DI "ticks" = some (some (.int 1 tk)))
    (w2 : PySem.W.nsIn K DI "reads" = some (some (.ref r0)))
    (w3 : PySem.W.nsIn K DI "uses" = some (some (.ref u0)))
    (xE : K.lookup r0 = some ⟨.type "tuple", odxE, .seq #[] nxE, slxE⟩)
    (xG : K.lookup u0 = some ⟨.type "tuple", odxG, .seq #[] nxG, slxG⟩)
    (n1 : PySem.W.findIn K (.ref C) "_name" = some none)
    (n2 : PySem.W.findIn K (.ref C) "_ticks" = some none)
    (n3 : PySem.W.findIn K (.ref C) "_reads" = some none)
    (n4 : PySem.W.findIn K (.ref C) "_uses" = some none)
    (mo : PySem.W.mroIn K C (.type "object") = some true)
    (ne : PySem.W.findIn K (.ref C) "__ne__" = some (some (.builtin "object.__ne__")))
    (ca : PySem.W.findIn K (.ref C) "__class__" = some (some (.builtin "object.__class__")))
    (cg : PySem.W.specialIn K (.builtin "object.__class__") "__get__" = some (some (.builtin "getset_descriptor.__get__")))
    (ct : PySem.W.takesIn K (.builtin "object.__class__") = some true)
    (gC : PySem.W.isClsIn K C = true)
    (tC : PySem.W.typeIn K (.ref C) = some (.type "type"))
    (aP1 : PySem.W.findIn K (.ref C) "name" = some (some (.ref pP1a)))
    (bP1 : PySem.W.specialIn K (.ref pP1a) "__get__" = some (some (.builtin "property.__get__")))
    (tP1 : PySem.W.takesIn K (.ref pP1a) = some true)
    (rP1 : PySem.W.recIn K pP1a "property" = some (.ref fP1 :: restP1))
    (lP1 : K.lookup fP1 = some ⟨ocP1, odP1, .func (PySem.W.fnOf "name" "Operation.name" (defArgs s_Operation_name) (defBody s_Operation_name) (defScope s_Operation_name) .none kVP1 dcP1 pmP1 anP1 cdP1 ctP1), slP1⟩)
    (kP1 : PySem.W.codeIn K cdP1 "Operation.name" = true)
    (pP1 : PySem.W.keepIn K (.ref fP1) = true)
    (aP2 : PySem.W.findIn K (.ref C) "ticks" = some (some (.ref pP2a)))
    (bP2 : PySem.W.specialIn K (.ref pP2a) "__get__" = some (some (.builtin "property.__get__")))
    (tP2 : PySem.W.takesIn K (.ref pP2a) = some true)
    (rP2 : PySem.W.recIn K pP2a "property" = some (.ref fP2 :: restP2))
    (lP2 : K.lookup fP2 = some ⟨ocP2, odP2, .func (PySem.W.fnOf "ticks" "Operation.ticks" (defArgs s_Operation_ticks) (defBody s_Operation_ticks) (defScope s_Operation_ticks) .none kVP2 dcP2 pmP2 anP2 cdP2 ctP2), slP2⟩)
    (kP2 : PySem.W.codeIn K cdP2 "Operation.ticks" = true)
    (pP2 : PySem.W.keepIn K (.ref fP2) = true)
    (aP3 : PySem.W.findIn K (.ref C) "reads" = some (some (.ref pP3a)))
    (bP3 : PySem.W.specialIn K (.ref pP3a) "__get__" = some (some (.builtin "property.__get__")))
    (tP3 : PySem.W.takesIn K (.ref pP3a) = some true)
    (rP3 : PySem.W.recIn K pP3a "property" = some (.ref fP3 :: restP3))
    (lP3 : K.lookup fP3 = some ⟨ocP3, odP3, .func (PySem.W.fnOf "reads" "Operation.reads" (defArgs s_Operation_reads) (defBody s_Operation_reads) (defScope s_Operation_reads) .none kVP3 dcP3 pmP3 anP3 cdP3 ctP3), slP3⟩)
    (kP3 : PySem.W.codeIn K cdP3 "Operation.reads" = true)
    (pP3 : PySem.W.keepIn K (.ref fP3) = true)
    (aP4 : PySem.W.findIn K (.ref C) "uses" = some (some (.ref pP4a)))
    (bP4 : PySem.W.specialIn K (.ref pP4a) "__get__" = some (some (.builtin "property.__get__")))
    (tP4 : PySem.W.takesIn K (.ref pP4a) = some true)
    (rP4 : PySem.W.recIn K pP4a "property" = some (.ref fP4 :: restP4))
    (lP4 : K.lookup fP4 = some ⟨ocP4, odP4, .func (PySem.W.fnOf "uses" "Operation.uses" (defArgs s_Operation_uses) (defBody s_Operation_uses) (defScope s_Operation_uses) .none kVP4 dcP4 pmP4 anP4 cdP4 ctP4), slP4⟩)
    (kP4 : PySem.W.codeIn K cdP4 "Operation.uses" = true)
    (pP4 : PySem.W.keepIn K (.ref fP4) = true)
    (aP5 : PySem.W.findIn K (.ref C) "read_names" = some (some (.ref pP5a)))
    (bP5 : PySem.W.specialIn K (.ref pP5a) "__get__" = some (some (.builtin "property.__get__")))
    (tP5 : PySem.W.takesIn K (.ref pP5a) = some true)
    (rP5 : PySem.W.recIn K pP5a "property" = some (.ref fP5 :: restP5))
    (lP5 : K.lookup fP5 = some ⟨ocP5, odP5, .func (PySem.W.fnOf "read_names" "Operation.read_names" (defArgs s_Operation_read_names) (defBody s_Operation_read_names) (defScope s_Operation_read_names) .none kVP5 dcP5 pmP5 anP5 cdP5 ctP5), slP5⟩)
    (kP5 : PySem.W.codeIn K cdP5 "Operation.read_names" = true)
    (pP5 : PySem.W.keepIn K (.ref fP5) = true)
    (aP6 : PySem.W.findIn K (.ref C) "units" = some (some (.ref pP6a)))
    (bP6 : PySem.W.specialIn K (.ref pP6a) "__get__" = some (some (.builtin "property.__get__")))
    (tP6 : PySem.W.takesIn K (.ref pP6a) = some true)
    (rP6 : PySem.W.recIn K pP6a "property" = some (.ref fP6 :: restP6))
    (lP6 : K.lookup fP6 = some ⟨ocP6, odP6, .func (PySem.W.fnOf "units" "Operation.units" (defArgs s_Operation_units) (defBody s_Operation_units) (defScope s_Operation_units) .none kVP6 dcP6 pmP6 anP6 cdP6 ctP6), slP6⟩)
    (kP6 : PySem.W.codeIn K cdP6 "Operation.units" = true)
    (pP6 : PySem.W.keepIn K (.ref fP6) = true)
    (iN : PySem.W.findIn K (.ref C) "renamed" = some (some (.ref fN)))
    (yN : PySem.W.isFn K (.ref fN) = true)
    (lN : K.lookup fN = some ⟨ocN, odN, .func (PySem.W.fnOf "renamed" "Operation.renamed" (defArgs s_Operation_renamed) (defBody s_Operation_renamed) (defScope s_Operation_renamed) .none kVN dcN pmN anN cdN ctN), slN⟩)
    (kN : PySem.W.codeIn K cdN "Operation.renamed" = true)
    (pN : PySem.W.keepIn K (.ref fN) = true)
    (iW : PySem.W.findIn K (.ref C) "with_ticks" = some (some (.ref fW)))
    (yW : PySem.W.isFn K (.ref fW) = true)
    (lW : K.lookup fW = some ⟨ocW, odW, .func (PySem.W.fnOf "with_ticks" "Operation.with_ticks" (defArgs s_Operation_with_ticks) (defBody s_Operation_with_ticks) (defScope s_Operation_with_ticks) .none kVW dcW pmW anW cdW ctW), slW⟩)
    (kW : PySem.W.codeIn K cdW "Operation.with_ticks" = true)
    (pW : PySem.W.keepIn K (.ref fW) = true)
    (iQ : PySem.W.findIn K (.ref C) "__eq__" = some (some (.ref fQ)))
    (yQ : PySem.W.isFn K (.ref fQ) = true)
    (lQ : K.lookup fQ = some ⟨ocQ, odQ, .func (PySem.W.fnOf "__eq__" "Operation.__eq__" (defArgs s_Operation_eq) (defBody s_Operation_eq) (defScope s_Operation_eq) .none kVQ dcQ pmQ anQ cdQ ctQ), slQ⟩)
    (kQ : PySem.W.codeIn K cdQ "Operation.__eq__" = true)
    (pQ : PySem.W.keepIn K (.ref fQ) = true)
    (iS : PySem.W.findIn K (.ref C) "__str__" = some (some (.ref fS)))
    (yS : PySem.W.isFn K (.ref fS) = true)
    (lS : K.lookup fS = some ⟨ocS, odS, .func (PySem.W.fnOf "__str__" "Operation.__str__" (defArgs s_Operation_str) (defBody s_Operation_str) (defScope s_Operation_str) .none kVS dcS pmS anS cdS ctS), slS⟩)
    (kS : PySem.W.codeIn K cdS "Operation.__str__" = true)
    (pS : PySem.W.keepIn K (.ref fS) = true)
    : Nonempty (UX K mg) := by
  have FI : FunD K "__init__" "Operation.__init__" (defArgs s_Operation_init) (defBody s_Operation_init) (defScope s_Operation_init) [] [("ticks", .int 1), ("reads", .ref r0), ("uses", .ref u0)] fI (PySem.W.fnOf "__init__" "Operation.__init__" (defArgs s_Operation_init) (defBody s_Operation_init) (defScope s_Operation_init) .none (.ref DI) dcI pmI anI cdI ctI) := ⟨⟨_, _, _, _, _, _, _, _, _, _, rfl, lI, kI, .inl ⟨rfl, rfl⟩, .inr ⟨DI, rfl, fun q hq => by
    simp only [List.mem_cons, List.mem_nil_iff, or_false] at hq
    rcases hq with rfl | rfl | rfl
    · exact ⟨_, w1, _, rfl⟩
    · exact ⟨_, w2, rfl⟩
    · exact ⟨_, w3, rfl⟩⟩⟩, pI⟩
  have tin : ∀ n, n ∈ ["NoneType", "bool", "int", "str", "list", "tuple"] → PySem.W.notFirst K C (.type n) = true ∧ PySem.W.kitOne K (.type n) (.ref C) = some false := by
    intro n hn
    simp only [List.mem_cons, List.mem_nil_iff, or_false] at hn
    rcases hn with rfl | rfl | rfl | rfl | rfl | rfl
    · exact tin_of sub_NoneType rfl gC tC
    · exact tin_of sub_bool rfl gC tC
    · exact tin_of sub_int rfl gC tC
    · exact tin_of sub_str rfl gC tC
    · exact tin_of sub_list rfl gC tC
    · exact tin_of sub_tuple rfl gC tC
  exact ⟨⟨C, PySem.W.mg_of X G aC, ⟨c1, c2, c3, c4⟩, mo, ne, r0, u0, ⟨_, _, _, xE, rfl, rfl, by decide, .nil⟩, ⟨_, _, _, xG, rfl, rfl, by decide, .nil⟩, fI, _, FI, ⟨c5, c6, c7, c8⟩, n1, n2, n3, n4, ⟨pP1a, fP1, _, ⟨⟨_, _, _, _, _, _, _, _, _, _, rfl, lP1, kP1, .inl ⟨rfl, rfl⟩, .inl rfl⟩, pP1⟩, ⟨aP1, bP1, tP1, ⟨_, rP1⟩⟩, .all fun us hl => match us, hl with | [_], _ => rfl⟩, ⟨pP2a, fP2, _, ⟨⟨_, _, _, _, _, _, _, _, _, _, rfl, lP2, kP2, .inl ⟨rfl, rfl⟩, .inl rfl⟩, pP2⟩, ⟨aP2, bP2, tP2, ⟨_, rP2⟩⟩, .all fun us hl => match us, hl with | [_], _ => rfl⟩, ⟨pP3a, fP3, _, ⟨⟨_, _, _, _, _, _, _, _, _, _, rfl, lP3, kP3, .inl ⟨rfl, rfl⟩, .inl rfl⟩, pP3⟩, ⟨aP3, bP3, tP3, ⟨_, rP3⟩⟩, .all fun us hl => match us, hl with | [_], _ => rfl⟩, ⟨pP4a, fP4, _, ⟨⟨_, _, _, _, _, _, _, _, _, _, rfl, lP4, kP4, .inl ⟨rfl, rfl⟩, .inl rfl⟩, pP4⟩, ⟨aP4, bP4, tP4, ⟨_, rP4⟩⟩, .all fun us hl => match us, hl with | [_], _ => rfl⟩, ⟨pP5a, fP5, _, ⟨⟨_, _, _, _, _, _, _, _, _, _, rfl, lP5, kP5, .inl ⟨rfl, rfl⟩, .inl rfl⟩, pP5⟩, ⟨aP5, bP5, tP5, ⟨_, rP5⟩⟩, .all fun us hl => match us, hl with | [_], _ => rfl⟩, ⟨pP6a, fP6, _, ⟨⟨_, _, _, _, _, _, _, _, _, _, rfl, lP6, kP6, .inl ⟨rfl, rfl⟩, .inl rfl⟩, pP6⟩, ⟨aP6, bP6, tP6, ⟨_, rP6⟩⟩, .all fun us hl => match us, hl with | [_], _ => rfl⟩, ⟨fN, _, ⟨⟨_, _, _, _, _, _, _, _, _, _, rfl, lN, kN, .inl ⟨rfl, rfl⟩, .inl rfl⟩, pN⟩, ⟨iN, yN, pN⟩, .all fun us hl => match us, hl with | [_, _], _ => rfl⟩, ⟨fW, _, ⟨⟨_, _, _, _, _, _, _, _, _, _, rfl, lW, kW, .inl ⟨rfl, rfl⟩, .inl rfl⟩, pW⟩, ⟨iW, yW, pW⟩, .all fun us hl => match us, hl with | [_, _], _ => rfl⟩, ⟨fQ, _, ⟨⟨_, _, _, _, _, _, _, _, _, _, rfl, lQ, kQ, .inl ⟨rfl, rfl⟩, .inl rfl⟩, pQ⟩, ⟨iQ, yQ, pQ⟩, .all fun us hl => match us, hl with | [_, _], _ => rfl⟩, ⟨fS, _, ⟨⟨_, _, _, _, _, _, _, _, _, _, rfl, lS, kS, .inl ⟨rfl, rfl⟩, .inl rfl⟩, pS⟩, ⟨iS, yS, pS⟩, .all fun us hl => match us, hl with | [_], _ => rfl⟩, tin, ca, cg, ct⟩⟩
theorem all_mk {l : PySem.W.OpenLaw} {w : World} {K : PySem.W.Frag} {h : Heap} {mg : Str → Option Value} {fa f_is_name f_is_integer f_is_between f_ascends f_is_pair f_is_row_of_pairs f_first_items f_told f_w_reel f_w_spin f_w_pick f_w_few f_w_uses f_w_drawn f_w_made_one f_w_text f_w_is_row f_w_near f_w_cell_right f_law : Addr} (X : K.In h) (G : h.Ns mainGlobals mg) (hfa : mg "law" = some (.ref fa))
    {od_is_name an_is_name od_is_integer an_is_integer od_is_between an_is_between od_ascends an_ascends od_is_pair an_is_pair od_is_row_of_pairs an_is_row_of_pairs od_first_items an_first_items od_told an_told od_w_reel an_w_reel od_w_spin an_w_spin od_w_pick an_w_pick od_w_few an_w_few od_w_uses an_w_uses od_w_drawn an_w_drawn od_w_made_one an_w_made_one od_w_text an_w_text od_w_is_row an_w_is_row od_w_near an_w_near od_w_cell_right an_w_cell_right od_law an_law : Option Addr} {sl_is_name sl_is_integer sl_is_between sl_ascends sl_is_pair sl_is_row_of_pairs sl_first_items sl_told sl_w_reel sl_w_spin sl_w_pick sl_w_few sl_w_uses sl_w_drawn sl_w_made_one sl_w_text sl_w_is_row sl_w_near sl_w_cell_right sl_law : Array (Option Value)} {oc_is_name kV_is_name dc_is_name pm_is_name cd_is_name ct_is_name oc_is_integer kV_is_integer dc_is_integer pm_is_integer cd_is_integer ct_is_integer oc_is_between kV_is_between dc_is_between pm_is_between cd_is_between ct_is_between oc_ascends kV_ascends dc_ascends pm_ascends cd_ascends ct_ascends oc_is_pair kV_is_pair dc_is_pair pm_is_pair cd_is_pair ct_is_pair oc_is_row_of_pairs kV_is_row_of_pairs dc_is_row_of_pairs pm_is_row_of_pairs cd_is_row_of_pairs ct_is_row_of_pairs oc_first_items kV_first_items dc_first_items pm_first_items cd_first_items ct_first_items oc_told kV_told dc_told pm_told cd_told ct_told oc_w_reel kV_w_reel dc_w_reel pm_w_reel cd_w_reel ct_w_reel oc_w_spin kV_w_spin dc_w_spin pm_w_spin cd_w_spin ct_w_spin oc_w_pick kV_w_pick dc_w_pick pm_w_pick cd_w_pick ct_w_pick oc_w_few kV_w_few dc_w_few pm_w_few cd_w_few ct_w_few oc_w_uses kV_w_uses dc_w_uses pm_w_uses cd_w_uses ct_w_uses oc_w_drawn kV_w_drawn dc_w_drawn pm_w_drawn cd_w_drawn ct_w_drawn oc_w_made_one kV_w_made_one dc_w_made_one pm_w_made_one cd_w_made_one ct_w_made_one oc_w_text kV_w_text dc_w_text pm_w_text cd_w_text ct_w_text oc_w_is_row kV_w_is_row dc_w_is_row pm_w_is_row cd_w_is_row ct_w_is_row oc_w_near kV_w_near dc_w_near pm_w_near cd_w_near ct_w_near oc_w_cell_right kV_w_cell_right dc_w_cell_right pm_w_cell_right cd_w_cell_right ct_w_cell_right oc_law kV_law dc_law pm_law cd_law ct_law : Value} {t_MAX_TICKS t_MAX_LETTERS t_MAX_DISTANCE t_MAX_READS t_MAX_USES t_MAX_OFFSET : Tok}
    (a_is_name : PySem.W.nsIn K mainGlobals "is_name" = some (some (.ref f_is_name))) (l_is_name : K.lookup f_is_name = some ⟨oc_is_name, od_is_name, .func (PySem.W.fnOf "is_name" "is_name" (defArgs s_is_name) (defBody s_is_name) (defScope s_is_name) .none kV_is_name dc_is_name pm_is_name an_is_name cd_is_name ct_is_name), sl_is_name⟩) (k_is_name : PySem.W.codeIn K cd_is_name "is_name" = true) (p_is_name : PySem.W.keepIn K (.ref f_is_name) = true)
    (a_is_integer : PySem.W.nsIn K mainGlobals "is_integer" = some (some (.ref f_is_integer))) (l_is_integer : K.lookup f_is_integer = some ⟨oc_is_integer, od_is_integer, .func (PySem.W.fnOf "is_integer" "is_integer" (defArgs s_is_integer) (defBody s_is_integer) (defScope s_is_integer) .none kV_is_integer dc_is_integer pm_is_integer an_is_integer cd_is_integer ct_is_integer), sl_is_integer⟩) (k_is_integer : PySem.W.codeIn K cd_is_integer "is_integer" = true) (p_is_integer : PySem.W.keepIn K (.ref f_is_integer) = true)
    (a_is_between : PySem.W.nsIn K mainGlobals "is_between" = some (some (.ref f_is_between))) (l_is_between : K.lookup f_is_between = some ⟨oc_is_between, od_is_between, .func (PySem.W.fnOf "is_between" "is_between" (defArgs s_is_between) (defBody s_is_between) (defScope s_is_between) .none kV_is_between dc_is_between pm_is_between an_is_between cd_is_between ct_is_between), sl_is_between⟩) (k_is_between : PySem.W.codeIn K cd_is_between "is_between" = true) (p_is_between : PySem.W.keepIn K (.ref f_is_between) = true)
    (a_ascends : PySem.W.nsIn K mainGlobals "ascends" = some (some (.ref f_ascends))) (l_ascends : K.lookup f_ascends = some ⟨oc_ascends, od_ascends, .func (PySem.W.fnOf "ascends" "ascends" (defArgs s_ascends) (defBody s_ascends) (defScope s_ascends) .none kV_ascends dc_ascends pm_ascends an_ascends cd_ascends ct_ascends), sl_ascends⟩) (k_ascends : PySem.W.codeIn K cd_ascends "ascends" = true) (p_ascends : PySem.W.keepIn K (.ref f_ascends) = true)
    (a_is_pair : PySem.W.nsIn K mainGlobals "is_pair" = some (some (.ref f_is_pair))) (l_is_pair : K.lookup f_is_pair = some ⟨oc_is_pair, od_is_pair, .func (PySem.W.fnOf "is_pair" "is_pair" (defArgs s_is_pair) (defBody s_is_pair) (defScope s_is_pair) .none kV_is_pair dc_is_pair pm_is_pair an_is_pair cd_is_pair ct_is_pair), sl_is_pair⟩) (k_is_pair : PySem.W.codeIn K cd_is_pair "is_pair" = true) (p_is_pair : PySem.W.keepIn K (.ref f_is_pair) = true)
    (a_is_row_of_pairs : PySem.W.nsIn K mainGlobals "is_row_of_pairs" = some (some (.ref f_is_row_of_pairs))) (l_is_row_of_pairs : K.lookup f_is_row_of_pairs = some ⟨oc_is_row_of_pairs, od_is_row_of_pairs, .func (PySem.W.fnOf "is_row_of_pairs" "is_row_of_pairs" (defArgs s_is_row_of_pairs) (defBody s_is_row_of_pairs) (defScope s_is_row_of_pairs) .none kV_is_row_of_pairs dc_is_row_of_pairs pm_is_row_of_pairs an_is_row_of_pairs cd_is_row_of_pairs ct_is_row_of_pairs), sl_is_row_of_pairs⟩) (k_is_row_of_pairs : PySem.W.codeIn K cd_is_row_of_pairs "is_row_of_pairs" = true) (p_is_row_of_pairs : PySem.W.keepIn K (.ref f_is_row_of_pairs) = true)
    (a_first_items : PySem.W.nsIn K mainGlobals "first_items" = some (some (.ref f_first_items))) (l_first_items : K.lookup f_first_items = some ⟨oc_first_items, od_first_items, .func (PySem.W.fnOf "first_items" "first_items" (defArgs s_first_items) (defBody s_first_items) (defScope s_first_items) .none kV_first_items dc_first_items pm_first_items an_first_items cd_first_items ct_first_items), sl_first_items⟩) (k_first_items : PySem.W.codeIn K cd_first_items "first_items" = true) (p_first_items : PySem.W.keepIn K (.ref f_first_items) = true)
    (a_told : PySem.W.nsIn K mainGlobals "_told" = some (some (.ref f_told))) (l_told : K.lookup f_told = some ⟨oc_told, od_told, .func (PySem.W.fnOf "_told" "_told" (defArgs s_told) (defBody s_told) (defScope s_told) .none kV_told dc_told pm_told an_told cd_told ct_told), sl_told⟩) (k_told : PySem.W.codeIn K cd_told "_told" = true) (p_told : PySem.W.keepIn K (.ref f_told) = true)
    (a_w_reel : PySem.W.nsIn K mainGlobals "_law_reel" = some (some (.ref f_w_reel))) (l_w_reel : K.lookup f_w_reel = some ⟨oc_w_reel, od_w_reel, .func (PySem.W.fnOf "_law_reel" "_law_reel" (defArgs s_w_reel) (defBody s_w_reel) (defScope s_w_reel) .none kV_w_reel dc_w_reel pm_w_reel an_w_reel cd_w_reel ct_w_reel), sl_w_reel⟩) (k_w_reel : PySem.W.codeIn K cd_w_reel "_law_reel" = true) (p_w_reel : PySem.W.keepIn K (.ref f_w_reel) = true)
    (a_w_spin : PySem.W.nsIn K mainGlobals "_law_spin" = some (some (.ref f_w_spin))) (l_w_spin : K.lookup f_w_spin = some ⟨oc_w_spin, od_w_spin, .func (PySem.W.fnOf "_law_spin" "_law_spin" (defArgs s_w_spin) (defBody s_w_spin) (defScope s_w_spin) .none kV_w_spin dc_w_spin pm_w_spin an_w_spin cd_w_spin ct_w_spin), sl_w_spin⟩) (k_w_spin : PySem.W.codeIn K cd_w_spin "_law_spin" = true) (p_w_spin : PySem.W.keepIn K (.ref f_w_spin) = true)
    (a_w_pick : PySem.W.nsIn K mainGlobals "_law_pick" = some (some (.ref f_w_pick))) (l_w_pick : K.lookup f_w_pick = some ⟨oc_w_pick, od_w_pick, .func (PySem.W.fnOf "_law_pick" "_law_pick" (defArgs s_w_pick) (defBody s_w_pick) (defScope s_w_pick) .none kV_w_pick dc_w_pick pm_w_pick an_w_pick cd_w_pick ct_w_pick), sl_w_pick⟩) (k_w_pick : PySem.W.codeIn K cd_w_pick "_law_pick" = true) (p_w_pick : PySem.W.keepIn K (.ref f_w_pick) = true)
    (a_w_few : PySem.W.nsIn K mainGlobals "_law_few" = some (some (.ref f_w_few))) (l_w_few : K.lookup f_w_few = some ⟨oc_w_few, od_w_few, .func (PySem.W.fnOf "_law_few" "_law_few" (defArgs s_w_few) (defBody s_w_few) (defScope s_w_few) .none kV_w_few dc_w_few pm_w_few an_w_few cd_w_few ct_w_few), sl_w_few⟩) (k_w_few : PySem.W.codeIn K cd_w_few "_law_few" = true) (p_w_few : PySem.W.keepIn K (.ref f_w_few) = true)
    (a_w_uses : PySem.W.nsIn K mainGlobals "_law_uses" = some (some (.ref f_w_uses))) (l_w_uses : K.lookup f_w_uses = some ⟨oc_w_uses, od_w_uses, .func (PySem.W.fnOf "_law_uses" "_law_uses" (defArgs s_w_uses) (defBody s_w_uses) (defScope s_w_uses) .none kV_w_uses dc_w_uses pm_w_uses an_w_uses cd_w_uses ct_w_uses), sl_w_uses⟩) (k_w_uses : PySem.W.codeIn K cd_w_uses "_law_uses" = true) (p_w_uses : PySem.W.keepIn K (.ref f_w_uses) = true)
    (a_w_drawn : PySem.W.nsIn K mainGlobals "_law_drawn" = some (some (.ref f_w_drawn))) (l_w_drawn : K.lookup f_w_drawn = some ⟨oc_w_drawn, od_w_drawn, .func (PySem.W.fnOf "_law_drawn" "_law_drawn" (defArgs s_w_drawn) (defBody s_w_drawn) (defScope s_w_drawn) .none kV_w_drawn dc_w_drawn pm_w_drawn an_w_drawn cd_w_drawn ct_w_drawn), sl_w_drawn⟩) (k_w_drawn : PySem.W.codeIn K cd_w_drawn "_law_drawn" = true) (p_w_drawn : PySem.W.keepIn K (.ref f_w_drawn) = true)
    (a_w_made_one : PySem.W.nsIn K mainGlobals "_law_made_one" = some (some (.ref f_w_made_one))) (l_w_made_one : K.lookup f_w_made_one = some ⟨oc_w_made_one, od_w_made_one, .func (PySem.W.fnOf "_law_made_one" "_law_made_one" (defArgs s_w_made_one) (defBody s_w_made_one) (defScope s_w_made_one) .none kV_w_made_one dc_w_made_one pm_w_made_one an_w_made_one cd_w_made_one ct_w_made_one), sl_w_made_one⟩) (k_w_made_one : PySem.W.codeIn K cd_w_made_one "_law_made_one" = true) (p_w_made_one : PySem.W.keepIn K (.ref f_w_made_one) = true)
    (a_w_text : PySem.W.nsIn K mainGlobals "_law_text" = some (some (.ref f_w_text))) (l_w_text : K.lookup f_w_text = some ⟨oc_w_text, od_w_text, .func (PySem.W.fnOf "_law_text" "_law_text" (defArgs s_w_text) (defBody s_w_text) (defScope s_w_text) .none kV_w_text dc_w_text pm_w_text an_w_text cd_w_text ct_w_text), sl_w_text⟩) (k_w_text : PySem.W.codeIn K cd_w_text "_law_text" = true) (p_w_text : PySem.W.keepIn K (.ref f_w_text) = true)
    (a_w_is_row : PySem.W.nsIn K mainGlobals "_law_is_row" = some (some (.ref f_w_is_row))) (l_w_is_row : K.lookup f_w_is_row = some ⟨oc_w_is_row, od_w_is_row, .func (PySem.W.fnOf "_law_is_row" "_law_is_row" (defArgs s_w_is_row) (defBody s_w_is_row) (defScope s_w_is_row) .none kV_w_is_row dc_w_is_row pm_w_is_row an_w_is_row cd_w_is_row ct_w_is_row), sl_w_is_row⟩) (k_w_is_row : PySem.W.codeIn K cd_w_is_row "_law_is_row" = true) (p_w_is_row : PySem.W.keepIn K (.ref f_w_is_row) = true)
    (a_w_near : PySem.W.nsIn K mainGlobals "_law_near" = some (some (.ref f_w_near))) (l_w_near : K.lookup f_w_near = some ⟨oc_w_near, od_w_near, .func (PySem.W.fnOf "_law_near" "_law_near" (defArgs s_w_near) (defBody s_w_near) (defScope s_w_near) .none kV_w_near dc_w_near pm_w_near an_w_near cd_w_near ct_w_near), sl_w_near⟩) (k_w_near : PySem.W.codeIn K cd_w_near "_law_near" = true) (p_w_near : PySem.W.keepIn K (.ref f_w_near) = true)
    (a_w_cell_right : PySem.W.nsIn K mainGlobals "_law_cell_right" = some (some (.ref f_w_cell_right))) (l_w_cell_right : K.lookup f_w_cell_right = some ⟨oc_w_cell_right, od_w_cell_right, .func (PySem.W.fnOf "_law_cell_right" "_law_cell_right" (defArgs s_w_cell_right) (defBody s_w_cell_right) (defScope s_w_cell_right) .none kV_w_cell_right dc_w_cell_right pm_w_cell_right an_w_cell_right cd_w_cell_right ct_w_cell_right), sl_w_cell_right⟩) (k_w_cell_right : PySem.W.codeIn K cd_w_cell_right "_law_cell_right" = true) (p_w_cell_right : PySem.W.keepIn K (.ref f_w_cell_right) = true)
    (a_law : PySem.W.nsIn K mainGlobals "law" = some (some (.ref f_law))) (l_law : K.lookup f_law = some ⟨oc_law, od_law, .func (PySem.W.fnOf "law" "law" (defArgs s_law) (defBody s_law) (defScope s_law) .none kV_law dc_law pm_law an_law cd_law ct_law), sl_law⟩) (k_law : PySem.W.codeIn K cd_law "law" = true) (p_law : PySem.W.keepIn K (.ref f_law) = true)
    (e_MAX_TICKS : PySem.W.nsIn K mainGlobals "MAX_TICKS" = some (some (.int 4 t_MAX_TICKS)))
    (e_MAX_LETTERS : PySem.W.nsIn K mainGlobals "MAX_LETTERS" = some (some (.int 8 t_MAX_LETTERS)))
    (e_MAX_DISTANCE : PySem.W.nsIn K mainGlobals "MAX_DISTANCE" = some (some (.int 3 t_MAX_DISTANCE)))
    (e_MAX_READS : PySem.W.nsIn K mainGlobals "MAX_READS" = some (some (.int 3 t_MAX_READS)))
    (e_MAX_USES : PySem.W.nsIn K mainGlobals "MAX_USES" = some (some (.int 4 t_MAX_USES)))
    (e_MAX_OFFSET : PySem.W.nsIn K mainGlobals "MAX_OFFSET" = some (some (.int 3 t_MAX_OFFSET)))
    (y_int : PySem.W.nsIn K mainGlobals "int" = some none)
    (y_abs : PySem.W.nsIn K mainGlobals "abs" = some none)
    (y_len : PySem.W.nsIn K mainGlobals "len" = some none)
    (y_max : PySem.W.nsIn K mainGlobals "max" = some none)
    (y_min : PySem.W.nsIn K mainGlobals "min" = some none)
    (y_range : PySem.W.nsIn K mainGlobals "range" = some none)
    (y_isinstance : PySem.W.nsIn K mainGlobals "isinstance" = some none)
    (y_str : PySem.W.nsIn K mainGlobals "str" = some none)
    (y_all : PySem.W.nsIn K mainGlobals "all" = some none)
    (y_sorted : PySem.W.nsIn K mainGlobals "sorted" = some none)
    (y_tuple : PySem.W.nsIn K mainGlobals "tuple" = some none)
    (y_list : PySem.W.nsIn K mainGlobals "list" = some none)
    (y_dict : PySem.W.nsIn K mainGlobals "dict" = some none)
    (y_set : PySem.W.nsIn K mainGlobals "set" = some none)
    (y_bool : PySem.W.nsIn K mainGlobals "bool" = some none)
    (uu : Nonempty (UX K mg))
    : ∃ fd : FuncData, (∀ (s : Shared) (v : Value), BindsTo s fd ⟨[v], []⟩ [("script", v)]) ∧ ∀ base : Heap, K.In base → base.Ns mainGlobals mg → FnOk l.prog w K mg base CX0 13 fa fd ["script"] (sp_law K) := by
  have e := hfa.symm.trans (PySem.W.mg_of X G a_law)
  cases e
  have F_is_name := fun_mk (st := s_is_name) l_is_name k_is_name p_is_name
  have b_is_name := F_is_name.binds (ps := ["value"]) fun _ _ _ _ _ _ us hl => match us, hl with | [_], _ => rfl
  have F_is_integer := fun_mk (st := s_is_integer) l_is_integer k_is_integer p_is_integer
  have b_is_integer := F_is_integer.binds (ps := ["value"]) fun _ _ _ _ _ _ us hl => match us, hl with | [_], _ => rfl
  have F_is_between := fun_mk (st := s_is_between) l_is_between k_is_between p_is_between
  have b_is_between := F_is_between.binds (ps := ["value", "low", "high"]) fun _ _ _ _ _ _ us hl => match us, hl with | [_, _, _], _ => rfl
  have F_ascends := fun_mk (st := s_ascends) l_ascends k_ascends p_ascends
  have b_ascends := F_ascends.binds (ps := ["row"]) fun _ _ _ _ _ _ us hl => match us, hl with | [_], _ => rfl
  have F_is_pair := fun_mk (st := s_is_pair) l_is_pair k_is_pair p_is_pair
  have b_is_pair := F_is_pair.binds (ps := ["value", "highest"]) fun _ _ _ _ _ _ us hl => match us, hl with | [_, _], _ => rfl
  have F_is_row_of_pairs := fun_mk (st := s_is_row_of_pairs) l_is_row_of_pairs k_is_row_of_pairs p_is_row_of_pairs
  have b_is_row_of_pairs := F_is_row_of_pairs.binds (ps := ["value", "most", "highest"]) fun _ _ _ _ _ _ us hl => match us, hl with | [_, _, _], _ => rfl
  have F_first_items := fun_mk (st := s_first_items) l_first_items k_first_items p_first_items
  have b_first_items := F_first_items.binds (ps := ["rows"]) fun _ _ _ _ _ _ us hl => match us, hl with | [_], _ => rfl
  have F_told := fun_mk (st := s_told) l_told k_told p_told
  have b_told := F_told.binds (ps := ["word", "pairs"]) fun _ _ _ _ _ _ us hl => match us, hl with | [_, _], _ => rfl
  have F_w_reel := fun_mk (st := s_w_reel) l_w_reel k_w_reel p_w_reel
  have b_w_reel := F_w_reel.binds (ps := ["script", "at"]) fun _ _ _ _ _ _ us hl => match us, hl with | [_, _], _ => rfl
  have F_w_spin := fun_mk (st := s_w_spin) l_w_spin k_w_spin p_w_spin
  have b_w_spin := F_w_spin.binds (ps := ["reel", "total"]) fun _ _ _ _ _ _ us hl => match us, hl with | [_, _], _ => rfl
  have F_w_pick := fun_mk (st := s_w_pick) l_w_pick k_w_pick p_w_pick
  have b_w_pick := F_w_pick.binds (ps := ["reel", "items"]) fun _ _ _ _ _ _ us hl => match us, hl with | [_, _], _ => rfl
  have F_w_few := fun_mk (st := s_w_few) l_w_few k_w_few p_w_few
  have b_w_few := F_w_few.binds (ps := ["reel", "items", "many"]) fun _ _ _ _ _ _ us hl => match us, hl with | [_, _, _], _ => rfl
  have F_w_uses := fun_mk (st := s_w_uses) l_w_uses k_w_uses p_w_uses
  have b_w_uses := F_w_uses.binds (ps := ["reel", "lots"]) fun _ _ _ _ _ _ us hl => match us, hl with | [_, _], _ => rfl
  have F_w_drawn := fun_mk (st := s_w_drawn) l_w_drawn k_w_drawn p_w_drawn
  have b_w_drawn := F_w_drawn.binds (ps := ["reel"]) fun _ _ _ _ _ _ us hl => match us, hl with | [_], _ => rfl
  have F_w_made_one := fun_mk (st := s_w_made_one) l_w_made_one k_w_made_one p_w_made_one
  have b_w_made_one := F_w_made_one.binds (ps := ["row"]) fun _ _ _ _ _ _ us hl => match us, hl with | [_], _ => rfl
  have F_w_text := fun_mk (st := s_w_text) l_w_text k_w_text p_w_text
  have b_w_text := F_w_text.binds (ps := ["row"]) fun _ _ _ _ _ _ us hl => match us, hl with | [_], _ => rfl
  have F_w_is_row := fun_mk (st := s_w_is_row) l_w_is_row k_w_is_row p_w_is_row
  have b_w_is_row := F_w_is_row.binds (ps := ["one", "row"]) fun _ _ _ _ _ _ us hl => match us, hl with | [_, _], _ => rfl
  have F_w_near := fun_mk (st := s_w_near) l_w_near k_w_near p_w_near
  have b_w_near := F_w_near.binds (ps := ["reel", "row"]) fun _ _ _ _ _ _ us hl => match us, hl with | [_, _], _ => rfl
  have F_w_cell_right := fun_mk (st := s_w_cell_right) l_w_cell_right k_w_cell_right p_w_cell_right
  have b_w_cell_right := F_w_cell_right.binds (ps := ["reel"]) fun _ _ _ _ _ _ us hl => match us, hl with | [_], _ => rfl
  have F_law := fun_mk (st := s_law) l_law k_law p_law
  have b_law := F_law.binds (ps := ["script"]) fun _ _ _ _ _ _ us hl => match us, hl with | [_], _ => rfl
  obtain ⟨U⟩ := uu
  exact ⟨PySem.W.fnOf "law" "law" (defArgs s_law) (defBody s_law) (defScope s_law) .none kV_law dc_law pm_law an_law cd_law ct_law, fun s v => .of_eq rfl, fun base _ _ => ok_law (⟨_, _, F_is_name, PySem.W.mg_of X G a_is_name, b_is_name, _, _, F_is_integer, PySem.W.mg_of X G a_is_integer, b_is_integer, _, _, F_is_between, PySem.W.mg_of X G a_is_between, b_is_between, _, _, F_ascends, PySem.W.mg_of X G a_ascends, b_ascends, _, _, F_is_pair, PySem.W.mg_of X G a_is_pair, b_is_pair, _, _, F_is_row_of_pairs, PySem.W.mg_of X G a_is_row_of_pairs, b_is_row_of_pairs, _, _, F_first_items, PySem.W.mg_of X G a_first_items, b_first_items, _, _, F_told, PySem.W.mg_of X G a_told, b_told, _, _, F_w_reel, PySem.W.mg_of X G a_w_reel, b_w_reel, _, _, F_w_spin, PySem.W.mg_of X G a_w_spin, b_w_spin, _, _, F_w_pick, PySem.W.mg_of X G a_w_pick, b_w_pick, _, _, F_w_few, PySem.W.mg_of X G a_w_few, b_w_few, _, _, F_w_uses, PySem.W.mg_of X G a_w_uses, b_w_uses, _, _, F_w_drawn, PySem.W.mg_of X G a_w_drawn, b_w_drawn, _, _, F_w_made_one, PySem.W.mg_of X G a_w_made_one, b_w_made_one, _, _, F_w_text, PySem.W.mg_of X G a_w_text, b_w_text, _, _, F_w_is_row, PySem.W.mg_of X G a_w_is_row, b_w_is_row, _, _, F_w_near, PySem.W.mg_of X G a_w_near, b_w_near, _, _, F_w_cell_right, PySem.W.mg_of X G a_w_cell_right, b_w_cell_right, _, _, F_law, PySem.W.mg_of X G a_law, b_law, ⟨t_MAX_TICKS, PySem.W.mg_of X G e_MAX_TICKS⟩, ⟨t_MAX_LETTERS, PySem.W.mg_of X G e_MAX_LETTERS⟩, ⟨t_MAX_DISTANCE, PySem.W.mg_of X G e_MAX_DISTANCE⟩, ⟨t_MAX_READS, PySem.W.mg_of X G e_MAX_READS⟩, ⟨t_MAX_USES, PySem.W.mg_of X G e_MAX_USES⟩, ⟨t_MAX_OFFSET, PySem.W.mg_of X G e_MAX_OFFSET⟩, PySem.W.mg_none_of X G y_int, PySem.W.mg_none_of X G y_abs, PySem.W.mg_none_of X G y_len, PySem.W.mg_none_of X G y_max, PySem.W.mg_none_of X G y_min, PySem.W.mg_none_of X G y_range, PySem.W.mg_none_of X G y_isinstance, PySem.W.mg_none_of X G y_str, PySem.W.mg_none_of X G y_all, PySem.W.mg_none_of X G y_sorted, PySem.W.mg_none_of X G y_tuple, PySem.W.mg_none_of X G y_list, PySem.W.mg_none_of X G y_dict, PySem.W.mg_none_of X G y_set, PySem.W.mg_none_of X G y_bool⟩ : T K mg) U⟩
theorem walk {l : PySem.W.OpenLaw} {q : Program} {loose : List Str} {XP : (Str → Option Value) → Heap → Prop}
                                                                                                              {YP : World → Heap → Prop} {d : DefRec} {K : Params → PySem.W.Frag} (hn : l.most = some 63) (hdf : d.params.defaults = [])
    (hY : ∀ (w : World) (h : Heap), YP w h → (K w.params).In h)
    (F : ∀ (w : World) (mg : Str → Option Value) (fa : Addr) (h : Heap),
                                                                         (K w.params).In h → h.Ns mainGlobals mg → mg d.name = some (.ref fa) →
      ∃ fd : FuncData, (∀ (s : Shared) (u : Value), BindsTo s fd ⟨[u], []⟩ [("script", u)]) ∧ ∀ base : Heap, (K w.params).In base → base.Ns mainGlobals mg → FnOk l.prog w (K w.params) mg base CX0 13 fa fd ["script"] (sp_law (K w.params))) :
    PySem.W.WalkO q loose XP YP l.row.toRowW d []
                                                  (fun f vs => PySem.call f vs) :=
  L2.walk_of (n := 63) (k := 13) (x := "script") (CX := fun _ => CX0) (sp := fun w => sp_law (K w.params)) hn (by decide) hdf ⟨rfl, by decide, by decide⟩ hY F (fun _ _ a ns hl _ hS => ⟨a, ns, rfl, hS, hl, fun _ => rfl⟩) fun _ _ _ _ _ z => z
end K06
open PySem PySem.W PyProof.Rows
set_option maxRecDepth 100000 in
set_option maxHeartbeats 0 in
theorem PySem.Challenge.cw_overrounds_k06_operations_holds : PySem.Challenge.rw_overrounds_k06_operations.Holds := by
  w_on; o_law; k_head; (case hw => w_witness2)
  k_fill
  refine K06.walk (l := PySem.Challenge.rw_overrounds_k06_operations) rfl rfl (fun w h Y => PySem.W.kIn_of Y) ?F
  case F =>
    intro w mg fa h KX G hmg
    refine' K06.all_mk KX G hmg ?a_is_name ?l_is_name ?k_is_name ?p_is_name ?a_is_integer ?l_is_integer ?k_is_integer ?p_is_integer ?a_is_between ?l_is_between ?k_is_between ?p_is_between ?a_ascends ?l_ascends ?k_ascends ?p_ascends ?a_is_pair ?l_is_pair ?k_is_pair ?p_is_pair ?a_is_row_of_pairs ?l_is_row_of_pairs ?k_is_row_of_pairs ?p_is_row_of_pairs ?a_first_items ?l_first_items ?k_first_items ?p_first_items ?a_told ?l_told ?k_told ?p_told ?a_w_reel ?l_w_reel ?k_w_reel ?p_w_reel ?a_w_spin ?l_w_spin ?k_w_spin ?p_w_spin ?a_w_pick ?l_w_pick ?k_w_pick ?p_w_pick ?a_w_few ?l_w_few ?k_w_few ?p_w_few ?a_w_uses ?l_w_uses ?k_w_uses ?p_w_uses ?a_w_drawn ?l_w_drawn ?k_w_drawn ?p_w_drawn ?a_w_made_one ?l_w_made_one ?k_w_made_one ?p_w_made_one ?a_w_text ?l_w_text ?k_w_text ?p_w_text ?a_w_is_row ?l_w_is_row ?k_w_is_row ?p_w_is_row ?a_w_near ?l_w_near ?k_w_near ?p_w_near ?a_w_cell_right ?l_w_cell_right ?k_w_cell_right ?p_w_cell_right ?a_law ?l_law ?k_law ?p_law ?e_MAX_TICKS ?e_MAX_LETTERS ?e_MAX_DISTANCE ?e_MAX_READS ?e_MAX_USES ?e_MAX_OFFSET ?y_int ?y_abs ?y_len ?y_max ?y_min ?y_range ?y_isinstance ?y_str ?y_all ?y_sorted ?y_tuple ?y_list ?y_dict ?y_set ?y_bool ?uu
    (case a_is_name => k_is)
    (case l_is_name => k_is)
    (case k_is_name => k_is)
    (case p_is_name => k_is)
    (case a_is_integer => k_is)
    (case l_is_integer => k_is)
    (case k_is_integer => k_is)
    (case p_is_integer => k_is)
    (case a_is_between => k_is)
    (case l_is_between => k_is)
    (case k_is_between => k_is)
    (case p_is_between => k_is)
    (case a_ascends => k_is)
    (case l_ascends => k_is)
    (case k_ascends => k_is)
    (case p_ascends => k_is)
    (case a_is_pair => k_is)
    (case l_is_pair => k_is)
    (case k_is_pair => k_is)
    (case p_is_pair => k_is)
    (case a_is_row_of_pairs => k_is)
    (case l_is_row_of_pairs => k_is)
    (case k_is_row_of_pairs => k_is)
    (case p_is_row_of_pairs => k_is)
    (case a_first_items => k_is)
    (case l_first_items => k_is)
    (case k_first_items => k_is)
    (case p_first_items => k_is)
    (case a_told => k_is)
    (case l_told => k_is)
    (case k_told => k_is)
    (case p_told => k_is)
    (case a_w_reel => k_is)
    (case l_w_reel => k_is)
    (case k_w_reel => k_is)
    (case p_w_reel => k_is)
    (case a_w_spin => k_is)
    (case l_w_spin => k_is)
    (case k_w_spin => k_is)
    (case p_w_spin => k_is)
    (case a_w_pick => k_is)
    (case l_w_pick => k_is)
    (case k_w_pick => k_is)
    (case p_w_pick => k_is)
    (case a_w_few => k_is)
    (case l_w_few => k_is)
    (case k_w_few => k_is)
    (case p_w_few => k_is)
    (case a_w_uses => k_is)
    (case l_w_uses => k_is)
    (case k_w_uses => k_is)
    (case p_w_uses => k_is)
    (case a_w_drawn => k_is)
    (case l_w_drawn => k_is)
    (case k_w_drawn => k_is)
    (case p_w_drawn => k_is)
    (case a_w_made_one => k_is)
    (case l_w_made_one => k_is)
    (case k_w_made_one => k_is)
    (case p_w_made_one => k_is)
    (case a_w_text => k_is)
    (case l_w_text => k_is)
    (case k_w_text => k_is)
    (case p_w_text => k_is)
    (case a_w_is_row => k_is)
    (case l_w_is_row => k_is)
    (case k_w_is_row => k_is)
    (case p_w_is_row => k_is)
    (case a_w_near => k_is)
    (case l_w_near => k_is)
    (case k_w_near => k_is)
    (case p_w_near => k_is)
    (case a_w_cell_right => k_is)
    (case l_w_cell_right => k_is)
    (case k_w_cell_right => k_is)
    (case p_w_cell_right => k_is)
    (case a_law => k_is)
    (case l_law => k_is)
    (case k_law => k_is)
    (case p_law => k_is)
    (case e_MAX_TICKS => k_is)
    (case e_MAX_LETTERS => k_is)
    (case e_MAX_DISTANCE => k_is)
    (case e_MAX_READS => k_is)
    (case e_MAX_USES => k_is)
    (case e_MAX_OFFSET => k_is)
    (case y_int => k_is)
    (case y_abs => k_is)
    (case y_len => k_is)
    (case y_max => k_is)
    (case y_min => k_is)
    (case y_range => k_is)
    (case y_isinstance => k_is)
    (case y_str => k_is)
    (case y_all => k_is)
    (case y_sorted => k_is)
    (case y_tuple => k_is)
    (case y_list => k_is)
    (case y_dict => k_is)
    (case y_set => k_is)
    (case y_bool => k_is)
    case uu =>
      refine' K06.mk_U KX G ?aC ?c1 ?c2 ?c3 ?c4 ?c5 ?c6 ?c7 ?c8 ?lI ?kI ?pI ?w1 ?w2 ?w3 ?xE ?xG ?n1 ?n2 ?n3 ?n4 ?mo ?ne ?ca ?cg ?ct ?gC ?tC ?aP1 ?bP1 ?tP1 ?rP1 ?lP1 ?kP1 ?pP1 ?aP2 ?bP2 ?tP2 ?rP2 ?lP2 ?kP2 ?pP2 ?aP3 ?bP3 ?tP3 ?rP3 ?lP3 ?kP3 ?pP3 ?aP4 ?bP4 ?tP4 ?rP4 ?lP4 ?kP4 ?pP4 ?aP5 ?bP5 ?tP5 ?rP5 ?lP5 ?kP5 ?pP5 ?aP6 ?bP6 ?tP6 ?rP6 ?lP6 ?kP6 ?pP6 ?iN ?yN ?lN ?kN ?pN ?iW ?yW ?lW ?kW ?pW ?iQ ?yQ ?lQ ?kQ ?pQ ?iS ?yS ?lS ?kS ?pS
      (case aC => k_is)
      (case c1 => k_is)
      (case c2 => k_is)
      (case c3 => k_is)
      (case c4 => k_is)
      (case c5 => k_is)
      (case c6 => k_is)
      (case c7 => k_is)
      (case c8 => k_is)
      (case lI => k_is)
      (case kI => k_is)
      (case pI => k_is)
      (case w1 => k_is)
      (case w2 => k_is)
      (case w3 => k_is)
      (case xE => k_is)
      (case xG => k_is)
      (case n1 => k_is)
      (case n2 => k_is)
      (case n3 => k_is)
      (case n4 => k_is)
      (case mo => k_is)
      (case ne => k_is)
      (case ca => k_is)
      (case cg => k_is)
      (case ct => k_is)
      (case gC => k_is)
      (case tC => k_is)
      (case aP1 => k_is)
      (case bP1 => k_is)
      (case tP1 => k_is)
      (case rP1 => k_is)
      (case lP1 => k_is)
      (case kP1 => k_is)
      (case pP1 => k_is)
      (case aP2 => k_is)
      (case bP2 => k_is)
      (case tP2 => k_is)
      (case rP2 => k_is)
      (case lP2 => k_is)
      (case kP2 => k_is)
      (case pP2 => k_is)
      (case aP3 => k_is)
      (case bP3 => k_is)
      (case tP3 => k_is)
      (case rP3 => k_is)
      (case lP3 => k_is)
      (case kP3 => k_is)
      (case pP3 => k_is)
      (case aP4 => k_is)
      (case bP4 => k_is)
      (case tP4 => k_is)
      (case rP4 => k_is)
      (case lP4 => k_is)
      (case kP4 => k_is)
      (case pP4 => k_is)
      (case aP5 => k_is)
      (case bP5 => k_is)
      (case tP5 => k_is)
      (case rP5 => k_is)
      (case lP5 => k_is)
      (case kP5 => k_is)
      (case pP5 => k_is)
      (case aP6 => k_is)
      (case bP6 => k_is)
      (case tP6 => k_is)
      (case rP6 => k_is)
      (case lP6 => k_is)
      (case kP6 => k_is)
      (case pP6 => k_is)
      (case iN => k_is)
      (case yN => k_is)
      (case lN => k_is)
      (case kN => k_is)
      (case pN => k_is)
      (case iW => k_is)
      (case yW => k_is)
      (case lW => k_is)
      (case kW => k_is)
      (case pW => k_is)
      (case iQ => k_is)
      (case yQ => k_is)
      (case lQ => k_is)
      (case kQ => k_is)
      (case pQ => k_is)
      (case iS => k_is)
      (case yS => k_is)
      (case lS => k_is)
      (case kS => k_is)
      (case pS => k_is)
