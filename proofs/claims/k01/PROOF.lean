import PyProof.Rows.All
import Wide.All
import OpenK.AllK
import Wide.FinOn
import HandS.ForMost
import HandS.Wide
import HandS.IsInst
import HandS.Walk
import HandS.Style
import PySem.Challenge.RW_overrounds_k01_names_and_integers
set_option Elab.async false
set_option linter.all false
set_option maxRecDepth 100000
set_option maxHeartbeats 2000000
namespace K01
open PySem L2
def top (i : Nat) : Stmt := PySem.Challenge.pw_overrounds_k01_names_and_integers.main.body.getD i (.Pass ⟨0, 0, 0, 0⟩)
abbrev s_is_name : Stmt := top 2
abbrev s_is_integer : Stmt := top 3
abbrev s_w_reel : Stmt := top 5
abbrev s_w_spin : Stmt := top 6
abbrev s_w_pick : Stmt := top 7
abbrev s_w_name : Stmt := top 8
abbrev s_w_is_name : Stmt := top 9
abbrev s_w_near : Stmt := top 10
abbrev s_w_cell_right : Stmt := top 11
abbrev s_law : Stmt := top 12
theorem sc_is_name : FnScope ["value", "letter"] ["value"] (defScope s_is_name) := ⟨rfl, rfl, rfl, by decide +kernel, rfl, by decide +kernel, by decide +kernel⟩
theorem sc_is_integer : FnScope ["value"] ["value"] (defScope s_is_integer) := ⟨rfl, rfl, rfl, by decide +kernel, rfl, by decide +kernel, by decide +kernel⟩
theorem sc_w_reel : FnScope ["script", "at", "cell", "great", "mixed"] ["script", "at"] (defScope s_w_reel) := ⟨rfl, rfl, rfl, by decide +kernel, rfl, by decide +kernel, by decide +kernel⟩
theorem sc_w_spin : FnScope ["reel", "total", "found", "one", "two"] ["reel", "total"] (defScope s_w_spin) := ⟨rfl, rfl, rfl, by decide +kernel, rfl, by decide +kernel, by decide +kernel⟩
theorem sc_w_pick : FnScope ["reel", "items"] ["reel", "items"] (defScope s_w_pick) := ⟨rfl, rfl, rfl, by decide +kernel, rfl, by decide +kernel, by decide +kernel⟩
theorem sc_w_name : FnScope ["reel", "letters", "turn"] ["reel"] (defScope s_w_name) := ⟨rfl, rfl, rfl, by decide +kernel, rfl, by decide +kernel, by decide +kernel⟩
theorem sc_w_is_name : FnScope ["value", "sign"] ["value"] (defScope s_w_is_name) := ⟨rfl, rfl, rfl, by decide +kernel, rfl, by decide +kernel, by decide +kernel⟩
theorem sc_w_near : FnScope ["reel", "name", "at", "sign", "odd"] ["reel", "name"] (defScope s_w_near) := ⟨rfl, rfl, rfl, by decide +kernel, rfl, by decide +kernel, by decide +kernel⟩
theorem sc_w_cell_right : FnScope ["reel", "name", "turn", "value", "many", "odd"] ["reel"] (defScope s_w_cell_right) := ⟨rfl, rfl, rfl, by decide +kernel, rfl, by decide +kernel, by decide +kernel⟩
theorem sc_law : FnScope ["script", "at", "told", "value"] ["script"] (defScope s_law) := ⟨rfl, rfl, rfl, by decide +kernel, rfl, by decide +kernel, by decide +kernel⟩
/-- where the defs stand, and what the names hold -/
structure T (K : PySem.W.Frag) (mg : Str → Option Value) where
  f_is_name : Addr
  d_is_name : FuncData
  F_is_name : Fun K "is_name" "is_name" s_is_name f_is_name d_is_name
  m_is_name : mg "is_name" = some (.ref f_is_name)
  b_is_name : Binds K d_is_name ["value"] []
  f_is_integer : Addr
  d_is_integer : FuncData
  F_is_integer : Fun K "is_integer" "is_integer" s_is_integer f_is_integer d_is_integer
  m_is_integer : mg "is_integer" = some (.ref f_is_integer)
  b_is_integer : Binds K d_is_integer ["value"] []
  f_w_reel : Addr
  d_w_reel : FuncData
  F_w_reel : Fun K "_law_reel" "_law_reel" s_w_reel f_w_reel d_w_reel
  m_w_reel : mg "_law_reel" = some (.ref f_w_reel)
  b_w_reel : Binds K d_w_reel ["script", "at"] []
  f_w_spin : Addr
  d_w_spin : FuncData
  F_w_spin : Fun K "_law_spin" "_law_spin" s_w_spin f_w_spin d_w_spin
  m_w_spin : mg "_law_spin" = some (.ref f_w_spin)
  b_w_spin : Binds K d_w_spin ["reel", "total"] []
  f_w_pick : Addr
  d_w_pick : FuncData
  F_w_pick : Fun K "_law_pick" "_law_pick" s_w_pick f_w_pick d_w_pick
  m_w_pick : mg "_law_pick" = some (.ref f_w_pick)
  b_w_pick : Binds K d_w_pick ["reel", "items"] []
  f_w_name : Addr
  d_w_name : FuncData
  F_w_name : Fun K "_law_name" "_law_name" s_w_name f_w_name d_w_name
  m_w_name : mg "_law_name" = some (.ref f_w_name)
  b_w_name : Binds K d_w_name ["reel"] []
  f_w_is_name : Addr
  d_w_is_name : FuncData
  F_w_is_name : Fun K "_law_is_name" "_law_is_name" s_w_is_name f_w_is_name d_w_is_name
  m_w_is_name : mg "_law_is_name" = some (.ref f_w_is_name)
  b_w_is_name : Binds K d_w_is_name ["value"] []
  f_w_near : Addr
  d_w_near : FuncData
  F_w_near : Fun K "_law_near" "_law_near" s_w_near f_w_near d_w_near
  m_w_near : mg "_law_near" = some (.ref f_w_near)
  b_w_near : Binds K d_w_near ["reel", "name"] []
  f_w_cell_right : Addr
  d_w_cell_right : FuncData
  F_w_cell_right : Fun K "_law_cell_right" "_law_cell_right" s_w_cell_right f_w_cell_right d_w_cell_right
  m_w_cell_right : mg "_law_cell_right" = some (.ref f_w_cell_right)
  b_w_cell_right : Binds K d_w_cell_right ["reel"] []
  f_law : Addr
  d_law : FuncData
  F_law : Fun K "law" "law" s_law f_law d_law
  m_law : mg "law" = some (.ref f_law)
  b_law : Binds K d_law ["script"] []
  c_MAX_LETTERS : ∃ t, mg "MAX_LETTERS" = some (.int 8 t)
  z_int : mg "int" = none
  z_abs : mg "abs" = none
  z_len : mg "len" = none
  z_max : mg "max" = none
  z_min : mg "min" = none
  z_range : mg "range" = none
  z_isinstance : mg "isinstance" = none
  z_repr : mg "repr" = none
  z_str : mg "str" = none
  z_all : mg "all" = none
  z_bool : mg "bool" = none
  z_ord : mg "ord" = none
/-- a list of three ints stands at r -/
def Rl (H : Hp) (r : Addr) : Prop := ∃ a b c : Int, H r = some (.lst [.int a, .int b, .int c])
/-- what the heap held, but for what stands at r -/
def Only (r : Addr) (H H' : Hp) : Prop := ∀ b o, b ≠ r → H b = some o → H' b = some o
theorem Only.refl {r : Addr} {H : Hp} : Only r H H := fun _ _ _ e => e
theorem Only.trans {r : Addr} {H H1 H2 : Hp} (a : Only r H H1) (b : Only r H1 H2) : Only r H H2 := fun c o n e => b c o n (a c o n e)
theorem Only.upd {r : Addr} {H : Hp} {o : HO} : Only r H (upd H r o) := fun b _ n e => by rw [upd_ne n]; exact e
theorem Only.new {r p : Addr} {H : Hp} {o : HO} (n : H p = none) : Only r H (L2.upd H p o) := fun b _ _ e => by rw [upd_ne (ne_of_none e n)]; exact e
theorem Rl.new {r p : Addr} {H : Hp} {o : HO} (h : Rl H r) (n : H p = none) : Rl (upd H p o) r := by
  obtain ⟨a, b, c, e⟩ := h
  exact ⟨a, b, c, by rw [upd_ne (ne_of_none e n)]; exact e⟩
theorem Rl.ne {r p : Addr} {H : Hp} (h : Rl H r) (n : H p = none) : p ≠ r := by
  obtain ⟨a, b, c, e⟩ := h
  exact (ne_of_none e n).symm
theorem Only.seqL {K : PySem.W.Frag} {r l : Addr} {H H' : Hp} {xs : List V} (o : Only r H H') (n : l ≠ r) (h : SqL K H l xs) : SqL K H' l xs := by
  rcases h with (h | ⟨u, h⟩) | h
  · exact .inl (.inl (o _ _ n h))
  · exact .inl (.inr ⟨u, o _ _ n h⟩)
  · exact .inr h
theorem Only.seqT {K : PySem.W.Frag} {r l : Addr} {H H' : Hp} {xs : List V} (o : Only r H H') (n : l ≠ r) (h : SqT K H l xs) : SqT K H' l xs := by
  rcases h with (h | ⟨u, h⟩) | h
  · exact .inl (.inl (o _ _ n h))
  · exact .inl (.inr ⟨u, o _ _ n h⟩)
  · exact .inr h
theorem ix_at {α : Type} {xs : List α} {i : Int} (h0 : 0 ≤ i) (h1 : i < xs.length) : ∃ v, v ∈ xs ∧ atI xs i = some v := by
  have h2 : i.toNat < xs.length := by omega
  refine ⟨xs[i.toNat], List.getElem_mem h2, ?_⟩
  have h3 : ((i.toNat : Nat) : Int) = i := Int.toNat_of_nonneg h0
  have := atI_nat (xs := xs) (j := i.toNat) (List.getElem?_eq_getElem h2)
  rw [h3] at this
  exact this
/-- what a draw is made from: a list, a tuple, a text -/
def SeqV (K : PySem.W.Frag) (H : Hp) (r : Addr) (x : V) (xs : List V) : Prop :=
  (∃ l, x = .ref l ∧ l ≠ r ∧ (SqL K H l xs ∨ SqT K H l xs)) ∨ (∃ z : Str, x = .str z ∧ z.length ≤ sizeLine ∧ xs = z.cps.toList.map fun c => V.str ⟨#[c]⟩)
theorem lg {i : Int} {b : Nat} (h0 : 0 ≤ i) (h : i < 2 ^ b) (hb : 0 < b) : i.natAbs.log2 < b := by
  refine PySem.Flt.log2_lt_of hb ?_
  have : (i.natAbs : Int) = i := Int.natAbs_of_nonneg h0
  have h2 : ((i.natAbs : Nat) : Int) < ((2 ^ b : Nat) : Int) := by rw [this, Int.natCast_pow]; exact h
  exact Int.ofNat_lt.mp h2
section
variable {X : Cx}
theorem op_powW : OpR X (binaryOp .Pow) (rI (fun i j => 0 ≤ j ∧ (Builtin.Int.intBits i : Int) * j ≤ 2 ^ 27) fun i j => .int (i ^ j.toNat)) := opI fun _ _ _ _ _ _ _ hc q => PyProof.Rows.pow_int hc.1 hc.2 q
end
theorem ite_join {c : Bool} {ta tb : TE} {σ : St} {H : Hp} {Q : VK} (R : V → Hp → Prop) (ha : c = true → ∀ Q' : VK, (∀ v H', R v H' → Q' v H') → ta σ H Q') (hb : c = false → ∀ Q' : VK, (∀ v H', R v H' → Q' v H') → tb σ H Q')
    (h : ∀ v H', R v H' → Q v H') : if c = true then ta σ H Q else tb σ H Q := by
  cases c with
  | true => exact iteT (ha rfl Q h)
  | false => exact iteF (hb rfl Q h)
theorem at_ns {ns : List Int} {i : Nat} (h : i < ns.length) : ∃ z, atI (ns.map V.int) (i : Int) = some (.int z) :=
  ⟨ns[i], atI_nat (by rw [List.getElem?_map, List.getElem?_eq_getElem h]; rfl)⟩
theorem bl_t {Q : VK} {b : Bool} {H : Hp} (e : b = true) (k : Q (.bl true) H) : Q (.bl b) H := e ▸ k
theorem int_to {Q : VK} {i j : Int} {H : Hp} (e : i = j) (k : Q (.int j) H) : Q (.int i) H := e ▸ k
theorem if_ne {x y : V} {A B : Prop} (h : x ≠ y) (a : A) : if (!decide (x = y)) = true then A else B := by
  rw [decide_eq_false h]
  exact iteT a
theorem if_dec_t {x y : V} {A B : Prop} (h : x = y) (a : A) : if decide (x = y) = true then A else B := by
  rw [decide_eq_true h]
  exact iteT a
theorem if_dec_f {x y : V} {A B : Prop} (h : x ≠ y) (b : B) : if decide (x = y) = true then A else B := by
  rw [decide_eq_false h]
  exact iteF b
theorem dp_all {K : PySem.W.Frag} {H : Hp} : ∀ ns : List Int, DpAll K H (ns.map V.int) (ns.map PyData.int)
  | [] => .nil
  | n :: r => .cons (.int n) (dp_all r)
theorem dp_ints {K : PySem.W.Frag} {H : Hp} {a : Addr} (ns : List Int) (h : SqL K H a (ns.map V.int)) : Dp K H (.ref a) (.list (ns.map PyData.int)) := .lst h (dp_all ns)
theorem cells_n (n m : Nat) : ((if (if ((n : Nat) : Int) < (m : Int) then ((n : Nat) : Int) else (m : Int)) > 1 then (if ((n : Nat) : Int) < (m : Int) then ((n : Nat) : Int) else (m : Int)) else 1) : Int) ≤ (m : Int) + 1 ∧ 1 ≤ ((if (if ((n : Nat) : Int) < (m : Int) then ((n : Nat) : Int) else (m : Int)) > 1 then (if ((n : Nat) : Int) < (m : Int) then ((n : Nat) : Int) else (m : Int)) else 1) : Int) := by
  split <;> split <;> omega
def nmC (z : Str) : Bool := decide (1 ≤ z.length ∧ z.length ≤ 8) && z.cps.toList.all fun c => decide (97 ≤ c) && decide (c ≤ 122)
def isNm : V → Bool
  | .str z => nmC z
  | _ => false
def isIn : V → Bool
  | .int n => decide (-1000000000000 < n) && decide (n < 1000000000000)
  | _ => false
/-- the kinds of values that are judged -/
def Vk (P : Str → Prop) (H : Hp) (x : V) : Prop := (∃ z : Str, x = .str z ∧ P z) ∨ x = .non ∨ (∃ b, x = .bl b) ∨ (∃ n, x = .int n) ∨ (∃ a xs, x = .ref a ∧ H a = some (.tup xs)) ∨ (∃ a xs, x = .ref a ∧ H a = some (.lst xs)) ∨ (∃ a kvs, x = .ref a ∧ H a = some (.dK kvs))
theorem Vk.same {P : Str → Prop} {H H' : Hp} {x : V} (s : ∀ a o, x = .ref a → H a = some o → H' a = some o) (h : Vk P H x) : Vk P H' x := by
  rcases h with h | h | h | h | ⟨a, xs, rfl, e⟩ | ⟨a, xs, rfl, e⟩ | ⟨a, xs, rfl, e⟩
  · exact .inl h
  · exact .inr (.inl h)
  · exact .inr (.inr (.inl h))
  · exact .inr (.inr (.inr (.inl h)))
  · exact .inr (.inr (.inr (.inr (.inl ⟨a, xs, rfl, s _ _ rfl e⟩))))
  · exact .inr (.inr (.inr (.inr (.inr (.inl ⟨a, xs, rfl, s _ _ rfl e⟩)))))
  · exact .inr (.inr (.inr (.inr (.inr (.inr ⟨a, xs, rfl, s _ _ rfl e⟩)))))
theorem Vk.str {P : Str → Prop} {K : PySem.W.Frag} {H : Hp} {x : V} (h : Vk P H x) : (∃ z : Str, x = .str z ∧ P z) ∨ (∃ t, TyX K H x (.type t) ∧ kitB t "str" = some false ∧ isNm x = false) := by
  rcases h with h | rfl | ⟨b, rfl⟩ | ⟨n, rfl⟩ | ⟨a, xs, rfl, e⟩ | ⟨a, xs, rfl, e⟩ | ⟨a, xs, rfl, e⟩
  · exact .inl h
  · exact .inr ⟨_, .base .non, by decide +kernel, rfl⟩
  · exact .inr ⟨_, .base (.bl b), by decide +kernel, rfl⟩
  · exact .inr ⟨_, .base (.int n), by decide +kernel, rfl⟩
  · exact .inr ⟨_, .base (.tup e), by decide +kernel, rfl⟩
  · exact .inr ⟨_, .base (.lst e), by decide +kernel, rfl⟩
  · exact .inr ⟨_, .base (.dK e), by decide +kernel, rfl⟩
theorem Vk.int {P : Str → Prop} {K : PySem.W.Frag} {H : Hp} {x : V} (h : Vk P H x) : (∃ n : Int, x = .int n) ∨ (∃ b, x = .bl b) ∨ (∃ t, TyX K H x (.type t) ∧ kitB t "int" = some false ∧ isIn x = false) := by
  rcases h with ⟨z, rfl, _⟩ | rfl | ⟨b, rfl⟩ | ⟨n, rfl⟩ | ⟨a, xs, rfl, e⟩ | ⟨a, xs, rfl, e⟩ | ⟨a, xs, rfl, e⟩
  · exact .inr (.inr ⟨_, .base (.str z), by decide +kernel, rfl⟩)
  · exact .inr (.inr ⟨_, .base .non, by decide +kernel, rfl⟩)
  · exact .inr (.inl ⟨b, rfl⟩)
  · exact .inl ⟨n, rfl⟩
  · exact .inr (.inr ⟨_, .base (.tup e), by decide +kernel, rfl⟩)
  · exact .inr (.inr ⟨_, .base (.lst e), by decide +kernel, rfl⟩)
  · exact .inr (.inr ⟨_, .base (.dK e), by decide +kernel, rfl⟩)
theorem bl_to {Q : VK} {b c : Bool} {H : Hp} (e : b = c) (k : Q (.bl c) H) : Q (.bl b) H := e ▸ k
theorem lt_sign (c d : Nat) : (([c] : List Nat) < [d]) ↔ c < d := by
  constructor
  · intro h
    rcases List.cons_lt_cons_iff.mp h with h | ⟨_, h⟩
    · exact h
    · exact absurd h (by simp)
  · intro h
    exact List.cons_lt_cons_iff.mpr (.inl h)
theorem tk_succ {z : Str} {i c : Nat} (h : z.cps[i]? = some c) : z.cps.toList.take (i + 1) = z.cps.toList.take i ++ [c] := by
  have h2 : z.cps.toList[i]? = some c := by rw [Array.getElem?_toList]; exact h
  rw [List.take_add_one, h2]
  rfl
theorem tk_all (z : Str) : z.cps.toList.take z.cps.size = z.cps.toList := List.take_of_length_le (by rw [Array.length_toList]; exact Nat.le_refl _)
section
variable {X : Cx}
theorem call_repr_bl : CallR X (.builtin "repr") (fun xs H Q => ∃ b : Bool, xs = [.bl b] ∧ Q (.str (if b then "True" else "False")) H) := by
  intro pins s σ H xs us Q I r h
  obtain ⟨b, rfl, q⟩ := h
  obtain ⟨u, rfl, e⟩ := vals1 r
  cases (show u = Value.bool b from e)
  exact PySem.P.repr_of_bool ⟨.str _, H, I.tok _, ⟨_, rfl⟩, q⟩
end
theorem digits_12 {n : Int} (h : 0 ≤ n) : ((Str.ofString (toString n)).length ≤ 12) ↔ n < 1000000000000 := by
  obtain ⟨m, rfl⟩ : ∃ m : Nat, n = (m : Int) := ⟨n.toNat, by omega⟩
  rw [PySem.ofString_length, show toString ((m : Nat) : Int) = m.repr from rfl, Nat.repr_eq_ofList_toDigits, String.length_ofList, Nat.length_toDigits_le_iff (by decide) (by decide)]
  constructor <;> intro h <;> omega
theorem ofL_len (l : List Nat) : (⟨l.toArray⟩ : Str).length = l.length := by simp [Str.length]
theorem cutS_len (z : Str) (lo hi : Option Int) : (cutS z lo hi).length ≤ z.length := by
  unfold cutS
  rw [ofL_len, List.length_take, List.length_drop]
  have : z.cps.toList.length = z.length := by simp [Str.length]
  omega
theorem join_len {ys : List Str} (h : ∀ y ∈ ys, y.length = 1) : (Txt.join "" ys).length = ys.length := by
  rw [TL.join_eq]
  cases ys with
  | nil => rfl
  | cons a l =>
    rw [PyProof.Rows.len_join_cons]
    have h2 : ∀ l : List Str, (∀ y ∈ l, y.length = 1) → (l.map (·.length)).sum = l.length := by
      intro l hl
      induction l with
      | nil => rfl
      | cons b r ih => rw [List.map_cons, List.sum_cons, ih fun y hy => hl y (List.mem_cons_of_mem _ hy), hl b List.mem_cons_self, List.length_cons]; omega
    rw [h2 _ h, show ((Str.ofString "") : Str).length = 0 by decide +kernel]
    omega
theorem dp_bl {K : PySem.W.Frag} {H : Hp} : ∀ ns : List Bool, DpAll K H (ns.map V.bl) (ns.map PyData.bool)
  | [] => .nil
  | n :: r => .cons (.bl n) (dp_bl r)
theorem dp_bools {K : PySem.W.Frag} {H : Hp} {a : Addr} (ns : List Bool) (h : SqL K H a (ns.map V.bl)) : Dp K H (.ref a) (.list (ns.map PyData.bool)) := .lst h (dp_bl ns)
theorem dp_st {K : PySem.W.Frag} {H : Hp} : ∀ ns : List Str, DpAll K H (ns.map V.str) (ns.map PyData.str)
  | [] => .nil
  | n :: r => .cons (.str n) (dp_st r)
def Asc (z : Str) : Prop := ∀ c ∈ z.cps.toList, c < 128
def Tx (z : Str) : Prop := z.length ≤ 100 ∧ Asc z
theorem Asc.append {a b : Str} (ha : Asc a) (hb : Asc b) : Asc (a ++ b) := by
  intro c hc
  rw [PySem.Str.cps_append, Array.toList_append] at hc
  rcases List.mem_append.mp hc with h | h
  · exact ha c h
  · exact hb c h
theorem Asc.cut {a : Str} (ha : Asc a) (lo hi : Option Int) : Asc (cutS a lo hi) := by
  intro c hc
  exact ha c (List.mem_of_mem_drop (List.mem_of_mem_take hc))
theorem Asc.upper {a : Str} (ha : Asc a) : Asc (Txt.upper a) := by
  intro c hc
  rw [PyProof.Rows.upper_ascii ha] at hc
  have hc2 : c ∈ (a.cps.map PyProof.Rows.up1).toList := hc
  rw [Array.toList_map] at hc2
  obtain ⟨d, hd, rfl⟩ := List.mem_map.mp hc2
  have := ha d hd
  unfold PyProof.Rows.up1
  split <;> omega
theorem Asc.join : ∀ {ys : List Str}, (∀ y ∈ ys, Asc y) → Asc (Str.join "" ys)
  | [], _ => fun c hc => by cases hc
  | [y], h => h y List.mem_cons_self
  | x :: z :: r, h => by
    show Asc (x ++ Str.ofString "" ++ Str.join "" (z :: r))
    refine Asc.append (Asc.append (h x List.mem_cons_self) fun c hc => ?_) (Asc.join fun y hy => h y (List.mem_cons_of_mem _ hy))
    have e : (Str.ofString "").cps.toList = [] := by decide +kernel
    rw [e] at hc
    cases hc
theorem Asc.ok {a : Str} (ha : Asc a) : PyData.strOk a = true := by
  unfold PyData.strOk
  rw [← Array.all_toList, List.all_eq_true]
  intro c hc
  have := ha c hc
  exact decide_eq_true (by omega)
theorem lay_st : ∀ {ns : List Str}, (∀ y ∈ ns, Asc y) → PyData.canLayAll0 (ns.map PyData.str) = true
  | [], _ => rfl
  | n :: r, h => by
    show (PyData.strOk n && PyData.canLayAll0 (r.map PyData.str)) = true
    rw [(h n List.mem_cons_self).ok, lay_st fun y hy => h y (List.mem_cons_of_mem _ hy)]
    rfl
theorem depth_st : ∀ ns : List Str, PyData.depthAll (ns.map PyData.str) = 0
  | [] => rfl
  | n :: r => by
    show max 0 (PyData.depthAll (r.map PyData.str)) = 0
    rw [depth_st r]
    rfl
theorem shaped_st {ns : List Str} (h : ∀ y ∈ ns, Asc y) : SeqAt.shaped (.list (ns.map PyData.str)) = true := by
  show (PyData.canLayAll0 (ns.map PyData.str) && decide (PyData.depthAll (ns.map PyData.str) + 1 ≤ 64)) = true
  rw [lay_st h, depth_st]
  rfl
theorem eqv_st : ∀ ns : List Str, PyData.eqv (.list (ns.map PyData.str)) (.list []) = ns.isEmpty := by
  intro ns
  cases ns <;> rfl
def sg (c : Nat) : Str := ⟨#[c]⟩

section
variable {P : Program} {w : World} {K : PySem.W.Frag} {mg : Str → Option Value} {base : Heap}
def sp_w_reel (K : PySem.W.Frag) : Sp := fun vs H Q _ => ∃ (s : Addr) (ns : List Int) (i : Nat), vs = [.ref s, .int (i : Int)] ∧ SqL K H s (ns.map V.int) ∧ ∀ p a b c, H p = none → Q (.ref p) (upd H p (.lst [.int a, .int b, .int c]))
theorem ok_w_reel (T : T K mg) : FnOk P w K mg base CX0 1 T.f_w_reel T.d_w_reel ["script", "at"] (sp_w_reel K) := by
  refine T.F_w_reel.ok sc_w_reel (fun vs H Q E h => ?_) (fun cdv A outer s H vs Q E hr h => ?_)
  · obtain ⟨s, ns, i, rfl, _⟩ := h
    rfl
  · obtain ⟨s, ns, i, rfl, hS, k⟩ := h
    have hu := hu_of hr
    refine ⟨_, (pss_cons (ps_set (i := 2) sc_w_reel.nd rfl (Or.inl rfl) (pe_ifExp (pt_cmpR op_lt (pv 1) (pe_callB call_len (by rfl) T.z_len (by decide +kernel) (pa_cons (pv 0) pa_nil)) (nomark _)) (pe_ix ix_seq (pv 0) (pv 1) (fun _ _ => rfl)) (pe_op op_add (pe_op op_mul pe_int (pv 1)) pe_int)))
      (pss_cons (ps_set (i := 3) sc_w_reel.nd rfl (Or.inl rfl) (pe_op op_mod (pe_callTy call_int1 (by rfl) T.z_int (by decide +kernel) (pa_cons (pe_callB call_abs (by rfl) T.z_abs (by decide +kernel) (pa_cons (pv 2) pa_nil)) pa_nil)) (pe_op op_powW (pe_op op_pow pe_int pe_int) pe_int)))
      (pss_cons (ps_set (i := 4) sc_w_reel.nd rfl (Or.inl rfl) (pe_op op_add (pe_op op_add (pe_op op_add (pe_op op_mul (pe_op op_mod (pe_callTy call_int1 (by rfl) T.z_int (by decide +kernel) (pa_cons (pv 3) pa_nil)) pe_int) pe_int) (pe_op op_mul pe_int (pv 1))) (pe_op op_mul pe_int (pe_callTy call_int1 (by rfl) T.z_int (by decide +kernel) (pa_cons (pe_cmpR op_lt (pv 2) pe_int (nomark _)) pa_nil)))) pe_int))
      (pss_one (ps_ret (pe_lst (pa_cons (pe_callB (call_max2 rfl) (by rfl) T.z_max (by decide +kernel) (pa_cons pe_int (pa_cons (pe_op op_sub (pv 3) (pe_op op_pow pe_int pe_int)) pa_nil))) (pa_cons (pe_op op_mod (pe_callTy call_int1 (by rfl) T.z_int (by decide +kernel) (pa_cons (pv 4) pa_nil)) pe_int) (pa_cons pe_int pa_nil))))))))), ?_⟩
    refine ⟨_, rfl, _, rfl, _, _, rfl, .inl ⟨_, hS, rfl⟩, _, _, rfl, rfl, _, rfl, ?_⟩
    refine ite_join (fun v H' => H' = H ∧ ∃ z, v = .int z) (fun c Q' q => ?_) (fun c Q' q => ?_) ?_
    · have hi := of_decide_eq_true c
      rw [List.length_map] at hi
      obtain ⟨z, hz⟩ := at_ns (ns := ns) (i := i) (by omega)
      exact ⟨_, rfl, _, rfl, .inl ⟨_, _, _, _, rfl, rfl, hS, hz, q _ _ ⟨rfl, z, rfl⟩⟩⟩
    · exact ⟨_, rfl, _, _, rfl, rfl, .inl ⟨by decide, by decide⟩, _, _, rfl, rfl, q _ _ ⟨rfl, _, rfl⟩⟩
    rintro v H' ⟨rfl, z, rfl⟩
    refine ⟨_, rfl, _, rfl, .inl ⟨_, rfl, ?_⟩⟩
    refine ⟨_, _, rfl, rfl, ⟨by decide, by decide, by decide⟩, _, _, rfl, rfl, ⟨by decide, by decide +kernel⟩, _, _, rfl, rfl, (by show (0 : Int) < _; decide +kernel), ?_⟩
    refine ⟨_, rfl, .inl ⟨_, rfl, ?_⟩⟩
    refine ⟨_, _, rfl, rfl, (by show (0 : Int) < _; decide), _, _, rfl, rfl, .inr ⟨by decide, by decide⟩, _, rfl, _, _, rfl, rfl, .inl ⟨by decide, by decide⟩, _, _, rfl, rfl, ?_⟩
    refine ⟨_, rfl, _, _, rfl, rfl, .inr ⟨_, rfl, ?_⟩⟩
    refine ⟨_, _, rfl, rfl, .inl ⟨by decide, by decide⟩, _, _, rfl, rfl, _, _, rfl, rfl, ?_⟩
    refine ⟨_, rfl, _, _, rfl, rfl, ⟨by decide, by decide, by decide⟩, _, _, rfl, rfl, _, _, rfl, _, rfl, .inl ⟨_, rfl, ?_⟩⟩
    refine ⟨_, _, rfl, rfl, (by show (0 : Int) < _; decide), (by show 3 ≤ sizeLine; decide), fun p hp => ?_⟩
    exact k p _ _ _ hp
def sp_w_spin (K : PySem.W.Frag) : Sp := fun vs H Q _ => ∃ (r : Addr) (n : Int), vs = [.ref r, .int n] ∧ Rl H r ∧ 0 < n ∧ n.natAbs.log2 < 9000 ∧ ∀ v H', 0 ≤ v → v < n → Rl H' r → Only r H H' → Q (.int v) H'
theorem ok_w_spin (T : T K mg) : FnOk P w K mg base CX0 1 T.f_w_spin T.d_w_spin ["reel", "total"] (sp_w_spin K) := by
  refine T.F_w_spin.ok sc_w_spin (fun vs H Q E h => ?_) (fun cdv A outer s H vs Q E hr h => ?_)
  · obtain ⟨r, n, rfl, _⟩ := h
    rfl
  · obtain ⟨r, n, rfl, ⟨a, b, c, e⟩, h0, h9, k⟩ := h
    have hu := hu_of hr
    refine ⟨_, (pss_cons (ps_if (pt_cmpR op_gt (pe_ix ix_seq (pv 0) pe_int (fun _ _ => rfl)) pe_int (nomark _))
      (pss_cons (ps_set (i := 2) sc_w_spin.nd rfl (Or.inl rfl) (pe_op op_mod (pe_callTy call_int1 (by rfl) T.z_int (by decide +kernel) (pa_cons (pe_ix ix_seq (pv 0) pe_int (fun _ _ => rfl)) pa_nil)) (pv 1)))
      (pss_cons (ps_asg (pe_op op_fdivW (pe_ix ix_seq (pv 0) pe_int (fun _ _ => rfl)) (pv 1)) (pg_sub (pv 0) pe_int set_list))
      (pss_one (ps_ret (pv 2)))))
      pss_nil)
      (pss_cons (ps_asg (pe_op op_add (pe_ix ix_seq (pv 0) pe_int (fun _ _ => rfl)) pe_int) (pg_sub (pv 0) pe_int set_list))
      (pss_cons (ps_set (i := 3) sc_w_spin.nd rfl (Or.inl rfl) (pe_op op_mod (pe_callTy call_int1 (by rfl) T.z_int (by decide +kernel) (pa_cons (pe_op op_add (pe_ix ix_seq (pv 0) pe_int (fun _ _ => rfl)) (pe_op op_mul pe_int (pe_ix ix_seq (pv 0) pe_int (fun _ _ => rfl)))) pa_nil)) pe_int))
      (pss_cons (ps_set (i := 4) sc_w_spin.nd rfl (Or.inl rfl) (pe_op op_add (pe_op op_mul (pe_op op_mod (pe_callTy call_int1 (by rfl) T.z_int (by decide +kernel) (pa_cons (pe_op op_mul (pv 3) (pv 3)) pa_nil)) pe_int) (pv 3)) (pe_op op_mul pe_int (pe_ix ix_seq (pv 0) pe_int (fun _ _ => rfl)))))
      (pss_cons (ps_set (i := 4) sc_w_spin.nd rfl (Or.inl rfl) (pe_op op_mod (pe_callTy call_int1 (by rfl) T.z_int (by decide +kernel) (pa_cons (pv 4) pa_nil)) pe_int))
      (pss_one (ps_ret (pe_op op_mod (pe_callTy call_int1 (by rfl) T.z_int (by decide +kernel) (pa_cons (pe_op op_fdivW (pv 4) pe_int) pa_nil)) (pv 1))))))))), ?_⟩
    have u3 : ∀ {x y z : V} {G : Hp}, G r = some (.lst [x, y, z]) → SqL K G r [x, y, z] := fun g => SqL.of g
    refine ⟨_, rfl, .inl ⟨_, _, _, _, rfl, rfl, u3 e, rfl, ?_⟩⟩
    refine ⟨_, _, rfl, rfl, _, rfl, ?_⟩
    refine ite2 (fun c1 => ?_) (fun c1 => ?_)
    · refine ⟨_, rfl, .inl ⟨_, _, _, _, rfl, rfl, u3 e, rfl, .inl ⟨_, rfl, ?_⟩⟩⟩
      refine ⟨_, rfl, _, _, rfl, rfl, h0, ?_⟩
      refine ⟨_, rfl, .inl ⟨_, _, _, _, rfl, rfl, u3 e, rfl, ?_⟩⟩
      refine ⟨_, rfl, _, _, rfl, rfl, ⟨h0, h9⟩, _, rfl, _, _, _, 0, rfl, rfl, e, rfl, ?_⟩
      refine ⟨_, rfl, ?_⟩
      exact k _ _ (Int.emod_nonneg _ (by omega)) (Int.emod_lt_of_pos _ h0) ⟨_, _, _, upd_same⟩ Only.upd
    · refine ⟨_, rfl, .inl ⟨_, _, _, _, rfl, rfl, u3 e, rfl, ?_⟩⟩
      refine ⟨_, _, rfl, rfl, _, rfl, _, _, _, 2, rfl, rfl, e, rfl, ?_⟩
      have e2 : (upd H r (.lst [.int a, .int b, .int (c + 1)])) r = some (.lst [.int a, .int b, .int (c + 1)]) := upd_same
      refine ⟨_, rfl, .inl ⟨_, _, _, _, rfl, rfl, u3 e2, rfl, ?_⟩⟩
      refine ⟨_, rfl, .inl ⟨_, _, _, _, rfl, rfl, u3 e2, rfl, ?_⟩⟩
      refine ⟨_, _, rfl, rfl, .inl ⟨by decide, by decide⟩, _, _, rfl, rfl, .inl ⟨_, rfl, ?_⟩⟩
      refine ⟨_, _, rfl, rfl, (by show (0 : Int) < _; decide), ?_⟩
      have o1 : -(2 ^ 64) < (b + 1000303 * (c + 1)) % 2305843009213693951 ∧ (b + 1000303 * (c + 1)) % 2305843009213693951 < 2 ^ 64 := by omega
      refine ⟨_, rfl, _, rfl, _, _, rfl, rfl, .inl o1, .inl ⟨_, rfl, ?_⟩⟩
      refine ⟨_, _, rfl, rfl, (by show (0 : Int) < _; decide), _, rfl, _, _, rfl, rfl, .inr o1, ?_⟩
      refine ⟨_, rfl, .inl ⟨_, _, _, _, rfl, rfl, u3 e2, rfl, ?_⟩⟩
      refine ⟨_, _, rfl, rfl, .inl ⟨by decide, by decide⟩, _, _, rfl, rfl, ?_⟩
      refine ⟨_, rfl, .inl ⟨_, rfl, ?_⟩⟩
      refine ⟨_, _, rfl, rfl, (by show (0 : Int) < _; decide), ?_⟩
      refine ⟨_, rfl, _, _, rfl, rfl, ⟨by decide, by decide⟩, .inl ⟨_, rfl, ?_⟩⟩
      refine ⟨_, rfl, _, _, rfl, rfl, h0, ?_⟩
      exact k _ _ (Int.emod_nonneg _ (by omega)) (Int.emod_lt_of_pos _ h0) ⟨_, _, _, e2⟩ Only.upd
def sp_w_pick (K : PySem.W.Frag) : Sp := fun vs H Q _ => ∃ (r : Addr) (x : V) (xs : List V), vs = [.ref r, x] ∧ Rl H r ∧ SeqV K H r x xs ∧ 0 < xs.length ∧ xs.length ≤ sizeLine ∧ ∀ v H', v ∈ xs → Rl H' r → Only r H H' → Q v H'
theorem ok_w_pick (T : T K mg) : FnOk P w K mg base CX0 2 T.f_w_pick T.d_w_pick ["reel", "items"] (sp_w_pick K) := by
  have G_w_spin : FnOk P w K mg base CX0 1 T.f_w_spin T.d_w_spin ["reel", "total"] (sp_w_spin K) := ok_w_spin T
  refine T.F_w_pick.ok sc_w_pick (fun vs H Q E h => ?_) (fun cdv A outer s H vs Q E hr h => ?_)
  · obtain ⟨r, x, xs, rfl, _⟩ := h
    rfl
  · obtain ⟨r, x, xs, rfl, hR, hx, h0, h1, k⟩ := h
    have hu := hu_of hr
    have hr_w_spin : Room 1 _ := hr.mono (by decide)
    refine ⟨_, (pss_one (ps_ret (pe_ix ix_seq (pv 1) (pe_call G_w_spin hr_w_spin rfl T.m_w_spin T.F_w_spin.kp T.b_w_spin .nil pass0 (pa_cons (pv 0) (pa_cons (pe_callB call_len (by rfl) T.z_len (by decide +kernel) (pa_cons (pv 1) pa_nil)) pa_nil))) (fun _ _ => rfl)))), ?_⟩
    have hl : (xs.length : Int).natAbs.log2 < 9000 := by
      have : xs.length < 2 ^ 63 := Nat.lt_of_le_of_lt h1 (by decide)
      exact Nat.lt_trans (lg (b := 63) (by omega) (by omega) (by decide)) (by decide)
    refine ⟨_, rfl, _, rfl, _, rfl, x, xs.length, rfl, ?_, ?_⟩
    · rcases hx with ⟨l, rfl, hn, h | h⟩ | ⟨z, rfl, hz, rfl⟩
      · exact .inl ⟨_, h, rfl⟩
      · exact .inr ⟨_, h, rfl⟩
      · exact ⟨hz, by rw [List.length_map]; rfl⟩
    refine ⟨r, _, rfl, hR, by omega, hl, fun v H' v0 v1 R' O' => ?_⟩
    obtain ⟨y, hy, ha⟩ := ix_at v0 v1
    rcases hx with ⟨l, rfl, hn, h | h⟩ | ⟨z, rfl, hz, rfl⟩
    · exact .inl ⟨_, _, _, _, rfl, rfl, O'.seqL hn h, ha, k _ _ hy R' O'⟩
    · exact .inr (.inl ⟨_, _, _, _, rfl, rfl, O'.seqT hn h, ha, k _ _ hy R' O'⟩)
    · obtain ⟨i, hi⟩ : ∃ c, atI z.cps.toList v = some c := by
        unfold atI at ha ⊢
        rw [List.length_map] at ha
        cases e : ixN z.cps.toList.length v with
        | none => rw [e] at ha; cases ha
        | some j =>
          rw [e] at ha
          simp only [Option.bind_some] at ha ⊢
          rw [List.getElem?_map] at ha
          cases e2 : z.cps.toList[j]? with
          | none => rw [e2] at ha; cases ha
          | some c => exact ⟨c, rfl⟩
      have hc : i ∈ z.cps.toList := by
        unfold atI at hi
        cases e : ixN z.cps.toList.length v with
        | none => rw [e] at hi; cases hi
        | some j => rw [e] at hi; exact List.mem_of_getElem? hi
      exact .inr (.inr ⟨_, _, _, rfl, rfl, hz, hi, k _ _ (List.mem_map.mpr ⟨i, hc, rfl⟩) R' O'⟩)
def sp_is_name (K : PySem.W.Frag) : Sp := fun vs H Q _ => ∃ x : V, vs = [x] ∧ Vk Tx H x ∧ ∀ H', Same H H' → Q (.bl (isNm x)) H'
theorem ok_is_name (T : T K mg) : FnOk P w K mg base CX0 1 T.f_is_name T.d_is_name ["value"] (sp_is_name K) := by
  refine T.F_is_name.ok sc_is_name (fun vs H Q E h => ?_) (fun cdv A outer s H vs Q E hr h => ?_)
  · obtain ⟨x, rfl, _⟩ := h
    rfl
  · obtain ⟨x, rfl, hx, k⟩ := h
    have hu := hu_of hr
    obtain ⟨_, c_MAX_LETTERS⟩ := T.c_MAX_LETTERS
    refine ⟨_, (pss_cons (ps_if (PW.pt (pw_or (pt_not (pt_val (pe_callB call_isi (by rfl) T.z_isinstance (by decide +kernel) (pa_cons (pv 0) (pa_cons (pe_bltn (v := V.ty "str") (u := Value.type "str") (by rfl) T.z_str (by decide +kernel) rfl) pa_nil))))) (pw_or1 (pt_not (pt_chain op_le op_le pe_int (pe_callB call_len (by rfl) T.z_len (by decide +kernel) (pa_cons (pv 0) pa_nil)) (pe_glob (v := V.int 8) rfl c_MAX_LETTERS ⟨_, rfl⟩))))))
      (pss_one (ps_ret pe_bl))
      pss_nil)
      (pss_one (ps_ret (pe_callB (cr_all rfl) (by rfl) T.z_all (by decide +kernel) (pa_cons (pe_lc (own := [("letter", 1)]) (g := gName 1) rfl sc_is_name.nd (pi_str (pv 0)) (blkOk_by (N := ["value", "letter"]) (sc := defScope s_is_name) (by decide +kernel)) (fun _ _ _ _ _ => (pg_name (i := 1) sc_is_name.nd rfl (Or.inl rfl))) (fun _ _ _ _ _ => pts_nil) (fun _ _ _ _ _ => (pe_chain op_le_str op_le_str pe_str (pv 1) pe_str))) pa_nil))))), ?_⟩
    rcases hx.str (K := K) with ⟨z, rfl, hz, hA⟩ | ⟨t, ht, hk, hn⟩
    · refine ⟨_, rfl, _, _, _, _, true, rfl, .ty _, .base (.str _), kit_ty (by decide +kernel), _, rfl, iteF ?_⟩
      refine ⟨_, rfl, _, _, rfl, ⟨Nat.le_trans hz (by decide), rfl⟩, _, _, rfl, rfl, _, rfl, ?_⟩
      refine ite2 (fun c1 => ?_) (fun c1 => ?_)
      · have h1 := of_decide_eq_true c1
        refine ⟨_, _, rfl, rfl, _, rfl, ?_⟩
        by_cases h2 : (z.length : Int) ≤ 8
        · rw [decide_eq_true h2]
          refine iteF ?_
          refine ⟨_, rfl, _, rfl, fun D hD => ?_⟩
          refine lc_it walk_str (fun i H' => H' D = some (.lst (((z.cps.toList.take i).map fun c => decide (97 ≤ c) && decide (c ≤ 122)).map V.bl)) ∧ Same H H') ⟨upd_same, fun b o e => by rw [upd_ne (ne_of_none e hD)]; exact e⟩ (fun _ _ _ _ => trivial) ?_ ?_
          · rintro i y H1 H2 hi ⟨eD, S⟩ ⟨rfl, c, hc, rfl⟩
            refine ⟨rfl, ?_⟩
            unfold tYes
            dsimp only
            rw [if_pos rfl]
            refine ⟨_, rfl, _, _, rfl, rfl, _, rfl, ?_⟩
            have done : ∀ b : Bool, b = (decide (97 ≤ c) && decide (c ≤ 122)) → ∃ acc, H2 D = some (.lst acc) ∧ acc.length < sizeLine ∧ (upd H2 D (.lst (acc ++ [V.bl b]))) D = some (.lst (((z.cps.toList.take (i + 1)).map fun c => decide (97 ≤ c) && decide (c ≤ 122)).map V.bl)) ∧ Same H (upd H2 D (.lst (acc ++ [V.bl b]))) := by
              rintro b rfl
              refine ⟨_, eD, ?_, ?_, fun b o e => ?_⟩
              · rw [List.length_map, List.length_map, List.length_take]
                have : z.cps.toList.length = z.length := by simp [Str.length]
                exact Nat.lt_of_le_of_lt (Nat.le_trans (Nat.min_le_right _ _) (by omega : z.cps.toList.length ≤ 100)) (by decide)
              · rw [upd_same, tk_succ hc, List.map_append, List.map_append]
                rfl
              · rw [upd_ne (ne_of_none e hD)]
                exact S b o e
            refine ite2 (fun c2 => ?_) (fun c2 => ?_)
            · have h3 : 97 ≤ c := by
                rw [Bool.not_eq_true', decide_eq_false_iff_not] at c2
                have c3 : ¬ (([c] : List Nat) < [97]) := c2
                rw [lt_sign] at c3
                omega
              refine ⟨_, _, rfl, rfl, done _ ?_⟩
              rw [decide_eq_true h3, Bool.true_and]
              by_cases h4 : c ≤ 122
              · rw [decide_eq_true h4]
                show (!decide (([122] : List Nat) < [c])) = true
                rw [decide_eq_false (by rw [lt_sign]; omega)]
                rfl
              · rw [decide_eq_false h4]
                show (!decide (([122] : List Nat) < [c])) = false
                rw [decide_eq_true (by rw [lt_sign]; omega)]
                rfl
            · have h3 : ¬ 97 ≤ c := by
                rw [Bool.not_eq_true', decide_eq_false_iff_not] at c2
                have c3 := Classical.not_not.mp c2
                have c4 : ([c] : List Nat) < [97] := c3
                rw [lt_sign] at c4
                omega
              refine done _ ?_
              rw [decide_eq_false h3, Bool.false_and]
          · rintro H9 ⟨eD, S⟩
            refine ⟨_, _, rfl, SqL.of eD, ?_⟩
            refine bl_to ?_ (k _ S)
            rw [tk_all]
            show _ = (decide (1 ≤ z.length ∧ z.length ≤ 8) && _)
            rw [decide_eq_true (show 1 ≤ z.length ∧ z.length ≤ 8 by omega), Bool.true_and, List.all_map]
            rfl
        · rw [decide_eq_false h2]
          refine iteT ?_
          refine bl_to ?_ (k _ (Same.refl _))
          show false = (decide (1 ≤ z.length ∧ z.length ≤ 8) && _)
          rw [decide_eq_false (show ¬ (1 ≤ z.length ∧ z.length ≤ 8) by omega), Bool.false_and]
      · have h1 : ¬ (1 : Int) ≤ (z.length : Int) := fun q => c1 (decide_eq_true q)
        refine ⟨_, rfl, iteT ?_⟩
        refine bl_to ?_ (k _ (Same.refl _))
        show false = (decide (1 ≤ z.length ∧ z.length ≤ 8) && _)
        rw [decide_eq_false (show ¬ (1 ≤ z.length ∧ z.length ≤ 8) by omega), Bool.false_and]
    · refine ⟨_, rfl, _, _, _, _, false, rfl, .ty _, ht, kit_ty hk, _, rfl, iteT ?_⟩
      exact iteT (bl_to hn.symm (k _ (Same.refl _)))
def sp_is_integer (K : PySem.W.Frag) : Sp := fun vs H Q _ => ∃ x : V, vs = [x] ∧ Vk (fun _ => True) H x ∧ Q (.bl (isIn x)) H
theorem ok_is_integer (T : T K mg) : FnOk P w K mg base CX0 1 T.f_is_integer T.d_is_integer ["value"] (sp_is_integer K) := by
  refine T.F_is_integer.ok sc_is_integer (fun vs H Q E h => ?_) (fun cdv A outer s H vs Q E hr h => ?_)
  · obtain ⟨x, rfl, _⟩ := h
    rfl
  · obtain ⟨x, rfl, hx, k⟩ := h
    have hu := hu_of hr
    refine ⟨_, (pss_cons (ps_if (PW.pt (pw_or (pt_not (pt_val (pe_callB call_isi (by rfl) T.z_isinstance (by decide +kernel) (pa_cons (pv 0) (pa_cons (pe_bltn (v := V.ty "int") (u := Value.type "int") (by rfl) T.z_int (by decide +kernel) rfl) pa_nil))))) (pw_or1 (pt_val (pe_callB call_isi (by rfl) T.z_isinstance (by decide +kernel) (pa_cons (pv 0) (pa_cons (pe_bltn (v := V.ty "bool") (u := Value.type "bool") (by rfl) T.z_bool (by decide +kernel) rfl) pa_nil)))))))
      (pss_one (ps_ret pe_bl))
      pss_nil)
      (pss_one (ps_ret (pe_chain op_lt op_lt (pe_un un_neg (pe_op op_pow pe_int pe_int)) (pv 0) (pe_op op_pow pe_int pe_int))))), ?_⟩
    rcases hx.int (K := K) with ⟨n, rfl⟩ | ⟨b, rfl⟩ | ⟨t, ht, hk, hn⟩
    · refine ⟨_, rfl, _, _, _, _, true, rfl, .ty _, .base (.int _), kit_ty (by decide +kernel), _, rfl, iteF ?_⟩
      refine ⟨_, rfl, _, _, _, _, false, rfl, .ty _, .base (.int _), kit_ty (by decide +kernel), _, rfl, iteF ?_⟩
      refine ⟨_, _, rfl, rfl, ⟨by decide, by decide, by decide⟩, _, rfl, _, rfl, _, _, rfl, rfl, _, rfl, ?_⟩
      have e1 : decide (-(10 ^ Int.toNat 12) < n) = decide (-1000000000000 < n) := rfl
      refine ite2 (fun c => ?_) (fun c => ?_)
      · refine ⟨_, _, rfl, rfl, ⟨by decide, by decide, by decide⟩, _, _, rfl, rfl, ?_⟩
        refine bl_to ?_ k
        show _ = (decide (-1000000000000 < n) && decide (n < 1000000000000))
        rw [← e1, c, Bool.true_and]
        rfl
      · refine bl_to ?_ k
        show _ = (decide (-1000000000000 < n) && decide (n < 1000000000000))
        rw [← e1, Bool.eq_false_iff.mpr c, Bool.false_and]
    · refine ⟨_, rfl, _, _, _, _, true, rfl, .ty _, .base (.bl _), kit_ty (by decide +kernel), _, rfl, iteF ?_⟩
      refine ⟨_, rfl, _, _, _, _, true, rfl, .ty _, .base (.bl _), kit_ty (by decide +kernel), _, rfl, iteT ?_⟩
      exact k
    · refine ⟨_, rfl, _, _, _, _, false, rfl, .ty _, ht, kit_ty hk, _, rfl, iteT ?_⟩
      exact iteT (bl_to hn.symm k)
def sp_w_name (K : PySem.W.Frag) : Sp := fun vs H Q _ => ∃ r : Addr, vs = [.ref r] ∧ Rl H r ∧ ∀ z H', z.length ≤ 8 → Asc z → Rl H' r → Only r H H' → Q (.str z) H'
theorem ok_w_name (T : T K mg) : FnOk P w K mg base CX0 3 T.f_w_name T.d_w_name ["reel"] (sp_w_name K) := by
  have G_w_pick : FnOk P w K mg base CX0 2 T.f_w_pick T.d_w_pick ["reel", "items"] (sp_w_pick K) := ok_w_pick T
  refine T.F_w_name.ok sc_w_name (fun vs H Q E h => ?_) (fun cdv A outer s H vs Q E hr h => ?_)
  · obtain ⟨r, rfl, _⟩ := h
    rfl
  · obtain ⟨r, rfl, hR, k⟩ := h
    have hu := hu_of hr
    have hr_w_pick : Room 2 _ := hr.mono (by decide)
    refine ⟨_, (pss_cons (ps_set (i := 1) sc_w_name.nd rfl (Or.inr rfl) pe_str)
      (pss_one (ps_ret (pe_join pe_str (pe_lc (own := [("turn", 2)]) (g := gName 2) rfl sc_w_name.nd (pi_range1 (by rfl) T.z_range (pa_cons (pe_call G_w_pick hr_w_pick rfl T.m_w_pick T.F_w_pick.kp T.b_w_pick .nil pass0 (pa_cons (pv 0) (pa_cons (pe_lst (pa_cons pe_int (pa_cons pe_int (pa_cons pe_int (pa_cons pe_int (pa_cons pe_int (pa_cons pe_int pa_nil))))))) pa_nil))) pa_nil)) (blkOk_by (N := ["reel", "letters", "turn"]) (sc := defScope s_w_name) (by decide +kernel)) (fun _ _ _ _ _ => (pg_name (i := 2) sc_w_name.nd rfl (Or.inl rfl))) (fun _ _ _ _ _ => pts_nil) (fun _ _ _ _ _ => (pe_call G_w_pick hr_w_pick rfl T.m_w_pick T.F_w_pick.kp T.b_w_pick .nil pass0 (pa_cons (pv 0) (pa_cons (pv 1) pa_nil))))))))), ?_⟩
    refine ⟨⟨_, rfl⟩, _, rfl, by show 6 ≤ sizeLine; decide, fun l0 n0 => ?_⟩
    refine ⟨r, _, ([1, 1, 2, 3, 7, 8] : List Int).map V.int, rfl, hR.new n0, .inl ⟨l0, rfl, hR.ne n0, .inl (SqL.of upd_same)⟩, by decide, by decide, fun v H1 hv R1 O1 => ?_⟩
    obtain ⟨m, hm0, rfl⟩ := List.mem_map.mp hv
    have hm : 1 ≤ m ∧ m ≤ 8 := by
      simp only [List.mem_cons, List.mem_nil_iff, or_false] at hm0
      omega
    have P1 : Only r H H1 := (Only.new n0).trans O1
    clear hv hm0 O1 n0
    dsimp only
    refine ⟨m, rfl, by omega, by omega, fun D hD => ?_⟩
    refine lc_range (fun i H' => (∃ ys : List Str, H' D = some (.lst (ys.map V.str)) ∧ ys.length = i ∧ ∀ y ∈ ys, y.length = 1 ∧ Asc y) ∧ Rl H' r ∧ Only r H H') ⟨⟨[], upd_same, rfl, fun y hy => by cases hy⟩, R1.new hD, P1.trans (Only.new hD)⟩ ?_ ?_
    · rintro i H' hi ⟨⟨ys, eD, hl, hy⟩, RD, PD⟩
      refine ⟨rfl, ?_⟩
      unfold tYes
      dsimp only
      rw [if_pos rfl]
      refine ⟨_, rfl, _, rfl, r, _, _, rfl, RD, .inr ⟨_, rfl, by decide +kernel, rfl⟩, by decide +kernel, by decide +kernel, fun v H2 hv R2 O2 => ?_⟩
      obtain ⟨c, hc, rfl⟩ := List.mem_map.mp hv
      have hc2 : c < 128 := by
        have h0 : ∀ c ∈ (Str.ofString "abcdefghijklmnopqrstuvwxyz").cps.toList, c < 128 := by decide +kernel
        exact h0 c hc
      have nr : D ≠ r := R1.ne hD
      refine ⟨_, O2 _ _ nr eD, ?_, ⟨ys ++ [⟨#[c]⟩], ?_, ?_, ?_⟩, ?_, ?_⟩
      · rw [List.length_map, hl]
        exact Nat.lt_of_lt_of_le (show i < 100 by omega) (by decide)
      · rw [upd_same, List.map_append]
        rfl
      · rw [List.length_append, hl]
        rfl
      · intro y hy2
        rcases List.mem_append.mp hy2 with h | h
        · exact hy y h
        · rw [List.mem_singleton.mp h]
          refine ⟨rfl, fun d hd => ?_⟩
          have hd2 : d ∈ [c] := hd
          rw [List.mem_singleton.mp hd2]
          exact hc2
      · obtain ⟨x, y, w, ez⟩ := R2
        exact ⟨x, y, w, by rw [upd_ne nr.symm]; exact ez⟩
      · intro b u nb eb
        rw [upd_ne (ne_of_none (P1 b u nb eb) hD)]
        exact O2 b u nb (PD b u nb eb)
    · rintro H9 ⟨⟨ys, eD, hl, hy⟩, R9, P9⟩
      have e1 := join_len (ys := ys) fun y h => (hy y h).1
      refine ⟨_, _, ys, rfl, rfl, .inl (SqL.of eD), ?_, ?_⟩
      · have : ∀ l : List Str, (∀ y ∈ l, y.length = 1 ∧ Asc y) → (l.map (·.length)).sum = l.length := by
          intro l hl
          induction l with
          | nil => rfl
          | cons b r ih => rw [List.map_cons, List.sum_cons, ih fun y hy => hl y (List.mem_cons_of_mem _ hy), (hl b List.mem_cons_self).1, List.length_cons]; omega
        rw [this ys hy, show ((Str.ofString "") : Str).length = 0 by decide +kernel]
        omega
      · refine k _ _ ?_ ?_ R9 P9
        · rw [show Txt.join (Str.ofString "") ys = Txt.join "" ys from rfl, e1]
          omega
        · rw [TL.join_eq]
          exact Asc.join fun y h => (hy y h).2
def sp_w_is_name (K : PySem.W.Frag) : Sp := fun vs H Q _ => ∃ x : V, vs = [x] ∧ Vk Tx H x ∧ ∀ H', Same H H' → Q (.bl (isNm x)) H'
theorem ok_w_is_name (T : T K mg) : FnOk P w K mg base CX0 1 T.f_w_is_name T.d_w_is_name ["value"] (sp_w_is_name K) := by
  refine T.F_w_is_name.ok sc_w_is_name (fun vs H Q E h => ?_) (fun cdv A outer s H vs Q E hr h => ?_)
  · obtain ⟨x, rfl, _⟩ := h
    rfl
  · obtain ⟨x, rfl, hx, k⟩ := h
    have hu := hu_of hr
    refine ⟨_, (pss_cons (ps_if (PW.pt (pw_or (pt_not (pt_val (pe_callB call_isi (by rfl) T.z_isinstance (by decide +kernel) (pa_cons (pv 0) (pa_cons (pe_bltn (v := V.ty "str") (u := Value.type "str") (by rfl) T.z_str (by decide +kernel) rfl) pa_nil))))) (pw_or1 (pt_not (pt_chain op_le op_le pe_int (pe_callB call_len (by rfl) T.z_len (by decide +kernel) (pa_cons (pv 0) pa_nil)) pe_int)))))
      (pss_one (ps_ret pe_bl))
      pss_nil)
      (pss_one (ps_ret (pe_cmpR (op_eqD hr.units) (pe_lc (own := [("sign", 1)]) (g := gName 1) rfl sc_w_is_name.nd (pi_str (pv 0)) (blkOk_by (N := ["value", "sign"]) (sc := defScope s_w_is_name) (by decide +kernel)) (fun _ _ _ _ _ => (pg_name (i := 1) sc_w_is_name.nd rfl (Or.inl rfl))) (fun _ _ _ _ _ => pts_one (pt_not (pt_chain op_le op_le pe_int (pe_callB call_ord (by rfl) T.z_ord (by decide +kernel) (pa_cons (pv 1) pa_nil)) pe_int))) (fun _ _ _ _ _ => (pv 1))) (pe_lst pa_nil) (nomark _))))), ?_⟩
    rcases hx.str (K := K) with ⟨z, rfl, hz, hA⟩ | ⟨t, ht, hk, hn⟩
    · refine ⟨_, rfl, _, _, _, _, true, rfl, .ty _, .base (.str _), kit_ty (by decide +kernel), _, rfl, iteF ?_⟩
      refine ⟨_, rfl, _, _, rfl, ⟨Nat.le_trans hz (by decide), rfl⟩, _, _, rfl, rfl, _, rfl, ?_⟩
      refine ite2 (fun c1 => ?_) (fun c1 => ?_)
      · have h1 := of_decide_eq_true c1
        refine ⟨_, _, rfl, rfl, _, rfl, ?_⟩
        by_cases h2 : (z.length : Int) ≤ 8
        · rw [decide_eq_true h2]
          refine iteF ?_
          refine ⟨_, rfl, _, rfl, fun D hD => ?_⟩
          refine lc_it walk_str (fun i H' => (∃ ys : List Str, H' D = some (.lst (ys.map V.str)) ∧ ys.length ≤ i ∧ (∀ y ∈ ys, Asc y) ∧ ys.isEmpty = ((z.cps.toList.take i).all fun c => decide (97 ≤ c) && decide (c ≤ 122))) ∧ Same H H') ⟨⟨[], upd_same, Nat.le_refl _, (fun y hy => by cases hy), rfl⟩, fun b o e => by rw [upd_ne (ne_of_none e hD)]; exact e⟩ (fun _ _ _ _ => trivial) ?_ ?_
          · rintro i y H1 H2 hi ⟨⟨ys, eD, hl, hy, hall⟩, S⟩ ⟨rfl, c, hc, rfl⟩
            have hiz : i < 100 := by
              have : z.cps.size = z.length := rfl
              omega
            have hc3 : c ∈ z.cps.toList := by
              have : z.cps.toList[i]? = some c := by rw [Array.getElem?_toList]; exact hc
              exact List.mem_of_getElem? this
            have hAc : Asc (⟨#[c]⟩ : Str) := by
              intro d hd
              have hd2 : d ∈ [c] := hd
              rw [List.mem_singleton.mp hd2]
              exact hA c hc3
            have bad : ¬ (97 ≤ c ∧ c ≤ 122) → ∃ acc, H2 D = some (.lst acc) ∧ acc.length < sizeLine ∧ ((∃ ys : List Str, (upd H2 D (.lst (acc ++ [V.str ⟨#[c]⟩]))) D = some (.lst (ys.map V.str)) ∧ ys.length ≤ i + 1 ∧ (∀ y ∈ ys, Asc y) ∧ ys.isEmpty = ((z.cps.toList.take (i + 1)).all fun c => decide (97 ≤ c) && decide (c ≤ 122))) ∧ Same H (upd H2 D (.lst (acc ++ [V.str ⟨#[c]⟩])))) := by
              intro hb
              refine ⟨_, eD, ?_, ⟨ys ++ [⟨#[c]⟩], ?_, ?_, ?_, ?_⟩, fun b o e => ?_⟩
              · rw [List.length_map]
                exact Nat.lt_of_le_of_lt (show ys.length ≤ 100 by omega) (by decide)
              · rw [upd_same, List.map_append]
                rfl
              · rw [List.length_append]
                show ys.length + 1 ≤ i + 1
                omega
              · intro y hy2
                rcases List.mem_append.mp hy2 with h | h
                · exact hy y h
                · rw [List.mem_singleton.mp h]
                  exact hAc
              · have e0 : (ys ++ [(⟨#[c]⟩ : Str)]).isEmpty = false := by cases ys <;> rfl
                rw [e0, tk_succ hc, List.all_append, List.all_cons, List.all_nil, Bool.and_true]
                by_cases h97 : 97 ≤ c
                · rw [decide_eq_false (show ¬ c ≤ 122 from fun q => hb ⟨h97, q⟩), Bool.and_false, Bool.and_false]
                · rw [decide_eq_false h97, Bool.false_and, Bool.and_false]
              · rw [upd_ne (ne_of_none e hD)]
                exact S b o e
            refine ⟨rfl, ?_⟩
            refine ⟨_, rfl, _, rfl, rfl, _, _, rfl, rfl, _, rfl, ?_⟩
            refine ite2 (fun c2 => ?_) (fun c2 => ?_)
            · have h3 : (97 : Int) ≤ (c : Int) := of_decide_eq_true c2
              refine ⟨_, _, rfl, rfl, _, rfl, ?_⟩
              by_cases h4 : (c : Int) ≤ 122
              · rw [show (decide (((#[c] : Array Nat).getD 0 0 : Nat) ≤ (122 : Int))) = true from decide_eq_true h4]
                refine iteF ⟨⟨ys, eD, by omega, hy, ?_⟩, S⟩
                rw [tk_succ hc, List.all_append, ← hall, List.all_cons, List.all_nil, decide_eq_true (show 97 ≤ c by omega), decide_eq_true (show c ≤ 122 by omega), Bool.and_self, Bool.and_true, Bool.and_true]
              · rw [show (decide (((#[c] : Array Nat).getD 0 0 : Nat) ≤ (122 : Int))) = false from decide_eq_false h4]
                refine iteT ⟨_, rfl, bad (by omega)⟩
            · have h3 : ¬ (97 : Int) ≤ (c : Int) := fun q => c2 (decide_eq_true q)
              exact ⟨_, rfl, iteT ⟨_, rfl, bad (by omega)⟩⟩
          · rintro H9 ⟨⟨ys, eD, hl, hy, hall⟩, S⟩
            refine ⟨by show 0 ≤ sizeLine; decide, fun d hd => ?_⟩
            refine ⟨_, _, .lst (SqL.of ((upd_ne (ne_of_none eD hd)).trans eD)) (dp_st ys), .lst (SqL.of upd_same) .nil, shaped_st hy, by decide +kernel, ?_⟩
            refine bl_to ?_ (k _ fun b o e => ?_)
            · rw [eqv_st, hall, tk_all]
              show _ = (decide (1 ≤ z.length ∧ z.length ≤ 8) && _)
              rw [decide_eq_true (show 1 ≤ z.length ∧ z.length ≤ 8 by omega), Bool.true_and]
            · have e9 := S b o e
              rw [upd_ne (ne_of_none e9 hd)]
              exact e9
        · rw [decide_eq_false h2]
          refine iteT ?_
          refine bl_to ?_ (k _ (Same.refl _))
          show false = (decide (1 ≤ z.length ∧ z.length ≤ 8) && _)
          rw [decide_eq_false (show ¬ (1 ≤ z.length ∧ z.length ≤ 8) by omega), Bool.false_and]
      · have h1 : ¬ (1 : Int) ≤ (z.length : Int) := fun q => c1 (decide_eq_true q)
        refine ⟨_, rfl, iteT ?_⟩
        refine bl_to ?_ (k _ (Same.refl _))
        show false = (decide (1 ≤ z.length ∧ z.length ≤ 8) && _)
        rw [decide_eq_false (show ¬ (1 ≤ z.length ∧ z.length ≤ 8) by omega), Bool.false_and]
    · refine ⟨_, rfl, _, _, _, _, false, rfl, .ty _, ht, kit_ty hk, _, rfl, iteT ?_⟩
      exact iteT (bl_to hn.symm (k _ (Same.refl _)))
def sp_w_near (K : PySem.W.Frag) : Sp := fun vs H Q _ => ∃ (r : Addr) (z : Str), vs = [.ref r, .str z] ∧ Rl H r ∧ z.length ≤ 8 ∧ Asc z ∧ ∀ v H', Vk Tx H' v → Rl H' r → Only r H H' → Q v H'
theorem ok_w_near (T : T K mg) : FnOk P w K mg base CX0 3 T.f_w_near T.d_w_near ["reel", "name"] (sp_w_near K) := by
  have G_w_pick : FnOk P w K mg base CX0 2 T.f_w_pick T.d_w_pick ["reel", "items"] (sp_w_pick K) := ok_w_pick T
  have G_w_spin : FnOk P w K mg base CX0 1 T.f_w_spin T.d_w_spin ["reel", "total"] (sp_w_spin K) := ok_w_spin T
  refine T.F_w_near.ok sc_w_near (fun vs H Q E h => ?_) (fun cdv A outer s H vs Q E hr h => ?_)
  · obtain ⟨r, z, rfl, _⟩ := h
    rfl
  · obtain ⟨r, z, rfl, hR, hz, hA, k⟩ := h
    have hu := hu_of hr
    have hr_w_pick : Room 2 _ := hr.mono (by decide)
    have hr_w_spin : Room 1 _ := hr.mono (by decide)
    refine ⟨_, (pss_cons (ps_set (i := 2) sc_w_near.nd rfl (Or.inl rfl) (pe_call G_w_spin hr_w_spin rfl T.m_w_spin T.F_w_spin.kp T.b_w_spin .nil pass0 (pa_cons (pv 0) (pa_cons (pe_op op_add (pe_callB call_len (by rfl) T.z_len (by decide +kernel) (pa_cons (pv 1) pa_nil)) pe_int) pa_nil))))
      (pss_cons (ps_set (i := 3) sc_w_near.nd rfl (Or.inl rfl) (pe_call G_w_pick hr_w_pick rfl T.m_w_pick T.F_w_pick.kp T.b_w_pick .nil pass0 (pa_cons (pv 0) (pa_cons (pe_lst (pa_cons pe_str (pa_cons pe_str (pa_cons pe_str (pa_cons pe_str (pa_cons pe_str (pa_cons pe_str (pa_cons pe_str (pa_cons pe_str (pa_cons pe_str (pa_cons pe_str (pa_cons pe_str (pa_cons pe_str (pa_cons pe_str pa_nil)))))))))))))) pa_nil))))
      (pss_cons (ps_set (i := 4) sc_w_near.nd rfl (Or.inl rfl) (pe_lst (pa_cons (pe_op op_add_str (pe_op op_add_str (pe_slice sl_str (pv 1) po_none (po_some (pv 2))) (pv 3)) (pe_slice sl_str (pv 1) (po_some (pv 2)) po_none)) (pa_cons (pe_upper (pv 1)) (pa_cons (pe_op op_add_str (pv 1) (pv 1)) (pa_cons (pe_tup (pa_cons (pv 1) pa_nil)) (pa_cons (pe_lst (pa_cons (pv 1) pa_nil)) (pa_cons pe_non (pa_cons (pe_callB call_len (by rfl) T.z_len (by decide +kernel) (pa_cons (pv 1) pa_nil)) (pa_cons pe_str (pa_cons (pe_slice sl_str (pv 1) (po_some pe_int) po_none) pa_nil)))))))))))
      (pss_one (ps_ret (pe_call G_w_pick hr_w_pick rfl T.m_w_pick T.F_w_pick.kp T.b_w_pick .nil pass0 (pa_cons (pv 0) (pa_cons (pe_op op_cat (pv 4) (pe_lst (pa_cons (pe_op op_add_str (pv 1) pe_str) (pa_cons (pe_disp (pps_cons (pv 1) (pv 1) pps_nil) (by rfl) (by rfl) (fun z => by cases z) (by decide)) (pa_cons (pe_op op_add_str (pv 1) pe_str) (pa_cons (pe_op op_add_str pe_str (pv 1)) (pa_cons pe_bl (pa_cons (pe_op op_add_str (pe_slice sl_str (pv 1) po_none (po_some (pe_un un_neg pe_int))) pe_str) pa_nil)))))))) pa_nil)))))))), ?_⟩
    have hl : z.length ≤ sizeLine := Nat.le_trans hz (by decide)
    have h2 : ∀ {a b : Str}, a.length ≤ 50 → b.length ≤ 50 → a.length + b.length ≤ sizeLine := fun x y => Nat.le_trans (Nat.add_le_add x y) (by decide)
    have hc : ∀ lo hi, (cutS z lo hi).length ≤ 8 := fun lo hi => Nat.le_trans (cutS_len z lo hi) hz
    have ap : ∀ a b : Str, (a ++ b).length = a.length + b.length := PySem.Str.length_append
    refine ⟨_, rfl, _, rfl, _, _, rfl, ⟨hl, rfl⟩, _, _, rfl, rfl, ?_⟩
    refine ⟨r, _, rfl, hR, by omega, Nat.lt_trans (lg (b := 8) (by omega) (by omega) (by decide)) (by decide), fun a H1 a0 a1 R1 O1 => ?_⟩
    refine ⟨_, rfl, by show 13 ≤ sizeLine; decide, fun l0 n0 => ?_⟩
    refine ⟨r, _, (["A", "Z", "{", "`", " ", "-", "_", "0", "a", "z", "", "\n", "."] : List Str).map V.str, rfl, R1.new n0, .inl ⟨l0, rfl, R1.ne n0, .inl (SqL.of upd_same)⟩, by decide +kernel, by decide +kernel, fun v H2 hv R2 O2 => ?_⟩
    obtain ⟨s, hs, rfl⟩ := List.mem_map.mp hv
    have hs1 : s.length ≤ 1 ∧ Asc s := by
      have h0 : ∀ s ∈ (["A", "Z", "{", "`", " ", "-", "_", "0", "a", "z", "", "\n", "."] : List Str), s.length ≤ 1 ∧ ∀ c ∈ s.cps.toList, c < 128 := by decide +kernel
      exact h0 s hs
    have P2 : Only r H H2 := (O1.trans (Only.new n0)).trans O2
    clear hv hs O1 O2 n0 R1 hR
    -- the nine
    refine ⟨_, rfl, _, rfl, _, rfl, _, rfl, hl, _, rfl, _, _, rfl, rfl, h2 (Nat.le_trans (hc _ _) (by decide)) (by omega), ?_⟩
    refine ⟨_, rfl, _, rfl, _, rfl, _, rfl, hl, _, _, rfl, rfl, h2 (by rw [ap]; have := hc none (some a); omega) (Nat.le_trans (hc _ _) (by decide)), ?_⟩
    refine ⟨_, rfl, ⟨_, rfl⟩, _, rfl, rfl, by omega, ?_⟩
    refine ⟨_, rfl, _, rfl, _, _, rfl, rfl, h2 (by omega) (by omega), ?_⟩
    refine ⟨_, rfl, by show 1 ≤ sizeLine; decide, fun t nt => ?_⟩
    refine ⟨_, rfl, by show 1 ≤ sizeLine; decide, fun l nl => ?_⟩
    refine ⟨_, rfl, _, _, rfl, ⟨hl, rfl⟩, ?_⟩
    refine ⟨_, rfl, _, rfl, _, rfl, hl, by show 9 ≤ sizeLine; decide, fun L nL => ?_⟩
    -- the six
    refine ⟨_, rfl, _, rfl, _, rfl, _, _, rfl, rfl, h2 (by omega) (by decide +kernel), ?_⟩
    refine fun p np => ⟨_, rfl, _, rfl, upd_same, [(Sum.inr z, .str z)], rfl, (by show 1 ≤ 15; decide), ?_⟩
    refine ⟨_, rfl, _, _, rfl, rfl, h2 (by omega) (by decide +kernel), ?_⟩
    refine ⟨_, rfl, _, _, rfl, rfl, h2 (by decide +kernel) (by omega), ?_⟩
    refine ⟨_, rfl, _, rfl, _, rfl, _, rfl, hl, _, _, rfl, rfl, h2 (Nat.le_trans (hc _ _) (by decide)) (by decide +kernel), ?_⟩
    refine ⟨by show 6 ≤ sizeLine; decide, fun L2 nL2 => ?_⟩
    generalize hH : (upd H2 t (.tup [.str z])) = Ha at nl nL np nL2 ⊢
    have et0 : Ha t = some (.tup [.str z]) := by rw [← hH]; exact upd_same
    have Ra : Rl Ha r := by rw [← hH]; exact R2.new nt
    have Pa : Only r H Ha := by rw [← hH]; exact P2.trans (Only.new nt)
    clear hH
    generalize hH : (upd Ha l (.lst [.str z])) = Hb at nL np nL2 ⊢
    have el1 : Hb l = some (.lst [.str z]) := by rw [← hH]; exact upd_same
    have et1 : Hb t = some (.tup [.str z]) := by rw [← hH]; exact (upd_ne (ne_of_none et0 nl)).trans et0
    have Rb : Rl Hb r := by rw [← hH]; exact Ra.new nl
    have Pb : Only r H Hb := by rw [← hH]; exact Pa.trans (Only.new nl)
    clear hH
    generalize hH : (upd Hb L _) = Hc at np nL2 ⊢
    have eL2 : Hc L = some (.lst [V.str (cutS z none (some a) ++ s ++ cutS z (some a) none), V.str (Txt.upper z), V.str (z ++ z), V.ref t, V.ref l, V.non, V.int z.length, V.str (Str.ofString ""), V.str (cutS z (some 1) none)]) := by rw [← hH]; exact upd_same
    have el2 : Hc l = some (.lst [.str z]) := by rw [← hH]; exact (upd_ne (ne_of_none el1 nL)).trans el1
    have et2 : Hc t = some (.tup [.str z]) := by rw [← hH]; exact (upd_ne (ne_of_none et1 nL)).trans et1
    have Rc : Rl Hc r := by rw [← hH]; exact Rb.new nL
    have Pc : Only r H Hc := by rw [← hH]; exact Pb.trans (Only.new nL)
    clear hH
    generalize hH : (upd (upd Hc p _) p _) = Hd at nL2 ⊢
    have eL3 : Hd L = some (.lst [V.str (cutS z none (some a) ++ s ++ cutS z (some a) none), V.str (Txt.upper z), V.str (z ++ z), V.ref t, V.ref l, V.non, V.int z.length, V.str (Str.ofString ""), V.str (cutS z (some 1) none)]) := by rw [← hH, upd_upd]; exact (upd_ne (ne_of_none eL2 np)).trans eL2
    have el3 : Hd l = some (.lst [.str z]) := by rw [← hH, upd_upd]; exact (upd_ne (ne_of_none el2 np)).trans el2
    have et3 : Hd t = some (.tup [.str z]) := by rw [← hH, upd_upd]; exact (upd_ne (ne_of_none et2 np)).trans et2
    have ep3 : Hd p = some (.dK (mergeK [] [(Sum.inr z, V.str z)])) := by rw [← hH]; exact upd_same
    have Rd' : Rl Hd r := by rw [← hH, upd_upd]; exact Rc.new np
    have Pd : Only r H Hd := by rw [← hH, upd_upd]; exact Pc.trans (Only.new np)
    clear hH
    have n12 : L ≠ L2 := ne_of_none eL3 nL2
    refine ⟨L, L2, _, _, rfl, rfl, (upd_ne n12).trans eL3, upd_same, by show 9 + 6 ≤ sizeLine; decide, fun L3 nL3 => ?_⟩
    refine ⟨r, _, _, rfl, (Rd'.new nL2).new nL3, .inl ⟨L3, rfl, (Rd'.new nL2).ne nL3, .inl (SqL.of upd_same)⟩, by show 0 < 15; decide, by show 15 ≤ sizeLine; decide, fun v H5 hv R5 O5 => ?_⟩
    have nt3 : ∀ {q : Addr} {o : HO}, Hd q = some o → q ≠ r → H5 q = some o := fun {q o} e nq => by
      have e1 : ∀ o2, upd Hd L2 o2 q = some o := fun o2 => (upd_ne (ne_of_none e nL2)).trans e
      exact O5 q o nq ((upd_ne (ne_of_none (e1 _) nL3)).trans (e1 _))
    have hr3 : ∀ {q : Addr} {o : HO}, Hd q = some o → (∀ x y w, o ≠ .lst [.int x, .int y, .int w]) → q ≠ r := fun {q o} e ho z => by
      obtain ⟨x, y, w, e2⟩ := Rd'
      rw [z, e2] at e
      exact ho x y w (Option.some.inj e).symm
    refine k v H5 ?_ R5 ((Pd.trans ((Only.new nL2).trans (Only.new nL3))).trans O5)
    have tx : ∀ {a b : Str}, a.length ≤ 50 → b.length ≤ 50 → Asc a → Asc b → Tx (a ++ b) := fun {a b} x y p q => ⟨by rw [ap]; omega, p.append q⟩
    have as : ∀ s ∈ (["aaaaaaaa", "\n", "1"] : List Str), s.length ≤ 8 ∧ ∀ c ∈ s.cps.toList, c < 128 := by decide +kernel
    rcases List.mem_append.mp hv with hv | hv
    · rcases List.mem_cons.mp hv with rfl | hv
      · exact .inl ⟨_, rfl, by rw [ap, ap]; have := hc none (some a); have := hc (some a) none; omega, (((hA.cut _ _).append hs1.2).append (hA.cut _ _))⟩
      rcases List.mem_cons.mp hv with rfl | hv
      · exact .inl ⟨_, rfl, Nat.le_trans (PyProof.Rows.len_upper z) (by omega), hA.upper⟩
      rcases List.mem_cons.mp hv with rfl | hv
      · exact .inl ⟨_, rfl, tx (by omega) (by omega) hA hA⟩
      rcases List.mem_cons.mp hv with rfl | hv
      · exact .inr (.inr (.inr (.inr (.inl ⟨t, _, rfl, nt3 et3 (hr3 et3 fun _ _ _ q => by cases q)⟩))))
      rcases List.mem_cons.mp hv with rfl | hv
      · exact .inr (.inr (.inr (.inr (.inr (.inl ⟨l, _, rfl, nt3 el3 (hr3 el3 fun _ _ _ q => by cases q)⟩)))))
      rcases List.mem_cons.mp hv with rfl | hv
      · exact .inr (.inl rfl)
      rcases List.mem_cons.mp hv with rfl | hv
      · exact .inr (.inr (.inr (.inl ⟨_, rfl⟩)))
      rcases List.mem_cons.mp hv with rfl | hv
      · exact .inl ⟨_, rfl, by decide +kernel, fun c h => by cases h⟩
      rcases List.mem_cons.mp hv with rfl | hv
      · exact .inl ⟨_, rfl, Nat.le_trans (hc _ _) (by decide), hA.cut _ _⟩
      cases hv
    · rcases List.mem_cons.mp hv with rfl | hv
      · exact .inl ⟨_, rfl, tx (by omega) (by decide +kernel) hA (as "aaaaaaaa" (by decide +kernel)).2⟩
      rcases List.mem_cons.mp hv with rfl | hv
      · exact .inr (.inr (.inr (.inr (.inr (.inr ⟨p, _, rfl, nt3 ep3 (hr3 ep3 fun _ _ _ q => by cases q)⟩)))))
      rcases List.mem_cons.mp hv with rfl | hv
      · exact .inl ⟨_, rfl, tx (by omega) (by decide +kernel) hA (as "\n" (by decide +kernel)).2⟩
      rcases List.mem_cons.mp hv with rfl | hv
      · exact .inl ⟨_, rfl, tx (by decide +kernel) (by omega) (as "\n" (by decide +kernel)).2 hA⟩
      rcases List.mem_cons.mp hv with rfl | hv
      · exact .inr (.inr (.inl ⟨_, rfl⟩))
      rcases List.mem_cons.mp hv with rfl | hv
      · exact .inl ⟨_, rfl, tx (Nat.le_trans (hc _ _) (by decide)) (by decide +kernel) (hA.cut _ _) (as "1" (by decide +kernel)).2⟩
      cases hv
theorem Same.rl {H H' : Hp} {r : Addr} (s : Same H H') (h : Rl H r) : Rl H' r := by
  obtain ⟨a, b, c, e⟩ := h
  exact ⟨a, b, c, s _ _ e⟩
theorem Same.only {H H' : Hp} {r : Addr} (s : Same H H') : Only r H H' := fun b o _ e => s b o e
theorem Same.vk {P : Str → Prop} {H H' : Hp} {x : V} (s : Same H H') (h : Vk P H x) : Vk P H' x := h.same fun a o _ e => s a o e
theorem Vk.true {H : Hp} {x : V} {P : Str → Prop} (h : Vk P H x) : Vk (fun _ => True) H x := by
  rcases h with ⟨z, e, _⟩ | h
  · exact .inl ⟨z, e, trivial⟩
  · exact .inr h
theorem if_same {A B : Prop} {b c : Bool} (e : b = c) (h : B) : if (!decide (V.str (if b then "True" else "False") = V.str (if c then "True" else "False"))) = true then A else B := by
  subst e
  exact iteNS rfl h
def sp_w_cell_right (K : PySem.W.Frag) : Sp := fun vs H Q _ => ∃ r : Addr, vs = [.ref r] ∧ Rl H r ∧ ∀ H', Only r H H' → Q (.bl true) H'
theorem ok_w_cell_right (T : T K mg) : FnOk P w K mg base CX0 4 T.f_w_cell_right T.d_w_cell_right ["reel"] (sp_w_cell_right K) := by
  have G_w_is_name : FnOk P w K mg base CX0 1 T.f_w_is_name T.d_w_is_name ["value"] (sp_w_is_name K) := ok_w_is_name T
  have G_w_name : FnOk P w K mg base CX0 3 T.f_w_name T.d_w_name ["reel"] (sp_w_name K) := ok_w_name T
  have G_w_near : FnOk P w K mg base CX0 3 T.f_w_near T.d_w_near ["reel", "name"] (sp_w_near K) := ok_w_near T
  have G_w_pick : FnOk P w K mg base CX0 2 T.f_w_pick T.d_w_pick ["reel", "items"] (sp_w_pick K) := ok_w_pick T
  have G_w_spin : FnOk P w K mg base CX0 1 T.f_w_spin T.d_w_spin ["reel", "total"] (sp_w_spin K) := ok_w_spin T
  have G_is_integer : FnOk P w K mg base CX0 1 T.f_is_integer T.d_is_integer ["value"] (sp_is_integer K) := ok_is_integer T
  have G_is_name : FnOk P w K mg base CX0 1 T.f_is_name T.d_is_name ["value"] (sp_is_name K) := ok_is_name T
  refine T.F_w_cell_right.ok sc_w_cell_right (fun vs H Q E h => ?_) (fun cdv A outer s H vs Q E hr h => ?_)
  · obtain ⟨r, rfl, _⟩ := h
    rfl
  · obtain ⟨r, rfl, hR, k⟩ := h
    have hu := hu_of hr
    have hr_w_is_name : Room 1 _ := hr.mono (by decide)
    have hr_w_name : Room 3 _ := hr.mono (by decide)
    have hr_w_near : Room 3 _ := hr.mono (by decide)
    have hr_w_pick : Room 2 _ := hr.mono (by decide)
    have hr_w_spin : Room 1 _ := hr.mono (by decide)
    have hr_is_integer : Room 1 _ := hr.mono (by decide)
    have hr_is_name : Room 1 _ := hr.mono (by decide)
    refine ⟨_, (pss_cons (ps_set (i := 1) sc_w_cell_right.nd rfl (Or.inl rfl) (pe_call G_w_name hr_w_name rfl T.m_w_name T.F_w_name.kp T.b_w_name .nil pass0 (pa_cons (pv 0) pa_nil)))
      (pss_cons (ps_for PassesOwn.never rfl (pi_range1 (by rfl) T.z_range (pa_cons pe_int pa_nil)) (pg_name (i := 2) sc_w_cell_right.nd rfl (Or.inl rfl))
      (pss_cons (ps_set (i := 3) sc_w_cell_right.nd rfl (Or.inl rfl) (pe_ifExp (pt_cmpR op_gt (pv 2) pe_int (nomark _)) (pe_call G_w_near hr_w_near rfl T.m_w_near T.F_w_near.kp T.b_w_near .nil pass0 (pa_cons (pv 0) (pa_cons (pv 1) pa_nil))) (pv 1)))
      (pss_one (ps_if (pt_cmpR op_ne (pe_callB call_repr_bl (by rfl) T.z_repr (by decide +kernel) (pa_cons (pe_call G_is_name hr_is_name rfl T.m_is_name T.F_is_name.kp T.b_is_name .nil pass0 (pa_cons (pv 3) pa_nil)) pa_nil)) (pe_callB call_repr_bl (by rfl) T.z_repr (by decide +kernel) (pa_cons (pe_call G_w_is_name hr_w_is_name rfl T.m_w_is_name T.F_w_is_name.kp T.b_w_is_name .nil pass0 (pa_cons (pv 3) pa_nil)) pa_nil)) (nomark _))
      (pss_one (ps_ret pe_bl))
      pss_nil))))
      (pss_cons (ps_set (i := 4) sc_w_cell_right.nd rfl (Or.inl rfl) (pe_op op_mul (pe_call G_w_spin hr_w_spin rfl T.m_w_spin T.F_w_spin.kp T.b_w_spin .nil pass0 (pa_cons (pv 0) (pa_cons (pe_op op_pow pe_int pe_int) pa_nil))) (pe_call G_w_pick hr_w_pick rfl T.m_w_pick T.F_w_pick.kp T.b_w_pick .nil pass0 (pa_cons (pv 0) (pa_cons (pe_lst (pa_cons pe_int (pa_cons (pe_un un_neg pe_int) (pa_cons pe_int (pa_cons (pe_un un_neg pe_int) (pa_cons (pe_op op_pow pe_int pe_int) pa_nil)))))) pa_nil)))))
      (pss_cons (ps_for PassesOwn.never rfl (pi_list (pe_lst (pa_cons (pv 4) (pa_cons (pe_op op_add (pv 4) pe_int) (pa_cons (pe_un un_neg (pv 4)) pa_nil))))) (pg_name (i := 3) sc_w_cell_right.nd rfl (Or.inl rfl))
      (pss_one (ps_if (pt_cmpR op_ne (pe_callB call_repr_bl (by rfl) T.z_repr (by decide +kernel) (pa_cons (pe_call G_is_integer hr_is_integer rfl T.m_is_integer T.F_is_integer.kp T.b_is_integer .nil pass0 (pa_cons (pv 3) pa_nil)) pa_nil)) (pe_callB call_repr_bl (by rfl) T.z_repr (by decide +kernel) (pa_cons (pe_cmpR op_le (pe_callB call_len (by rfl) T.z_len (by decide +kernel) (pa_cons (pe_callTy call_str_int (by rfl) T.z_str (by decide +kernel) (pa_cons (pe_callB call_abs (by rfl) T.z_abs (by decide +kernel) (pa_cons (pv 3) pa_nil)) pa_nil)) pa_nil)) pe_int (nomark _)) pa_nil)) (nomark _))
      (pss_one (ps_ret pe_bl))
      pss_nil)))
      (pss_cons (ps_set (i := 5) sc_w_cell_right.nd rfl (Or.inl rfl) (pe_call G_w_pick hr_w_pick rfl T.m_w_pick T.F_w_pick.kp T.b_w_pick .nil pass0 (pa_cons (pv 0) (pa_cons (pe_lst (pa_cons pe_bl (pa_cons pe_bl (pa_cons pe_non (pa_cons (pe_callTy call_str_int (by rfl) T.z_str (by decide +kernel) (pa_cons (pv 4) pa_nil)) (pa_cons (pe_tup (pa_cons (pv 4) pa_nil)) (pa_cons (pe_lst (pa_cons (pv 4) pa_nil)) (pa_cons pe_dnewK (pa_cons (pe_disp (pps_cons (pv 4) (pv 4) pps_nil) (by rfl) (by rfl) (fun z => by cases z) (by decide)) (pa_cons pe_str (pa_cons (pe_tup pa_nil) pa_nil))))))))))) pa_nil))))
      (pss_one (ps_ret (pe_cmpR op_isBl (pe_call G_is_integer hr_is_integer rfl T.m_is_integer T.F_is_integer.kp T.b_is_integer .nil pass0 (pa_cons (pv 5) pa_nil)) pe_bl (nomark _))))))))), ?_⟩
    refine ⟨_, rfl, r, rfl, hR, fun z H1 hz hA R1 O1 => ?_⟩
    refine ⟨10, rfl, by decide, by decide, ?_⟩
    refine for_range (n := 10) (fun i σ H' => ∃ v1 v2, σ = [some (.ref r), some (.str z), v1, v2, none, none] ∧ Rl H' r ∧ Only r H H') ⟨none, none, rfl, R1, O1⟩ ?_ ?_
    · rintro i σ H2 hi ⟨v1, v2, rfl, R2, O2⟩
      refine ⟨_, rfl, _, _, rfl, rfl, _, rfl, ?_⟩
      refine ite_join (fun v H' => Vk Tx H' v ∧ Rl H' r ∧ Only r H H') (fun c Q' q => ?_) (fun c Q' q => ?_) ?_
      · exact ⟨_, rfl, _, rfl, r, z, rfl, R2, hz, hA, fun v H3 hv R3 O3 => q v H3 ⟨hv, R3, O2.trans O3⟩⟩
      · exact ⟨_, rfl, q _ _ ⟨.inl ⟨z, rfl, by omega, hA⟩, R2, O2⟩⟩
      rintro v H3 ⟨hv, R3, O3⟩
      refine ⟨_, rfl, v, rfl, hv, fun H4 S4 => ?_⟩
      refine ⟨_, rfl, _, rfl, v, rfl, Same.vk S4 hv, fun H5 S5 => ?_⟩
      refine ⟨_, rfl, rfl, _, rfl, if_same rfl ?_⟩
      exact ⟨_, _, rfl, Same.rl S5 (Same.rl S4 R3), (O3.trans (Same.only S4)).trans (Same.only S5)⟩
    · rintro σ H2 ⟨v1, v2, rfl, R2, O2⟩
      refine ⟨_, rfl, _, _, rfl, rfl, ⟨by decide, by decide, by decide⟩, ?_⟩
      refine ⟨r, _, rfl, R2, by decide, by decide, fun a H3 a0 a1 R3 O3 => ?_⟩
      refine ⟨_, rfl, _, rfl, _, rfl, _, _, rfl, rfl, ⟨by decide, by decide, by decide⟩, by show 5 ≤ sizeLine; decide, fun l nl => ?_⟩
      refine ⟨r, _, ([1, -1, 10, -10, 1000000] : List Int).map V.int, rfl, R3.new nl, .inl ⟨l, rfl, R3.ne nl, .inl (SqL.of upd_same)⟩, by decide, by decide, fun v H4 hv R4 O4 => ?_⟩
      obtain ⟨b, hb, rfl⟩ := List.mem_map.mp hv
      have hb2 : -10 ≤ b ∧ b ≤ 1000000 := by
        simp only [List.mem_cons, List.mem_nil_iff, or_false] at hb
        omega
      have a2 : a < 1000000000000 := a1
      refine ⟨_, _, rfl, rfl, .inl ⟨by omega, by omega⟩, ?_⟩
      have P4 : Only r H H4 := (O2.trans O3).trans ((Only.new nl).trans O4)
      have hm : -10000000000000 ≤ a * b ∧ a * b ≤ 1000000000000000000 := by
        have h1 : a * b ≤ a * 1000000 := Int.mul_le_mul_of_nonneg_left hb2.2 a0
        have h2 : a * (-10) ≤ a * b := Int.mul_le_mul_of_nonneg_left hb2.1 a0
        omega
      clear hv hb hb2 O2 O3 O4 nl R2 R3 a1 a2 a0
      dsimp only
      generalize a * b = m at hm ⊢
      refine ⟨_, rfl, _, rfl, _, _, rfl, rfl, _, rfl, _, rfl, by show 3 ≤ sizeLine; decide, fun L nL => ?_⟩
      have eL : (upd H4 L (.lst (([m, m + 1, -m] : List Int).map V.int))) L = some (.lst (([m, m + 1, -m] : List Int).map V.int)) := upd_same
      have R5 : Rl (upd H4 L (.lst (([m, m + 1, -m] : List Int).map V.int))) r := R4.new nL
      have P5 : Only r H (upd H4 L (.lst (([m, m + 1, -m] : List Int).map V.int))) := P4.trans (Only.new nL)
      refine ⟨L, rfl, ⟨_, SqL.of eL⟩, for_list (K := K) (a := L) (xs := ([m, m + 1, -m] : List Int).map V.int) (fun i σ H' => ∃ v1 v2, σ = [some (.ref r), some (.str z), v1, v2, some (.int m), none] ∧ H' = (upd H4 L (.lst (([m, m + 1, -m] : List Int).map V.int)))) ⟨_, _, rfl, rfl⟩ (fun i σ H' _ ⟨_, _, _, e⟩ => by rw [e]; exact SqL.of eL) ?_ ?_⟩
      · rintro i x σ H' hx ⟨v1, v2, rfl, rfl⟩
        obtain ⟨n, hn, rfl⟩ := List.mem_map.mp (List.mem_of_getElem? hx)
        have hn2 : -1000000000000000001 ≤ n ∧ n ≤ 1000000000000000001 := by
          simp only [List.mem_cons, List.mem_nil_iff, or_false] at hn
          omega
        have hk : (if n < 0 then -n else n) < 2 ^ 62 ∧ 0 ≤ (if n < 0 then -n else n) := by split <;> omega
        have hlog : (if n < 0 then -n else n).natAbs.log2 < 1920 := Nat.lt_trans (lg (b := 62) hk.2 hk.1 (by decide)) (by decide)
        refine ⟨_, rfl, .int n, rfl, .inr (.inr (.inr (.inl ⟨n, rfl⟩))), _, rfl, ?_⟩
        refine ⟨_, rfl, _, rfl, _, rfl, hlog, _, _, rfl, ⟨PySem.int_text_fits hlog, rfl⟩, _, _, rfl, rfl, _, rfl, ?_⟩
        refine ⟨rfl, _, rfl, if_same ?_ ⟨_, _, rfl, rfl⟩⟩
        have hd := digits_12 hk.2
        show (decide (-1000000000000 < n) && decide (n < 1000000000000)) = decide ((((Str.ofString (toString (if n < 0 then -n else n))).length : Nat) : Int) ≤ 12)
        rw [← Bool.decide_and]
        refine decide_eq_decide.mpr ?_
        constructor
        · intro q
          have := hd.mpr (by split <;> omega)
          omega
        · intro q
          have h2 := hd.mp (by omega)
          split at h2 <;> omega
      · rintro σ H' ⟨v1, v2, rfl, rfl⟩
        generalize upd H4 L (.lst (([m, m + 1, -m] : List Int).map V.int)) = H5 at R5 P5 ⊢
        have hlog : m.natAbs.log2 < 1920 := by
          refine Nat.lt_trans (PySem.Flt.log2_lt_of (k := 62) (by decide) ?_) (by decide)
          omega
        refine ⟨_, rfl, _, rfl, _, rfl, hlog, ?_⟩
        refine ⟨_, rfl, by show 1 ≤ sizeLine; decide, fun t nt => ?_⟩
        refine ⟨_, rfl, by show 1 ≤ sizeLine; decide, fun l nl => ?_⟩
        refine fun d nd => ?_
        refine fun p np => ⟨_, rfl, _, rfl, upd_same, [(Sum.inl m, .int m)], rfl, (by show 1 ≤ 15; decide), ?_⟩
        refine ⟨by show 0 ≤ sizeLine; decide, fun u nu => ?_⟩
        refine ⟨by show 10 ≤ sizeLine; decide, fun X nX => ?_⟩
        generalize hH : (upd H5 t (.tup [.int m])) = Ha at nl nd np nu nX ⊢
        have et : Ha t = some (.tup [.int m]) := by rw [← hH]; exact upd_same
        have Ra : Rl Ha r := by rw [← hH]; exact R5.new nt
        have Pa : Only r H Ha := by rw [← hH]; exact P5.trans (Only.new nt)
        clear hH
        generalize hH : (upd Ha l (.lst [.int m])) = Hb at nd np nu nX ⊢
        have el : Hb l = some (.lst [.int m]) := by rw [← hH]; exact upd_same
        replace et : Hb t = some (.tup [.int m]) := by rw [← hH]; exact (upd_ne (ne_of_none et nl)).trans et
        have Rb : Rl Hb r := by rw [← hH]; exact Ra.new nl
        have Pb : Only r H Hb := by rw [← hH]; exact Pa.trans (Only.new nl)
        clear hH
        generalize hH : (upd Hb d (.dK [])) = Hc at np nu nX ⊢
        have ed : Hc d = some (.dK []) := by rw [← hH]; exact upd_same
        replace el : Hc l = some (.lst [.int m]) := by rw [← hH]; exact (upd_ne (ne_of_none el nd)).trans el
        replace et : Hc t = some (.tup [.int m]) := by rw [← hH]; exact (upd_ne (ne_of_none et nd)).trans et
        have Rc : Rl Hc r := by rw [← hH]; exact Rb.new nd
        have Pc : Only r H Hc := by rw [← hH]; exact Pb.trans (Only.new nd)
        clear hH
        generalize hH : (upd (upd Hc p _) p _) = Hd at nu nX ⊢
        have ep : Hd p = some (.dK (mergeK [] [(Sum.inl m, V.int m)])) := by rw [← hH]; exact upd_same
        replace ed : Hd d = some (.dK []) := by rw [← hH, upd_upd]; exact (upd_ne (ne_of_none ed np)).trans ed
        replace el : Hd l = some (.lst [.int m]) := by rw [← hH, upd_upd]; exact (upd_ne (ne_of_none el np)).trans el
        replace et : Hd t = some (.tup [.int m]) := by rw [← hH, upd_upd]; exact (upd_ne (ne_of_none et np)).trans et
        have Rd' : Rl Hd r := by rw [← hH, upd_upd]; exact Rc.new np
        have Pd : Only r H Hd := by rw [← hH, upd_upd]; exact Pc.trans (Only.new np)
        clear hH
        generalize hH : (upd Hd u (.tup [])) = He at nX ⊢
        have eu : He u = some (.tup []) := by rw [← hH]; exact upd_same
        replace ep : He p = some (.dK (mergeK [] [(Sum.inl m, V.int m)])) := by rw [← hH]; exact (upd_ne (ne_of_none ep nu)).trans ep
        replace ed : He d = some (.dK []) := by rw [← hH]; exact (upd_ne (ne_of_none ed nu)).trans ed
        replace el : He l = some (.lst [.int m]) := by rw [← hH]; exact (upd_ne (ne_of_none el nu)).trans el
        replace et : He t = some (.tup [.int m]) := by rw [← hH]; exact (upd_ne (ne_of_none et nu)).trans et
        have Re : Rl He r := by rw [← hH]; exact Rd'.new nu
        have Pe : Only r H He := by rw [← hH]; exact Pd.trans (Only.new nu)
        clear hH
        refine ⟨r, _, _, rfl, Re.new nX, .inl ⟨X, rfl, Re.ne nX, .inl (SqL.of upd_same)⟩, by show 0 < 10; decide, by show 10 ≤ sizeLine; decide, fun v H7 hv R7 O7 => ?_⟩
        have nt3 : ∀ {q : Addr} {o : HO}, He q = some o → q ≠ r → H7 q = some o := fun {q o} e nq => O7 q o nq ((upd_ne (ne_of_none e nX)).trans e)
        have hr3 : ∀ {q : Addr} {o : HO}, He q = some o → (∀ x y w, o ≠ .lst [.int x, .int y, .int w]) → q ≠ r := fun {q o} e ho z => by
          obtain ⟨x, y, w, e2⟩ := Re
          rw [z, e2] at e
          exact ho x y w (Option.some.inj e).symm
        have hv2 : Vk (fun _ => True) H7 v ∧ isIn v = false := by
          rcases List.mem_cons.mp hv with rfl | hv
          · exact ⟨.inr (.inr (.inl ⟨_, rfl⟩)), rfl⟩
          rcases List.mem_cons.mp hv with rfl | hv
          · exact ⟨.inr (.inr (.inl ⟨_, rfl⟩)), rfl⟩
          rcases List.mem_cons.mp hv with rfl | hv
          · exact ⟨.inr (.inl rfl), rfl⟩
          rcases List.mem_cons.mp hv with rfl | hv
          · exact ⟨.inl ⟨_, rfl, trivial⟩, rfl⟩
          rcases List.mem_cons.mp hv with rfl | hv
          · exact ⟨.inr (.inr (.inr (.inr (.inl ⟨t, _, rfl, nt3 et (hr3 et fun _ _ _ q => by cases q)⟩)))), rfl⟩
          rcases List.mem_cons.mp hv with rfl | hv
          · exact ⟨.inr (.inr (.inr (.inr (.inr (.inl ⟨l, _, rfl, nt3 el (hr3 el fun _ _ _ q => by cases q)⟩))))), rfl⟩
          rcases List.mem_cons.mp hv with rfl | hv
          · exact ⟨.inr (.inr (.inr (.inr (.inr (.inr ⟨d, _, rfl, nt3 ed (hr3 ed fun _ _ _ q => by cases q)⟩))))), rfl⟩
          rcases List.mem_cons.mp hv with rfl | hv
          · exact ⟨.inr (.inr (.inr (.inr (.inr (.inr ⟨p, _, rfl, nt3 ep (hr3 ep fun _ _ _ q => by cases q)⟩))))), rfl⟩
          rcases List.mem_cons.mp hv with rfl | hv
          · exact ⟨.inl ⟨_, rfl, trivial⟩, rfl⟩
          rcases List.mem_cons.mp hv with rfl | hv
          · exact ⟨.inr (.inr (.inr (.inr (.inl ⟨u, _, rfl, nt3 eu (hr3 eu fun _ _ _ q => by cases q)⟩)))), rfl⟩
          cases hv
        refine ⟨_, rfl, v, rfl, hv2.1, _, _, rfl, rfl, ?_⟩
        exact bl_t (by rw [hv2.2]; rfl) (k _ ((Pe.trans (Only.new nX)).trans O7))
/-- law's: a list of at most 63 ints is handed in, True comes out -/
def spLaw (K : PySem.W.Frag) : Sp := fun vs H Q _ => ∃ (a : Addr) (ns : List Int), vs = [.ref a] ∧ SqL K H a (ns.map V.int) ∧ ns.length ≤ 63 ∧ ∀ H', Q (.bl true) H'
abbrev sp_law (K : PySem.W.Frag) : Sp := spLaw K
theorem ok_law (T : T K mg) : FnOk P w K mg base CX0 5 T.f_law T.d_law ["script"] (sp_law K) := by
  have G_w_cell_right : FnOk P w K mg base CX0 4 T.f_w_cell_right T.d_w_cell_right ["reel"] (sp_w_cell_right K) := ok_w_cell_right T
  have G_w_reel : FnOk P w K mg base CX0 1 T.f_w_reel T.d_w_reel ["script", "at"] (sp_w_reel K) := ok_w_reel T
  have G_is_integer : FnOk P w K mg base CX0 1 T.f_is_integer T.d_is_integer ["value"] (sp_is_integer K) := ok_is_integer T
  have G_is_name : FnOk P w K mg base CX0 1 T.f_is_name T.d_is_name ["value"] (sp_is_name K) := ok_is_name T
  refine T.F_law.ok sc_law (fun vs H Q E h => ?_) (fun cdv A outer s H vs Q E hr h => ?_)
  · obtain ⟨a, ns, rfl, _⟩ := h
    rfl
  · obtain ⟨a, ns, rfl, hS, hlen, k⟩ := h
    have hu := hu_of hr
    have hr_w_cell_right : Room 4 _ := hr.mono (by decide)
    have hr_w_reel : Room 1 _ := hr.mono (by decide)
    have hr_is_integer : Room 1 _ := hr.mono (by decide)
    have hr_is_name : Room 1 _ := hr.mono (by decide)
    refine ⟨_, (pss_cons (ps_for PassesOwn.never rfl (pi_range1 (by rfl) T.z_range (pa_cons (pe_callB (call_max2 rfl) (by rfl) T.z_max (by decide +kernel) (pa_cons pe_int (pa_cons (pe_callB (call_min2 rfl) (by rfl) T.z_min (by decide +kernel) (pa_cons pe_int (pa_cons (pe_callB call_len (by rfl) T.z_len (by decide +kernel) (pa_cons (pv 0) pa_nil)) pa_nil))) pa_nil))) pa_nil)) (pg_name (i := 1) sc_law.nd rfl (Or.inl rfl))
      (pss_one (ps_if (pt_not (pt_val (pe_call G_w_cell_right hr_w_cell_right rfl T.m_w_cell_right T.F_w_cell_right.kp T.b_w_cell_right .nil pass0 (pa_cons (pe_call G_w_reel hr_w_reel rfl T.m_w_reel T.F_w_reel.kp T.b_w_reel .nil pass0 (pa_cons (pv 0) (pa_cons (pv 1) pa_nil))) pa_nil))))
      (pss_one (ps_ret pe_bl))
      pss_nil)))
      (pss_cons (ps_setLc (i := 2) (own := [("value", 3)]) (g := gName 3) rfl sc_law.nd rfl rfl (sw_true rfl rfl rfl (by decide +kernel)) (pi_list (pe_lst (pa_cons pe_str (pa_cons pe_str (pa_cons pe_str (pa_cons pe_str (pa_cons pe_str (pa_cons pe_str (pa_cons pe_str (pa_cons pe_str pa_nil)))))))))) (blkOk_by (N := ["script", "at", "told", "value"]) (sc := defScope s_law) (by decide +kernel)) (fun _ _ _ _ _ => (pg_name (i := 3) sc_law.nd rfl (Or.inl rfl))) (fun _ _ _ _ _ => pts_nil) (fun _ _ _ _ _ => (pe_call G_is_name hr_is_name rfl T.m_is_name T.F_is_name.kp T.b_is_name .nil pass0 (pa_cons (pv 3) pa_nil))))
      (pss_cons (ps_set (i := 2) sc_law.nd rfl (Or.inl rfl) (pe_op op_cat (pv 2) (pe_lst (pa_cons (pe_call G_is_integer hr_is_integer rfl T.m_is_integer T.F_is_integer.kp T.b_is_integer .nil pass0 (pa_cons (pe_op op_sub (pe_op op_pow pe_int pe_int) pe_int) pa_nil)) (pa_cons (pe_call G_is_integer hr_is_integer rfl T.m_is_integer T.F_is_integer.kp T.b_is_integer .nil pass0 (pa_cons (pe_op op_pow pe_int pe_int) pa_nil)) (pa_cons (pe_call G_is_integer hr_is_integer rfl T.m_is_integer T.F_is_integer.kp T.b_is_integer .nil pass0 (pa_cons (pe_op op_sub pe_int (pe_op op_pow pe_int pe_int)) pa_nil)) (pa_cons (pe_call G_is_integer hr_is_integer rfl T.m_is_integer T.F_is_integer.kp T.b_is_integer .nil pass0 (pa_cons (pe_un un_neg (pe_op op_pow pe_int pe_int)) pa_nil)) pa_nil)))))))
      (pss_one (ps_ret (pe_cmpR (op_eqD hr.units) (pv 2) (pe_lst (pa_cons pe_bl (pa_cons pe_bl (pa_cons pe_bl (pa_cons pe_bl (pa_cons pe_bl (pa_cons pe_bl (pa_cons pe_bl (pa_cons pe_bl (pa_cons pe_bl (pa_cons pe_bl (pa_cons pe_bl (pa_cons pe_bl pa_nil))))))))))))) (nomark _))))))), ?_⟩
    refine ⟨_, rfl, _, _, rfl, .inl ⟨_, hS, rfl⟩, _, _, rfl, _, _, rfl, ?_⟩
    have hb := cells_n (ns.map V.int).length 8
    refine ⟨_, rfl, Int.le_trans (by decide) hb.2, Int.lt_of_le_of_lt hb.1 (by decide), ?_⟩
    refine for_range (fun i σ H' => ∃ v, σ = [some (.ref a), v, none, none] ∧ SqL K H' a (ns.map V.int)) ⟨none, rfl, hS⟩ ?_ ?_
    · rintro i σ H' hi ⟨v, rfl, hS'⟩
      refine ⟨_, rfl, _, rfl, a, ns, i, congrArg (fun z => [V.ref a, V.int z]) (Int.zero_add _), hS', fun p x y z hp => ?_⟩
      refine ⟨p, rfl, ⟨x, y, z, upd_same⟩, fun H2 O2 => ⟨_, rfl, iteF ?_⟩⟩
      refine ⟨_, rfl, Same.seq (fun b o e => ?_) hS'⟩
      have nb := ne_of_none e hp
      exact O2 b o nb (by rw [upd_ne nb]; exact e)
    · rintro σ H' ⟨v, rfl, hS'⟩
      refine ⟨by show 8 ≤ sizeLine; decide, fun L nL => ?_⟩
      have eL : (upd H' L (.lst ((["a", "abcdefgh", "abcdefghi", "", "A", "a1", "a b", "item\n"] : List Str).map V.str))) L = some (.lst ((["a", "abcdefgh", "abcdefghi", "", "A", "a1", "a b", "item\n"] : List Str).map V.str)) := upd_same
      have hT : ∀ s ∈ (["a", "abcdefgh", "abcdefghi", "", "A", "a1", "a b", "item\n"] : List Str), s.length ≤ 100 ∧ ∀ c ∈ s.cps.toList, c < 128 := by decide +kernel
      refine ⟨_, rfl, ⟨_, SqL.of eL⟩, fun D hD => ?_⟩
      refine lc_list (K := K) (a := L) (xs := (["a", "abcdefgh", "abcdefghi", "", "A", "a1", "a b", "item\n"] : List Str).map V.str) (fun i H2 => H2 D = some (.lst ((((["a", "abcdefgh", "abcdefghi", "", "A", "a1", "a b", "item\n"] : List Str).take i).map nmC).map V.bl)) ∧ H2 L = some (.lst ((["a", "abcdefgh", "abcdefghi", "", "A", "a1", "a b", "item\n"] : List Str).map V.str))) ⟨upd_same, (upd_ne (ne_of_none eL hD)).trans eL⟩ (fun i H2 _ e => SqL.of e.2) ?_ ?_
      · rintro i x H2 hx ⟨eD, eL2⟩
        have hi : i < 8 := (List.getElem?_eq_some_iff.mp hx).1
        rw [List.getElem?_map] at hx
        obtain ⟨s, hs, rfl⟩ := Option.map_eq_some_iff.mp hx
        have hs2 := hT s (List.mem_of_getElem? hs)
        refine ⟨rfl, ?_⟩
        unfold tYes
        dsimp only
        rw [if_pos rfl]
        refine ⟨_, rfl, .str s, rfl, .inl ⟨s, rfl, hs2.1, hs2.2⟩, fun H3 S3 => ?_⟩
        refine ⟨_, S3 _ _ eD, ?_, ?_, ?_⟩
        · rw [List.length_map, List.length_map, List.length_take]
          exact Nat.lt_of_le_of_lt (Nat.min_le_right _ _) (by decide)
        · rw [upd_same, List.take_add_one, hs, List.map_append, List.map_append]
          rfl
        · exact (upd_ne (ne_of_none eL hD)).trans (S3 _ _ eL2)
      · rintro H9 ⟨eD, eL2⟩
        have eD2 : H9 D = some (.lst (([true, true, false, false, false, false, false, false] : List Bool).map V.bl)) := eD.trans (congrArg (fun l : List Bool => some (HO.lst (l.map V.bl))) (by decide +kernel))
        refine ⟨_, rfl, ?_⟩
        refine ⟨_, _, rfl, rfl, ⟨by decide, by decide, by decide⟩, _, _, rfl, rfl, _, rfl, .inr (.inr (.inr (.inl ⟨_, rfl⟩))), ?_⟩
        refine ⟨_, _, rfl, rfl, ⟨by decide, by decide, by decide⟩, _, rfl, .inr (.inr (.inr (.inl ⟨_, rfl⟩))), ?_⟩
        refine ⟨_, _, rfl, rfl, ⟨by decide, by decide, by decide⟩, _, _, rfl, rfl, _, rfl, .inr (.inr (.inr (.inl ⟨_, rfl⟩))), ?_⟩
        refine ⟨_, _, rfl, rfl, ⟨by decide, by decide, by decide⟩, _, rfl, _, rfl, .inr (.inr (.inr (.inl ⟨_, rfl⟩))), ?_⟩
        refine ⟨by show 4 ≤ sizeLine; decide, fun d2 n2 => ?_⟩
        have n21 : D ≠ d2 := ne_of_none eD2 n2
        refine ⟨D, d2, _, _, rfl, rfl, (upd_ne n21).trans eD2, upd_same, by show 8 + 4 ≤ sizeLine; decide, fun d3 n3 => ?_⟩
        refine ⟨_, rfl, by show 12 ≤ sizeLine; decide, fun d4 n4 => ?_⟩
        have n34 : d3 ≠ d4 := ne_of_none upd_same n4
        refine ⟨_, _, dp_bools [true, true, false, false, false, false, false, false, true, false, true, false] (SqL.of ((upd_ne n34).trans upd_same)), dp_bools [true, true, false, false, false, false, false, false, true, false, true, false] (SqL.of upd_same), by decide +kernel, by decide +kernel, ?_⟩
        exact bl_t (by decide +kernel) (k _)
end
theorem all_mk {l : PySem.W.OpenLaw} {w : World} {K : PySem.W.Frag} {h : Heap} {mg : Str → Option Value} {fa f_is_name f_is_integer f_w_reel f_w_spin f_w_pick f_w_name f_w_is_name f_w_near f_w_cell_right f_law : Addr} (X : K.In h) (G : h.Ns mainGlobals mg) (hfa : mg "law" = some (.ref fa))
    {od_is_name an_is_name od_is_integer an_is_integer od_w_reel an_w_reel od_w_spin an_w_spin od_w_pick an_w_pick od_w_name an_w_name od_w_is_name an_w_is_name od_w_near an_w_near od_w_cell_right an_w_cell_right od_law an_law : Option Addr} {sl_is_name sl_is_integer sl_w_reel sl_w_spin sl_w_pick sl_w_name sl_w_is_name sl_w_near sl_w_cell_right sl_law : Array (Option Value)} {oc_is_name kV_is_name dc_is_name pm_is_name cd_is_name ct_is_name oc_is_integer kV_is_integer dc_is_integer pm_is_integer cd_is_integer ct_is_integer oc_w_reel kV_w_reel dc_w_reel pm_w_reel cd_w_reel ct_w_reel oc_w_spin kV_w_spin dc_w_spin pm_w_spin cd_w_spin ct_w_spin oc_w_pick kV_w_pick dc_w_pick pm_w_pick cd_w_pick ct_w_pick oc_w_name kV_w_name dc_w_name pm_w_name cd_w_name ct_w_name oc_w_is_name kV_w_is_name dc_w_is_name pm_w_is_name cd_w_is_name ct_w_is_name oc_w_near kV_w_near dc_w_near pm_w_near cd_w_near ct_w_near oc_w_cell_right kV_w_cell_right dc_w_cell_right pm_w_cell_right cd_w_cell_right ct_w_cell_right oc_law kV_law dc_law pm_law cd_law ct_law : Value} {t_MAX_LETTERS : Tok}
    (a_is_name : PySem.W.nsIn K mainGlobals "is_name" = some (some (.ref f_is_name))) (l_is_name : K.lookup f_is_name = some ⟨oc_is_name, od_is_name, .func (PySem.W.fnOf "is_name" "is_name" (defArgs s_is_name) (defBody s_is_name) (defScope s_is_name) .none kV_is_name dc_is_name pm_is_name an_is_name cd_is_name ct_is_name), sl_is_name⟩) (k_is_name : PySem.W.codeIn K cd_is_name "is_name" = true) (p_is_name : PySem.W.keepIn K (.ref f_is_name) = true)
    (a_is_integer : PySem.W.nsIn K mainGlobals "is_integer" = some (some (.ref f_is_integer))) (l_is_integer : K.lookup f_is_integer = some ⟨oc_is_integer, od_is_integer, .func (PySem.W.fnOf "is_integer" "is_integer" (defArgs s_is_integer) (defBody s_is_integer) (defScope s_is_integer) .none kV_is_integer dc_is_integer pm_is_integer an_is_integer cd_is_integer ct_is_integer), sl_is_integer⟩) (k_is_integer : PySem.W.codeIn K cd_is_integer "is_integer" = true) (p_is_integer : PySem.W.keepIn K (.ref f_is_integer) = true)
    (a_w_reel : PySem.W.nsIn K mainGlobals "_law_reel" = some (some (.ref f_w_reel))) (l_w_reel : K.lookup f_w_reel = some ⟨oc_w_reel, od_w_reel, .func (PySem.W.fnOf "_law_reel" "_law_reel" (defArgs s_w_reel) (defBody s_w_reel) (defScope s_w_reel) .none kV_w_reel dc_w_reel pm_w_reel an_w_reel cd_w_reel ct_w_reel), sl_w_reel⟩) (k_w_reel : PySem.W.codeIn K cd_w_reel "_law_reel" = true) (p_w_reel : PySem.W.keepIn K (.ref f_w_reel) = true)
    (a_w_spin : PySem.W.nsIn K mainGlobals "_law_spin" = some (some (.ref f_w_spin))) (l_w_spin : K.lookup f_w_spin = some ⟨oc_w_spin, od_w_spin, .func (PySem.W.fnOf "_law_spin" "_law_spin" (defArgs s_w_spin) (defBody s_w_spin) (defScope s_w_spin) .none kV_w_spin dc_w_spin pm_w_spin an_w_spin cd_w_spin ct_w_spin), sl_w_spin⟩) (k_w_spin : PySem.W.codeIn K cd_w_spin "_law_spin" = true) (p_w_spin : PySem.W.keepIn K (.ref f_w_spin) = true)
    (a_w_pick : PySem.W.nsIn K mainGlobals "_law_pick" = some (some (.ref f_w_pick))) (l_w_pick : K.lookup f_w_pick = some ⟨oc_w_pick, od_w_pick, .func (PySem.W.fnOf "_law_pick" "_law_pick" (defArgs s_w_pick) (defBody s_w_pick) (defScope s_w_pick) .none kV_w_pick dc_w_pick pm_w_pick an_w_pick cd_w_pick ct_w_pick), sl_w_pick⟩) (k_w_pick : PySem.W.codeIn K cd_w_pick "_law_pick" = true) (p_w_pick : PySem.W.keepIn K (.ref f_w_pick) = true)
    (a_w_name : PySem.W.nsIn K mainGlobals "_law_name" = some (some (.ref f_w_name))) (l_w_name : K.lookup f_w_name = some ⟨oc_w_name, od_w_name, .func (PySem.W.fnOf "_law_name" "_law_name" (defArgs s_w_name) (defBody s_w_name) (defScope s_w_name) .none kV_w_name dc_w_name pm_w_name an_w_name cd_w_name ct_w_name), sl_w_name⟩) (k_w_name : PySem.W.codeIn K cd_w_name "_law_name" = true) (p_w_name : PySem.W.keepIn K (.ref f_w_name) = true)
    (a_w_is_name : PySem.W.nsIn K mainGlobals "_law_is_name" = some (some (.ref f_w_is_name))) (l_w_is_name : K.lookup f_w_is_name = some ⟨oc_w_is_name, od_w_is_name, .func (PySem.W.fnOf "_law_is_name" "_law_is_name" (defArgs s_w_is_name) (defBody s_w_is_name) (defScope s_w_is_name) .none kV_w_is_name dc_w_is_name pm_w_is_name an_w_is_name cd_w_is_name ct_w_is_name), sl_w_is_name⟩) (k_w_is_name : PySem.W.codeIn K cd_w_is_name "_law_is_name" = true) (p_w_is_name : PySem.W.keepIn K (.ref f_w_is_name) = true)
    (a_w_near : PySem.W.nsIn K mainGlobals "_law_near" = some (some (.ref f_w_near))) (l_w_near : K.lookup f_w_near = some ⟨oc_w_near, od_w_near, .func (PySem.W.fnOf "_law_near" "_law_near" (defArgs s_w_near) (defBody s_w_near) (defScope s_w_near) .none kV_w_near dc_w_near pm_w_near an_w_near cd_w_near ct_w_near), sl_w_near⟩) (k_w_near : PySem.W.codeIn K cd_w_near "_law_near" = true) (p_w_near : PySem.W.keepIn K (.ref f_w_near) = true)
    (a_w_cell_right : PySem.W.nsIn K mainGlobals "_law_cell_right" = some (some (.ref f_w_cell_right))) (l_w_cell_right : K.lookup f_w_cell_right = some ⟨oc_w_cell_right, od_w_cell_right, .func (PySem.W.fnOf "_law_cell_right" "_law_cell_right" (defArgs s_w_cell_right) (defBody s_w_cell_right) (defScope s_w_cell_right) .none kV_w_cell_right dc_w_cell_right pm_w_cell_right an_w_cell_right cd_w_cell_right ct_w_cell_right), sl_w_cell_right⟩) (k_w_cell_right : PySem.W.codeIn K cd_w_cell_right "_law_cell_right" = true) (p_w_cell_right : PySem.W.keepIn K (.ref f_w_cell_right) = true)
    (a_law : PySem.W.nsIn K mainGlobals "law" = some (some (.ref f_law))) (l_law : K.lookup f_law = some ⟨oc_law, od_law, .func (PySem.W.fnOf "law" "law" (defArgs s_law) (defBody s_law) (defScope s_law) .none kV_law dc_law pm_law an_law cd_law ct_law), sl_law⟩) (k_law : PySem.W.codeIn K cd_law "law" = true) (p_law : PySem.W.keepIn K (.ref f_law) = true)
    (e_MAX_LETTERS : PySem.W.nsIn K mainGlobals "MAX_LETTERS" = some (some (.int 8 t_MAX_LETTERS)))
    (y_int : PySem.W.nsIn K mainGlobals "int" = some none)
    (y_abs : PySem.W.nsIn K mainGlobals "abs" = some none)
    (y_len : PySem.W.nsIn K mainGlobals "len" = some none)
    (y_max : PySem.W.nsIn K mainGlobals "max" = some none)
    (y_min : PySem.W.nsIn K mainGlobals "min" = some none)
    (y_range : PySem.W.nsIn K mainGlobals "range" = some none)
    (y_isinstance : PySem.W.nsIn K mainGlobals "isinstance" = some none)
    (y_repr : PySem.W.nsIn K mainGlobals "repr" = some none)
    (y_str : PySem.W.nsIn K mainGlobals "str" = some none)
    (y_all : PySem.W.nsIn K mainGlobals "all" = some none)
    (y_bool : PySem.W.nsIn K mainGlobals "bool" = some none)
    (y_ord : PySem.W.nsIn K mainGlobals "ord" = some none)
    : ∃ fd : FuncData, (∀ (s : Shared) (v : Value), BindsTo s fd ⟨[v], []⟩ [("script", v)]) ∧ ∀ base : Heap, K.In base → base.Ns mainGlobals mg → FnOk l.prog w K mg base CX0 5 fa fd ["script"] (spLaw K) := by
  have e := hfa.symm.trans (PySem.W.mg_of X G a_law)
  cases e
  have F_is_name := fun_mk (st := s_is_name) l_is_name k_is_name p_is_name
  have b_is_name := F_is_name.binds (ps := ["value"]) fun _ _ _ _ _ _ us hl => match us, hl with | [_], _ => rfl
  have F_is_integer := fun_mk (st := s_is_integer) l_is_integer k_is_integer p_is_integer
  have b_is_integer := F_is_integer.binds (ps := ["value"]) fun _ _ _ _ _ _ us hl => match us, hl with | [_], _ => rfl
  have F_w_reel := fun_mk (st := s_w_reel) l_w_reel k_w_reel p_w_reel
  have b_w_reel := F_w_reel.binds (ps := ["script", "at"]) fun _ _ _ _ _ _ us hl => match us, hl with | [_, _], _ => rfl
  have F_w_spin := fun_mk (st := s_w_spin) l_w_spin k_w_spin p_w_spin
  have b_w_spin := F_w_spin.binds (ps := ["reel", "total"]) fun _ _ _ _ _ _ us hl => match us, hl with | [_, _], _ => rfl
  have F_w_pick := fun_mk (st := s_w_pick) l_w_pick k_w_pick p_w_pick
  have b_w_pick := F_w_pick.binds (ps := ["reel", "items"]) fun _ _ _ _ _ _ us hl => match us, hl with | [_, _], _ => rfl
  have F_w_name := fun_mk (st := s_w_name) l_w_name k_w_name p_w_name
  have b_w_name := F_w_name.binds (ps := ["reel"]) fun _ _ _ _ _ _ us hl => match us, hl with | [_], _ => rfl
  have F_w_is_name := fun_mk (st := s_w_is_name) l_w_is_name k_w_is_name p_w_is_name
  have b_w_is_name := F_w_is_name.binds (ps := ["value"]) fun _ _ _ _ _ _ us hl => match us, hl with | [_], _ => rfl
  have F_w_near := fun_mk (st := s_w_near) l_w_near k_w_near p_w_near
  have b_w_near := F_w_near.binds (ps := ["reel", "name"]) fun _ _ _ _ _ _ us hl => match us, hl with | [_, _], _ => rfl
  have F_w_cell_right := fun_mk (st := s_w_cell_right) l_w_cell_right k_w_cell_right p_w_cell_right
  have b_w_cell_right := F_w_cell_right.binds (ps := ["reel"]) fun _ _ _ _ _ _ us hl => match us, hl with | [_], _ => rfl
  have F_law := fun_mk (st := s_law) l_law k_law p_law
  have b_law := F_law.binds (ps := ["script"]) fun _ _ _ _ _ _ us hl => match us, hl with | [_], _ => rfl
  exact ⟨PySem.W.fnOf "law" "law" (defArgs s_law) (defBody s_law) (defScope s_law) .none kV_law dc_law pm_law an_law cd_law ct_law, fun s v => .of_eq rfl, fun base _ _ => ok_law (⟨_, _, F_is_name, PySem.W.mg_of X G a_is_name, b_is_name, _, _, F_is_integer, PySem.W.mg_of X G a_is_integer, b_is_integer, _, _, F_w_reel, PySem.W.mg_of X G a_w_reel, b_w_reel, _, _, F_w_spin, PySem.W.mg_of X G a_w_spin, b_w_spin, _, _, F_w_pick, PySem.W.mg_of X G a_w_pick, b_w_pick, _, _, F_w_name, PySem.W.mg_of X G a_w_name, b_w_name, _, _, F_w_is_name, PySem.W.mg_of X G a_w_is_name, b_w_is_name, _, _, F_w_near, PySem.W.mg_of X G a_w_near, b_w_near, _, _, F_w_cell_right, PySem.W.mg_of X G a_w_cell_right, b_w_cell_right, _, _, F_law, PySem.W.mg_of X G a_law, b_law, ⟨t_MAX_LETTERS, PySem.W.mg_of X G e_MAX_LETTERS⟩, PySem.W.mg_none_of X G y_int, PySem.W.mg_none_of X G y_abs, PySem.W.mg_none_of X G y_len, PySem.W.mg_none_of X G y_max, PySem.W.mg_none_of X G y_min, PySem.W.mg_none_of X G y_range, PySem.W.mg_none_of X G y_isinstance, PySem.W.mg_none_of X G y_repr, PySem.W.mg_none_of X G y_str, PySem.W.mg_none_of X G y_all, PySem.W.mg_none_of X G y_bool, PySem.W.mg_none_of X G y_ord⟩ : T K mg)⟩
theorem walk {l : PySem.W.OpenLaw} {q : Program} {loose : List Str} {XP : (Str → Option Value) → Heap → Prop} {YP : World → Heap → Prop} {d : DefRec} {K : Params → PySem.W.Frag} (hn : l.most = some 63) (hdf : d.params.defaults = [])
    (hY : ∀ (w : World) (h : Heap), YP w h → (K w.params).In h)
    (F : ∀ (w : World) (mg : Str → Option Value) (fa : Addr) (h : Heap), (K w.params).In h → h.Ns mainGlobals mg → mg d.name = some (.ref fa) →
      ∃ fd : FuncData, (∀ (s : Shared) (u : Value), BindsTo s fd ⟨[u], []⟩ [("script", u)]) ∧ ∀ base : Heap, (K w.params).In base → base.Ns mainGlobals mg → FnOk l.prog w (K w.params) mg base CX0 5 fa fd ["script"] (spLaw (K w.params))) :
    PySem.W.WalkO q loose XP YP l.row.toRowW d [] (fun f vs => PySem.call f vs) :=
  L2.walk_of (n := 63) (k := 5) (x := "script") (CX := fun _ => CX0) (sp := fun w => spLaw (K w.params)) hn (by decide) hdf ⟨rfl, by decide, by decide⟩ hY F (fun _ _ a ns hl _ hS => ⟨a, ns, rfl, hS, hl, fun _ => rfl⟩) fun _ _ _ _ _ z => z
end K01
open PySem PySem.W PyProof.Rows
set_option maxRecDepth 100000 in
set_option maxHeartbeats 0 in
theorem PySem.Challenge.cw_overrounds_k01_names_and_integers_holds : PySem.Challenge.rw_overrounds_k01_names_and_integers.Holds := by
  w_on; o_law; k_head; (case hw => w_witness2)
  k_fill
  refine K01.walk (l := PySem.Challenge.rw_overrounds_k01_names_and_integers) rfl rfl (fun w h Y => PySem.W.kIn_of Y) ?F
  case F =>
    intro w mg fa h KX G hmg
    refine' K01.all_mk KX G hmg ?a_is_name ?l_is_name ?k_is_name ?p_is_name ?a_is_integer ?l_is_integer ?k_is_integer ?p_is_integer ?a_w_reel ?l_w_reel ?k_w_reel ?p_w_reel ?a_w_spin ?l_w_spin ?k_w_spin ?p_w_spin ?a_w_pick ?l_w_pick ?k_w_pick ?p_w_pick ?a_w_name ?l_w_name ?k_w_name ?p_w_name ?a_w_is_name ?l_w_is_name ?k_w_is_name ?p_w_is_name ?a_w_near ?l_w_near ?k_w_near ?p_w_near ?a_w_cell_right ?l_w_cell_right ?k_w_cell_right ?p_w_cell_right ?a_law ?l_law ?k_law ?p_law ?e_MAX_LETTERS ?y_int ?y_abs ?y_len ?y_max ?y_min ?y_range ?y_isinstance ?y_repr ?y_str ?y_all ?y_bool ?y_ord
    (case a_is_name => k_is)
    (case l_is_name => k_is)
    (case k_is_name => k_is)
    (case p_is_name => k_is)
    (case a_is_integer => k_is)
    (case l_is_integer => k_is)
    (case k_is_integer => k_is)
    (case p_is_integer => k_is)
    (case a_w_reel => k_is)
    (case l_w_reel => k_is)
    (case k_w_reel => k_is)
    (case p_w_reel => k_is)
    (case a_w_spin => k_is)
    (case l_w_spin => k_is)
    (case k_w_spin => k_is)
    (case p_w_spin => k_is)
    (case a_w_pick => k_is)
    (case l_w_pick => k_is)
    (case k_w_pick => k_is)
    (case p_w_pick => k_is)
    (case a_w_name => k_is)
    (case l_w_name => k_is)
    (case k_w_name => k_is)
    (case p_w_name => k_is)
    (case a_w_is_name => k_is)
    (case l_w_is_name => k_is)
    (case k_w_is_name => k_is)
    (case p_w_is_name => k_is)
    (case a_w_near => k_is)
    (case l_w_near => k_is)
    (case k_w_near => k_is)
    (case p_w_near => k_is)
    (case a_w_cell_right => k_is)
    (case l_w_cell_right => k_is)
    (case k_w_cell_right => k_is)
    (case p_w_cell_right => k_is)
    (case a_law => k_is)
    (case l_law => k_is)
    (case k_law => k_is)
    (case p_law => k_is)
    (case e_MAX_LETTERS => k_is)
    (case y_int => k_is)
    (case y_abs => k_is)
    (case y_len => k_is)
    (case y_max => k_is)
    (case y_min => k_is)
    (case y_range => k_is)
    (case y_isinstance => k_is)
    (case y_repr => k_is)
    (case y_str => k_is)
    (case y_all => k_is)
    (case y_bool => k_is)
    (case y_ord => k_is)
#print axioms PySem.Challenge.cw_overrounds_k01_names_and_integers_holds
