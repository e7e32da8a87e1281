import PyProof.Rows.All
import Wide.All
import OpenK.AllK
import Wide.FinOn
import HandS.ForMost
import HandS.Wide
import HandS.IsInst
import HandS.Walk
import HandS.Style
import HandS.Star
import HandS.Gcd
import HandS.Conv
import PySem.Challenge.RW_overrounds_k03_common_multiples
set_option Elab.async false
set_option linter.all false
set_option maxRecDepth 100000
set_option maxHeartbeats 2000000
namespace K03
open PySem L2
def top (i : Nat) : Stmt := PySem.Challenge.pw_overrounds_k03_common_multiples.main.body.getD i (.Pass ⟨0, 0, 0, 0⟩)
abbrev s_is_integer : Stmt := top 7
abbrev s_is_between : Stmt := top 8
abbrev s_check_between : Stmt := top 9
abbrev s_common_multiple : Stmt := top 10
abbrev s_w_reel : Stmt := top 12
abbrev s_w_spin : Stmt := top 13
abbrev s_w_pick : Stmt := top 14
abbrev s_w_few : Stmt := top 15
abbrev s_w_least : Stmt := top 16
abbrev s_w_told : Stmt := top 17
abbrev s_law : Stmt := top 18
abbrev s_InvalidNumber_init : Stmt := inClass (top 2) 0
abbrev s_TooMany_init : Stmt := inClass (top 3) 0
theorem sc_is_integer : FnScope ["value"] ["value"] (defScope s_is_integer) := ⟨rfl, rfl, rfl, by decide +kernel, rfl, by decide +kernel, by decide +kernel⟩
theorem sc_is_between : FnScope ["value", "low", "high"] ["value", "low", "high"] (defScope s_is_between) := ⟨rfl, rfl, rfl, by decide +kernel, rfl, by decide +kernel, by decide +kernel⟩
theorem sc_check_between : FnScope ["value", "low", "high"] ["value", "low", "high"] (defScope s_check_between) := ⟨rfl, rfl, rfl, by decide +kernel, rfl, by decide +kernel, by decide +kernel⟩
theorem sc_common_multiple : FnScope ["numbers", "number", "multiple"] ["numbers"] (defScope s_common_multiple) := ⟨rfl, rfl, rfl, by decide +kernel, rfl, by decide +kernel, by decide +kernel⟩
theorem sc_w_reel : FnScope ["script", "at", "cell", "great", "mixed"] ["script", "at"] (defScope s_w_reel) := ⟨rfl, rfl, rfl, by decide +kernel, rfl, by decide +kernel, by decide +kernel⟩
theorem sc_w_spin : FnScope ["reel", "total", "found", "one", "two"] ["reel", "total"] (defScope s_w_spin) := ⟨rfl, rfl, rfl, by decide +kernel, rfl, by decide +kernel, by decide +kernel⟩
theorem sc_w_pick : FnScope ["reel", "items"] ["reel", "items"] (defScope s_w_pick) := ⟨rfl, rfl, rfl, by decide +kernel, rfl, by decide +kernel, by decide +kernel⟩
theorem sc_w_few : FnScope ["reel", "items", "many", "left", "found"] ["reel", "items", "many"] (defScope s_w_few) := ⟨rfl, rfl, rfl, by decide +kernel, rfl, by decide +kernel, by decide +kernel⟩
theorem sc_w_least : FnScope ["numbers", "found", "prime", "power", "each", "one", "number"] ["numbers"] (defScope s_w_least) := ⟨rfl, rfl, rfl, by decide +kernel, rfl, by decide +kernel, by decide +kernel⟩
theorem sc_w_told : FnScope ["numbers"] ["numbers"] (defScope s_w_told) := ⟨rfl, rfl, rfl, by decide +kernel, rfl, by decide +kernel, by decide +kernel⟩
theorem sc_law : FnScope ["script", "at", "reel", "numbers", "due", "many", "told", "turn"] ["script"] (defScope s_law) := ⟨rfl, rfl, rfl, by decide +kernel, rfl, by decide +kernel, by decide +kernel⟩
/-- where the defs stand, and what the names hold -/
structure T (K : PySem.W.Frag) (mg : Str → Option Value) where
  f_is_integer : Addr
  d_is_integer : FuncData
  F_is_integer : Fun K "is_integer" "is_integer" s_is_integer f_is_integer d_is_integer
  m_is_integer : mg "is_integer" = some (.ref f_is_integer)
  b_is_integer : Binds K d_is_integer ["value"] []
  f_is_between : Addr
  d_is_between : FuncData
  F_is_between : Fun K "is_between" "is_between" s_is_between f_is_between d_is_between
  m_is_between : mg "is_between" = some (.ref f_is_between)
  b_is_between : Binds K d_is_between ["value", "low", "high"] []
  f_check_between : Addr
  d_check_between : FuncData
  F_check_between : Fun K "check_between" "check_between" s_check_between f_check_between d_check_between
  m_check_between : mg "check_between" = some (.ref f_check_between)
  b_check_between : Binds K d_check_between ["value", "low", "high"] []
  f_common_multiple : Addr
  d_common_multiple : FuncData
  F_common_multiple : Fun K "common_multiple" "common_multiple" s_common_multiple f_common_multiple d_common_multiple
  m_common_multiple : mg "common_multiple" = some (.ref f_common_multiple)
  f_w_reel : Addr
  d_w_reel : FuncData
  F_w_reel : Fun K "_law_reel" "_law_reel" s_w_reel f_w_reel d_w_reel
  m_w_reel : mg "_law_reel" = some (.ref f_w_reel)
  b_w_reel : Binds K d_w_reel ["script", "at"] []
  f_w_spin : Addr
  d_w_spin : FuncData
  F_w_spin : Fun K "_law_spin" "_law_spin" s_w_spin f_w_spin d_w_spin
  m_w_spin : mg "_law_spin" = some (.ref f_w_spin)
  b_w_spin : Binds K d_w_spin ["reel", "total"] []
  f_w_pick : Addr
  d_w_pick : FuncData
  F_w_pick : Fun K "_law_pick" "_law_pick" s_w_pick f_w_pick d_w_pick
  m_w_pick : mg "_law_pick" = some (.ref f_w_pick)
  b_w_pick : Binds K d_w_pick ["reel", "items"] []
  f_w_few : Addr
  d_w_few : FuncData
  F_w_few : Fun K "_law_few" "_law_few" s_w_few f_w_few d_w_few
  m_w_few : mg "_law_few" = some (.ref f_w_few)
  b_w_few : Binds K d_w_few ["reel", "items", "many"] []
  f_w_least : Addr
  d_w_least : FuncData
  F_w_least : Fun K "_law_least" "_law_least" s_w_least f_w_least d_w_least
  m_w_least : mg "_law_least" = some (.ref f_w_least)
  b_w_least : Binds K d_w_least ["numbers"] []
  f_w_told : Addr
  d_w_told : FuncData
  F_w_told : Fun K "_law_told" "_law_told" s_w_told f_w_told d_w_told
  m_w_told : mg "_law_told" = some (.ref f_w_told)
  b_w_told : Binds K d_w_told ["numbers"] []
  f_law : Addr
  d_law : FuncData
  F_law : Fun K "law" "law" s_law f_law d_law
  m_law : mg "law" = some (.ref f_law)
  b_law : Binds K d_law ["script"] []
  c_MAX_FACTOR : ∃ t, mg "MAX_FACTOR" = some (.int 64 t)
  c_MAX_FACTORS : ∃ t, mg "MAX_FACTORS" = some (.int 16 t)
  x_lcm : mg "lcm" = some (.builtin "math.lcm")
  z_int : mg "int" = none
  z_abs : mg "abs" = none
  z_len : mg "len" = none
  z_max : mg "max" = none
  z_min : mg "min" = none
  z_range : mg "range" = none
  z_isinstance : mg "isinstance" = none
  z_list : mg "list" = none
  z_bool : mg "bool" = none
/-- a list of three ints stands at r -/
def Rl (H : Hp) (r : Addr) : Prop := ∃ a b c : Int, H r = some (.lst [.int a, .int b, .int c])
/-- what the heap held, but for what stands at r -/
def Only (r : Addr) (H H' : Hp) : Prop := ∀ b o, b ≠ r → H b = some o → H' b = some o
theorem Only.refl {r : Addr} {H : Hp} : Only r H H := fun _ _ _ e => e
theorem Only.trans {r : Addr} {H H1 H2 : Hp} (a : Only r H H1) (b : Only r H1 H2) : Only r H H2 := fun c o n e => b c o n (a c o n e)
theorem Only.upd {r : Addr} {H : Hp} {o : HO} : Only r H (upd H r o) := fun b _ n e => by rw [upd_ne n]; exact e
theorem Only.new {r p : Addr} {H : Hp} {o : HO} (n : H p = none) : Only r H (L2.upd H p o) := fun b _ _ e => by rw [upd_ne (ne_of_none e n)]; exact e
theorem Rl.new {r p : Addr} {H : Hp} {o : HO} (h : Rl H r) (n : H p = none) : Rl (upd H p o) r := by
  obtain ⟨a, b, c, e⟩ := h
  exact ⟨a, b, c, by rw [upd_ne (ne_of_none e n)]; exact e⟩
theorem Rl.ne {r p : Addr} {H : Hp} (h : Rl H r) (n : H p = none) : p ≠ r := by
  obtain ⟨a, b, c, e⟩ := h
  exact (ne_of_none e n).symm
theorem Only.seqL {K : PySem.W.Frag} {r l : Addr} {H H' : Hp} {xs : List V} (o : Only r H H') (n : l ≠ r) (h : SqL K H l xs) : SqL K H' l xs := by
  rcases h with (h | ⟨u, h⟩) | h
  · exact .inl (.inl (o _ _ n h))
  · exact .inl (.inr ⟨u, o _ _ n h⟩)
  · exact .inr h
theorem Only.seqT {K : PySem.W.Frag} {r l : Addr} {H H' : Hp} {xs : List V} (o : Only r H H') (n : l ≠ r) (h : SqT K H l xs) : SqT K H' l xs := by
  rcases h with (h | ⟨u, h⟩) | h
  · exact .inl (.inl (o _ _ n h))
  · exact .inl (.inr ⟨u, o _ _ n h⟩)
  · exact .inr h
theorem ix_at {α : Type} {xs : List α} {i : Int} (h0 : 0 ≤ i) (h1 : i < xs.length) : ∃ v, v ∈ xs ∧ atI xs i = some v := by
  have h2 : i.toNat < xs.length := by omega
  refine ⟨xs[i.toNat], List.getElem_mem h2, ?_⟩
  have h3 : ((i.toNat : Nat) : Int) = i := Int.toNat_of_nonneg h0
  have := atI_nat (xs := xs) (j := i.toNat) (List.getElem?_eq_getElem h2)
  rw [h3] at this
  exact this
/-- what a draw is made from: a list, a tuple, a text -/
def SeqV (K : PySem.W.Frag) (H : Hp) (r : Addr) (x : V) (xs : List V) : Prop :=
  (∃ l, x = .ref l ∧ l ≠ r ∧ (SqL K H l xs ∨ SqT K H l xs)) ∨ (∃ z : Str, x = .str z ∧ z.length ≤ sizeLine ∧ xs = z.cps.toList.map fun c => V.str ⟨#[c]⟩)
theorem lg {i : Int} {b : Nat} (h0 : 0 ≤ i) (h : i < 2 ^ b) (hb : 0 < b) : i.natAbs.log2 < b := by
  refine PySem.Flt.log2_lt_of hb ?_
  have : (i.natAbs : Int) = i := Int.natAbs_of_nonneg h0
  have h2 : ((i.natAbs : Nat) : Int) < ((2 ^ b : Nat) : Int) := by rw [this, Int.natCast_pow]; exact h
  exact Int.ofNat_lt.mp h2
section
variable {X : Cx}
theorem op_powW : OpR X (binaryOp .Pow) (rI (fun i j => 0 ≤ j ∧ (Builtin.Int.intBits i : Int) * j ≤ 2 ^ 27) fun i j => .int (i ^ j.toNat)) := opI fun _ _ _ _ _ _ _ hc q => PyProof.Rows.pow_int hc.1 hc.2 q
end
theorem ite_join {c : Bool} {ta tb : TE} {σ : St} {H : Hp} {Q : VK} (R : V → Hp → Prop) (ha : c = true → ∀ Q' : VK, (∀ v H', R v H' → Q' v H') → ta σ H Q') (hb : c = false → ∀ Q' : VK, (∀ v H', R v H' → Q' v H') → tb σ H Q')
    (h : ∀ v H', R v H' → Q v H') : if c = true then ta σ H Q else tb σ H Q := by
  cases c with
  | true => exact iteT (ha rfl Q h)
  | false => exact iteF (hb rfl Q h)
theorem at_ns {ns : List Int} {i : Nat} (h : i < ns.length) : ∃ z, atI (ns.map V.int) (i : Int) = some (.int z) :=
  ⟨ns[i], atI_nat (by rw [List.getElem?_map, List.getElem?_eq_getElem h]; rfl)⟩
theorem bl_t {Q : VK} {b : Bool} {H : Hp} (e : b = true) (k : Q (.bl true) H) : Q (.bl b) H := e ▸ k
theorem int_to {Q : VK} {i j : Int} {H : Hp} (e : i = j) (k : Q (.int j) H) : Q (.int i) H := e ▸ k
theorem if_ne {x y : V} {A B : Prop} (h : x ≠ y) (a : A) : if (!decide (x = y)) = true then A else B := by
  rw [decide_eq_false h]
  exact iteT a
theorem if_dec_t {x y : V} {A B : Prop} (h : x = y) (a : A) : if decide (x = y) = true then A else B := by
  rw [decide_eq_true h]
  exact iteT a
theorem if_dec_f {x y : V} {A B : Prop} (h : x ≠ y) (b : B) : if decide (x = y) = true then A else B := by
  rw [decide_eq_false h]
  exact iteF b
theorem dp_all {K : PySem.W.Frag} {H : Hp} : ∀ ns : List Int, DpAll K H (ns.map V.int) (ns.map PyData.int)
  | [] => .nil
  | n :: r => .cons (.int n) (dp_all r)
theorem dp_ints {K : PySem.W.Frag} {H : Hp} {a : Addr} (ns : List Int) (h : SqL K H a (ns.map V.int)) : Dp K H (.ref a) (.list (ns.map PyData.int)) := .lst h (dp_all ns)
theorem cells_n (n m : Nat) : ((if (if ((n : Nat) : Int) < (m : Int) then ((n : Nat) : Int) else (m : Int)) > 1 then (if ((n : Nat) : Int) < (m : Int) then ((n : Nat) : Int) else (m : Int)) else 1) : Int) ≤ (m : Int) + 1 ∧ 1 ≤ ((if (if ((n : Nat) : Int) < (m : Int) then ((n : Nat) : Int) else (m : Int)) > 1 then (if ((n : Nat) : Int) < (m : Int) then ((n : Nat) : Int) else (m : Int)) else 1) : Int) := by
  split <;> split <;> omega
/-- the least common multiple -/
def L (ms : List Nat) : Nat := ms.foldl Nat.lcm 1
theorem fold_dvd : ∀ (ms : List Nat) (a m : Nat), ms.foldl Nat.lcm a ∣ m ↔ a ∣ m ∧ ∀ n ∈ ms, n ∣ m
  | [], a, m => by simp
  | x :: r, a, m => by
    rw [List.foldl_cons, fold_dvd r, Nat.lcm_dvd_iff]
    constructor
    · rintro ⟨⟨h1, h2⟩, h3⟩
      refine ⟨h1, fun n hn => ?_⟩
      rcases List.mem_cons.mp hn with rfl | h
      · exact h2
      · exact h3 n h
    · rintro ⟨h1, h2⟩
      exact ⟨⟨h1, h2 x List.mem_cons_self⟩, fun n hn => h2 n (List.mem_cons_of_mem _ hn)⟩
theorem L_dvd (ms : List Nat) (m : Nat) : L ms ∣ m ↔ ∀ n ∈ ms, n ∣ m := by
  unfold L
  rw [fold_dvd]
  exact ⟨fun h => h.2, fun h => ⟨Nat.one_dvd _, h⟩⟩
theorem dvd_L {ms : List Nat} {n : Nat} (h : n ∈ ms) : n ∣ L ms := (L_dvd ms (L ms)).mp (Nat.dvd_refl _) n h
theorem L_ext {a b : List Nat} (h : ∀ n, n ∈ a ↔ n ∈ b) : L a = L b :=
  Nat.dvd_antisymm ((L_dvd _ _).mpr fun n hn => dvd_L ((h n).mp hn)) ((L_dvd _ _).mpr fun n hn => dvd_L ((h n).mpr hn))
theorem L_snoc (ms : List Nat) (n : Nat) : L (ms ++ [n]) = (L ms).lcm n := by
  unfold L
  rw [List.foldl_append]
  rfl
theorem L_pos : ∀ {ms : List Nat}, (∀ n ∈ ms, 1 ≤ n ∧ n ≤ 64) → 0 < L ms ∧ L ms ≤ 64 ^ ms.length := by
  intro ms
  have : ∀ (ms : List Nat) (a : Nat) (k : Nat), 0 < a → a ≤ 64 ^ k → (∀ n ∈ ms, 1 ≤ n ∧ n ≤ 64) → 0 < ms.foldl Nat.lcm a ∧ ms.foldl Nat.lcm a ≤ 64 ^ (k + ms.length) := by
    intro ms
    induction ms with
    | nil => exact fun a k h1 h2 _ => ⟨h1, h2⟩
    | cons x r ih =>
      intro a k h1 h2 h
      have hx := h x List.mem_cons_self
      have e1 : a.lcm x ≤ 64 ^ (k + 1) := by
        refine Nat.le_trans (Nat.le_of_dvd (Nat.mul_pos h1 (by omega)) (Nat.lcm_dvd_mul a x)) ?_
        rw [Nat.pow_succ]
        exact Nat.mul_le_mul h2 hx.2
      have := ih (a.lcm x) (k + 1) (Nat.lcm_pos h1 (by omega)) e1 fun n hn => h n (List.mem_cons_of_mem _ hn)
      rw [List.foldl_cons, List.length_cons, show k + (r.length + 1) = k + 1 + r.length by omega]
      exact this
  intro h
  have := this ms 1 0 (by decide) (by decide) h
  rw [Nat.zero_add] at this
  exact this
/-- the greatest power of p in them, from pw on -/
def gp (p : Nat) (ms : List Nat) : Nat → Nat → Nat
  | 0, pw => pw
  | f + 1, pw => if ms.any (fun n => n % (pw * p) == 0) then gp p ms f (pw * p) else pw
def ps : List Nat := [2, 3, 5, 7, 11, 13, 17, 19, 23, 29, 31, 37, 41, 43, 47, 53, 59, 61]
def G (ms : List Nat) (p : Nat) : Nat := gp p ms 7 1
def X (ms : List Nat) : Nat := ((ps.map (G ms)).foldl (· * ·) 1)
theorem any_dvd {ms : List Nat} {q : Nat} : (ms.any fun n => n % q == 0) = true ↔ ∃ n ∈ ms, q ∣ n := by
  rw [List.any_eq_true]
  constructor
  · rintro ⟨n, hn, h⟩
    exact ⟨n, hn, Nat.dvd_of_mod_eq_zero (by simpa using h)⟩
  · rintro ⟨n, hn, h⟩
    exact ⟨n, hn, by simpa using Nat.mod_eq_zero_of_dvd h⟩
/-- with fuel enough it is a greatest power -/
theorem gp_spec {p : Nat} (hp : 2 ≤ p) {ms : List Nat} (hm : ∀ n ∈ ms, 1 ≤ n ∧ n ≤ 64) : ∀ (f j : Nat), 7 ≤ f + j → (j = 0 ∨ ∃ n ∈ ms, p ^ j ∣ n) →
    ∃ i, gp p ms f (p ^ j) = p ^ i ∧ (i = 0 ∨ ∃ n ∈ ms, p ^ i ∣ n) ∧ ∀ n ∈ ms, ¬ p ^ (i + 1) ∣ n
  | 0, j, h7, hj => by
    exfalso
    rcases hj with h | ⟨n, hn, hd⟩
    · omega
    · have h1 := hm n hn
      have h2 : p ^ j ≤ 64 := Nat.le_trans (Nat.le_of_dvd (by omega) hd) h1.2
      have h3 : 2 ^ 7 ≤ p ^ j := Nat.le_trans (Nat.pow_le_pow_right (by decide) (show 7 ≤ j by omega)) (Nat.pow_le_pow_left hp j)
      have h4 : (2 : Nat) ^ 7 = 128 := by decide
      omega
  | f + 1, j, h7, hj => by
    unfold gp
    by_cases h : (ms.any fun n => n % (p ^ j * p) == 0) = true
    · rw [if_pos h, ← Nat.pow_succ]
      refine gp_spec hp hm f (j + 1) (by omega) (.inr ?_)
      exact any_dvd.mp h
    · rw [if_neg h]
      refine ⟨j, rfl, hj, fun n hn hd => h (any_dvd.mpr ⟨n, hn, hd⟩)⟩
theorem G_spec {p : Nat} (hp : 2 ≤ p) {ms : List Nat} (hm : ∀ n ∈ ms, 1 ≤ n ∧ n ≤ 64) : ∃ i, G ms p = p ^ i ∧ (i = 0 ∨ ∃ n ∈ ms, p ^ i ∣ n) ∧ ∀ n ∈ ms, ¬ p ^ (i + 1) ∣ n :=
  gp_spec hp hm 7 0 (by decide) (.inl rfl)
theorem prod_mul (l : List Nat) (a : Nat) : l.foldl (· * ·) a = a * l.foldl (· * ·) 1 := by
  induction l generalizing a with
  | nil => simp
  | cons x r ih => rw [List.foldl_cons, List.foldl_cons, ih, ih (1 * x), Nat.one_mul, Nat.mul_assoc]
theorem prod_cons (x : Nat) (r : List Nat) : (x :: r).foldl (· * ·) 1 = x * r.foldl (· * ·) 1 := by
  rw [List.foldl_cons, Nat.one_mul, prod_mul]
theorem prod_dvd_prod {f g : Nat → Nat} : ∀ (l : List Nat), (∀ p ∈ l, f p ∣ g p) → (l.map f).foldl (· * ·) 1 ∣ (l.map g).foldl (· * ·) 1
  | [], _ => Nat.dvd_refl _
  | x :: r, h => by
    rw [List.map_cons, List.map_cons, prod_cons, prod_cons]
    exact Nat.mul_dvd_mul (h x List.mem_cons_self) (prod_dvd_prod r fun p hp => h p (List.mem_cons_of_mem _ hp))
theorem cop_prod {f : Nat → Nat} {a : Nat} : ∀ (l : List Nat), (∀ p ∈ l, Nat.Coprime a (f p)) → Nat.Coprime a ((l.map f).foldl (· * ·) 1)
  | [], _ => Nat.coprime_one_right a
  | x :: r, h => by
    rw [List.map_cons, prod_cons]
    exact Nat.Coprime.mul_right (h x List.mem_cons_self) (cop_prod r fun p hp => h p (List.mem_cons_of_mem _ hp))
theorem prod_dvd {f : Nat → Nat} {m : Nat} : ∀ (l : List Nat), l.Pairwise (fun a b => Nat.Coprime (f a) (f b)) → (∀ p ∈ l, f p ∣ m) → (l.map f).foldl (· * ·) 1 ∣ m
  | [], _, _ => Nat.one_dvd _
  | x :: r, hw, h => by
    rw [List.map_cons, prod_cons]
    have hw2 := List.pairwise_cons.mp hw
    exact Nat.Coprime.mul_dvd_of_dvd_of_dvd (cop_prod r hw2.1) (h x List.mem_cons_self) (prod_dvd r hw2.2 fun p hp => h p (List.mem_cons_of_mem _ hp))
theorem one_X : ∀ n, n < 65 → 1 ≤ n → X [n] = n := by decide +kernel
theorem ps_two : ∀ p ∈ ps, 2 ≤ p := by decide
theorem ps_cop : ps.Pairwise fun a b => Nat.Coprime a b := by decide +kernel
theorem X_eq {ms : List Nat} (hm : ∀ n ∈ ms, 1 ≤ n ∧ n ≤ 64) : X ms = L ms := by
  refine Nat.dvd_antisymm ?_ ((L_dvd _ _).mpr fun n hn => ?_)
  · refine prod_dvd ps (ps_cop.imp_of_mem fun {a b} ha hb h => ?_) fun p hp => ?_
    · obtain ⟨i, e1, _⟩ := G_spec (ps_two a ha) hm
      obtain ⟨j, e2, _⟩ := G_spec (ps_two b hb) hm
      rw [e1, e2]
      exact Nat.Coprime.pow i j h
    · obtain ⟨i, e1, h0 | ⟨n, hn, hd⟩, _⟩ := G_spec (ps_two p hp) hm
      · rw [e1, h0]
        exact Nat.one_dvd _
      · rw [e1]
        exact Nat.dvd_trans hd (dvd_L hn)
  · have h1 := hm n hn
    have e := one_X n (by omega) h1.1
    rw [← e]
    refine prod_dvd_prod ps fun p hp => ?_
    have hm1 : ∀ m ∈ [n], 1 ≤ m ∧ m ≤ 64 := fun m h => by rw [List.mem_singleton.mp h]; exact h1
    obtain ⟨i, e1, hi, _⟩ := G_spec (ps_two p hp) hm1
    obtain ⟨j, e2, _, hj⟩ := G_spec (ps_two p hp) hm
    rw [e1, e2]
    rcases hi with h0 | ⟨m, hmm, hd⟩
    · rw [h0]
      exact Nat.one_dvd _
    · rw [List.mem_singleton.mp hmm] at hd
      by_cases hij : i ≤ j
      · exact Nat.pow_dvd_pow p hij
      · exact absurd (Nat.dvd_trans (Nat.pow_dvd_pow p (by omega)) hd) (hj n hn)
def NL (ms : List Nat) : List V := ms.map fun (n : Nat) => V.int (n : Int)
theorem NL_int (ms : List Nat) : NL ms = (ms.map fun (n : Nat) => (n : Int)).map V.int := by
  unfold NL
  rw [List.map_map]
  rfl
theorem lay_int : ∀ ns : List Int, PyData.canLayAll0 (ns.map PyData.int) = true
  | [] => rfl
  | n :: r => by
    show (true && PyData.canLayAll0 (r.map PyData.int)) = true
    rw [lay_int r]
    rfl
theorem depth_int : ∀ ns : List Int, PyData.depthAll (ns.map PyData.int) = 0
  | [] => rfl
  | n :: r => by
    show max 0 (PyData.depthAll (r.map PyData.int)) = 0
    rw [depth_int r]
    rfl
theorem shaped_int (ns : List Int) : SeqAt.shaped (.list (ns.map PyData.int)) = true := by
  show (PyData.canLayAll0 (ns.map PyData.int) && decide (PyData.depthAll (ns.map PyData.int) + 1 ≤ 64)) = true
  rw [lay_int, depth_int]
  rfl
theorem eqv_nil (ns : List Int) : PyData.eqv (.list (ns.map PyData.int)) (.list []) = ns.isEmpty := by
  cases ns <;> rfl
theorem bl_to {Q : VK} {b c : Bool} {H : Hp} (e : b = c) (k : Q (.bl c) H) : Q (.bl b) H := e ▸ k
theorem Same.rl {H H' : Hp} {r : Addr} (s : Same H H') (h : Rl H r) : Rl H' r := by
  obtain ⟨a, b, c, e⟩ := h
  exact ⟨a, b, c, s _ _ e⟩
theorem Same.only {H H' : Hp} {r : Addr} (s : Same H H') : Only r H H' := fun b o _ e => s b o e
theorem Same.new {H : Hp} {p : Addr} {o : HO} (n : H p = none) : Same H (upd H p o) := fun b u e => by rw [upd_ne (ne_of_none e n)]; exact e
/-- a new list's object changes -/
theorem Same.at {H0 H : Hp} {D : Addr} {o : HO} (n : H0 D = none) (s : Same H0 H) : Same H0 (upd H D o) := fun b u e => by rw [upd_ne (ne_of_none e n)]; exact s b u e
section
variable {X : Cx}
def rLcm : List V → Hp → VK → Prop := fun vs H Q => ∃ a b : Nat, vs = [.int (a : Int), .int (b : Int)] ∧ a < 2 ^ 120 ∧ b < 2 ^ 120 ∧ Q (.int ((Nat.lcm a b : Nat) : Int)) H
theorem cr_lcm : CallR X (.builtin "math.lcm") rLcm := by
  intro pins s σ H vs us Q I r h
  obtain ⟨a, b, rfl, ha, hb, q⟩ := h
  obtain ⟨t, u, rfl⟩ := Vals.int2 r
  have e1 : ((a : Nat) : Int).natAbs = a := Int.natAbs_natCast a
  have e2 : ((b : Nat) : Int).natAbs = b := Int.natAbs_natCast b
  have z := @PySem.W.mg_run_lcm (a : Int) t (b : Int) u
  rw [e1, e2, show Nat.lcm 1 a = a by simp [Nat.lcm]] at z
  have hl : Nat.lcm a b ≤ a * b := by
    by_cases h0 : 0 < a * b
    · exact Nat.le_of_dvd h0 (Nat.lcm_dvd_mul a b)
    · have : a * b = 0 := by omega
      rcases Nat.mul_eq_zero.mp this with rfl | rfl <;> simp [Nat.lcm]
  have hs : Nat.lcm a b < 2 ^ 240 := Nat.lt_of_le_of_lt hl (by rw [show (240 : Nat) = 120 + 120 from rfl, Nat.pow_add]; exact Nat.mul_lt_mul'' ha hb)
  have hone : (1 : Nat) < 2 ^ 120 := by decide
  have l1 : (max 1 a).log2 ≤ 119 := PySem.W.mg_log (by show max 1 a < 2 ^ 120; exact Nat.max_lt.mpr ⟨hone, ha⟩)
  have l2 : (max a b).log2 ≤ 119 := PySem.W.mg_log (by show max a b < 2 ^ 120; exact Nat.max_lt.mpr ⟨ha, hb⟩)
  have l3 : ((Nat.lcm a b : Nat) : Int).natAbs.log2 < bitsLine := by
    rw [Int.natAbs_natCast]
    exact Nat.lt_of_le_of_lt (PySem.W.mg_log (k := 239) hs) (by decide)
  exact PySem.call_function_meets PySem.W.MGF.kind_lcm PySem.W.MGF.plain_lcm PySem.W.MGF.entry_lcm (PySem.W.MGF.args_lcm _ _) (z (by omega) (by omega) l3).meets ⟨.int _, H, I.tok _, ⟨_, rfl⟩, q⟩
variable {CX : CXT} {k : Nat} {f : Addr} {sp : Sp} {E : XK} {x : Str} {p pos : Pos} {e : Expr} {es : List Expr} {t : TA}
theorem pe_callR (F : FnR X.prog X.w X.K X.mg X.base CX k f sp) (hr : Room k X.A) (hg : Gl X x) (hm : X.mg x = some (.ref f)) (hk : PySem.W.keepIn X.K (.ref f) = true) (hx : Passes CX X E)
    (ha : PA X (e :: es) t) (hdb : (x == ("__debug__" : Str)) = false := by decide) (he : starEach (e :: es) X.env = (false, eval e X.env) :: starEach es X.env := by rfl) (hpl : (backTo pos (starEach es X.env)).any (·.1) = false := by rfl) :
    PE X (.Call (.Name x p) (e :: es) [] pos) (fun σ H Q => t σ H fun vs H1 => sp vs H1 Q E) := by
  refine ⟨fun pins s σ H Q I h => ?_⟩
  refine wpAny_Call_Name_kw (ld_glob I hg hm ?_ hdb)
  refine PySem.W.callWith_K (h₀ := X.base) I.ok.mod.kin hk (thn (ha.run pos pins s σ H _ I h) fun us s1 ⟨vs, H1, I1, r, q⟩ => ⟨I1.kIn, ?_⟩) he hpl
  exact wpAny_call (run_fnR F hr hx I1 r q)
theorem pe_callR0 (F : FnR X.prog X.w X.K X.mg X.base CX k f sp) (hr : Room k X.A) (hg : Gl X x) (hm : X.mg x = some (.ref f)) (hk : PySem.W.keepIn X.K (.ref f) = true) (hx : Passes CX X E)
    (hdb : (x == ("__debug__" : Str)) = false := by decide) : PE X (.Call (.Name x p) [] [] pos) (fun σ H Q => sp [] H Q E) := by
  refine ⟨fun pins s σ H Q I h => ?_⟩
  refine wpAny_Call_Name_kw (ld_glob I hg hm ?_ hdb)
  exact PySem.W.callWith_K0 I.kIn hk (wpAny_call (run_fnR (us := []) F hr hx I .nil h))
end
def isPI (x : Int) : Bool := (List.range (x - 2).toNat).all fun (o : Nat) => !decide (x % (2 + (o : Int)) = 0)
def prim (i : Nat) : List Int := ((List.range i).map fun (j : Nat) => 2 + (j : Int)).filter isPI
theorem prim_succ (i : Nat) : prim (i + 1) = prim i ++ (if isPI (2 + (i : Int)) then [2 + (i : Int)] else []) := by
  unfold prim
  rw [List.range_succ, List.map_append, List.filter_append, List.map_singleton, List.filter_cons, List.filter_nil]
theorem prim_all : prim 63 = ps.map fun (n : Nat) => (n : Int) := by decide +kernel
theorem prim_len (i : Nat) : (prim i).length ≤ i := by
  unfold prim
  refine Nat.le_trans (List.length_filter_le ..) ?_
  rw [List.length_map, List.length_range]
  exact Nat.le_refl _
def Xp (ms : List Nat) (i : Nat) : Nat := ((ps.take i).map (G ms)).foldl (· * ·) 1
theorem Xp_succ {ms : List Nat} {i p : Nat} (h : ps[i]? = some p) : Xp ms (i + 1) = Xp ms i * G ms p := by
  unfold Xp
  rw [List.take_add_one, h, List.map_append, List.foldl_append]
  rfl
theorem Xp_all (ms : List Nat) : Xp ms 18 = X ms := rfl
theorem gp_stop {p : Nat} {ms : List Nat} {f pw : Nat} (h : ¬ (ms.any fun n => n % (pw * p) == 0) = true) : gp p ms f pw = pw := by
  cases f with
  | zero => rfl
  | succ f => unfold gp; rw [if_neg h]
theorem gp_go {p : Nat} {ms : List Nat} {f pw : Nat} (h : (ms.any fun n => n % (pw * p) == 0) = true) : gp p ms (f + 1) pw = gp p ms f (pw * p) := by
  rw [gp, if_pos h]
theorem int_mod {n m : Nat} : ((n : Int) % (m : Int) = 0) ↔ n % m = 0 := by
  rw [← Int.natCast_emod]
  exact Int.natCast_eq_zero
theorem NL_len (ms : List Nat) : (NL ms).length = ms.length := by unfold NL; rw [List.length_map]
theorem NL_at {ms : List Nat} {i : Nat} {x : V} (h : (NL ms)[i]? = some x) : ∃ n : Nat, ms[i]? = some n ∧ x = .int (n : Int) := by
  unfold NL at h
  rw [List.getElem?_map] at h
  obtain ⟨n, h1, h2⟩ := Option.map_eq_some_iff.mp h
  exact ⟨n, h1, h2.symm⟩
theorem mem_erase {α : Type} : ∀ {l : List α} {i : Nat} (h : i < l.length) (n : α), n ∈ l ↔ n = l[i] ∨ n ∈ l.eraseIdx i
  | [], i, h, n => absurd h (Nat.not_lt_zero _)
  | a :: r, 0, h, n => by
    show n ∈ a :: r ↔ n = a ∨ n ∈ r
    exact List.mem_cons
  | a :: r, i + 1, h, n => by
    have ih := mem_erase (l := r) (i := i) (Nat.lt_of_succ_lt_succ h) n
    show n ∈ a :: r ↔ n = r[i]'(Nat.lt_of_succ_lt_succ h) ∨ n ∈ a :: r.eraseIdx i
    rw [List.mem_cons, List.mem_cons, ih]
    constructor
    · rintro (h | h | h)
      · exact .inr (.inl h)
      · exact .inl h
      · exact .inr (.inr h)
    · rintro (h | h | h)
      · exact .inr (.inl h)
      · exact .inl h
      · exact .inr (.inr h)
theorem erase_map {α β : Type} (f : α → β) : ∀ (l : List α) (i : Nat), (l.map f).eraseIdx i = (l.eraseIdx i).map f
  | [], _ => rfl
  | _ :: _, 0 => rfl
  | a :: r, i + 1 => by
    show f a :: (r.map f).eraseIdx i = f a :: (r.eraseIdx i).map f
    rw [erase_map f r i]

section
variable {P : Program} {w : World} {K : PySem.W.Frag} {mg : Str → Option Value} {base : Heap}
def sp_w_reel (K : PySem.W.Frag) : Sp := fun vs H Q _ => ∃ (s : Addr) (ns : List Int) (i : Nat), vs = [.ref s, .int (i : Int)] ∧ SqL K H s (ns.map V.int) ∧ ∀ p a b c, H p = none → Q (.ref p) (upd H p (.lst [.int a, .int b, .int c]))
theorem ok_w_reel (T : T K mg) : FnOk P w K mg base CX0 1 T.f_w_reel T.d_w_reel ["script", "at"] (sp_w_reel K) := by
  refine T.F_w_reel.ok sc_w_reel (fun vs H Q E h => ?_) (fun cdv A outer s H vs Q E hr h => ?_)
  · obtain ⟨s, ns, i, rfl, _⟩ := h
    rfl
  · obtain ⟨s, ns, i, rfl, hS, k⟩ := h
    have hu := hu_of hr
    refine ⟨_, (pss_cons (ps_set (i := 2) sc_w_reel.nd rfl (Or.inl rfl) (pe_ifExp (pt_cmpR op_lt (pv 1) (pe_callB call_len (by rfl) T.z_len (by decide +kernel) (pa_cons (pv 0) pa_nil)) (nomark _)) (pe_ix ix_seq (pv 0) (pv 1) (fun _ _ => rfl)) (pe_op op_add (pe_op op_mul pe_int (pv 1)) pe_int)))
      (pss_cons (ps_set (i := 3) sc_w_reel.nd rfl (Or.inl rfl) (pe_op op_mod (pe_callTy call_int1 (by rfl) T.z_int (by decide +kernel) (pa_cons (pe_callB call_abs (by rfl) T.z_abs (by decide +kernel) (pa_cons (pv 2) pa_nil)) pa_nil)) (pe_op op_powW (pe_op op_pow pe_int pe_int) pe_int)))
      (pss_cons (ps_set (i := 4) sc_w_reel.nd rfl (Or.inl rfl) (pe_op op_add (pe_op op_add (pe_op op_add (pe_op op_mul (pe_op op_mod (pe_callTy call_int1 (by rfl) T.z_int (by decide +kernel) (pa_cons (pv 3) pa_nil)) pe_int) pe_int) (pe_op op_mul pe_int (pv 1))) (pe_op op_mul pe_int (pe_callTy call_int1 (by rfl) T.z_int (by decide +kernel) (pa_cons (pe_cmpR op_lt (pv 2) pe_int (nomark _)) pa_nil)))) pe_int))
      (pss_one (ps_ret (pe_lst (pa_cons (pe_callB (call_max2 rfl) (by rfl) T.z_max (by decide +kernel) (pa_cons pe_int (pa_cons (pe_op op_sub (pv 3) (pe_op op_pow pe_int pe_int)) pa_nil))) (pa_cons (pe_op op_mod (pe_callTy call_int1 (by rfl) T.z_int (by decide +kernel) (pa_cons (pv 4) pa_nil)) pe_int) (pa_cons pe_int pa_nil))))))))), ?_⟩
    refine ⟨_, rfl, _, rfl, _, _, rfl, .inl ⟨_, hS, rfl⟩, _, _, rfl, rfl, _, rfl, ?_⟩
    refine ite_join (fun v H' => H' = H ∧ ∃ z, v = .int z) (fun c Q' q => ?_) (fun c Q' q => ?_) ?_
    · have hi := of_decide_eq_true c
      rw [List.length_map] at hi
      obtain ⟨z, hz⟩ := at_ns (ns := ns) (i := i) (by omega)
      exact ⟨_, rfl, _, rfl, .inl ⟨_, _, _, _, rfl, rfl, hS, hz, q _ _ ⟨rfl, z, rfl⟩⟩⟩
    · exact ⟨_, rfl, _, _, rfl, rfl, .inl ⟨by decide, by decide⟩, _, _, rfl, rfl, q _ _ ⟨rfl, _, rfl⟩⟩
    rintro v H' ⟨rfl, z, rfl⟩
    refine ⟨_, rfl, _, rfl, .inl ⟨_, rfl, ?_⟩⟩
    refine ⟨_, _, rfl, rfl, ⟨by decide, by decide, by decide⟩, _, _, rfl, rfl, ⟨by decide, by decide +kernel⟩, _, _, rfl, rfl, (by show (0 : Int) < _; decide +kernel), ?_⟩
    refine ⟨_, rfl, .inl ⟨_, rfl, ?_⟩⟩
    refine ⟨_, _, rfl, rfl, (by show (0 : Int) < _; decide), _, _, rfl, rfl, .inr ⟨by decide, by decide⟩, _, rfl, _, _, rfl, rfl, .inl ⟨by decide, by decide⟩, _, _, rfl, rfl, ?_⟩
    refine ⟨_, rfl, _, _, rfl, rfl, .inr ⟨_, rfl, ?_⟩⟩
    refine ⟨_, _, rfl, rfl, .inl ⟨by decide, by decide⟩, _, _, rfl, rfl, _, _, rfl, rfl, ?_⟩
    refine ⟨_, rfl, _, _, rfl, rfl, ⟨by decide, by decide, by decide⟩, _, _, rfl, rfl, _, _, rfl, _, rfl, .inl ⟨_, rfl, ?_⟩⟩
    refine ⟨_, _, rfl, rfl, (by show (0 : Int) < _; decide), (by show 3 ≤ sizeLine; decide), fun p hp => ?_⟩
    exact k p _ _ _ hp
def sp_w_spin (K : PySem.W.Frag) : Sp := fun vs H Q _ => ∃ (r : Addr) (n : Int), vs = [.ref r, .int n] ∧ Rl H r ∧ 0 < n ∧ n.natAbs.log2 < 9000 ∧ ∀ v H', 0 ≤ v → v < n → Rl H' r → Only r H H' → Q (.int v) H'
theorem ok_w_spin (T : T K mg) : FnOk P w K mg base CX0 1 T.f_w_spin T.d_w_spin ["reel", "total"] (sp_w_spin K) := by
  refine T.F_w_spin.ok sc_w_spin (fun vs H Q E h => ?_) (fun cdv A outer s H vs Q E hr h => ?_)
  · obtain ⟨r, n, rfl, _⟩ := h
    rfl
  · obtain ⟨r, n, rfl, ⟨a, b, c, e⟩, h0, h9, k⟩ := h
    have hu := hu_of hr
    refine ⟨_, (pss_cons (ps_if (pt_cmpR op_gt (pe_ix ix_seq (pv 0) pe_int (fun _ _ => rfl)) pe_int (nomark _))
      (pss_cons (ps_set (i := 2) sc_w_spin.nd rfl (Or.inl rfl) (pe_op op_mod (pe_callTy call_int1 (by rfl) T.z_int (by decide +kernel) (pa_cons (pe_ix ix_seq (pv 0) pe_int (fun _ _ => rfl)) pa_nil)) (pv 1)))
      (pss_cons (ps_asg (pe_op op_fdivW (pe_ix ix_seq (pv 0) pe_int (fun _ _ => rfl)) (pv 1)) (pg_sub (pv 0) pe_int set_list))
      (pss_one (ps_ret (pv 2)))))
      pss_nil)
      (pss_cons (ps_asg (pe_op op_add (pe_ix ix_seq (pv 0) pe_int (fun _ _ => rfl)) pe_int) (pg_sub (pv 0) pe_int set_list))
      (pss_cons (ps_set (i := 3) sc_w_spin.nd rfl (Or.inl rfl) (pe_op op_mod (pe_callTy call_int1 (by rfl) T.z_int (by decide +kernel) (pa_cons (pe_op op_add (pe_ix ix_seq (pv 0) pe_int (fun _ _ => rfl)) (pe_op op_mul pe_int (pe_ix ix_seq (pv 0) pe_int (fun _ _ => rfl)))) pa_nil)) pe_int))
      (pss_cons (ps_set (i := 4) sc_w_spin.nd rfl (Or.inl rfl) (pe_op op_add (pe_op op_mul (pe_op op_mod (pe_callTy call_int1 (by rfl) T.z_int (by decide +kernel) (pa_cons (pe_op op_mul (pv 3) (pv 3)) pa_nil)) pe_int) (pv 3)) (pe_op op_mul pe_int (pe_ix ix_seq (pv 0) pe_int (fun _ _ => rfl)))))
      (pss_cons (ps_set (i := 4) sc_w_spin.nd rfl (Or.inl rfl) (pe_op op_mod (pe_callTy call_int1 (by rfl) T.z_int (by decide +kernel) (pa_cons (pv 4) pa_nil)) pe_int))
      (pss_one (ps_ret (pe_op op_mod (pe_callTy call_int1 (by rfl) T.z_int (by decide +kernel) (pa_cons (pe_op op_fdivW (pv 4) pe_int) pa_nil)) (pv 1))))))))), ?_⟩
    have u3 : ∀ {x y z : V} {G : Hp}, G r = some (.lst [x, y, z]) → SqL K G r [x, y, z] := fun g => SqL.of g
    refine ⟨_, rfl, .inl ⟨_, _, _, _, rfl, rfl, u3 e, rfl, ?_⟩⟩
    refine ⟨_, _, rfl, rfl, _, rfl, ?_⟩
    refine ite2 (fun c1 => ?_) (fun c1 => ?_)
    · refine ⟨_, rfl, .inl ⟨_, _, _, _, rfl, rfl, u3 e, rfl, .inl ⟨_, rfl, ?_⟩⟩⟩
      refine ⟨_, rfl, _, _, rfl, rfl, h0, ?_⟩
      refine ⟨_, rfl, .inl ⟨_, _, _, _, rfl, rfl, u3 e, rfl, ?_⟩⟩
      refine ⟨_, rfl, _, _, rfl, rfl, ⟨h0, h9⟩, _, rfl, _, _, _, 0, rfl, rfl, e, rfl, ?_⟩
      refine ⟨_, rfl, ?_⟩
      exact k _ _ (Int.emod_nonneg _ (by omega)) (Int.emod_lt_of_pos _ h0) ⟨_, _, _, upd_same⟩ Only.upd
    · refine ⟨_, rfl, .inl ⟨_, _, _, _, rfl, rfl, u3 e, rfl, ?_⟩⟩
      refine ⟨_, _, rfl, rfl, _, rfl, _, _, _, 2, rfl, rfl, e, rfl, ?_⟩
      have e2 : (upd H r (.lst [.int a, .int b, .int (c + 1)])) r = some (.lst [.int a, .int b, .int (c + 1)]) := upd_same
      refine ⟨_, rfl, .inl ⟨_, _, _, _, rfl, rfl, u3 e2, rfl, ?_⟩⟩
      refine ⟨_, rfl, .inl ⟨_, _, _, _, rfl, rfl, u3 e2, rfl, ?_⟩⟩
      refine ⟨_, _, rfl, rfl, .inl ⟨by decide, by decide⟩, _, _, rfl, rfl, .inl ⟨_, rfl, ?_⟩⟩
      refine ⟨_, _, rfl, rfl, (by show (0 : Int) < _; decide), ?_⟩
      have o1 : -(2 ^ 64) < (b + 1000303 * (c + 1)) % 2305843009213693951 ∧ (b + 1000303 * (c + 1)) % 2305843009213693951 < 2 ^ 64 := by omega
      refine ⟨_, rfl, _, rfl, _, _, rfl, rfl, .inl o1, .inl ⟨_, rfl, ?_⟩⟩
      refine ⟨_, _, rfl, rfl, (by show (0 : Int) < _; decide), _, rfl, _, _, rfl, rfl, .inr o1, ?_⟩
      refine ⟨_, rfl, .inl ⟨_, _, _, _, rfl, rfl, u3 e2, rfl, ?_⟩⟩
      refine ⟨_, _, rfl, rfl, .inl ⟨by decide, by decide⟩, _, _, rfl, rfl, ?_⟩
      refine ⟨_, rfl, .inl ⟨_, rfl, ?_⟩⟩
      refine ⟨_, _, rfl, rfl, (by show (0 : Int) < _; decide), ?_⟩
      refine ⟨_, rfl, _, _, rfl, rfl, ⟨by decide, by decide⟩, .inl ⟨_, rfl, ?_⟩⟩
      refine ⟨_, rfl, _, _, rfl, rfl, h0, ?_⟩
      exact k _ _ (Int.emod_nonneg _ (by omega)) (Int.emod_lt_of_pos _ h0) ⟨_, _, _, e2⟩ Only.upd
def sp_w_pick (K : PySem.W.Frag) : Sp := fun vs H Q _ => ∃ (r : Addr) (x : V) (xs : List V), vs = [.ref r, x] ∧ Rl H r ∧ SeqV K H r x xs ∧ 0 < xs.length ∧ xs.length ≤ sizeLine ∧ ∀ v H', v ∈ xs → Rl H' r → Only r H H' → Q v H'
theorem ok_w_pick (T : T K mg) : FnOk P w K mg base CX0 2 T.f_w_pick T.d_w_pick ["reel", "items"] (sp_w_pick K) := by
  have G_w_spin : FnOk P w K mg base CX0 1 T.f_w_spin T.d_w_spin ["reel", "total"] (sp_w_spin K) := ok_w_spin T
  refine T.F_w_pick.ok sc_w_pick (fun vs H Q E h => ?_) (fun cdv A outer s H vs Q E hr h => ?_)
  · obtain ⟨r, x, xs, rfl, _⟩ := h
    rfl
  · obtain ⟨r, x, xs, rfl, hR, hx, h0, h1, k⟩ := h
    have hu := hu_of hr
    have hr_w_spin : Room 1 _ := hr.mono (by decide)
    refine ⟨_, (pss_one (ps_ret (pe_ix ix_seq (pv 1) (pe_call G_w_spin hr_w_spin rfl T.m_w_spin T.F_w_spin.kp T.b_w_spin .nil pass0 (pa_cons (pv 0) (pa_cons (pe_callB call_len (by rfl) T.z_len (by decide +kernel) (pa_cons (pv 1) pa_nil)) pa_nil))) (fun _ _ => rfl)))), ?_⟩
    have hl : (xs.length : Int).natAbs.log2 < 9000 := by
      have : xs.length < 2 ^ 63 := Nat.lt_of_le_of_lt h1 (by decide)
      exact Nat.lt_trans (lg (b := 63) (by omega) (by omega) (by decide)) (by decide)
    refine ⟨_, rfl, _, rfl, _, rfl, x, xs.length, rfl, ?_, ?_⟩
    · rcases hx with ⟨l, rfl, hn, h | h⟩ | ⟨z, rfl, hz, rfl⟩
      · exact .inl ⟨_, h, rfl⟩
      · exact .inr ⟨_, h, rfl⟩
      · exact ⟨hz, by rw [List.length_map]; rfl⟩
    refine ⟨r, _, rfl, hR, by omega, hl, fun v H' v0 v1 R' O' => ?_⟩
    obtain ⟨y, hy, ha⟩ := ix_at v0 v1
    rcases hx with ⟨l, rfl, hn, h | h⟩ | ⟨z, rfl, hz, rfl⟩
    · exact .inl ⟨_, _, _, _, rfl, rfl, O'.seqL hn h, ha, k _ _ hy R' O'⟩
    · exact .inr (.inl ⟨_, _, _, _, rfl, rfl, O'.seqT hn h, ha, k _ _ hy R' O'⟩)
    · obtain ⟨i, hi⟩ : ∃ c, atI z.cps.toList v = some c := by
        unfold atI at ha ⊢
        rw [List.length_map] at ha
        cases e : ixN z.cps.toList.length v with
        | none => rw [e] at ha; cases ha
        | some j =>
          rw [e] at ha
          simp only [Option.bind_some] at ha ⊢
          rw [List.getElem?_map] at ha
          cases e2 : z.cps.toList[j]? with
          | none => rw [e2] at ha; cases ha
          | some c => exact ⟨c, rfl⟩
      have hc : i ∈ z.cps.toList := by
        unfold atI at hi
        cases e : ixN z.cps.toList.length v with
        | none => rw [e] at hi; cases hi
        | some j => rw [e] at hi; exact List.mem_of_getElem? hi
      exact .inr (.inr ⟨_, _, _, rfl, rfl, hz, hi, k _ _ (List.mem_map.mpr ⟨i, hc, rfl⟩) R' O'⟩)
def sp_is_integer (K : PySem.W.Frag) : Sp := fun vs H Q _ => ∃ n : Int, vs = [.int n] ∧ -1000000000000 < n ∧ n < 1000000000000 ∧ Q (.bl true) H
theorem ok_is_integer (T : T K mg) : FnOk P w K mg base CX0 1 T.f_is_integer T.d_is_integer ["value"] (sp_is_integer K) := by
  refine T.F_is_integer.ok sc_is_integer (fun vs H Q E h => ?_) (fun cdv A outer s H vs Q E hr h => ?_)
  · obtain ⟨n, rfl, _⟩ := h
    rfl
  · obtain ⟨n, rfl, h1, h2, k⟩ := h
    have hu := hu_of hr
    refine ⟨_, (pss_cons (ps_if (PW.pt (pw_or (pt_not (pt_val (pe_callB call_isi (by rfl) T.z_isinstance (by decide +kernel) (pa_cons (pv 0) (pa_cons (pe_bltn (v := V.ty "int") (u := Value.type "int") (by rfl) T.z_int (by decide +kernel) rfl) pa_nil))))) (pw_or1 (pt_val (pe_callB call_isi (by rfl) T.z_isinstance (by decide +kernel) (pa_cons (pv 0) (pa_cons (pe_bltn (v := V.ty "bool") (u := Value.type "bool") (by rfl) T.z_bool (by decide +kernel) rfl) pa_nil)))))))
      (pss_one (ps_ret pe_bl))
      pss_nil)
      (pss_one (ps_ret (pe_chain op_lt op_lt (pe_un un_neg (pe_op op_pow pe_int pe_int)) (pv 0) (pe_op op_pow pe_int pe_int))))), ?_⟩
    refine ⟨_, rfl, _, _, _, _, true, rfl, .ty _, .base (.int _), kit_ty (by decide +kernel), _, rfl, iteF ?_⟩
    refine ⟨_, rfl, _, _, _, _, false, rfl, .ty _, .base (.int _), kit_ty (by decide +kernel), _, rfl, iteF ?_⟩
    refine ⟨_, _, rfl, rfl, ⟨by decide, by decide, by decide⟩, _, rfl, _, rfl, _, _, rfl, rfl, _, rfl, ?_⟩
    refine ite2 (fun _ => ?_) (fun c => absurd (decide_eq_true (show -(10 ^ Int.toNat 12) < n from h1)) c)
    refine ⟨_, _, rfl, rfl, ⟨by decide, by decide, by decide⟩, _, _, rfl, rfl, ?_⟩
    exact bl_t (decide_eq_true (show n < 10 ^ Int.toNat 12 from h2)) k
def sp_is_between (K : PySem.W.Frag) : Sp := fun vs H Q _ => ∃ n lo hi : Int, vs = [.int n, .int lo, .int hi] ∧ -1000000000000 < n ∧ n < 1000000000000 ∧ lo ≤ n ∧ n ≤ hi ∧ Q (.bl true) H
theorem ok_is_between (T : T K mg) : FnOk P w K mg base CX0 2 T.f_is_between T.d_is_between ["value", "low", "high"] (sp_is_between K) := by
  have G_is_integer : FnOk P w K mg base CX0 1 T.f_is_integer T.d_is_integer ["value"] (sp_is_integer K) := ok_is_integer T
  refine T.F_is_between.ok sc_is_between (fun vs H Q E h => ?_) (fun cdv A outer s H vs Q E hr h => ?_)
  · obtain ⟨n, lo, hi, rfl, _⟩ := h
    rfl
  · obtain ⟨n, lo, hi, rfl, h1, h2, h3, h4, k⟩ := h
    have hu := hu_of hr
    have hr_is_integer : Room 1 _ := hr.mono (by decide)
    refine ⟨_, (pss_one (ps_ret (pe_and (pe_call G_is_integer hr_is_integer rfl T.m_is_integer T.F_is_integer.kp T.b_is_integer .nil pass0 (pa_cons (pv 0) pa_nil)) (pe_one (pe_chain op_le op_le (pv 1) (pv 0) (pv 2)))))), ?_⟩
    refine ⟨_, rfl, n, rfl, h1, h2, _, rfl, iteT ?_⟩
    refine ⟨_, rfl, _, rfl, _, _, rfl, rfl, _, rfl, ?_⟩
    refine ite2 (fun _ => ?_) (fun c => absurd (decide_eq_true h3) c)
    refine ⟨_, rfl, _, _, rfl, rfl, ?_⟩
    exact bl_t (decide_eq_true h4) k
def sp_check_between (K : PySem.W.Frag) : Sp := fun vs H Q _ => ∃ n lo hi : Int, vs = [.int n, .int lo, .int hi] ∧ -1000000000000 < n ∧ n < 1000000000000 ∧ lo ≤ n ∧ n ≤ hi ∧ Q .non H
theorem ok_check_between (T : T K mg) : FnOk P w K mg base CX0 3 T.f_check_between T.d_check_between ["value", "low", "high"] (sp_check_between K) := by
  have G_is_between : FnOk P w K mg base CX0 2 T.f_is_between T.d_is_between ["value", "low", "high"] (sp_is_between K) := ok_is_between T
  refine T.F_check_between.ok sc_check_between (fun vs H Q E h => ?_) (fun cdv A outer s H vs Q E hr h => ?_)
  · obtain ⟨n, lo, hi, rfl, _⟩ := h
    rfl
  · obtain ⟨n, lo, hi, rfl, h1, h2, h3, h4, k⟩ := h
    have hu := hu_of hr
    have hr_is_between : Room 2 _ := hr.mono (by decide)
    refine ⟨_, (pss_one (ps_if (pt_not (pt_val (pe_call G_is_between hr_is_between rfl T.m_is_between T.F_is_between.kp T.b_is_between .nil pass0 (pa_cons (pv 0) (pa_cons (pv 1) (pa_cons (pv 2) pa_nil))))))
      (pss_one ps_never)
      pss_nil)), ?_⟩
    exact ⟨_, rfl, _, rfl, _, rfl, n, lo, hi, rfl, h1, h2, h3, h4, _, rfl, iteF k⟩
def sp_common_multiple (K : PySem.W.Frag) : Sp := fun vs H Q _ => ∃ ms : List Nat, vs = NL ms ∧ (∀ n ∈ ms, 1 ≤ n ∧ n ≤ 64) ∧ ms.length ≤ 16 ∧ ∀ H', Same H H' → Q (.int (L ms : Nat)) H'
def sp_cm0 (K : PySem.W.Frag) : Sp := fun vs H Q _ => ∃ (p : Addr) (ms : List Nat), vs = [.ref p] ∧ H p = some (.tup (NL ms)) ∧ (∀ n ∈ ms, 1 ≤ n ∧ n ≤ 64) ∧ ms.length ≤ 16 ∧ Q (.int (L ms : Nat)) H
theorem ok_common_multiple (T : T K mg) : FnR P w K mg base CX0 4 T.f_common_multiple (sp_common_multiple K) := by
  have G_check_between : FnOk P w K mg base CX0 3 T.f_check_between T.d_check_between ["value", "low", "high"] (sp_check_between K) := ok_check_between T
  obtain ⟨oc, od, kV, doc, pm, an, cdv, ct, osl, hfd, lk, hcd⟩ := T.F_common_multiple.ex
  rw [hfd] at lk
  refine (StX.fn_star (ps := []) (pv := "numbers") (sp := sp_cm0 K) lk hcd sc_common_multiple StX.cxUp_none ?_ ?_).imp ?_
  · intro us rest hl
    obtain rfl := List.eq_nil_of_length_eq_zero hl
    cases rest <;> rfl
  · intro A outer s H vs Q E hr h
    obtain ⟨p, ms, rfl, hp, hm, h16, k⟩ := h
    have hu := hu_of hr
    have hr_check_between : Room 3 _ := hr.mono (by decide)
    obtain ⟨_, c_MAX_FACTOR⟩ := T.c_MAX_FACTOR
    obtain ⟨_, c_MAX_FACTORS⟩ := T.c_MAX_FACTORS
    suffices hs : ∃ t, PSs (cxOf CX0 P w K mg base ["numbers", "number", "multiple"] "common_multiple" (defScope s_common_multiple) T.f_common_multiple cdv A outer s H E).nox (defBody s_common_multiple) t ∧ t { nx := fun _ H' => Q .non H', rt := Q } (start ["numbers", "number", "multiple"] [V.ref p]) H by
      obtain ⟨t, h1, h2⟩ := hs
      exact ⟨t, h1.nox, h2⟩
    refine ⟨_, (pss_cons (ps_for PassesOwn.never rfl (pi_tup (pv 0)) (pg_name (i := 1) sc_common_multiple.nd rfl (Or.inl rfl))
      (pss_one (ps_expr (pe_call G_check_between hr_check_between rfl T.m_check_between T.F_check_between.kp T.b_check_between .nil pass0 (pa_cons (pv 1) (pa_cons pe_int (pa_cons (pe_glob (v := V.int 64) rfl c_MAX_FACTOR ⟨_, rfl⟩) pa_nil)))))))
      (pss_cons (ps_if (pt_cmpR op_gt (pe_callB call_len (by rfl) T.z_len (by decide +kernel) (pa_cons (pv 0) pa_nil)) (pe_glob (v := V.int 16) rfl c_MAX_FACTORS ⟨_, rfl⟩) (nomark _))
      (pss_one ps_never)
      pss_nil)
      (pss_cons (ps_set (i := 2) sc_common_multiple.nd rfl (Or.inl rfl) pe_int)
      (pss_cons (ps_for PassesOwn.never rfl (pi_tup (pv 0)) (pg_name (i := 1) sc_common_multiple.nd rfl (Or.inl rfl))
      (pss_one (ps_set (i := 2) sc_common_multiple.nd rfl (Or.inl rfl) (pe_callBfun cr_lcm rfl T.x_lcm (pa_cons (pv 2) (pa_cons (pv 1) pa_nil))))))
      (pss_one (ps_ret (pv 2))))))), ?_⟩
    have hT : SqT K H p (NL ms) := SqT.of hp
    have hN : (NL ms).length = ms.length := by unfold NL; rw [List.length_map]
    refine ⟨_, rfl, p, rfl, ⟨_, hT⟩, for_tup (K := K) (a := p) (xs := NL ms) (fun i σ H' => ∃ v, σ = [some (.ref p), v, none] ∧ H' = H) ⟨none, rfl, rfl⟩ (fun i σ H' _ ⟨_, _, e⟩ => by rw [e]; exact hT) ?_ ?_⟩
    · rintro i x σ H' hx ⟨v, rfl, rfl⟩
      obtain ⟨n, hn, rfl⟩ := List.mem_map.mp (List.mem_of_getElem? hx)
      have hn2 := hm n hn
      exact ⟨_, rfl, (n : Int), 1, 64, rfl, by omega, by omega, by omega, by omega, _, rfl, rfl⟩
    · rintro σ H' ⟨v, rfl, rfl⟩
      refine ⟨_, rfl, _, _, rfl, .inr ⟨_, hT, rfl⟩, _, _, rfl, rfl, _, rfl, ?_⟩
      refine ite2 (fun c => absurd (of_decide_eq_true c) (by rw [hN]; omega)) (fun _ => ?_)
      refine ⟨_, rfl, p, rfl, ⟨_, hT⟩, for_tup (K := K) (a := p) (xs := NL ms) (fun i σ H2 => ∃ v, σ = [some (.ref p), v, some (.int (L (ms.take i) : Nat))] ∧ H2 = H') ⟨_, rfl, rfl⟩ (fun i σ H2 _ ⟨_, _, e⟩ => by rw [e]; exact hT) ?_ ?_⟩
      · rintro i x σ H2 hx ⟨v, rfl, rfl⟩
        have hi : i < ms.length := by rw [← hN]; exact (List.getElem?_eq_some_iff.mp hx).1
        have hx2 : (NL ms)[i]? = some (V.int (ms[i] : Nat)) := by unfold NL; rw [List.getElem?_map, List.getElem?_eq_getElem hi]; rfl
        rw [hx2] at hx
        obtain rfl := Option.some.inj hx
        have hb := hm ms[i] (List.getElem_mem hi)
        have hLt := L_pos (ms := ms.take i) fun n hn => hm n (List.mem_of_mem_take hn)
        have hLb : L (ms.take i) < 2 ^ 120 := by
          refine Nat.lt_of_le_of_lt hLt.2 (Nat.lt_of_le_of_lt (Nat.pow_le_pow_right (by decide) (show (ms.take i).length ≤ 16 by rw [List.length_take]; omega)) (by decide))
        have h64 : (64 : Nat) < 2 ^ 120 := by decide
        refine ⟨_, rfl, _, rfl, L (ms.take i), ms[i], rfl, hLb, by omega, ?_⟩
        refine ⟨some (.int (ms[i] : Nat)), ?_, rfl⟩
        rw [List.take_add_one, List.getElem?_eq_getElem hi]
        show _ = [some (V.ref p), some (V.int (ms[i] : Nat)), some (V.int (L (ms.take i ++ [ms[i]]) : Nat))]
        rw [L_snoc]
        rfl
      · rintro σ H2 ⟨v, rfl, rfl⟩
        refine ⟨_, rfl, ?_⟩
        rw [hN, List.take_length]
        exact k
  · rintro vs H Q E ⟨ms, rfl, hm, h16, k⟩
    refine ⟨[], NL ms, rfl, rfl, ?_, fun p hp => ⟨p, ms, rfl, upd_same, hm, h16, k _ (Same.new hp)⟩⟩
    unfold NL
    rw [List.length_map]
    exact Nat.le_trans h16 (by decide)
def sp_w_least (K : PySem.W.Frag) : Sp := fun vs H Q _ => ∃ (a : Addr) (ms : List Nat), vs = [.ref a] ∧ SqL K H a (NL ms) ∧ (∀ n ∈ ms, 1 ≤ n ∧ n ≤ 64) ∧ ms.length ≤ 100 ∧ ∀ H', Same H H' → Q (.int (L ms : Nat)) H'
theorem ok_w_least (T : T K mg) : FnOk P w K mg base CX0 1 T.f_w_least T.d_w_least ["numbers"] (sp_w_least K) := by
  refine T.F_w_least.ok sc_w_least (fun vs H Q E h => ?_) (fun cdv A outer s H vs Q E hr h => ?_)
  · obtain ⟨a, ms, rfl, _⟩ := h
    rfl
  · obtain ⟨a, ms, rfl, hS, hm, h100, k⟩ := h
    have hu := hu_of hr
    refine ⟨_, (pss_cons (ps_set (i := 1) sc_w_least.nd rfl (Or.inl rfl) pe_int)
      (pss_cons (ps_for PassesOwn.never rfl (pi_list (pe_lc (own := [("each", 4)]) (g := gName 4) rfl sc_w_least.nd (pi_range2 (by rfl) T.z_range (pa_cons pe_int (pa_cons pe_int pa_nil))) (blkOk_by (N := ["numbers", "found", "prime", "power", "each", "one", "number"]) (sc := defScope s_w_least) (by decide +kernel)) (fun _ _ _ _ _ => (pg_name (i := 4) sc_w_least.nd rfl (Or.inr rfl))) (fun _ _ _ _ _ => pts_one (pt_cmpR (r := rEqD K) (op_eqD hr.units) (pe_lc (own := [("one", 5)]) (g := gName 5) rfl sc_w_least.nd (pi_range2 (by rfl) T.z_range (pa_cons pe_int (pa_cons (pv 4) pa_nil))) (blkOk_by (N := ["numbers", "found", "prime", "power", "each", "one", "number"]) (sc := { kind := .function, names := [(".0", .local), ("each", .cell), ("range", .globalImplicit)], isGenerator := false, isCoroutine := false }) (by decide +kernel)) (fun _ _ _ _ _ => (pg_name (i := 5) sc_w_least.nd rfl (Or.inl rfl))) (fun _ _ _ _ _ => pts_one (pt_cmpR op_eq (pe_op op_mod (pv 4) (pv 5)) pe_int (nomark _))) (fun _ _ _ _ _ => (pv 5))) (pe_lst pa_nil) (nomark _))) (fun _ _ _ _ _ => (pv 4)))) (pg_name (i := 2) sc_w_least.nd rfl (Or.inr rfl))
      (pss_cons (ps_set (i := 3) sc_w_least.nd rfl (Or.inr rfl) pe_int)
      (pss_cons (ps_while PassesOwn.never (pt_cmpR (op_neD hr.units) (pe_lc (own := [("number", 6)]) (g := gName 6) rfl sc_w_least.nd (pi_list (pv 0)) (blkOk_by (N := ["numbers", "found", "prime", "power", "each", "one", "number"]) (sc := defScope s_w_least) (by decide +kernel)) (fun _ _ _ _ _ => (pg_name (i := 6) sc_w_least.nd rfl (Or.inl rfl))) (fun _ _ _ _ _ => pts_one (pt_cmpR op_eq (pe_op op_mod (pv 6) (pe_op op_mul (pv 3) (pv 2))) pe_int (nomark _))) (fun _ _ _ _ _ => (pv 6))) (pe_lst pa_nil) (nomark _))
      (pss_one (ps_set (i := 3) sc_w_least.nd rfl (Or.inr rfl) (pe_op op_mul (pv 3) (pv 2)))))
      (pss_one (ps_set (i := 1) sc_w_least.nd rfl (Or.inl rfl) (pe_op op_mul (pv 1) (pv 3)))))))
      (pss_one (ps_ret (pv 1))))), ?_⟩
    refine ⟨2, 65, rfl, ⟨by decide, by decide, by decide, by decide⟩, fun D hD => ?_⟩
    refine lc_range (lo := 2) (n := 63) (fun i H' => H' D = some (.lst ((prim i).map V.int)) ∧ Same H H') ⟨upd_same, Same.new hD⟩ ?_ ?_
    · rintro i H1 hi ⟨eD, S1⟩
      refine ⟨rfl, ?_⟩
      refine ⟨_, rfl, 2, 2 + (i : Int), rfl, ⟨by decide, by decide, by omega, by omega⟩, fun D2 hD2 => ?_⟩
      rw [show (2 + (i : Int) - 2).toNat = i by omega]
      refine lc_range (lo := 2) (n := i) (fun j H' => (∃ ns : List Int, H' D2 = some (.lst (ns.map V.int)) ∧ ns.length ≤ j ∧ ns.isEmpty = ((List.range j).all fun (o : Nat) => !decide ((2 + (i : Int)) % (2 + (o : Int)) = 0))) ∧ Same H1 H') ⟨⟨[], upd_same, Nat.le_refl _, rfl⟩, Same.new hD2⟩ ?_ ?_
      · rintro j H2 hj ⟨⟨ns, e2, hl, he⟩, S2⟩
        refine ⟨rfl, ?_⟩
        refine ⟨_, rfl, _, rfl, _, _, rfl, rfl, (show (0 : Int) < 2 + (j : Int) by omega), rfl, _, rfl, ?_⟩
        by_cases c : (2 + (i : Int)) % (2 + (j : Int)) = 0
        · refine if_dec_t (congrArg V.int c) ⟨_, rfl, _, e2, ?_, ⟨ns ++ [2 + (j : Int)], ?_, ?_, ?_⟩, Same.at hD2 S2⟩
          · rw [List.length_map]
            exact Nat.lt_of_le_of_lt (show ns.length ≤ 63 by omega) (by decide)
          · rw [upd_same, List.map_append]
            rfl
          · rw [List.length_append, List.length_singleton]
            omega
          · rw [List.range_succ, List.all_append, List.all_cons, List.all_nil, decide_eq_true c]
            cases ns <;> simp
        · refine if_dec_f (fun z => c (V.int.inj z)) ⟨⟨ns, e2, by omega, ?_⟩, S2⟩
          rw [List.range_succ, List.all_append, List.all_cons, List.all_nil, decide_eq_false c, he]
          simp
      · rintro H3 ⟨⟨ns, e2, hl, he⟩, S2⟩
        refine ⟨by show 0 ≤ sizeLine; decide, fun d hd => ?_⟩
        refine ⟨_, _, dp_ints ns (SqL.of ((upd_ne (ne_of_none e2 hd)).trans e2)), .lst (SqL.of upd_same) .nil, shaped_int ns, by decide +kernel, _, rfl, ?_⟩
        have S3 : Same H1 (upd H3 d (.lst [])) := S2.trans (Same.new hd)
        rw [eqv_nil, he, prim_succ]
        have hp : isPI (2 + (i : Int)) = ((List.range i).all fun (o : Nat) => !decide ((2 + (i : Int)) % (2 + (o : Int)) = 0)) := by
          unfold isPI
          rw [show (2 + (i : Int) - 2).toNat = i by omega]
        rw [hp]
        generalize ((List.range i).all fun (o : Nat) => !decide ((2 + (i : Int)) % (2 + (o : Int)) = 0)) = b
        cases b with
        | true =>
          refine iteT ⟨_, rfl, _, S3 _ _ eD, ?_, ?_, Same.at hD (S1.trans S3)⟩
          · rw [List.length_map]
            exact Nat.lt_of_le_of_lt (Nat.le_trans (prim_len i) (show i ≤ 63 by omega)) (by decide)
          · rw [upd_same, if_pos rfl, List.map_append]
            rfl
        | false =>
          refine iteF ⟨?_, S1.trans S3⟩
          rw [if_neg (by decide), List.append_nil]
          exact S3 _ _ eD
    · rintro H9 ⟨eD, S9⟩
      rw [prim_all] at eD
      have eD2 : H9 D = some (.lst (NL ps)) := by rw [NL_int]; exact eD
      refine ⟨D, rfl, ⟨_, SqL.of eD2⟩, for_list (K := K) (a := D) (xs := NL ps) (fun i σ H' => ∃ v1 v2, σ = [some (.ref a), some (.int (Xp ms i : Nat)), v1, v2, none, none, none] ∧ Same H H' ∧ H' D = some (.lst (NL ps))) ⟨_, _, rfl, S9, eD2⟩ (fun i σ H' _ ⟨_, _, _, _, e⟩ => SqL.of e) ?_ ?_⟩
      · rintro i x σ H1 hx ⟨v1, v2, rfl, S1, e1⟩
        obtain ⟨p, hp, rfl⟩ := NL_at hx
        have hp2 := ps_two p (List.mem_of_getElem? hp)
        have hp64 : p ≤ 64 := by
          have h0 : ∀ p ∈ ps, p ≤ 64 := by decide
          exact h0 p (List.mem_of_getElem? hp)
        have small : ∀ j : Nat, (j = 0 ∨ ∃ n ∈ ms, p ^ j ∣ n) → p ^ j ≤ 64 := by
          rintro j (rfl | ⟨n, hn, hd⟩)
          · rw [Nat.pow_zero]
            decide
          · have := hm n hn
            exact Nat.le_trans (Nat.le_of_dvd (by omega) hd) this.2
        refine while_by (fun σ H' => ∃ f j : Nat, σ = [some (.ref a), some (.int (Xp ms i : Nat)), some (.int (p : Int)), some (.int ((p ^ j : Nat) : Int)), none, none, none] ∧ gp p ms f (p ^ j) = G ms p ∧ 7 ≤ f + j ∧ (j = 0 ∨ ∃ n ∈ ms, p ^ j ∣ n) ∧ Same H H' ∧ H' D = some (.lst (NL ps)))
          (fun (σ : St) (_ : Hp) => match σ[3]? with | some (some (V.int d)) => (65 - d).toNat | _ => 0) ⟨7, 0, rfl, rfl, by decide, .inl rfl, S1, e1⟩ ?_ ?_
        · rintro σ H2 ⟨f, j, rfl, hg, h7, hj, S2, e2⟩
          have hq : p ^ j ≤ 64 := small j hj
          have hS2 : SqL K H2 a (NL ms) := S2.seq hS
          refine ⟨_, rfl, a, rfl, ⟨_, hS2⟩, fun D3 hD3 => ?_⟩
          refine lc_list (K := K) (a := a) (xs := NL ms) (fun t H' => (∃ ns : List Int, H' D3 = some (.lst (ns.map V.int)) ∧ ns.length ≤ t ∧ ns.isEmpty = !((ms.take t).any fun n => n % (p ^ j * p) == 0)) ∧ Same H2 H') ⟨⟨[], upd_same, Nat.le_refl _, rfl⟩, Same.new hD3⟩ (fun t H' _ ⟨_, S⟩ => S.seq hS2) ?_ ?_
          · rintro t y H3 hy ⟨⟨ns, e3, hl, he⟩, S3⟩
            obtain ⟨n, hn, rfl⟩ := NL_at hy
            have ht : t < ms.length := (List.getElem?_eq_some_iff.mp hn).1
            have hpos : 0 < p ^ j * p := Nat.mul_pos (Nat.pow_pos (by omega)) (by omega)
            refine ⟨rfl, ?_⟩
            refine ⟨_, rfl, _, rfl, _, rfl, _, _, rfl, rfl, .inr ⟨by omega, by omega⟩, _, _, rfl, rfl, ?_, rfl, _, rfl, ?_⟩
            · show (0 : Int) < ((p ^ j : Nat) : Int) * (p : Int)
              rw [← Int.natCast_mul]
              exact Int.natCast_pos.mpr hpos
            have hc : ((n : Int) % (((p ^ j : Nat) : Int) * (p : Int)) = 0) ↔ n % (p ^ j * p) = 0 := by
              rw [← Int.natCast_mul]
              exact int_mod
            have htk : (ms.take (t + 1)).any (fun n => n % (p ^ j * p) == 0) = ((ms.take t).any (fun n => n % (p ^ j * p) == 0) || (n % (p ^ j * p) == 0)) := by
              rw [List.take_add_one, hn, List.any_append]
              simp
            by_cases c : n % (p ^ j * p) = 0
            · refine if_dec_t (congrArg V.int (hc.mpr c)) ⟨_, rfl, _, e3, ?_, ⟨ns ++ [(n : Int)], ?_, ?_, ?_⟩, Same.at hD3 S3⟩
              · rw [List.length_map]
                exact Nat.lt_of_le_of_lt (show ns.length ≤ 100 by omega) (by decide)
              · rw [upd_same, List.map_append]
                rfl
              · rw [List.length_append, List.length_singleton]
                omega
              · rw [htk, c]
                cases ns <;> simp
            · refine if_dec_f (fun z => c (hc.mp (V.int.inj z))) ⟨⟨ns, e3, by omega, ?_⟩, S3⟩
              rw [htk, he, show (n % (p ^ j * p) == 0) = false from by simpa using c, Bool.or_false]
          · rintro H3 ⟨⟨ns, e3, hl, he⟩, S3⟩
            rw [NL_len, List.take_length] at he
            refine ⟨by show 0 ≤ sizeLine; decide, fun d hd => ?_⟩
            refine ⟨_, _, dp_ints ns (SqL.of ((upd_ne (ne_of_none e3 hd)).trans e3)), .lst (SqL.of upd_same) .nil, shaped_int ns, by decide +kernel, _, rfl, ?_⟩
            have S4 : Same H2 (upd H3 d (.lst [])) := S3.trans (Same.new hd)
            rw [eqv_nil, he, Bool.not_not]
            by_cases c : (ms.any fun n => n % (p ^ j * p) == 0) = true
            · rw [c]
              refine iteT ?_
              refine ⟨_, rfl, _, rfl, _, _, rfl, rfl, .inr ⟨by omega, by omega⟩, ?_⟩
              have hj2 : j + 1 = 0 ∨ ∃ n ∈ ms, p ^ (j + 1) ∣ n := by
                right
                rw [Nat.pow_succ]
                exact any_dvd.mp c
              have hf : f ≠ 0 := by
                rintro rfl
                have h1 := small (j + 1) hj2
                have h3 : 2 ^ 8 ≤ p ^ (j + 1) := Nat.le_trans (Nat.pow_le_pow_right (by decide) (show 8 ≤ j + 1 by omega)) (Nat.pow_le_pow_left hp2 (j + 1))
                have h4 : (2 : Nat) ^ 8 = 256 := by decide
                omega
              obtain ⟨f, rfl⟩ := Nat.exists_eq_succ_of_ne_zero hf
              have e5 : ((p ^ j : Nat) : Int) * (p : Int) = ((p ^ (j + 1) : Nat) : Int) := by rw [← Int.natCast_mul, Nat.pow_succ]
              refine ⟨⟨f, j + 1, ?_, ?_, by omega, hj2, S2.trans S4, S4 _ _ e2⟩, ?_⟩
              · rw [← e5]
                rfl
              · rw [Nat.pow_succ, ← gp_go c]
                exact hg
              · have h1 : p ^ j < p ^ (j + 1) := Nat.pow_lt_pow_right (by omega) (by omega)
                show (65 - ((p ^ j : Nat) : Int) * (p : Int)).toNat < (65 - ((p ^ j : Nat) : Int)).toNat
                rw [e5]
                omega
            · rw [Bool.eq_false_iff.mpr c]
              refine iteF ?_
              have e6 : p ^ j = G ms p := by rw [← hg, gp_stop c]
              refine ⟨_, rfl, _, rfl, _, _, rfl, rfl, .inr ⟨by omega, by omega⟩, ?_⟩
              refine ⟨some (.int (p : Int)), some (.int ((p ^ j : Nat) : Int)), ?_, S2.trans S4, S4 _ _ e2⟩
              rw [Xp_succ hp, ← e6, Int.natCast_mul]
              rfl
        · rintro σ H2 Q1 Q2 hq ⟨v, hv, a', ha', hx', h⟩
          refine ⟨v, hv, a', ha', hx', fun D3 hD3 => ?_⟩
          obtain ⟨W, h0, h1⟩ := h D3 hD3
          refine ⟨W, h0, fun i m H3 w => ?_⟩
          rcases h1 i m H3 w with ⟨s, q⟩ | q
          · refine .inl ⟨s, ?_⟩
            obtain ⟨q0, q⟩ := q
            refine ⟨q0, fun d hd => ?_⟩
            obtain ⟨d1, d2, p1, p2, s1, s2, kk, ek, q⟩ := q d hd
            exact ⟨d1, d2, p1, p2, s1, s2, kk, ek, hq _ _ q⟩
          · exact .inr q
      · rintro σ H1 ⟨v1, v2, rfl, S1, e1⟩
        refine ⟨_, rfl, ?_⟩
        refine int_to ?_ (k _ S1)
        rw [NL_len]
        show ((Xp ms 18 : Nat) : Int) = (L ms : Nat)
        rw [Xp_all, X_eq hm]
def sp_w_told (K : PySem.W.Frag) : Sp := fun vs H Q _ => ∃ (a : Addr) (ms : List Nat), vs = [.ref a] ∧ SqL K H a (NL ms) ∧ (∀ n ∈ ms, 1 ≤ n ∧ n ≤ 64) ∧ ms.length ≤ 4 ∧ ∀ H', Same H H' → Q (.int (L ms : Nat)) H'
theorem ok_w_told (T : T K mg) : FnOk P w K mg base CX0 5 T.f_w_told T.d_w_told ["numbers"] (sp_w_told K) := by
  have G_common_multiple : FnR P w K mg base CX0 4 T.f_common_multiple (sp_common_multiple K) := ok_common_multiple T
  refine T.F_w_told.ok sc_w_told (fun vs H Q E h => ?_) (fun cdv A outer s H vs Q E hr h => ?_)
  · obtain ⟨a, ms, rfl, _⟩ := h
    rfl
  · obtain ⟨a, ms, rfl, hS, hm, h4, k⟩ := h
    have hu := hu_of hr
    have hr_common_multiple : Room 4 _ := hr.mono (by decide)
    refine ⟨_, (pss_cons (ps_if (pt_cmpR op_lt (pe_callB call_len (by rfl) T.z_len (by decide +kernel) (pa_cons (pv 0) pa_nil)) pe_int (nomark _))
      (pss_one (ps_ret (pe_ifExp (pt_cmpR (op_eqD hr.units) (pv 0) (pe_lst pa_nil) (nomark _)) (pe_callR0 G_common_multiple hr_common_multiple rfl T.m_common_multiple T.F_common_multiple.kp pass0) (pe_callR G_common_multiple hr_common_multiple rfl T.m_common_multiple T.F_common_multiple.kp pass0 (pa_cons (pe_ix ix_seq (pv 0) pe_int (fun _ _ => rfl)) pa_nil)))))
      pss_nil)
      (pss_cons (ps_if (pt_cmpR op_eq (pe_callB call_len (by rfl) T.z_len (by decide +kernel) (pa_cons (pv 0) pa_nil)) pe_int (nomark _))
      (pss_one (ps_ret (pe_callR G_common_multiple hr_common_multiple rfl T.m_common_multiple T.F_common_multiple.kp pass0 (pa_cons (pe_ix ix_seq (pv 0) pe_int (fun _ _ => rfl)) (pa_cons (pe_ix ix_seq (pv 0) pe_int (fun _ _ => rfl)) pa_nil)))))
      pss_nil)
      (pss_cons (ps_if (pt_cmpR op_eq (pe_callB call_len (by rfl) T.z_len (by decide +kernel) (pa_cons (pv 0) pa_nil)) pe_int (nomark _))
      (pss_one (ps_ret (pe_callR G_common_multiple hr_common_multiple rfl T.m_common_multiple T.F_common_multiple.kp pass0 (pa_cons (pe_ix ix_seq (pv 0) pe_int (fun _ _ => rfl)) (pa_cons (pe_ix ix_seq (pv 0) pe_int (fun _ _ => rfl)) (pa_cons (pe_ix ix_seq (pv 0) pe_int (fun _ _ => rfl)) pa_nil))))))
      pss_nil)
      (pss_one (ps_ret (pe_callR G_common_multiple hr_common_multiple rfl T.m_common_multiple T.F_common_multiple.kp pass0 (pa_cons (pe_ix ix_seq (pv 0) pe_int (fun _ _ => rfl)) (pa_cons (pe_ix ix_seq (pv 0) pe_int (fun _ _ => rfl)) (pa_cons (pe_ix ix_seq (pv 0) pe_int (fun _ _ => rfl)) (pa_cons (pe_ix ix_seq (pv 0) pe_int (fun _ _ => rfl)) pa_nil)))))))))), ?_⟩
    have hL : (NL ms).length = ms.length := NL_len ms
    refine ⟨_, rfl, _, _, rfl, .inl ⟨_, hS, rfl⟩, _, _, rfl, rfl, _, rfl, ?_⟩
    rw [hL]
    match ms, hm, h4, k, hS, hL with
    | [], hm, h4, k, hS, hL =>
      refine ite2 (fun _ => ?_) (fun c => absurd (decide_eq_true (by decide)) c)
      refine ⟨_, rfl, by show 0 ≤ sizeLine; decide, fun d hd => ?_⟩
      refine ⟨_, _, dp_ints [] ((Same.new hd).seq hS), .lst (SqL.of upd_same) .nil, by decide +kernel, by decide +kernel, _, rfl, ?_⟩
      refine iteT ?_
      exact ⟨[], rfl, (fun n hn => by cases hn), by decide, fun H' S => k _ ((Same.new hd).trans S)⟩
    | [x], hm, h4, k, hS, hL =>
      refine ite2 (fun _ => ?_) (fun c => absurd (decide_eq_true (by show ((1 : Nat) : Int) < 2; decide)) c)
      refine ⟨_, rfl, by show 0 ≤ sizeLine; decide, fun d hd => ?_⟩
      have hS2 := (Same.new (o := .lst []) hd).seq hS
      refine ⟨_, _, dp_ints [(x : Int)] hS2, .lst (SqL.of upd_same) .nil, shaped_int _, by decide +kernel, _, rfl, ?_⟩
      refine iteF ?_
      exact ⟨_, rfl, .inl ⟨_, _, _, _, rfl, rfl, hS2, rfl, [x], rfl, hm, by show 1 ≤ 16; decide, fun H' S => k _ ((Same.new hd).trans S)⟩⟩
    | [x, y], hm, h4, k, hS, hL =>
      refine ite2 (fun c => absurd (of_decide_eq_true c) (by show ¬ ((2 : Nat) : Int) < 2; decide)) (fun _ => ?_)
      refine ⟨_, rfl, _, _, rfl, .inl ⟨_, hS, rfl⟩, rfl, _, rfl, if_dec_t rfl ?_⟩
      exact ⟨_, rfl, .inl ⟨_, _, _, _, rfl, rfl, hS, rfl, _, rfl, .inl ⟨_, _, _, _, rfl, rfl, hS, rfl, [x, y], rfl, hm, by show 2 ≤ 16; decide, fun H' S => k _ S⟩⟩⟩
    | [x, y, z], hm, h4, k, hS, hL =>
      refine ite2 (fun c => absurd (of_decide_eq_true c) (by show ¬ ((3 : Nat) : Int) < 2; decide)) (fun _ => ?_)
      refine ⟨_, rfl, _, _, rfl, .inl ⟨_, hS, rfl⟩, rfl, _, rfl, if_dec_f (by show V.int ((3 : Nat) : Int) ≠ V.int 2; decide) ?_⟩
      refine ⟨_, rfl, _, _, rfl, .inl ⟨_, hS, rfl⟩, rfl, _, rfl, if_dec_t rfl ?_⟩
      exact ⟨_, rfl, .inl ⟨_, _, _, _, rfl, rfl, hS, rfl, _, rfl, .inl ⟨_, _, _, _, rfl, rfl, hS, rfl, _, rfl, .inl ⟨_, _, _, _, rfl, rfl, hS, rfl, [x, y, z], rfl, hm, by show 3 ≤ 16; decide, fun H' S => k _ S⟩⟩⟩⟩
    | [x, y, z, u], hm, h4, k, hS, hL =>
      refine ite2 (fun c => absurd (of_decide_eq_true c) (by show ¬ ((4 : Nat) : Int) < 2; decide)) (fun _ => ?_)
      refine ⟨_, rfl, _, _, rfl, .inl ⟨_, hS, rfl⟩, rfl, _, rfl, if_dec_f (by show V.int ((4 : Nat) : Int) ≠ V.int 2; decide) ?_⟩
      refine ⟨_, rfl, _, _, rfl, .inl ⟨_, hS, rfl⟩, rfl, _, rfl, if_dec_f (by show V.int ((4 : Nat) : Int) ≠ V.int 3; decide) ?_⟩
      exact ⟨_, rfl, .inl ⟨_, _, _, _, rfl, rfl, hS, rfl, _, rfl, .inl ⟨_, _, _, _, rfl, rfl, hS, rfl, _, rfl, .inl ⟨_, _, _, _, rfl, rfl, hS, rfl, _, rfl, .inl ⟨_, _, _, _, rfl, rfl, hS, rfl, [x, y, z, u], rfl, hm, by show 4 ≤ 16; decide, fun H' S => k _ S⟩⟩⟩⟩⟩
    | x :: y :: z :: u :: v :: r, hm, h4, k, hS, hL => exact absurd h4 (by simp only [List.length_cons]; omega)
def sp_w_few (K : PySem.W.Frag) : Sp := fun vs H Q _ => ∃ (r a : Addr) (ms : List Nat), vs = [.ref r, .ref a, .int 4] ∧ Rl H r ∧ SqL K H a (NL ms) ∧ ms.length ≤ 4 ∧ ∀ (f : Addr) (fs : List Nat) (H' : Hp), H' f = some (.lst (NL fs)) → (∀ n, n ∈ fs ↔ n ∈ ms) → fs.length = ms.length → Rl H' r → Only r H H' → f ≠ r → Q (.ref f) H'
theorem ok_w_few (T : T K mg) : FnOk P w K mg base CX0 2 T.f_w_few T.d_w_few ["reel", "items", "many"] (sp_w_few K) := by
  have G_w_spin : FnOk P w K mg base CX0 1 T.f_w_spin T.d_w_spin ["reel", "total"] (sp_w_spin K) := ok_w_spin T
  refine T.F_w_few.ok sc_w_few (fun vs H Q E h => ?_) (fun cdv A outer s H vs Q E hr h => ?_)
  · obtain ⟨r, a, ms, rfl, _⟩ := h
    rfl
  · obtain ⟨r, a, ms, rfl, hR, hS, h4, k⟩ := h
    have hu := hu_of hr
    have hr_w_spin : Room 1 _ := hr.mono (by decide)
    refine ⟨_, (pss_cons (ps_par (i := 3) (j := 4) (by rfl) sc_w_few.nd rfl rfl (by decide) rfl rfl (pa_cons (pe_callTy call_list_of (by rfl) T.z_list (by decide +kernel) (pa_cons (pv 1) pa_nil)) (pa_cons (pe_lst pa_nil) pa_nil)) (by rfl))
      (pss_cons (ps_while PassesOwn.never (PW.pt (pw_and (pt_cmpR (op_neD hr.units) (pv 3) (pe_lst pa_nil) (nomark _)) (pw_and1 (pt_cmpR op_lt (pe_callB call_len (by rfl) T.z_len (by decide +kernel) (pa_cons (pv 4) pa_nil)) (pv 2) (nomark _)))))
      (pss_one (ps_expr (pe_bm PySem.F.plainAttrs_list PySem.F.slot_list_append PySem.F.type_list_append mt_append (pv 4) (pa_cons (pe_bm PySem.F.plainAttrs_list PySem.F.slot_list_pop PySem.F.type_list_pop mt_popAt (pv 3) (pa_cons (pe_call G_w_spin hr_w_spin rfl T.m_w_spin T.F_w_spin.kp T.b_w_spin .nil pass0 (pa_cons (pv 0) (pa_cons (pe_callB call_len (by rfl) T.z_len (by decide +kernel) (pa_cons (pv 3) pa_nil)) pa_nil))) pa_nil)) pa_nil)))))
      (pss_one (ps_ret (pv 4))))), ?_⟩
    refine ⟨_, rfl, a, _, rfl, .inl hS, fun l hl => ?_⟩
    refine ⟨by show 0 ≤ sizeLine; decide, fun f hf => ?_⟩
    have el : (upd (upd H l (.lst (NL ms))) f (.lst [])) l = some (.lst (NL ms)) := (upd_ne (ne_of_none upd_same hf)).trans upd_same
    have nlf : l ≠ f := ne_of_none upd_same hf
    have nlr : l ≠ r := hR.ne hl
    have nfr : f ≠ r := (hR.new hl).ne hf
    refine ⟨_, _, rfl, ?_⟩
    refine while_by (fun σ H' => ∃ ls fs : List Nat, σ = [some (.ref r), some (.ref a), some (.int 4), some (.ref l), some (.ref f)] ∧ H' l = some (.lst (NL ls)) ∧ H' f = some (.lst (NL fs)) ∧ (∀ n, n ∈ ms ↔ n ∈ ls ∨ n ∈ fs) ∧ ls.length + fs.length = ms.length ∧ Rl H' r ∧ Only r H H')
      (fun (_ : St) (H' : Hp) => match H' l with | some (.lst xs) => xs.length | _ => 0) ⟨ms, [], rfl, el, upd_same, (fun n => by simp), rfl, (hR.new hl).new hf, (Only.new hl).trans (Only.new hf)⟩ ?_ ?_
    · rintro σ H1 ⟨ls, fs, rfl, e1, e2, hmem, hlen, R1, O1⟩
      refine ⟨_, rfl, by show 0 ≤ sizeLine; decide, fun d hd => ?_⟩
      have e1' : (upd H1 d (.lst [])) l = some (.lst (NL ls)) := (upd_ne (ne_of_none e1 hd)).trans e1
      have e2' : (upd H1 d (.lst [])) f = some (.lst (NL fs)) := (upd_ne (ne_of_none e2 hd)).trans e2
      have e1i : SqL K (upd H1 d (.lst [])) l ((ls.map fun (n : Nat) => (n : Int)).map V.int) := by rw [← NL_int]; exact SqL.of e1'
      refine ⟨_, _, dp_ints _ e1i, .lst (SqL.of upd_same) .nil, shaped_int _, by decide +kernel, _, rfl, ?_⟩
      rw [eqv_nil, List.isEmpty_map]
      cases ls with
      | nil =>
        refine iteF (iteF ?_)
        refine ⟨_, rfl, k f fs _ e2' (fun n => ?_) ?_ (R1.new hd) (O1.trans (Only.new hd)) nfr⟩
        · rw [hmem]
          simp
        · rw [← hlen]
          simp
      | cons x rs =>
        refine iteT ?_
        have hl4 : fs.length < 4 := by rw [List.length_cons] at hlen; omega
        refine ⟨_, rfl, _, _, rfl, .inl ⟨_, SqL.of e2', rfl⟩, _, rfl, _, _, rfl, rfl, _, rfl, ?_⟩
        rw [NL_len]
        refine ite2 (fun _ => ?_) (fun c => absurd (decide_eq_true (by omega)) c)
        refine ⟨_, rfl, .inl ⟨rfl, _, SqL.of e2'⟩, ?_⟩
        refine ⟨_, rfl, .inl ⟨rfl, _, SqL.of e1'⟩, ?_⟩
        refine ⟨_, rfl, _, rfl, _, _, rfl, .inl ⟨_, SqL.of e1', rfl⟩, ?_⟩
        have hz : (NL (x :: rs)).length = rs.length + 1 := by rw [NL_len]; rfl
        have hz4 : rs.length < 4 := by rw [List.length_cons] at hlen; omega
        refine ⟨r, _, rfl, R1.new hd, by rw [hz]; omega, by rw [hz]; exact Nat.lt_trans (lg (b := 8) (by omega) (by omega) (by decide)) (by decide), fun v H2 v0 v1 R2 O2 => ?_⟩
        rw [hz] at v1
        have e3 : H2 l = some (.lst (NL (x :: rs))) := O2 _ _ nlr e1'
        have e4 : H2 f = some (.lst (NL fs)) := O2 _ _ nfr e2'
        obtain ⟨i, rfl⟩ : ∃ i : Nat, v = (i : Int) := ⟨v.toNat, by omega⟩
        have hi : i < (x :: rs).length := by rw [List.length_cons]; omega
        have hy : (NL (x :: rs))[i]? = some (.int ((x :: rs)[i] : Nat)) := by unfold NL; rw [List.getElem?_map, List.getElem?_eq_getElem hi]; rfl
        refine ⟨l, _, i, i, _, rfl, rfl, e3, by omega, by omega, ?_, hy, ?_⟩
        · exact (ixN_seq (n := (NL (x :: rs)).length) (i := (i : Int)) (j := i) (by unfold ixN; rw [if_pos (by omega), if_pos (by rw [hz]; omega)]; simp)).1
        refine ⟨f, _, _, rfl, rfl, (upd_ne nlf.symm).trans e4, ?_, ?_⟩
        · rw [NL_len]
          exact Nat.lt_trans hl4 (by decide)
        have hea : (NL (x :: rs)).eraseIdx i = NL ((x :: rs).eraseIdx i) := by unfold NL; exact erase_map _ _ _
        have R3 : Rl (upd (upd H2 l (.lst ((NL (x :: rs)).eraseIdx i))) f (.lst (NL fs ++ [.int ((x :: rs)[i] : Nat)]))) r := by
          obtain ⟨p, q, w, e⟩ := R2
          exact ⟨p, q, w, by rw [upd_ne nfr.symm, upd_ne nlr.symm]; exact e⟩
        have O3 : Only r H (upd (upd H2 l (.lst ((NL (x :: rs)).eraseIdx i))) f (.lst (NL fs ++ [.int ((x :: rs)[i] : Nat)]))) := by
          intro b u nb eb
          have b1 : b ≠ l := ne_of_none eb hl
          have b2 : b ≠ f := ne_of_none ((upd_ne b1).trans eb) hf
          rw [upd_ne b2, upd_ne b1]
          have eb1 := O1 b u nb eb
          exact O2 b u nb ((upd_ne (ne_of_none eb1 hd)).trans eb1)
        refine ⟨⟨(x :: rs).eraseIdx i, fs ++ [(x :: rs)[i]], rfl, ?_, ?_, fun n => ?_, ?_, R3, O3⟩, ?_⟩
        · rw [upd_ne nlf, upd_same, hea]
        · rw [upd_same]
          unfold NL
          rw [List.map_append]
          rfl
        · rw [hmem n, mem_erase hi n, List.mem_append, List.mem_singleton]
          constructor
          · rintro ((h | h) | h)
            · exact .inr (.inr h)
            · exact .inl h
            · exact .inr (.inl h)
          · rintro (h | h | h)
            · exact .inl (.inr h)
            · exact .inr h
            · exact .inl (.inl h)
        · rw [List.length_eraseIdx_of_lt hi, List.length_append, List.length_singleton, ← hlen]
          rw [List.length_cons]
          omega
        · show (match (upd (upd H2 l _) f _) l with | some (.lst xs) => xs.length | _ => 0) < (match H1 l with | some (.lst xs) => xs.length | _ => 0)
          rw [upd_ne nlf, upd_same, e1]
          show ((NL (x :: rs)).eraseIdx i).length < (NL (x :: rs)).length
          rw [List.length_eraseIdx_of_lt (by rw [NL_len]; exact hi), hz]
          omega
    · rintro σ H2 Q1 Q2 hq ⟨v, hv, h0, h⟩
      refine ⟨v, hv, h0, fun d hd => ?_⟩
      obtain ⟨d1, d2, p1, p2, s1, s2, kk, ek, q⟩ := h d hd
      refine ⟨d1, d2, p1, p2, s1, s2, kk, ek, ?_⟩
      cases kk with
      | true =>
        have q2 : _ := (if_pos rfl).mp q
        refine (if_pos rfl).mpr ?_
        obtain ⟨a1, a2, a3, a4, a5, a6, a7, a8, a9, a10, a11, a12, a13, a14, a15⟩ := q2
        exact ⟨a1, a2, a3, a4, a5, a6, a7, a8, a9, a10, a11, a12, a13, a14, hq _ _ a15⟩
      | false =>
        exact (if_neg Bool.false_ne_true).mpr (hq _ _ ((if_neg Bool.false_ne_true).mp q))
/-- law's: a list of at most 63 ints is handed in, True comes out -/
def spLaw (K : PySem.W.Frag) : Sp := fun vs H Q _ => ∃ (a : Addr) (ns : List Int), vs = [.ref a] ∧ SqL K H a (ns.map V.int) ∧ ns.length ≤ 63 ∧ ∀ H', Q (.bl true) H'
abbrev sp_law (K : PySem.W.Frag) : Sp := spLaw K
theorem cut2 (ms : List Nat) : cutV (NL ms) none (some 2) = NL (ms.take 2) := by
  unfold cutV
  rw [show HT.sIx (NL ms).length 0 none = 0 from rfl, show HT.sIx (NL ms).length (NL ms).length (some 2) = min 2 (NL ms).length from HT.sIx_nat _ _ 2]
  show ((NL ms).drop 0).take (min 2 (NL ms).length - 0) = _
  rw [List.drop_zero, Nat.sub_zero]
  unfold NL
  rw [← List.map_take, List.length_map]
  congr 1
  by_cases h : 2 ≤ ms.length
  · rw [Nat.min_eq_left h]
  · rw [Nat.min_eq_right (by omega), List.take_length, List.take_of_length_le (by omega)]
theorem Only.rl {p : Addr} {H H' : Hp} (h : Rl H' p) : Rl H' p := h
theorem ok_law (T : T K mg) : FnOk P w K mg base CX0 6 T.f_law T.d_law ["script"] (sp_law K) := by
  have G_w_few : FnOk P w K mg base CX0 2 T.f_w_few T.d_w_few ["reel", "items", "many"] (sp_w_few K) := ok_w_few T
  have G_w_least : FnOk P w K mg base CX0 1 T.f_w_least T.d_w_least ["numbers"] (sp_w_least K) := ok_w_least T
  have G_w_pick : FnOk P w K mg base CX0 2 T.f_w_pick T.d_w_pick ["reel", "items"] (sp_w_pick K) := ok_w_pick T
  have G_w_reel : FnOk P w K mg base CX0 1 T.f_w_reel T.d_w_reel ["script", "at"] (sp_w_reel K) := ok_w_reel T
  have G_w_spin : FnOk P w K mg base CX0 1 T.f_w_spin T.d_w_spin ["reel", "total"] (sp_w_spin K) := ok_w_spin T
  have G_w_told : FnOk P w K mg base CX0 5 T.f_w_told T.d_w_told ["numbers"] (sp_w_told K) := ok_w_told T
  have G_common_multiple : FnR P w K mg base CX0 4 T.f_common_multiple (sp_common_multiple K) := ok_common_multiple T
  refine T.F_law.ok sc_law (fun vs H Q E h => ?_) (fun cdv A outer s H vs Q E hr h => ?_)
  · obtain ⟨a, ns, rfl, _⟩ := h
    rfl
  · obtain ⟨a, ns, rfl, hS, hlen, k⟩ := h
    have hu := hu_of hr
    have hr_w_few : Room 2 _ := hr.mono (by decide)
    have hr_w_least : Room 1 _ := hr.mono (by decide)
    have hr_w_pick : Room 2 _ := hr.mono (by decide)
    have hr_w_reel : Room 1 _ := hr.mono (by decide)
    have hr_w_spin : Room 1 _ := hr.mono (by decide)
    have hr_w_told : Room 5 _ := hr.mono (by decide)
    have hr_common_multiple : Room 4 _ := hr.mono (by decide)
    refine ⟨_, (pss_cons (ps_for PassesOwn.never rfl (pi_range1 (by rfl) T.z_range (pa_cons (pe_callB (call_max2 rfl) (by rfl) T.z_max (by decide +kernel) (pa_cons pe_int (pa_cons (pe_callB (call_min2 rfl) (by rfl) T.z_min (by decide +kernel) (pa_cons pe_int (pa_cons (pe_callB call_len (by rfl) T.z_len (by decide +kernel) (pa_cons (pv 0) pa_nil)) pa_nil))) pa_nil))) pa_nil)) (pg_name (i := 1) sc_law.nd rfl (Or.inl rfl))
      (pss_cons (ps_set (i := 2) sc_law.nd rfl (Or.inr rfl) (pe_call G_w_reel hr_w_reel rfl T.m_w_reel T.F_w_reel.kp T.b_w_reel .nil pass0 (pa_cons (pv 0) (pa_cons (pv 1) pa_nil))))
      (pss_cons (ps_setLc (i := 3) (own := [("turn", 7)]) (g := gName 7) rfl sc_law.nd rfl rfl (sw_true rfl rfl rfl (by decide +kernel)) (pi_range1 (by rfl) T.z_range (pa_cons (pe_call G_w_spin hr_w_spin rfl T.m_w_spin T.F_w_spin.kp T.b_w_spin .nil pass0 (pa_cons (pv 2) (pa_cons pe_int pa_nil))) pa_nil)) (blkOk_by (N := ["script", "at", "reel", "numbers", "due", "many", "told", "turn"]) (sc := defScope s_law) (by decide +kernel)) (fun _ _ _ _ _ => (pg_name (i := 7) sc_law.nd rfl (Or.inl rfl))) (fun _ _ _ _ _ => pts_nil) (fun _ _ _ _ _ => (pe_op op_add pe_int (pe_call G_w_spin hr_w_spin rfl T.m_w_spin T.F_w_spin.kp T.b_w_spin .nil pass0 (pa_cons (pv 2) (pa_cons (pe_call G_w_pick hr_w_pick rfl T.m_w_pick T.F_w_pick.kp T.b_w_pick .nil pass0 (pa_cons (pv 2) (pa_cons (pe_lst (pa_cons pe_int (pa_cons pe_int (pa_cons pe_int pa_nil)))) pa_nil))) pa_nil))))))
      (pss_cons (ps_set (i := 4) sc_law.nd rfl (Or.inl rfl) (pe_call G_w_least hr_w_least rfl T.m_w_least T.F_w_least.kp T.b_w_least .nil pass0 (pa_cons (pv 3) pa_nil)))
      (pss_cons (ps_if (PW.pt (pw_or (pt_cmpR op_ne (pe_call G_w_told hr_w_told rfl T.m_w_told T.F_w_told.kp T.b_w_told .nil pass0 (pa_cons (pv 3) pa_nil)) (pv 4) (nomark _)) (pw_or1 (pt_cmpR op_ne (pe_call G_w_told hr_w_told rfl T.m_w_told T.F_w_told.kp T.b_w_told .nil pass0 (pa_cons (pe_call G_w_few hr_w_few rfl T.m_w_few T.F_w_few.kp T.b_w_few .nil pass0 (pa_cons (pv 2) (pa_cons (pv 3) (pa_cons pe_int pa_nil)))) pa_nil)) (pv 4) (nomark _)))))
      (pss_one (ps_ret pe_bl))
      pss_nil)
      (pss_cons (ps_if (pt_cmpR op_ne (pe_call G_w_told hr_w_told rfl T.m_w_told T.F_w_told.kp T.b_w_told .nil pass0 (pa_cons (pe_op op_cat (pe_slice sl_list (pv 3) po_none (po_some pe_int)) (pe_slice sl_list (pv 3) po_none (po_some pe_int))) pa_nil)) (pe_call G_w_least hr_w_least rfl T.m_w_least T.F_w_least.kp T.b_w_least .nil pass0 (pa_cons (pe_slice sl_list (pv 3) po_none (po_some pe_int)) pa_nil)) (nomark _))
      (pss_one (ps_ret pe_bl))
      pss_nil)
      (pss_one (ps_if (PW.pt (pw_and (pt_cmpR op_le (pv 4) pe_int (nomark _)) (pw_and (pt_cmpR (op_neD hr.units) (pv 3) (pe_lst pa_nil) (nomark _)) (pw_and1 (pt_cmpR op_ne (pe_callR G_common_multiple hr_common_multiple rfl T.m_common_multiple T.F_common_multiple.kp pass0 (pa_cons (pv 4) (pa_cons (pe_ix ix_seq (pv 3) pe_int (fun _ _ => rfl)) pa_nil))) (pv 4) (nomark _))))))
      (pss_one (ps_ret pe_bl))
      pss_nil))))))))
      (pss_cons (ps_set (i := 5) sc_law.nd rfl (Or.inl rfl) (pe_callR G_common_multiple hr_common_multiple rfl T.m_common_multiple T.F_common_multiple.kp pass0 (pa_cons pe_int (pa_cons pe_int (pa_cons pe_int (pa_cons pe_int (pa_cons pe_int (pa_cons pe_int (pa_cons pe_int (pa_cons pe_int (pa_cons pe_int (pa_cons pe_int (pa_cons pe_int (pa_cons pe_int (pa_cons pe_int (pa_cons pe_int (pa_cons pe_int (pa_cons pe_int pa_nil))))))))))))))))))
      (pss_cons (ps_set (i := 6) sc_law.nd rfl (Or.inl rfl) (pe_lst (pa_cons (pe_callR G_common_multiple hr_common_multiple rfl T.m_common_multiple T.F_common_multiple.kp pass0 (pa_cons pe_int (pa_cons pe_int (pa_cons pe_int pa_nil)))) (pa_cons (pe_callR0 G_common_multiple hr_common_multiple rfl T.m_common_multiple T.F_common_multiple.kp pass0) (pa_cons (pe_callR G_common_multiple hr_common_multiple rfl T.m_common_multiple T.F_common_multiple.kp pass0 (pa_cons pe_int pa_nil)) (pa_cons (pe_callR G_common_multiple hr_common_multiple rfl T.m_common_multiple T.F_common_multiple.kp pass0 (pa_cons pe_int (pa_cons pe_int pa_nil))) pa_nil))))))
      (pss_one (ps_ret (pe_and (pe_cmpR (op_eqD hr.units) (pv 6) (pe_lst (pa_cons pe_int (pa_cons pe_int (pa_cons pe_int (pa_cons pe_int pa_nil))))) (nomark _)) (pe_one (pe_cmpR op_eq (pv 5) (pe_call G_w_least hr_w_least rfl T.m_w_least T.F_w_least.kp T.b_w_least .nil pass0 (pa_cons (pe_listRg rfl rfl T.z_list (prg_2 rfl T.z_range pe_int pe_int)) pa_nil)) (nomark _))))))))), ?_⟩
    refine ⟨_, rfl, _, _, rfl, .inl ⟨_, hS, rfl⟩, _, _, rfl, _, _, rfl, ?_⟩
    have hb := cells_n (ns.map V.int).length 8
    refine ⟨_, rfl, Int.le_trans (by decide) hb.2, Int.lt_of_le_of_lt hb.1 (by decide), ?_⟩
    refine for_range (fun i σ H' => ∃ v1 v2 v3 v4 v7, σ = [some (.ref a), v1, v2, v3, v4, none, none, v7] ∧ SqL K H' a (ns.map V.int)) ⟨none, none, none, none, none, rfl, hS⟩ ?_ ?_
    · rintro i σ H0 hi ⟨v1, v2, v3, v4, v7, rfl, hS0⟩
      refine ⟨_, rfl, _, rfl, a, ns, i, congrArg (fun z => [V.ref a, V.int z]) (Int.zero_add _), hS0, fun p x y z hp => ?_⟩
      have R0 : Rl (upd H0 p (.lst [.int x, .int y, .int z])) p := ⟨x, y, z, upd_same⟩
      have O0 : Only p H0 (upd H0 p (.lst [.int x, .int y, .int z])) := Only.upd
      generalize upd H0 p (.lst [.int x, .int y, .int z]) = H1 at R0 O0 ⊢
      refine ⟨_, rfl, p, 5, rfl, R0, by decide, by decide, fun v H2 v0 v1 R2 O2 => ?_⟩
      refine ⟨v, rfl, by omega, by omega, fun D hD => ?_⟩
      have nDp : D ≠ p := R2.ne hD
      refine lc_range (fun j H' => (∃ ms : List Nat, H' D = some (.lst (NL ms)) ∧ ms.length = j ∧ ∀ n ∈ ms, 1 ≤ n ∧ n ≤ 64) ∧ Rl H' p ∧ Only p H1 H') ⟨⟨[], upd_same, rfl, fun n hn => by cases hn⟩, R2.new hD, O2.trans (Only.new hD)⟩ ?_ ?_
      · rintro j H3 hj ⟨⟨ms, eD, hl, hm⟩, R3, O3⟩
        refine ⟨rfl, ?_⟩
        unfold tYes
        dsimp only
        rw [if_pos rfl]
        refine ⟨_, rfl, _, rfl, by show 3 ≤ sizeLine; decide, fun l nl => ?_⟩
        refine ⟨p, _, ([6, 12, 64] : List Int).map V.int, rfl, R3.new nl, .inl ⟨l, rfl, R3.ne nl, .inl (SqL.of upd_same)⟩, by decide, by decide, fun w H4 hw R4 O4 => ?_⟩
        obtain ⟨m, hm0, rfl⟩ := List.mem_map.mp hw
        have hm1 : 1 ≤ m ∧ m ≤ 64 := by
          simp only [List.mem_cons, List.mem_nil_iff, or_false] at hm0
          omega
        refine ⟨p, m, rfl, R4, by omega, Nat.lt_trans (lg (b := 8) (by omega) (by omega) (by decide)) (by decide), fun u H5 u0 u1 R5 O5 => ?_⟩
        refine ⟨_, _, rfl, rfl, ?_⟩
        have e5 : H5 D = some (.lst (NL ms)) := O5 _ _ nDp (O4 _ _ nDp ((upd_ne (ne_of_none eD nl)).trans eD))
        refine ⟨_, e5, ?_, ⟨ms ++ [(1 + u).toNat], ?_, ?_, fun n hn => ?_⟩, ?_, ?_⟩
        · rw [NL_len, hl]
          exact Nat.lt_of_lt_of_le (show j < 100 by omega) (by decide)
        · rw [upd_same]
          unfold NL
          rw [List.map_append]
          show some (HO.lst (_ ++ [V.int (1 + u)])) = some (HO.lst (_ ++ [V.int ((1 + u).toNat : Nat)]))
          rw [Int.toNat_of_nonneg (by omega)]
        · rw [List.length_append, hl]
          rfl
        · rcases List.mem_append.mp hn with h | h
          · exact hm n h
          · rw [List.mem_singleton.mp h]
            omega
        · obtain ⟨x, y, w, ez⟩ := R5
          exact ⟨x, y, w, by rw [upd_ne nDp.symm]; exact ez⟩
        · intro b o nb eb
          rw [upd_ne (ne_of_none (O2 b o nb eb) hD)]
          have e3 := O3 b o nb eb
          exact O5 b o nb (O4 b o nb ((upd_ne (ne_of_none e3 nl)).trans e3))
      · rintro H3 ⟨⟨ms, eD, hl, hm⟩, R3, O3⟩
        have h4 : ms.length ≤ 4 := by omega
        -- due
        refine ⟨_, rfl, D, ms, rfl, SqL.of eD, hm, by omega, fun H4 S4 => ?_⟩
        have S4' : Same H3 H4 := S4
        replace eD := S4' _ _ eD
        have R4 := Same.rl S4' R3
        have O4 := O3.trans (Same.only S4')
        clear S4 S4' R3 O3
        -- told
        refine ⟨_, rfl, D, ms, rfl, SqL.of eD, hm, h4, fun H5 S5 => ?_⟩
        refine ⟨_, rfl, rfl, _, rfl, iteNS rfl ?_⟩
        have S5' : Same H4 H5 := S5
        replace eD := S5' _ _ eD
        have R5 := Same.rl S5' R4
        have O5 := O4.trans (Same.only S5')
        clear S5 S5' R4 O4
        refine ⟨_, rfl, _, rfl, p, D, ms, rfl, R5, SqL.of eD, h4, fun f fs H6 ef hmem hfl R6 O6 nf => ?_⟩
        replace eD := O6 _ _ nDp eD
        refine ⟨f, fs, rfl, SqL.of ef, fun n hn => hm n ((hmem n).mp hn), by omega, fun H7 S7 => ?_⟩
        refine ⟨_, rfl, rfl, _, rfl, iteNS (by rw [L_ext hmem]) ?_⟩
        have S7' : Same H6 H7 := S7
        replace eD := S7' _ _ eD
        have O7 := (O5.trans O6).trans (Same.only S7')
        clear S7 S7' R5 R6 O5 O6 ef
        -- the first two, twice
        have hmt : ∀ n ∈ ms.take 2, 1 ≤ n ∧ n ≤ 64 := fun n hn => hm n (List.mem_of_mem_take hn)
        have hlt : (ms.take 2).length ≤ 2 := by rw [List.length_take]; omega
        refine ⟨_, rfl, _, rfl, D, _, rfl, SqL.of eD, fun q1 n1 => ?_⟩
        rw [cut2]
        have eD1 : (upd H7 q1 (.lst (NL (ms.take 2)))) D = some (.lst (NL ms)) := (upd_ne (ne_of_none eD n1)).trans eD
        refine ⟨_, rfl, _, rfl, D, _, rfl, SqL.of eD1, fun q2 n2 => ?_⟩
        rw [cut2]
        refine ⟨q1, q2, NL (ms.take 2), NL (ms.take 2), rfl, rfl, (upd_ne (ne_of_none upd_same n2)).trans upd_same, upd_same, ?_, fun q3 n3 => ?_⟩
        · rw [NL_len]
          exact Nat.le_trans (show _ ≤ 4 by omega) (by decide)
        have hap : NL (ms.take 2) ++ NL (ms.take 2) = NL (ms.take 2 ++ ms.take 2) := by unfold NL; rw [List.map_append]
        rw [hap]
        have eD2 : (upd (upd H7 q1 (.lst (NL (ms.take 2)))) q2 (.lst (NL (ms.take 2)))) D = some (.lst (NL ms)) := (upd_ne (ne_of_none eD1 n2)).trans eD1
        have eD3 : (upd (upd (upd H7 q1 (.lst (NL (ms.take 2)))) q2 (.lst (NL (ms.take 2)))) q3 (.lst (NL (ms.take 2 ++ ms.take 2)))) D = some (.lst (NL ms)) := (upd_ne (ne_of_none eD2 n3)).trans eD2
        have O8 : Only p H1 (upd (upd (upd H7 q1 (.lst (NL (ms.take 2)))) q2 (.lst (NL (ms.take 2)))) q3 (.lst (NL (ms.take 2 ++ ms.take 2)))) := O7.trans (((Only.new n1).trans (Only.new n2)).trans (Only.new n3))
        have e8 : (upd (upd (upd H7 q1 (.lst (NL (ms.take 2)))) q2 (.lst (NL (ms.take 2)))) q3 (.lst (NL (ms.take 2 ++ ms.take 2)))) q3 = some (.lst (NL (ms.take 2 ++ ms.take 2))) := upd_same
        generalize (upd (upd (upd H7 q1 (.lst (NL (ms.take 2)))) q2 (.lst (NL (ms.take 2)))) q3 (.lst (NL (ms.take 2 ++ ms.take 2)))) = H8 at eD3 O8 e8 ⊢
        refine ⟨q3, ms.take 2 ++ ms.take 2, rfl, SqL.of e8, fun n hn => ?_, ?_, fun H9 S9 => ?_⟩
        · rcases List.mem_append.mp hn with h | h <;> exact hmt n h
        · rw [List.length_append]
          omega
        have S9' : Same H8 H9 := S9
        replace eD3 := S9' _ _ eD3
        have O9 := O8.trans (Same.only S9')
        refine ⟨_, rfl, _, rfl, D, _, rfl, SqL.of eD3, fun q4 n4 => ?_⟩
        rw [cut2]
        refine ⟨q4, ms.take 2, rfl, SqL.of upd_same, hmt, by omega, fun Ha Sa => ?_⟩
        have Sa' : Same (upd H9 q4 (.lst (NL (ms.take 2)))) Ha := Sa
        have eDa := Sa' _ _ ((upd_ne (ne_of_none eD3 n4)).trans eD3)
        have Oa := (O9.trans (Only.new n4)).trans (Same.only Sa')
        have hext : L (ms.take 2 ++ ms.take 2) = L (ms.take 2) := L_ext fun n => by rw [List.mem_append]; simp
        refine ⟨rfl, _, rfl, iteNS (by rw [hext]) ?_⟩
        clear Sa Sa' S9 S9' O9 O8 e8 eD3 O7 eD hext
        have done : ∀ H', Only p H1 H' → SqL K H' a (ns.map V.int) := fun H' O => Same.seq (fun b o e => by
          have nb := ne_of_none e hp
          exact O b o nb (O0 b o nb e)) hS0
        -- a multiple of it
        refine ⟨_, rfl, _, _, rfl, rfl, _, rfl, ?_⟩
        refine ite2 (fun c => ?_) (fun c => ?_)
        · have hL64 : L ms ≤ 64 := by
            have := of_decide_eq_true c
            omega
          refine ⟨_, rfl, by show 0 ≤ sizeLine; decide, fun d hd => ?_⟩
          have ed : SqL K (upd Ha d (.lst [])) D ((ms.map fun (n : Nat) => (n : Int)).map V.int) := by rw [← NL_int]; exact SqL.of ((upd_ne (ne_of_none eDa hd)).trans eDa)
          refine ⟨_, _, dp_ints _ ed, .lst (SqL.of upd_same) .nil, shaped_int _, by decide +kernel, _, rfl, ?_⟩
          rw [eqv_nil, List.isEmpty_map]
          cases ms with
          | nil => exact iteF (iteF ⟨_, _, _, _, _, rfl, done _ (Oa.trans (Only.new hd))⟩)
          | cons n r =>
            refine iteT ?_
            refine ⟨_, rfl, _, rfl, .inl ⟨_, _, _, _, rfl, rfl, SqL.of ((upd_ne (ne_of_none eDa hd)).trans eDa), at_of (xs := NL (n :: r)) (z := 0) (j := 0) (v := .int (n : Nat)) rfl rfl, ?_⟩⟩
            have hLp := (L_pos hm).1
            refine ⟨[L (n :: r), n], rfl, fun m hmm => ?_, by show 2 ≤ 16; decide, fun Hc Sc => ?_⟩
            · rcases List.mem_cons.mp hmm with rfl | h
              · omega
              · rw [List.mem_singleton.mp h]
                exact hm n List.mem_cons_self
            have hL2 : L [L (n :: r), n] = L (n :: r) := by
              refine Nat.dvd_antisymm ((L_dvd _ _).mpr fun m hmm => ?_) (dvd_L List.mem_cons_self)
              rcases List.mem_cons.mp hmm with rfl | h
              · exact Nat.dvd_refl _
              · rw [List.mem_singleton.mp h]
                exact dvd_L List.mem_cons_self
            have Sc' : Same (upd Ha d (.lst [])) Hc := Sc
            refine ⟨_, rfl, rfl, _, rfl, iteNS (by rw [hL2]) ⟨_, _, _, _, _, rfl, done _ ((Oa.trans (Only.new hd)).trans (Same.only Sc'))⟩⟩
        · exact iteF ⟨_, _, _, _, _, rfl, done _ Oa⟩
    · rintro σ H0 ⟨v1, v2, v3, v4, v7, rfl, hS0⟩
      refine ⟨[64, 63, 62, 61, 60, 59, 58, 57, 56, 55, 54, 53, 52, 51, 50, 49], rfl, by decide, by decide, fun H1 S1 => ?_⟩
      refine ⟨[2, 3, 4], rfl, by decide, by decide, fun H2 S2 => ?_⟩
      refine ⟨[], rfl, by decide, by decide, fun H3 S3 => ?_⟩
      refine ⟨[64], rfl, by decide, by decide, fun H4 S4 => ?_⟩
      refine ⟨[5, 3], rfl, by decide, by decide, fun H5 S5 => ?_⟩
      refine ⟨by show 4 ≤ sizeLine; decide, fun d1 n1 => ?_⟩
      refine ⟨_, rfl, by show 4 ≤ sizeLine; decide, fun d2 n2 => ?_⟩
      have n12 : d1 ≠ d2 := ne_of_none upd_same n2
      refine ⟨_, _, dp_ints [12, 1, 64, 15] (SqL.of ((upd_ne n12).trans upd_same)), dp_ints [12, 1, 64, 15] (SqL.of upd_same), by decide +kernel, by decide +kernel, _, rfl, ?_⟩
      rw [show PyData.eqv (.list (([12, 1, 64, 15] : List Int).map PyData.int)) (.list (([12, 1, 64, 15] : List Int).map PyData.int)) = true from by decide +kernel]
      refine iteT ?_
      refine ⟨_, rfl, 49, 65, rfl, rfl, RgOk.of_le (by decide) (by decide) (by decide) (by decide), fun d3 n3 => ?_⟩
      have hrg : rgV 49 65 = NL [49, 50, 51, 52, 53, 54, 55, 56, 57, 58, 59, 60, 61, 62, 63, 64] := by decide +kernel
      rw [hrg]
      refine ⟨d3, [49, 50, 51, 52, 53, 54, 55, 56, 57, 58, 59, 60, 61, 62, 63, 64], rfl, SqL.of upd_same, by decide, by decide, fun H6 S6 => ?_⟩
      exact ⟨rfl, bl_t (decide_eq_true (congrArg V.int (congrArg (fun n : Nat => (n : Int)) (by decide +kernel)))) (k _)⟩
end
theorem all_mk {l : PySem.W.OpenLaw} {w : World} {K : PySem.W.Frag} {h : Heap} {mg : Str → Option Value} {fa f_is_integer f_is_between f_check_between f_common_multiple f_w_reel f_w_spin f_w_pick f_w_few f_w_least f_w_told f_law : Addr} (X : K.In h) (G : h.Ns mainGlobals mg) (hfa : mg "law" = some (.ref fa))
    {od_is_integer an_is_integer od_is_between an_is_between od_check_between an_check_between od_common_multiple an_common_multiple od_w_reel an_w_reel od_w_spin an_w_spin od_w_pick an_w_pick od_w_few an_w_few od_w_least an_w_least od_w_told an_w_told od_law an_law : Option Addr} {sl_is_integer sl_is_between sl_check_between sl_common_multiple sl_w_reel sl_w_spin sl_w_pick sl_w_few sl_w_least sl_w_told sl_law : Array (Option Value)} {oc_is_integer kV_is_integer dc_is_integer pm_is_integer cd_is_integer ct_is_integer oc_is_between kV_is_between dc_is_between pm_is_between cd_is_between ct_is_between oc_check_between kV_check_between dc_check_between pm_check_between cd_check_between ct_check_between oc_common_multiple kV_common_multiple dc_common_multiple pm_common_multiple cd_common_multiple ct_common_multiple oc_w_reel kV_w_reel dc_w_reel pm_w_reel cd_w_reel ct_w_reel oc_w_spin kV_w_spin dc_w_spin pm_w_spin cd_w_spin ct_w_spin oc_w_pick kV_w_pick dc_w_pick pm_w_pick cd_w_pick ct_w_pick oc_w_few kV_w_few dc_w_few pm_w_few cd_w_few ct_w_few oc_w_least kV_w_least dc_w_least pm_w_least cd_w_least ct_w_least oc_w_told kV_w_told dc_w_told pm_w_told cd_w_told ct_w_told oc_law kV_law dc_law pm_law cd_law ct_law : Value} {t_MAX_FACTOR t_MAX_FACTORS : Tok}
    (a_is_integer : PySem.W.nsIn K mainGlobals "is_integer" = some (some (.ref f_is_integer))) (l_is_integer : K.lookup f_is_integer = some ⟨oc_is_integer, od_is_integer, .func (PySem.W.fnOf "is_integer" "is_integer" (defArgs s_is_integer) (defBody s_is_integer) (defScope s_is_integer) .none kV_is_integer dc_is_integer pm_is_integer an_is_integer cd_is_integer ct_is_integer), sl_is_integer⟩) (k_is_integer : PySem.W.codeIn K cd_is_integer "is_integer" = true) (p_is_integer : PySem.W.keepIn K (.ref f_is_integer) = true)
    (a_is_between : PySem.W.nsIn K mainGlobals "is_between" = some (some (.ref f_is_between))) (l_is_between : K.lookup f_is_between = some ⟨oc_is_between, od_is_between, .func (PySem.W.fnOf "is_between" "is_between" (defArgs s_is_between) (defBody s_is_between) (defScope s_is_between) .none kV_is_between dc_is_between pm_is_between an_is_between cd_is_between ct_is_between), sl_is_between⟩) (k_is_between : PySem.W.codeIn K cd_is_between "is_between" = true) (p_is_between : PySem.W.keepIn K (.ref f_is_between) = true)
    (a_check_between : PySem.W.nsIn K mainGlobals "check_between" = some (some (.ref f_check_between))) (l_check_between : K.lookup f_check_between = some ⟨oc_check_between, od_check_between, .func (PySem.W.fnOf "check_between" "check_between" (defArgs s_check_between) (defBody s_check_between) (defScope s_check_between) .none kV_check_between dc_check_between pm_check_between an_check_between cd_check_between ct_check_between), sl_check_between⟩) (k_check_between : PySem.W.codeIn K cd_check_between "check_between" = true) (p_check_between : PySem.W.keepIn K (.ref f_check_between) = true)
    (a_common_multiple : PySem.W.nsIn K mainGlobals "common_multiple" = some (some (.ref f_common_multiple))) (l_common_multiple : K.lookup f_common_multiple = some ⟨oc_common_multiple, od_common_multiple, .func (PySem.W.fnOf "common_multiple" "common_multiple" (defArgs s_common_multiple) (defBody s_common_multiple) (defScope s_common_multiple) .none kV_common_multiple dc_common_multiple pm_common_multiple an_common_multiple cd_common_multiple ct_common_multiple), sl_common_multiple⟩) (k_common_multiple : PySem.W.codeIn K cd_common_multiple "common_multiple" = true) (p_common_multiple : PySem.W.keepIn K (.ref f_common_multiple) = true)
    (a_w_reel : PySem.W.nsIn K mainGlobals "_law_reel" = some (some (.ref f_w_reel))) (l_w_reel : K.lookup f_w_reel = some ⟨oc_w_reel, od_w_reel, .func (PySem.W.fnOf "_law_reel" "_law_reel" (defArgs s_w_reel) (defBody s_w_reel) (defScope s_w_reel) .none kV_w_reel dc_w_reel pm_w_reel an_w_reel cd_w_reel ct_w_reel), sl_w_reel⟩) (k_w_reel : PySem.W.codeIn K cd_w_reel "_law_reel" = true) (p_w_reel : PySem.W.keepIn K (.ref f_w_reel) = true)
    (a_w_spin : PySem.W.nsIn K mainGlobals "_law_spin" = some (some (.ref f_w_spin))) (l_w_spin : K.lookup f_w_spin = some ⟨oc_w_spin, od_w_spin, .func (PySem.W.fnOf "_law_spin" "_law_spin" (defArgs s_w_spin) (defBody s_w_spin) (defScope s_w_spin) .none kV_w_spin dc_w_spin pm_w_spin an_w_spin cd_w_spin ct_w_spin), sl_w_spin⟩) (k_w_spin : PySem.W.codeIn K cd_w_spin "_law_spin" = true) (p_w_spin : PySem.W.keepIn K (.ref f_w_spin) = true)
    (a_w_pick : PySem.W.nsIn K mainGlobals "_law_pick" = some (some (.ref f_w_pick))) (l_w_pick : K.lookup f_w_pick = some ⟨oc_w_pick, od_w_pick, .func (PySem.W.fnOf "_law_pick" "_law_pick" (defArgs s_w_pick) (defBody s_w_pick) (defScope s_w_pick) .none kV_w_pick dc_w_pick pm_w_pick an_w_pick cd_w_pick ct_w_pick), sl_w_pick⟩) (k_w_pick : PySem.W.codeIn K cd_w_pick "_law_pick" = true) (p_w_pick : PySem.W.keepIn K (.ref f_w_pick) = true)
    (a_w_few : PySem.W.nsIn K mainGlobals "_law_few" = some (some (.ref f_w_few))) (l_w_few : K.lookup f_w_few = some ⟨oc_w_few, od_w_few, .func (PySem.W.fnOf "_law_few" "_law_few" (defArgs s_w_few) (defBody s_w_few) (defScope s_w_few) .none kV_w_few dc_w_few pm_w_few an_w_few cd_w_few ct_w_few), sl_w_few⟩) (k_w_few : PySem.W.codeIn K cd_w_few "_law_few" = true) (p_w_few : PySem.W.keepIn K (.ref f_w_few) = true)
    (a_w_least : PySem.W.nsIn K mainGlobals "_law_least" = some (some (.ref f_w_least))) (l_w_least : K.lookup f_w_least = some ⟨oc_w_least, od_w_least, .func (PySem.W.fnOf "_law_least" "_law_least" (defArgs s_w_least) (defBody s_w_least) (defScope s_w_least) .none kV_w_least dc_w_least pm_w_least an_w_least cd_w_least ct_w_least), sl_w_least⟩) (k_w_least : PySem.W.codeIn K cd_w_least "_law_least" = true) (p_w_least : PySem.W.keepIn K (.ref f_w_least) = true)
    (a_w_told : PySem.W.nsIn K mainGlobals "_law_told" = some (some (.ref f_w_told))) (l_w_told : K.lookup f_w_told = some ⟨oc_w_told, od_w_told, .func (PySem.W.fnOf "_law_told" "_law_told" (defArgs s_w_told) (defBody s_w_told) (defScope s_w_told) .none kV_w_told dc_w_told pm_w_told an_w_told cd_w_told ct_w_told), sl_w_told⟩) (k_w_told : PySem.W.codeIn K cd_w_told "_law_told" = true) (p_w_told : PySem.W.keepIn K (.ref f_w_told) = true)
    (a_law : PySem.W.nsIn K mainGlobals "law" = some (some (.ref f_law))) (l_law : K.lookup f_law = some ⟨oc_law, od_law, .func (PySem.W.fnOf "law" "law" (defArgs s_law) (defBody s_law) (defScope s_law) .none kV_law dc_law pm_law an_law cd_law ct_law), sl_law⟩) (k_law : PySem.W.codeIn K cd_law "law" = true) (p_law : PySem.W.keepIn K (.ref f_law) = true)
    (e_MAX_FACTOR : PySem.W.nsIn K mainGlobals "MAX_FACTOR" = some (some (.int 64 t_MAX_FACTOR)))
    (e_MAX_FACTORS : PySem.W.nsIn K mainGlobals "MAX_FACTORS" = some (some (.int 16 t_MAX_FACTORS)))
    (g_lcm : PySem.W.nsIn K mainGlobals "lcm" = some (some (.builtin "math.lcm")))
    (y_int : PySem.W.nsIn K mainGlobals "int" = some none)
    (y_abs : PySem.W.nsIn K mainGlobals "abs" = some none)
    (y_len : PySem.W.nsIn K mainGlobals "len" = some none)
    (y_max : PySem.W.nsIn K mainGlobals "max" = some none)
    (y_min : PySem.W.nsIn K mainGlobals "min" = some none)
    (y_range : PySem.W.nsIn K mainGlobals "range" = some none)
    (y_isinstance : PySem.W.nsIn K mainGlobals "isinstance" = some none)
    (y_list : PySem.W.nsIn K mainGlobals "list" = some none)
    (y_bool : PySem.W.nsIn K mainGlobals "bool" = some none)
    : ∃ fd : FuncData, (∀ (s : Shared) (v : Value), BindsTo s fd ⟨[v], []⟩ [("script", v)]) ∧ ∀ base : Heap, K.In base → base.Ns mainGlobals mg → FnOk l.prog w K mg base CX0 6 fa fd ["script"] (spLaw K) := by
  have e := hfa.symm.trans (PySem.W.mg_of X G a_law)
  cases e
  have F_is_integer := fun_mk (st := s_is_integer) l_is_integer k_is_integer p_is_integer
  have b_is_integer := F_is_integer.binds (ps := ["value"]) fun _ _ _ _ _ _ us hl => match us, hl with | [_], _ => rfl
  have F_is_between := fun_mk (st := s_is_between) l_is_between k_is_between p_is_between
  have b_is_between := F_is_between.binds (ps := ["value", "low", "high"]) fun _ _ _ _ _ _ us hl => match us, hl with | [_, _, _], _ => rfl
  have F_check_between := fun_mk (st := s_check_between) l_check_between k_check_between p_check_between
  have b_check_between := F_check_between.binds (ps := ["value", "low", "high"]) fun _ _ _ _ _ _ us hl => match us, hl with | [_, _, _], _ => rfl
  have F_common_multiple := fun_mk (st := s_common_multiple) l_common_multiple k_common_multiple p_common_multiple
  have F_w_reel := fun_mk (st := s_w_reel) l_w_reel k_w_reel p_w_reel
  have b_w_reel := F_w_reel.binds (ps := ["script", "at"]) fun _ _ _ _ _ _ us hl => match us, hl with | [_, _], _ => rfl
  have F_w_spin := fun_mk (st := s_w_spin) l_w_spin k_w_spin p_w_spin
  have b_w_spin := F_w_spin.binds (ps := ["reel", "total"]) fun _ _ _ _ _ _ us hl => match us, hl with | [_, _], _ => rfl
  have F_w_pick := fun_mk (st := s_w_pick) l_w_pick k_w_pick p_w_pick
  have b_w_pick := F_w_pick.binds (ps := ["reel", "items"]) fun _ _ _ _ _ _ us hl => match us, hl with | [_, _], _ => rfl
  have F_w_few := fun_mk (st := s_w_few) l_w_few k_w_few p_w_few
  have b_w_few := F_w_few.binds (ps := ["reel", "items", "many"]) fun _ _ _ _ _ _ us hl => match us, hl with | [_, _, _], _ => rfl
  have F_w_least := fun_mk (st := s_w_least) l_w_least k_w_least p_w_least
  have b_w_least := F_w_least.binds (ps := ["numbers"]) fun _ _ _ _ _ _ us hl => match us, hl with | [_], _ => rfl
  have F_w_told := fun_mk (st := s_w_told) l_w_told k_w_told p_w_told
  have b_w_told := F_w_told.binds (ps := ["numbers"]) fun _ _ _ _ _ _ us hl => match us, hl with | [_], _ => rfl
  have F_law := fun_mk (st := s_law) l_law k_law p_law
  have b_law := F_law.binds (ps := ["script"]) fun _ _ _ _ _ _ us hl => match us, hl with | [_], _ => rfl
  exact ⟨PySem.W.fnOf "law" "law" (defArgs s_law) (defBody s_law) (defScope s_law) .none kV_law dc_law pm_law an_law cd_law ct_law, fun s v => .of_eq rfl, fun base _ _ => ok_law (⟨_, _, F_is_integer, PySem.W.mg_of X G a_is_integer, b_is_integer, _, _, F_is_between, PySem.W.mg_of X G a_is_between, b_is_between, _, _, F_check_between, PySem.W.mg_of X G a_check_between, b_check_between, _, _, F_common_multiple, PySem.W.mg_of X G a_common_multiple, _, _, F_w_reel, PySem.W.mg_of X G a_w_reel, b_w_reel, _, _, F_w_spin, PySem.W.mg_of X G a_w_spin, b_w_spin, _, _, F_w_pick, PySem.W.mg_of X G a_w_pick, b_w_pick, _, _, F_w_few, PySem.W.mg_of X G a_w_few, b_w_few, _, _, F_w_least, PySem.W.mg_of X G a_w_least, b_w_least, _, _, F_w_told, PySem.W.mg_of X G a_w_told, b_w_told, _, _, F_law, PySem.W.mg_of X G a_law, b_law, ⟨t_MAX_FACTOR, PySem.W.mg_of X G e_MAX_FACTOR⟩, ⟨t_MAX_FACTORS, PySem.W.mg_of X G e_MAX_FACTORS⟩, PySem.W.mg_of X G g_lcm, PySem.W.mg_none_of X G y_int, PySem.W.mg_none_of X G y_abs, PySem.W.mg_none_of X G y_len, PySem.W.mg_none_of X G y_max, PySem.W.mg_none_of X G y_min, PySem.W.mg_none_of X G y_range, PySem.W.mg_none_of X G y_isinstance, PySem.W.mg_none_of X G y_list, PySem.W.mg_none_of X G y_bool⟩ : T K mg)⟩
theorem walk {l : PySem.W.OpenLaw} {q : Program} {loose : List Str} {XP : (Str → Option Value) → Heap → Prop} {YP : World → Heap → Prop} {d : DefRec} {K : Params → PySem.W.Frag} (hn : l.most = some 63) (hdf : d.params.defaults = [])
    (hY : ∀ (w : World) (h : Heap), YP w h → (K w.params).In h)
    (F : ∀ (w : World) (mg : Str → Option Value) (fa : Addr) (h : Heap), (K w.params).In h → h.Ns mainGlobals mg → mg d.name = some (.ref fa) →
      ∃ fd : FuncData, (∀ (s : Shared) (u : Value), BindsTo s fd ⟨[u], []⟩ [("script", u)]) ∧ ∀ base : Heap, (K w.params).In base → base.Ns mainGlobals mg → FnOk l.prog w (K w.params) mg base CX0 6 fa fd ["script"] (spLaw (K w.params))) :
    PySem.W.WalkO q loose XP YP l.row.toRowW d [] (fun f vs => PySem.call f vs) :=
  L2.walk_of (n := 63) (k := 6) (x := "script") (CX := fun _ => CX0) (sp := fun w => spLaw (K w.params)) hn (by decide) hdf ⟨rfl, by decide, by decide⟩ hY F (fun _ _ a ns hl _ hS => ⟨a, ns, rfl, hS, hl, fun _ => rfl⟩) fun _ _ _ _ _ z => z
end K03
open PySem PySem.W PyProof.Rows
set_option maxRecDepth 100000 in
set_option maxHeartbeats 0 in
theorem PySem.Challenge.cw_overrounds_k03_common_multiples_holds : PySem.Challenge.rw_overrounds_k03_common_multiples.Holds := by
  w_on; o_law; k_head; (case hw => w_witness2)
  k_fill
  refine K03.walk (l := PySem.Challenge.rw_overrounds_k03_common_multiples) rfl rfl (fun w h Y => PySem.W.kIn_of Y) ?F
  case F =>
    intro w mg fa h KX G hmg
    refine' K03.all_mk KX G hmg ?a_is_integer ?l_is_integer ?k_is_integer ?p_is_integer ?a_is_between ?l_is_between ?k_is_between ?p_is_between ?a_check_between ?l_check_between ?k_check_between ?p_check_between ?a_common_multiple ?l_common_multiple ?k_common_multiple ?p_common_multiple ?a_w_reel ?l_w_reel ?k_w_reel ?p_w_reel ?a_w_spin ?l_w_spin ?k_w_spin ?p_w_spin ?a_w_pick ?l_w_pick ?k_w_pick ?p_w_pick ?a_w_few ?l_w_few ?k_w_few ?p_w_few ?a_w_least ?l_w_least ?k_w_least ?p_w_least ?a_w_told ?l_w_told ?k_w_told ?p_w_told ?a_law ?l_law ?k_law ?p_law ?e_MAX_FACTOR ?e_MAX_FACTORS ?g_lcm ?y_int ?y_abs ?y_len ?y_max ?y_min ?y_range ?y_isinstance ?y_list ?y_bool
    (case a_is_integer => k_is)
    (case l_is_integer => k_is)
    (case k_is_integer => k_is)
    (case p_is_integer => k_is)
    (case a_is_between => k_is)
    (case l_is_between => k_is)
    (case k_is_between => k_is)
    (case p_is_between => k_is)
    (case a_check_between => k_is)
    (case l_check_between => k_is)
    (case k_check_between => k_is)
    (case p_check_between => k_is)
    (case a_common_multiple => k_is)
    (case l_common_multiple => k_is)
    (case k_common_multiple => k_is)
    (case p_common_multiple => k_is)
    (case a_w_reel => k_is)
    (case l_w_reel => k_is)
    (case k_w_reel => k_is)
    (case p_w_reel => k_is)
    (case a_w_spin => k_is)
    (case l_w_spin => k_is)
    (case k_w_spin => k_is)
    (case p_w_spin => k_is)
    (case a_w_pick => k_is)
    (case l_w_pick => k_is)
    (case k_w_pick => k_is)
    (case p_w_pick => k_is)
    (case a_w_few => k_is)
    (case l_w_few => k_is)
    (case k_w_few => k_is)
    (case p_w_few => k_is)
    (case a_w_least => k_is)
    (case l_w_least => k_is)
    (case k_w_least => k_is)
    (case p_w_least => k_is)
    (case a_w_told => k_is)
    (case l_w_told => k_is)
    (case k_w_told => k_is)
    (case p_w_told => k_is)
    (case a_law => k_is)
    (case l_law => k_is)
    (case k_law => k_is)
    (case p_law => k_is)
    (case e_MAX_FACTOR => k_is)
    (case e_MAX_FACTORS => k_is)
    (case g_lcm => k_is)
    (case y_int => k_is)
    (case y_abs => k_is)
    (case y_len => k_is)
    (case y_max => k_is)
    (case y_min => k_is)
    (case y_range => k_is)
    (case y_isinstance => k_is)
    (case y_list => k_is)
    (case y_bool => k_is)
#print axioms PySem.Challenge.cw_overrounds_k03_common_multiples_holds
