import PyProof.Rows.All
import Wide.All
import OpenK.AllK
import Wide.FinOn
import HandS.ForMost
import HandS.Wide
import HandS.IsInst
import PySem.Challenge.RW_overrounds_k02_slots_and_times
set_option Elab.async false
set_option linter.all false
set_option maxRecDepth 100000
set_option maxHeartbeats 2000000
namespace K02
open PySem L2
def top (i : Nat) : Stmt := PySem.Challenge.pw_overrounds_k02_slots_and_times.main.body.getD i (.Pass ⟨0, 0, 0, 0⟩)
abbrev s_is_integer : Stmt := top 5
abbrev s_is_between : Stmt := top 6
abbrev s_check_integer : Stmt := top 7
abbrev s_check_between : Stmt := top 8
abbrev s_check_interval : Stmt := top 9
abbrev s_slot_of : Stmt := top 10
abbrev s_rounded_up : Stmt := top 11
abbrev s_times_alive : Stmt := top 12
abbrev s_w_reel : Stmt := top 14
abbrev s_w_spin : Stmt := top 15
abbrev s_w_pick : Stmt := top 16
abbrev s_w_slot : Stmt := top 17
abbrev s_w_cell_right : Stmt := top 18
abbrev s_law : Stmt := top 19
abbrev s_InvalidNumber_init : Stmt := inClass (top 1) 0
theorem sc_is_integer : FnScope ["value"] ["value"] (defScope s_is_integer) := ⟨rfl, rfl, rfl, by decide +kernel, rfl, by decide +kernel, by decide +kernel⟩
theorem sc_is_between : FnScope ["value", "low", "high"] ["value", "low", "high"] (defScope s_is_between) := ⟨rfl, rfl, rfl, by decide +kernel, rfl, by decide +kernel, by decide +kernel⟩
theorem sc_check_integer : FnScope ["value"] ["value"] (defScope s_check_integer) := ⟨rfl, rfl, rfl, by decide +kernel, rfl, by decide +kernel, by decide +kernel⟩
theorem sc_check_between : FnScope ["value", "low", "high"] ["value", "low", "high"] (defScope s_check_between) := ⟨rfl, rfl, rfl, by decide +kernel, rfl, by decide +kernel, by decide +kernel⟩
theorem sc_check_interval : FnScope ["value"] ["value"] (defScope s_check_interval) := ⟨rfl, rfl, rfl, by decide +kernel, rfl, by decide +kernel, by decide +kernel⟩
theorem sc_slot_of : FnScope ["tick", "interval"] ["tick", "interval"] (defScope s_slot_of) := ⟨rfl, rfl, rfl, by decide +kernel, rfl, by decide +kernel, by decide +kernel⟩
theorem sc_rounded_up : FnScope ["number", "slot", "interval"] ["number", "slot", "interval"] (defScope s_rounded_up) := ⟨rfl, rfl, rfl, by decide +kernel, rfl, by decide +kernel, by decide +kernel⟩
theorem sc_times_alive : FnScope ["begin", "end", "tick", "interval"] ["begin", "end", "tick", "interval"] (defScope s_times_alive) := ⟨rfl, rfl, rfl, by decide +kernel, rfl, by decide +kernel, by decide +kernel⟩
theorem sc_w_reel : FnScope ["script", "at", "cell", "great", "mixed"] ["script", "at"] (defScope s_w_reel) := ⟨rfl, rfl, rfl, by decide +kernel, rfl, by decide +kernel, by decide +kernel⟩
theorem sc_w_spin : FnScope ["reel", "total", "found", "one", "two"] ["reel", "total"] (defScope s_w_spin) := ⟨rfl, rfl, rfl, by decide +kernel, rfl, by decide +kernel, by decide +kernel⟩
theorem sc_w_pick : FnScope ["reel", "items"] ["reel", "items"] (defScope s_w_pick) := ⟨rfl, rfl, rfl, by decide +kernel, rfl, by decide +kernel, by decide +kernel⟩
theorem sc_w_slot : FnScope ["tick", "interval", "rest"] ["tick", "interval"] (defScope s_w_slot) := ⟨rfl, rfl, rfl, by decide +kernel, rfl, by decide +kernel, by decide +kernel⟩
theorem sc_w_cell_right : FnScope ["reel", "interval", "far", "tick", "other", "due", "end", "alive", "each", "slot"] ["reel"] (defScope s_w_cell_right) := ⟨rfl, rfl, rfl, by decide +kernel, rfl, by decide +kernel, by decide +kernel⟩
theorem sc_law : FnScope ["script", "at", "told"] ["script"] (defScope s_law) := ⟨rfl, rfl, rfl, by decide +kernel, rfl, by decide +kernel, by decide +kernel⟩
/-- where the defs stand, and what the names hold -/
structure T (K : PySem.W.Frag) (mg : Str → Option Value) where
  f_is_integer : Addr
  d_is_integer : FuncData
  F_is_integer : Fun K "is_integer" "is_integer" s_is_integer f_is_integer d_is_integer
  m_is_integer : mg "is_integer" = some (.ref f_is_integer)
  b_is_integer : Binds K d_is_integer ["value"] []
  f_is_between : Addr
  d_is_between : FuncData
  F_is_between : Fun K "is_between" "is_between" s_is_between f_is_between d_is_between
  m_is_between : mg "is_between" = some (.ref f_is_between)
  b_is_between : Binds K d_is_between ["value", "low", "high"] []
  f_check_integer : Addr
  d_check_integer : FuncData
  F_check_integer : Fun K "check_integer" "check_integer" s_check_integer f_check_integer d_check_integer
  m_check_integer : mg "check_integer" = some (.ref f_check_integer)
  b_check_integer : Binds K d_check_integer ["value"] []
  f_check_between : Addr
  d_check_between : FuncData
  F_check_between : Fun K "check_between" "check_between" s_check_between f_check_between d_check_between
  m_check_between : mg "check_between" = some (.ref f_check_between)
  b_check_between : Binds K d_check_between ["value", "low", "high"] []
  f_check_interval : Addr
  d_check_interval : FuncData
  F_check_interval : Fun K "check_interval" "check_interval" s_check_interval f_check_interval d_check_interval
  m_check_interval : mg "check_interval" = some (.ref f_check_interval)
  b_check_interval : Binds K d_check_interval ["value"] []
  f_slot_of : Addr
  d_slot_of : FuncData
  F_slot_of : Fun K "slot_of" "slot_of" s_slot_of f_slot_of d_slot_of
  m_slot_of : mg "slot_of" = some (.ref f_slot_of)
  b_slot_of : Binds K d_slot_of ["tick", "interval"] []
  f_rounded_up : Addr
  d_rounded_up : FuncData
  F_rounded_up : Fun K "rounded_up" "rounded_up" s_rounded_up f_rounded_up d_rounded_up
  m_rounded_up : mg "rounded_up" = some (.ref f_rounded_up)
  b_rounded_up : Binds K d_rounded_up ["number", "slot", "interval"] []
  f_times_alive : Addr
  d_times_alive : FuncData
  F_times_alive : Fun K "times_alive" "times_alive" s_times_alive f_times_alive d_times_alive
  m_times_alive : mg "times_alive" = some (.ref f_times_alive)
  b_times_alive : Binds K d_times_alive ["begin", "end", "tick", "interval"] []
  f_w_reel : Addr
  d_w_reel : FuncData
  F_w_reel : Fun K "_law_reel" "_law_reel" s_w_reel f_w_reel d_w_reel
  m_w_reel : mg "_law_reel" = some (.ref f_w_reel)
  b_w_reel : Binds K d_w_reel ["script", "at"] []
  f_w_spin : Addr
  d_w_spin : FuncData
  F_w_spin : Fun K "_law_spin" "_law_spin" s_w_spin f_w_spin d_w_spin
  m_w_spin : mg "_law_spin" = some (.ref f_w_spin)
  b_w_spin : Binds K d_w_spin ["reel", "total"] []
  f_w_pick : Addr
  d_w_pick : FuncData
  F_w_pick : Fun K "_law_pick" "_law_pick" s_w_pick f_w_pick d_w_pick
  m_w_pick : mg "_law_pick" = some (.ref f_w_pick)
  b_w_pick : Binds K d_w_pick ["reel", "items"] []
  f_w_slot : Addr
  d_w_slot : FuncData
  F_w_slot : Fun K "_law_slot" "_law_slot" s_w_slot f_w_slot d_w_slot
  m_w_slot : mg "_law_slot" = some (.ref f_w_slot)
  b_w_slot : Binds K d_w_slot ["tick", "interval"] []
  f_w_cell_right : Addr
  d_w_cell_right : FuncData
  F_w_cell_right : Fun K "_law_cell_right" "_law_cell_right" s_w_cell_right f_w_cell_right d_w_cell_right
  m_w_cell_right : mg "_law_cell_right" = some (.ref f_w_cell_right)
  b_w_cell_right : Binds K d_w_cell_right ["reel"] []
  f_law : Addr
  d_law : FuncData
  F_law : Fun K "law" "law" s_law f_law d_law
  m_law : mg "law" = some (.ref f_law)
  b_law : Binds K d_law ["script"] []
  c_MAX_INTERVAL : ∃ t, mg "MAX_INTERVAL" = some (.int 32 t)
  c_MAX_TICKS : ∃ t, mg "MAX_TICKS" = some (.int 4 t)
  z_int : mg "int" = none
  z_abs : mg "abs" = none
  z_len : mg "len" = none
  z_max : mg "max" = none
  z_min : mg "min" = none
  z_range : mg "range" = none
  z_sum : mg "sum" = none
  z_isinstance : mg "isinstance" = none
  z_bool : mg "bool" = none
/-- a list of three ints stands at r -/
def Rl (H : Hp) (r : Addr) : Prop := ∃ a b c : Int, H r = some (.lst [.int a, .int b, .int c])
/-- what the heap held, but for what stands at r -/
def Only (r : Addr) (H H' : Hp) : Prop := ∀ b o, b ≠ r → H b = some o → H' b = some o
theorem Only.refl {r : Addr} {H : Hp} : Only r H H := fun _ _ _ e => e
theorem Only.trans {r : Addr} {H H1 H2 : Hp} (a : Only r H H1) (b : Only r H1 H2) : Only r H H2 := fun c o n e => b c o n (a c o n e)
theorem Only.upd {r : Addr} {H : Hp} {o : HO} : Only r H (upd H r o) := fun b _ n e => by rw [upd_ne n]; exact e
theorem Only.new {r p : Addr} {H : Hp} {o : HO} (n : H p = none) : Only r H (L2.upd H p o) := fun b _ _ e => by rw [upd_ne (ne_of_none e n)]; exact e
theorem Rl.new {r p : Addr} {H : Hp} {o : HO} (h : Rl H r) (n : H p = none) : Rl (upd H p o) r := by
  obtain ⟨a, b, c, e⟩ := h
  exact ⟨a, b, c, by rw [upd_ne (ne_of_none e n)]; exact e⟩
theorem Rl.ne {r p : Addr} {H : Hp} (h : Rl H r) (n : H p = none) : p ≠ r := by
  obtain ⟨a, b, c, e⟩ := h
  exact (ne_of_none e n).symm
theorem Only.seqL {K : PySem.W.Frag} {r l : Addr} {H H' : Hp} {xs : List V} (o : Only r H H') (n : l ≠ r) (h : SqL K H l xs) : SqL K H' l xs := by
  rcases h with (h | ⟨u, h⟩) | h
  · exact .inl (.inl (o _ _ n h))
  · exact .inl (.inr ⟨u, o _ _ n h⟩)
  · exact .inr h
theorem Only.seqT {K : PySem.W.Frag} {r l : Addr} {H H' : Hp} {xs : List V} (o : Only r H H') (n : l ≠ r) (h : SqT K H l xs) : SqT K H' l xs := by
  rcases h with (h | ⟨u, h⟩) | h
  · exact .inl (.inl (o _ _ n h))
  · exact .inl (.inr ⟨u, o _ _ n h⟩)
  · exact .inr h
theorem ix_at {α : Type} {xs : List α} {i : Int} (h0 : 0 ≤ i) (h1 : i < xs.length) : ∃ v, v ∈ xs ∧ atI xs i = some v := by
  have h2 : i.toNat < xs.length := by omega
  refine ⟨xs[i.toNat], List.getElem_mem h2, ?_⟩
  have h3 : ((i.toNat : Nat) : Int) = i := Int.toNat_of_nonneg h0
  have := atI_nat (xs := xs) (j := i.toNat) (List.getElem?_eq_getElem h2)
  rw [h3] at this
  exact this
/-- what a draw is made from: a list, a tuple, a text -/
def SeqV (K : PySem.W.Frag) (H : Hp) (r : Addr) (x : V) (xs : List V) : Prop :=
  (∃ l, x = .ref l ∧ l ≠ r ∧ (SqL K H l xs ∨ SqT K H l xs)) ∨ (∃ z : Str, x = .str z ∧ z.length ≤ sizeLine ∧ xs = z.cps.toList.map fun c => V.str ⟨#[c]⟩)
theorem lg {i : Int} {b : Nat} (h0 : 0 ≤ i) (h : i < 2 ^ b) (hb : 0 < b) : i.natAbs.log2 < b := by
  refine PySem.Flt.log2_lt_of hb ?_
  have : (i.natAbs : Int) = i := Int.natAbs_of_nonneg h0
  have h2 : ((i.natAbs : Nat) : Int) < ((2 ^ b : Nat) : Int) := by rw [this, Int.natCast_pow]; exact h
  exact Int.ofNat_lt.mp h2
section
variable {X : Cx}
theorem op_powW : OpR X (binaryOp .Pow) (rI (fun i j => 0 ≤ j ∧ (Builtin.Int.intBits i : Int) * j ≤ 2 ^ 27) fun i j => .int (i ^ j.toNat)) := opI fun _ _ _ _ _ _ _ hc q => PyProof.Rows.pow_int hc.1 hc.2 q
end
theorem ite_join {c : Bool} {ta tb : TE} {σ : St} {H : Hp} {Q : VK} (R : V → Hp → Prop) (ha : c = true → ∀ Q' : VK, (∀ v H', R v H' → Q' v H') → ta σ H Q') (hb : c = false → ∀ Q' : VK, (∀ v H', R v H' → Q' v H') → tb σ H Q')
    (h : ∀ v H', R v H' → Q v H') : if c = true then ta σ H Q else tb σ H Q := by
  cases c with
  | true => exact iteT (ha rfl Q h)
  | false => exact iteF (hb rfl Q h)
theorem at_ns {ns : List Int} {i : Nat} (h : i < ns.length) : ∃ z, atI (ns.map V.int) (i : Int) = some (.int z) :=
  ⟨ns[i], atI_nat (by rw [List.getElem?_map, List.getElem?_eq_getElem h]; rfl)⟩
theorem bl_t {Q : VK} {b : Bool} {H : Hp} (e : b = true) (k : Q (.bl true) H) : Q (.bl b) H := e ▸ k
theorem int_to {Q : VK} {i j : Int} {H : Hp} (e : i = j) (k : Q (.int j) H) : Q (.int i) H := e ▸ k
theorem slot_pos {t m : Int} (h : 0 ≤ t) : (if t < 0 then -t else t) - (if t < 0 then -t else t) / m * m = t % m := by
  rw [if_neg (by omega)]
  have := Int.mul_ediv_add_emod t m
  rw [Int.mul_comm] at this
  omega
theorem slot_neg0 {t m : Int} (hm : 0 < m) (h : ¬ 0 ≤ t) (e : (if t < 0 then -t else t) - (if t < 0 then -t else t) / m * m = 0) : (if t < 0 then -t else t) - (if t < 0 then -t else t) / m * m = t % m := by
  rw [e]
  rw [if_pos (by omega)] at e
  have h1 : -t = (-t / m) * m := by omega
  have h2 : m ∣ t := ⟨-(-t / m), by rw [Int.mul_neg, Int.mul_comm]; omega⟩
  exact (Int.emod_eq_zero_of_dvd h2).symm
theorem slot_neg1 {t m : Int} (hm : 0 < m) (h : ¬ 0 ≤ t) (e : ¬ (if t < 0 then -t else t) - (if t < 0 then -t else t) / m * m = 0) : m - ((if t < 0 then -t else t) - (if t < 0 then -t else t) / m * m) = t % m := by
  rw [if_pos (by omega)] at e ⊢
  have h1 := Int.mul_ediv_add_emod (-t) m
  rw [Int.mul_comm] at h1
  have h2 := Int.emod_nonneg (-t) (show m ≠ 0 by omega)
  have h3 := Int.emod_lt_of_pos (-t) hm
  have h4 : (-t) - (-t) / m * m = (-t) % m := by omega
  rw [h4] at e ⊢
  have h5 : t = (m - (-t) % m) + m * (-(-t / m) - 1) := by rw [Int.mul_sub, Int.mul_neg, Int.mul_comm m (-t / m), Int.mul_one]; omega
  have h6 : t % m = (m - (-t) % m) % m := by
    conv => lhs; rw [h5]
    rw [Int.add_mul_emod_self_left]
  rw [h6, Int.emod_eq_of_lt (a := m - -t % m) (b := m) (by omega) (by omega)]
theorem emod_eq_mul {a b m : Int} (h : a % m = b % m) : b - a = m * (b / m - a / m) := by
  have h1 := Int.mul_ediv_add_emod a m
  have h2 := Int.mul_ediv_add_emod b m
  rw [Int.mul_sub]
  omega
theorem mul_small {m x : Int} (hm : 0 < m) (h0 : -m < m * x) (h1 : m * x < m) : x = 0 := by
  have h2 : -1 < x := by
    refine Int.lt_of_mul_lt_mul_left (a := m) ?_ (by omega)
    rw [Int.mul_neg, Int.mul_one]
    exact h0
  have h3 : x < 1 := by
    refine Int.lt_of_mul_lt_mul_left (a := m) ?_ (by omega)
    rw [Int.mul_one]
    exact h1
  omega
/-- the first step with the slot is the round up -/
theorem first_slot {t o m j : Int} (hm : 0 < m) (h0 : 0 ≤ j) (h1 : j ≤ (o - t) % m) (e : (t + j) % m = o % m) : j = (o - t) % m := by
  have h2 := Int.mul_ediv_add_emod (o - t) m
  have h3 := Int.emod_lt_of_pos (o - t) hm
  have h4 := emod_eq_mul e
  have h5 : (o - t) % m - j = m * (o / m - (t + j) / m - (o - t) / m) := by
    rw [Int.mul_sub, ← h4]
    omega
  have h6 := mul_small hm (x := o / m - (t + j) / m - (o - t) / m) (by omega) (by omega)
  rw [h6, Int.mul_zero] at h5
  omega
theorem at_slot {t o m : Int} (hm : 0 < m) : (t + (o - t) % m) % m = o % m := by
  rw [Int.add_emod_emod]
  congr 1
  omega
theorem slot_done {t o m : Int} (e : t % m = o % m) : t + (o - t) % m = t := by
  have h := emod_eq_mul e
  rw [h, Int.mul_emod_right]
  omega
theorem step_div {m : Int} (hm : 0 < m) (y : Int) : y / m - (y - 1) / m = if y % m = 0 then 1 else 0 := by
  have h1 := Int.mul_ediv_add_emod y m
  have h2 := Int.emod_nonneg y (show m ≠ 0 by omega)
  have h3 := Int.emod_lt_of_pos y hm
  have h4 := Int.mul_ediv_add_emod (y - 1) m
  have h5 := Int.emod_nonneg (y - 1) (show m ≠ 0 by omega)
  have h6 := Int.emod_lt_of_pos (y - 1) hm
  have h7 : m * (y / m - (y - 1) / m) = 1 + (y - 1) % m - y % m := by rw [Int.mul_sub]; omega
  by_cases e : y % m = 0
  · rw [if_pos e]
    have h8 : m * (y / m - (y - 1) / m - 1) = 1 + (y - 1) % m - y % m - m := by rw [Int.mul_sub, h7, Int.mul_one]
    have := mul_small hm (x := y / m - (y - 1) / m - 1) (by omega) (by omega)
    omega
  · rw [if_neg e]
    exact mul_small hm (by omega) (by omega)
theorem neg_emod0 {y m : Int} : (-y) % m = 0 ↔ y % m = 0 := by
  constructor
  · intro h
    have := Int.dvd_of_emod_eq_zero h
    exact Int.emod_eq_zero_of_dvd ((Int.dvd_neg).mp this)
  · intro h
    have := Int.dvd_of_emod_eq_zero h
    exact Int.emod_eq_zero_of_dvd ((Int.dvd_neg).mpr this)
/-- the ints of the span that have the slot -/
def alv (t o m : Int) (n : Nat) : List Int := ((List.range n).map fun (i : Nat) => t + (i : Int)).filter fun x => decide ((x - o) % m = 0)
theorem alv_succ (t o m : Int) (n : Nat) : alv t o m (n + 1) = alv t o m n ++ (if (t + (n : Int) - o) % m = 0 then [t + (n : Int)] else []) := by
  unfold alv
  rw [List.range_succ, List.map_append, List.filter_append, List.map_singleton, List.filter_cons, List.filter_nil]
  by_cases e : (t + (n : Int) - o) % m = 0
  · rw [if_pos e, decide_eq_true e]; rfl
  · rw [if_neg e, decide_eq_false e]; rfl
theorem alv_len {t o m : Int} (hm : 0 < m) : ∀ n : Nat, ((alv t o m n).length : Int) = (o - t) / m - (o - (t + (n : Int))) / m
  | 0 => by
    show ((0 : Nat) : Int) = _
    rw [show t + ((0 : Nat) : Int) = t by omega]
    omega
  | n + 1 => by
    have ih := alv_len hm (t := t) (o := o) n
    have h := step_div hm (o - (t + (n : Int)))
    rw [alv_succ, List.length_append]
    have h2 : (t + (n : Int) - o) % m = 0 ↔ (o - (t + (n : Int))) % m = 0 := by
      rw [← neg_emod0, show -(t + (n : Int) - o) = o - (t + (n : Int)) by omega]
    have h3 : o - (t + (n : Int)) - 1 = o - (t + ((n + 1 : Nat) : Int)) := by omega
    rw [h3] at h
    by_cases e : (t + (n : Int) - o) % m = 0
    · rw [if_pos e]
      rw [if_pos (h2.mp e)] at h
      rw [List.length_singleton]
      omega
    · rw [if_neg e]
      rw [if_neg (fun z => e (h2.mpr z))] at h
      rw [List.length_nil]
      omega
/-- how often each slot is alive -/
def per (a b m : Int) (n : Nat) : List Int := (List.range n).map fun (s : Nat) => ((s : Int) - a) / m - ((s : Int) - b) / m
theorem per_succ (a b m : Int) (n : Nat) : per a b m (n + 1) = per a b m n ++ [((n : Int) - a) / m - ((n : Int) - b) / m] := by
  unfold per
  rw [List.range_succ, List.map_append, List.map_singleton]
theorem sum_one {m : Int} (hm : 0 < m) (a : Int) : ∀ n : Nat, (n : Int) ≤ m → (per a (a + 1) m n).sum = if a % m < n then 1 else 0
  | 0, _ => by
    rw [if_neg (by have := Int.emod_nonneg a (show m ≠ 0 by omega); omega)]
    rfl
  | n + 1, h => by
    have ih := sum_one hm a n (by omega)
    rw [per_succ, List.sum_append, ih, List.sum_singleton]
    have h1 := step_div hm ((n : Int) - a)
    rw [show (n : Int) - a - 1 = (n : Int) - (a + 1) by omega] at h1
    rw [h1]
    have h2 : ((n : Int) - a) % m = 0 ↔ a % m = n := by
      constructor
      · intro z
        have e : ((n : Int) - a) % m = 0 % m := by rw [z, Int.zero_emod]
        have e2 := Int.emod_eq_emod_iff_emod_sub_eq_zero.mpr (show ((n : Int) - a) % m = 0 from z)
        rw [Int.emod_eq_of_lt (by omega) (by omega)] at e2
        exact e2.symm
      · intro z
        have e : (n : Int) % m = a % m := by rw [Int.emod_eq_of_lt (by omega) (by omega), z]
        exact Int.emod_eq_emod_iff_emod_sub_eq_zero.mp e
    by_cases e : a % m = n
    · rw [if_pos (h2.mpr e), if_neg (by omega), if_pos (by omega)]; rfl
    · rw [if_neg (fun z => e (h2.mp z))]
      by_cases e2 : a % m < n
      · rw [if_pos e2, if_pos (by omega)]; rfl
      · rw [if_neg e2, if_neg (by omega)]; rfl
theorem per_add (a b c m : Int) : ∀ n : Nat, (per a c m n).sum = (per a b m n).sum + (per b c m n).sum
  | 0 => rfl
  | n + 1 => by
    have ih := per_add a b c m n
    rw [per_succ, per_succ, per_succ, List.sum_append, List.sum_append, List.sum_append, ih, List.sum_singleton, List.sum_singleton, List.sum_singleton]
    omega
theorem per_self (a m : Int) : ∀ n : Nat, (per a a m n).sum = 0
  | 0 => rfl
  | n + 1 => by
    rw [per_succ, List.sum_append, per_self a m n, List.sum_singleton]
    omega
theorem per_sum {m : Int} (hm : 0 < m) {k : Nat} (hk : (k : Int) = m) (a : Int) : ∀ n : Nat, (per a (a + (n : Int)) m k).sum = n
  | 0 => by
    rw [show a + ((0 : Nat) : Int) = a by omega]
    exact per_self a m k
  | n + 1 => by
    have ih := per_sum hm hk a n
    have h1 := sum_one hm (a + (n : Int)) k (by omega)
    rw [if_pos (by have := Int.emod_lt_of_pos (a + (n : Int)) hm; omega)] at h1
    rw [per_add a (a + (n : Int)) _ m k, ih, show a + ((n + 1 : Nat) : Int) = a + (n : Int) + 1 by omega, h1]
    omega
theorem if_ne {x y : V} {A B : Prop} (h : x ≠ y) (a : A) : if (!decide (x = y)) = true then A else B := by
  rw [decide_eq_false h]
  exact iteT a
theorem if_dec_t {x y : V} {A B : Prop} (h : x = y) (a : A) : if decide (x = y) = true then A else B := by
  rw [decide_eq_true h]
  exact iteT a
theorem if_dec_f {x y : V} {A B : Prop} (h : x ≠ y) (b : B) : if decide (x = y) = true then A else B := by
  rw [decide_eq_false h]
  exact iteF b
theorem alv_le (t o m : Int) (n : Nat) : (alv t o m n).length ≤ n := by
  unfold alv
  refine Nat.le_trans (List.length_filter_le ..) ?_
  rw [List.length_map, List.length_range]
  exact Nat.le_refl _
theorem per_len (a b m : Int) (n : Nat) : (per a b m n).length = n := by
  unfold per
  rw [List.length_map, List.length_range]
theorem dp_all {K : PySem.W.Frag} {H : Hp} : ∀ ns : List Int, DpAll K H (ns.map V.int) (ns.map PyData.int)
  | [] => .nil
  | n :: r => .cons (.int n) (dp_all r)
theorem dp_ints {K : PySem.W.Frag} {H : Hp} {a : Addr} (ns : List Int) (h : SqL K H a (ns.map V.int)) : Dp K H (.ref a) (.list (ns.map PyData.int)) := .lst h (dp_all ns)
theorem cells_n (n m : Nat) : ((if (if ((n : Nat) : Int) < (m : Int) then ((n : Nat) : Int) else (m : Int)) > 1 then (if ((n : Nat) : Int) < (m : Int) then ((n : Nat) : Int) else (m : Int)) else 1) : Int) ≤ (m : Int) + 1 ∧ 1 ≤ ((if (if ((n : Nat) : Int) < (m : Int) then ((n : Nat) : Int) else (m : Int)) > 1 then (if ((n : Nat) : Int) < (m : Int) then ((n : Nat) : Int) else (m : Int)) else 1) : Int) := by
  split <;> split <;> omega

section
variable {P : Program} {w : World} {K : PySem.W.Frag} {mg : Str → Option Value} {base : Heap}
def sp_w_reel (K : PySem.W.Frag) : Sp := fun vs H Q _ => ∃ (s : Addr) (ns : List Int) (i : Nat), vs = [.ref s, .int (i : Int)] ∧ SqL K H s (ns.map V.int) ∧ ∀ p a b c, H p = none → Q (.ref p) (upd H p (.lst [.int a, .int b, .int c]))
theorem ok_w_reel (T : T K mg) : FnOk P w K mg base CX0 1 T.f_w_reel T.d_w_reel ["script", "at"] (sp_w_reel K) := by
  refine T.F_w_reel.ok sc_w_reel (fun vs H Q E h => ?_) (fun cdv A outer s H vs Q E hr h => ?_)
  · obtain ⟨s, ns, i, rfl, _⟩ := h
    rfl
  · obtain ⟨s, ns, i, rfl, hS, k⟩ := h
    have hu := hu_of hr
    refine ⟨_, (pss_cons (ps_set (i := 2) sc_w_reel.nd rfl (Or.inl rfl) (pe_ifExp (pt_cmpR op_lt (pv 1) (pe_callB call_len (by rfl) T.z_len (by decide +kernel) (pa_cons (pv 0) pa_nil)) (nomark _)) (pe_ix ix_seq (pv 0) (pv 1) (fun _ _ => rfl)) (pe_op op_add (pe_op op_mul pe_int (pv 1)) pe_int)))
      (pss_cons (ps_set (i := 3) sc_w_reel.nd rfl (Or.inl rfl) (pe_op op_mod (pe_callTy call_int1 (by rfl) T.z_int (by decide +kernel) (pa_cons (pe_callB call_abs (by rfl) T.z_abs (by decide +kernel) (pa_cons (pv 2) pa_nil)) pa_nil)) (pe_op op_powW (pe_op op_pow pe_int pe_int) pe_int)))
      (pss_cons (ps_set (i := 4) sc_w_reel.nd rfl (Or.inl rfl) (pe_op op_add (pe_op op_add (pe_op op_add (pe_op op_mul (pe_op op_mod (pe_callTy call_int1 (by rfl) T.z_int (by decide +kernel) (pa_cons (pv 3) pa_nil)) pe_int) pe_int) (pe_op op_mul pe_int (pv 1))) (pe_op op_mul pe_int (pe_callTy call_int1 (by rfl) T.z_int (by decide +kernel) (pa_cons (pe_cmpR op_lt (pv 2) pe_int (nomark _)) pa_nil)))) pe_int))
      (pss_one (ps_ret (pe_lst (pa_cons (pe_callB (call_max2 rfl) (by rfl) T.z_max (by decide +kernel) (pa_cons pe_int (pa_cons (pe_op op_sub (pv 3) (pe_op op_pow pe_int pe_int)) pa_nil))) (pa_cons (pe_op op_mod (pe_callTy call_int1 (by rfl) T.z_int (by decide +kernel) (pa_cons (pv 4) pa_nil)) pe_int) (pa_cons pe_int pa_nil))))))))), ?_⟩
    refine ⟨_, rfl, _, rfl, _, _, rfl, .inl ⟨_, hS, rfl⟩, _, _, rfl, rfl, _, rfl, ?_⟩
    refine ite_join (fun v H' => H' = H ∧ ∃ z, v = .int z) (fun c Q' q => ?_) (fun c Q' q => ?_) ?_
    · have hi := of_decide_eq_true c
      rw [List.length_map] at hi
      obtain ⟨z, hz⟩ := at_ns (ns := ns) (i := i) (by omega)
      exact ⟨_, rfl, _, rfl, .inl ⟨_, _, _, _, rfl, rfl, hS, hz, q _ _ ⟨rfl, z, rfl⟩⟩⟩
    · exact ⟨_, rfl, _, _, rfl, rfl, .inl ⟨by decide, by decide⟩, _, _, rfl, rfl, q _ _ ⟨rfl, _, rfl⟩⟩
    rintro v H' ⟨rfl, z, rfl⟩
    refine ⟨_, rfl, _, rfl, .inl ⟨_, rfl, ?_⟩⟩
    refine ⟨_, _, rfl, rfl, ⟨by decide, by decide, by decide⟩, _, _, rfl, rfl, ⟨by decide, by decide +kernel⟩, _, _, rfl, rfl, (by show (0 : Int) < _; decide +kernel), ?_⟩
    refine ⟨_, rfl, .inl ⟨_, rfl, ?_⟩⟩
    refine ⟨_, _, rfl, rfl, (by show (0 : Int) < _; decide), _, _, rfl, rfl, .inr ⟨by decide, by decide⟩, _, rfl, _, _, rfl, rfl, .inl ⟨by decide, by decide⟩, _, _, rfl, rfl, ?_⟩
    refine ⟨_, rfl, _, _, rfl, rfl, .inr ⟨_, rfl, ?_⟩⟩
    refine ⟨_, _, rfl, rfl, .inl ⟨by decide, by decide⟩, _, _, rfl, rfl, _, _, rfl, rfl, ?_⟩
    refine ⟨_, rfl, _, _, rfl, rfl, ⟨by decide, by decide, by decide⟩, _, _, rfl, rfl, _, _, rfl, _, rfl, .inl ⟨_, rfl, ?_⟩⟩
    refine ⟨_, _, rfl, rfl, (by show (0 : Int) < _; decide), (by show 3 ≤ sizeLine; decide), fun p hp => ?_⟩
    exact k p _ _ _ hp
def sp_w_spin (K : PySem.W.Frag) : Sp := fun vs H Q _ => ∃ (r : Addr) (n : Int), vs = [.ref r, .int n] ∧ Rl H r ∧ 0 < n ∧ n.natAbs.log2 < 9000 ∧ ∀ v H', 0 ≤ v → v < n → Rl H' r → Only r H H' → Q (.int v) H'
theorem ok_w_spin (T : T K mg) : FnOk P w K mg base CX0 1 T.f_w_spin T.d_w_spin ["reel", "total"] (sp_w_spin K) := by
  refine T.F_w_spin.ok sc_w_spin (fun vs H Q E h => ?_) (fun cdv A outer s H vs Q E hr h => ?_)
  · obtain ⟨r, n, rfl, _⟩ := h
    rfl
  · obtain ⟨r, n, rfl, ⟨a, b, c, e⟩, h0, h9, k⟩ := h
    have hu := hu_of hr
    refine ⟨_, (pss_cons (ps_if (pt_cmpR op_gt (pe_ix ix_seq (pv 0) pe_int (fun _ _ => rfl)) pe_int (nomark _))
      (pss_cons (ps_set (i := 2) sc_w_spin.nd rfl (Or.inl rfl) (pe_op op_mod (pe_callTy call_int1 (by rfl) T.z_int (by decide +kernel) (pa_cons (pe_ix ix_seq (pv 0) pe_int (fun _ _ => rfl)) pa_nil)) (pv 1)))
      (pss_cons (ps_asg (pe_op op_fdivW (pe_ix ix_seq (pv 0) pe_int (fun _ _ => rfl)) (pv 1)) (pg_sub (pv 0) pe_int set_list))
      (pss_one (ps_ret (pv 2)))))
      pss_nil)
      (pss_cons (ps_asg (pe_op op_add (pe_ix ix_seq (pv 0) pe_int (fun _ _ => rfl)) pe_int) (pg_sub (pv 0) pe_int set_list))
      (pss_cons (ps_set (i := 3) sc_w_spin.nd rfl (Or.inl rfl) (pe_op op_mod (pe_callTy call_int1 (by rfl) T.z_int (by decide +kernel) (pa_cons (pe_op op_add (pe_ix ix_seq (pv 0) pe_int (fun _ _ => rfl)) (pe_op op_mul pe_int (pe_ix ix_seq (pv 0) pe_int (fun _ _ => rfl)))) pa_nil)) pe_int))
      (pss_cons (ps_set (i := 4) sc_w_spin.nd rfl (Or.inl rfl) (pe_op op_add (pe_op op_mul (pe_op op_mod (pe_callTy call_int1 (by rfl) T.z_int (by decide +kernel) (pa_cons (pe_op op_mul (pv 3) (pv 3)) pa_nil)) pe_int) (pv 3)) (pe_op op_mul pe_int (pe_ix ix_seq (pv 0) pe_int (fun _ _ => rfl)))))
      (pss_cons (ps_set (i := 4) sc_w_spin.nd rfl (Or.inl rfl) (pe_op op_mod (pe_callTy call_int1 (by rfl) T.z_int (by decide +kernel) (pa_cons (pv 4) pa_nil)) pe_int))
      (pss_one (ps_ret (pe_op op_mod (pe_callTy call_int1 (by rfl) T.z_int (by decide +kernel) (pa_cons (pe_op op_fdivW (pv 4) pe_int) pa_nil)) (pv 1))))))))), ?_⟩
    have u3 : ∀ {x y z : V} {G : Hp}, G r = some (.lst [x, y, z]) → SqL K G r [x, y, z] := fun g => SqL.of g
    refine ⟨_, rfl, .inl ⟨_, _, _, _, rfl, rfl, u3 e, rfl, ?_⟩⟩
    refine ⟨_, _, rfl, rfl, _, rfl, ?_⟩
    refine ite2 (fun c1 => ?_) (fun c1 => ?_)
    · refine ⟨_, rfl, .inl ⟨_, _, _, _, rfl, rfl, u3 e, rfl, .inl ⟨_, rfl, ?_⟩⟩⟩
      refine ⟨_, rfl, _, _, rfl, rfl, h0, ?_⟩
      refine ⟨_, rfl, .inl ⟨_, _, _, _, rfl, rfl, u3 e, rfl, ?_⟩⟩
      refine ⟨_, rfl, _, _, rfl, rfl, ⟨h0, h9⟩, _, rfl, _, _, _, 0, rfl, rfl, e, rfl, ?_⟩
      refine ⟨_, rfl, ?_⟩
      exact k _ _ (Int.emod_nonneg _ (by omega)) (Int.emod_lt_of_pos _ h0) ⟨_, _, _, upd_same⟩ Only.upd
    · refine ⟨_, rfl, .inl ⟨_, _, _, _, rfl, rfl, u3 e, rfl, ?_⟩⟩
      refine ⟨_, _, rfl, rfl, _, rfl, _, _, _, 2, rfl, rfl, e, rfl, ?_⟩
      have e2 : (upd H r (.lst [.int a, .int b, .int (c + 1)])) r = some (.lst [.int a, .int b, .int (c + 1)]) := upd_same
      refine ⟨_, rfl, .inl ⟨_, _, _, _, rfl, rfl, u3 e2, rfl, ?_⟩⟩
      refine ⟨_, rfl, .inl ⟨_, _, _, _, rfl, rfl, u3 e2, rfl, ?_⟩⟩
      refine ⟨_, _, rfl, rfl, .inl ⟨by decide, by decide⟩, _, _, rfl, rfl, .inl ⟨_, rfl, ?_⟩⟩
      refine ⟨_, _, rfl, rfl, (by show (0 : Int) < _; decide), ?_⟩
      have o1 : -(2 ^ 64) < (b + 1000303 * (c + 1)) % 2305843009213693951 ∧ (b + 1000303 * (c + 1)) % 2305843009213693951 < 2 ^ 64 := by omega
      refine ⟨_, rfl, _, rfl, _, _, rfl, rfl, .inl o1, .inl ⟨_, rfl, ?_⟩⟩
      refine ⟨_, _, rfl, rfl, (by show (0 : Int) < _; decide), _, rfl, _, _, rfl, rfl, .inr o1, ?_⟩
      refine ⟨_, rfl, .inl ⟨_, _, _, _, rfl, rfl, u3 e2, rfl, ?_⟩⟩
      refine ⟨_, _, rfl, rfl, .inl ⟨by decide, by decide⟩, _, _, rfl, rfl, ?_⟩
      refine ⟨_, rfl, .inl ⟨_, rfl, ?_⟩⟩
      refine ⟨_, _, rfl, rfl, (by show (0 : Int) < _; decide), ?_⟩
      refine ⟨_, rfl, _, _, rfl, rfl, ⟨by decide, by decide⟩, .inl ⟨_, rfl, ?_⟩⟩
      refine ⟨_, rfl, _, _, rfl, rfl, h0, ?_⟩
      exact k _ _ (Int.emod_nonneg _ (by omega)) (Int.emod_lt_of_pos _ h0) ⟨_, _, _, e2⟩ Only.upd
def sp_w_pick (K : PySem.W.Frag) : Sp := fun vs H Q _ => ∃ (r : Addr) (x : V) (xs : List V), vs = [.ref r, x] ∧ Rl H r ∧ SeqV K H r x xs ∧ 0 < xs.length ∧ xs.length ≤ sizeLine ∧ ∀ v H', v ∈ xs → Rl H' r → Only r H H' → Q v H'
theorem ok_w_pick (T : T K mg) : FnOk P w K mg base CX0 2 T.f_w_pick T.d_w_pick ["reel", "items"] (sp_w_pick K) := by
  have G_w_spin : FnOk P w K mg base CX0 1 T.f_w_spin T.d_w_spin ["reel", "total"] (sp_w_spin K) := ok_w_spin T
  refine T.F_w_pick.ok sc_w_pick (fun vs H Q E h => ?_) (fun cdv A outer s H vs Q E hr h => ?_)
  · obtain ⟨r, x, xs, rfl, _⟩ := h
    rfl
  · obtain ⟨r, x, xs, rfl, hR, hx, h0, h1, k⟩ := h
    have hu := hu_of hr
    have hr_w_spin : Room 1 _ := hr.mono (by decide)
    refine ⟨_, (pss_one (ps_ret (pe_ix ix_seq (pv 1) (pe_call G_w_spin hr_w_spin rfl T.m_w_spin T.F_w_spin.kp T.b_w_spin .nil pass0 (pa_cons (pv 0) (pa_cons (pe_callB call_len (by rfl) T.z_len (by decide +kernel) (pa_cons (pv 1) pa_nil)) pa_nil))) (fun _ _ => rfl)))), ?_⟩
    have hl : (xs.length : Int).natAbs.log2 < 9000 := by
      have : xs.length < 2 ^ 63 := Nat.lt_of_le_of_lt h1 (by decide)
      exact Nat.lt_trans (lg (b := 63) (by omega) (by omega) (by decide)) (by decide)
    refine ⟨_, rfl, _, rfl, _, rfl, x, xs.length, rfl, ?_, ?_⟩
    · rcases hx with ⟨l, rfl, hn, h | h⟩ | ⟨z, rfl, hz, rfl⟩
      · exact .inl ⟨_, h, rfl⟩
      · exact .inr ⟨_, h, rfl⟩
      · exact ⟨hz, by rw [List.length_map]; rfl⟩
    refine ⟨r, _, rfl, hR, by omega, hl, fun v H' v0 v1 R' O' => ?_⟩
    obtain ⟨y, hy, ha⟩ := ix_at v0 v1
    rcases hx with ⟨l, rfl, hn, h | h⟩ | ⟨z, rfl, hz, rfl⟩
    · exact .inl ⟨_, _, _, _, rfl, rfl, O'.seqL hn h, ha, k _ _ hy R' O'⟩
    · exact .inr (.inl ⟨_, _, _, _, rfl, rfl, O'.seqT hn h, ha, k _ _ hy R' O'⟩)
    · obtain ⟨i, hi⟩ : ∃ c, atI z.cps.toList v = some c := by
        unfold atI at ha ⊢
        rw [List.length_map] at ha
        cases e : ixN z.cps.toList.length v with
        | none => rw [e] at ha; cases ha
        | some j =>
          rw [e] at ha
          simp only [Option.bind_some] at ha ⊢
          rw [List.getElem?_map] at ha
          cases e2 : z.cps.toList[j]? with
          | none => rw [e2] at ha; cases ha
          | some c => exact ⟨c, rfl⟩
      have hc : i ∈ z.cps.toList := by
        unfold atI at hi
        cases e : ixN z.cps.toList.length v with
        | none => rw [e] at hi; cases hi
        | some j => rw [e] at hi; exact List.mem_of_getElem? hi
      exact .inr (.inr ⟨_, _, _, rfl, rfl, hz, hi, k _ _ (List.mem_map.mpr ⟨i, hc, rfl⟩) R' O'⟩)
def sp_is_integer (K : PySem.W.Frag) : Sp := fun vs H Q _ => ∃ n : Int, vs = [.int n] ∧ -1000000000000 < n ∧ n < 1000000000000 ∧ Q (.bl true) H
theorem ok_is_integer (T : T K mg) : FnOk P w K mg base CX0 1 T.f_is_integer T.d_is_integer ["value"] (sp_is_integer K) := by
  refine T.F_is_integer.ok sc_is_integer (fun vs H Q E h => ?_) (fun cdv A outer s H vs Q E hr h => ?_)
  · obtain ⟨n, rfl, _⟩ := h
    rfl
  · obtain ⟨n, rfl, h1, h2, k⟩ := h
    have hu := hu_of hr
    refine ⟨_, (pss_cons (ps_if (PW.pt (pw_or (pt_not (pt_val (pe_callB call_isi (by rfl) T.z_isinstance (by decide +kernel) (pa_cons (pv 0) (pa_cons (pe_bltn (v := V.ty "int") (u := Value.type "int") (by rfl) T.z_int (by decide +kernel) rfl) pa_nil))))) (pw_or1 (pt_val (pe_callB call_isi (by rfl) T.z_isinstance (by decide +kernel) (pa_cons (pv 0) (pa_cons (pe_bltn (v := V.ty "bool") (u := Value.type "bool") (by rfl) T.z_bool (by decide +kernel) rfl) pa_nil)))))))
      (pss_one (ps_ret pe_bl))
      pss_nil)
      (pss_one (ps_ret (pe_chain op_lt op_lt (pe_un un_neg (pe_op op_pow pe_int pe_int)) (pv 0) (pe_op op_pow pe_int pe_int))))), ?_⟩
    refine ⟨_, rfl, _, _, _, _, true, rfl, .ty _, .base (.int _), kit_ty (by decide +kernel), _, rfl, iteF ?_⟩
    refine ⟨_, rfl, _, _, _, _, false, rfl, .ty _, .base (.int _), kit_ty (by decide +kernel), _, rfl, iteF ?_⟩
    refine ⟨_, _, rfl, rfl, ⟨by decide, by decide, by decide⟩, _, rfl, _, rfl, _, _, rfl, rfl, _, rfl, ?_⟩
    refine ite2 (fun _ => ?_) (fun c => absurd (decide_eq_true (show -(10 ^ Int.toNat 12) < n from h1)) c)
    refine ⟨_, _, rfl, rfl, ⟨by decide, by decide, by decide⟩, _, _, rfl, rfl, ?_⟩
    exact bl_t (decide_eq_true (show n < 10 ^ Int.toNat 12 from h2)) k
def sp_is_between (K : PySem.W.Frag) : Sp := fun vs H Q _ => ∃ n lo hi : Int, vs = [.int n, .int lo, .int hi] ∧ -1000000000000 < n ∧ n < 1000000000000 ∧ lo ≤ n ∧ n ≤ hi ∧ Q (.bl true) H
theorem ok_is_between (T : T K mg) : FnOk P w K mg base CX0 2 T.f_is_between T.d_is_between ["value", "low", "high"] (sp_is_between K) := by
  have G_is_integer : FnOk P w K mg base CX0 1 T.f_is_integer T.d_is_integer ["value"] (sp_is_integer K) := ok_is_integer T
  refine T.F_is_between.ok sc_is_between (fun vs H Q E h => ?_) (fun cdv A outer s H vs Q E hr h => ?_)
  · obtain ⟨n, lo, hi, rfl, _⟩ := h
    rfl
  · obtain ⟨n, lo, hi, rfl, h1, h2, h3, h4, k⟩ := h
    have hu := hu_of hr
    have hr_is_integer : Room 1 _ := hr.mono (by decide)
    refine ⟨_, (pss_one (ps_ret (pe_and (pe_call G_is_integer hr_is_integer rfl T.m_is_integer T.F_is_integer.kp T.b_is_integer .nil pass0 (pa_cons (pv 0) pa_nil)) (pe_one (pe_chain op_le op_le (pv 1) (pv 0) (pv 2)))))), ?_⟩
    refine ⟨_, rfl, n, rfl, h1, h2, _, rfl, iteT ?_⟩
    refine ⟨_, rfl, _, rfl, _, _, rfl, rfl, _, rfl, ?_⟩
    refine ite2 (fun _ => ?_) (fun c => absurd (decide_eq_true h3) c)
    refine ⟨_, rfl, _, _, rfl, rfl, ?_⟩
    exact bl_t (decide_eq_true h4) k
def sp_check_integer (K : PySem.W.Frag) : Sp := fun vs H Q _ => ∃ n : Int, vs = [.int n] ∧ -1000000000000 < n ∧ n < 1000000000000 ∧ Q .non H
theorem ok_check_integer (T : T K mg) : FnOk P w K mg base CX0 2 T.f_check_integer T.d_check_integer ["value"] (sp_check_integer K) := by
  have G_is_integer : FnOk P w K mg base CX0 1 T.f_is_integer T.d_is_integer ["value"] (sp_is_integer K) := ok_is_integer T
  refine T.F_check_integer.ok sc_check_integer (fun vs H Q E h => ?_) (fun cdv A outer s H vs Q E hr h => ?_)
  · obtain ⟨n, rfl, _⟩ := h
    rfl
  · obtain ⟨n, rfl, h1, h2, k⟩ := h
    have hu := hu_of hr
    have hr_is_integer : Room 1 _ := hr.mono (by decide)
    refine ⟨_, (pss_one (ps_if (pt_not (pt_val (pe_call G_is_integer hr_is_integer rfl T.m_is_integer T.F_is_integer.kp T.b_is_integer .nil pass0 (pa_cons (pv 0) pa_nil))))
      (pss_one ps_never)
      pss_nil)), ?_⟩
    exact ⟨_, rfl, n, rfl, h1, h2, _, rfl, iteF k⟩
def sp_check_between (K : PySem.W.Frag) : Sp := fun vs H Q _ => ∃ n lo hi : Int, vs = [.int n, .int lo, .int hi] ∧ -1000000000000 < n ∧ n < 1000000000000 ∧ lo ≤ n ∧ n ≤ hi ∧ Q .non H
theorem ok_check_between (T : T K mg) : FnOk P w K mg base CX0 3 T.f_check_between T.d_check_between ["value", "low", "high"] (sp_check_between K) := by
  have G_is_between : FnOk P w K mg base CX0 2 T.f_is_between T.d_is_between ["value", "low", "high"] (sp_is_between K) := ok_is_between T
  refine T.F_check_between.ok sc_check_between (fun vs H Q E h => ?_) (fun cdv A outer s H vs Q E hr h => ?_)
  · obtain ⟨n, lo, hi, rfl, _⟩ := h
    rfl
  · obtain ⟨n, lo, hi, rfl, h1, h2, h3, h4, k⟩ := h
    have hu := hu_of hr
    have hr_is_between : Room 2 _ := hr.mono (by decide)
    refine ⟨_, (pss_one (ps_if (pt_not (pt_val (pe_call G_is_between hr_is_between rfl T.m_is_between T.F_is_between.kp T.b_is_between .nil pass0 (pa_cons (pv 0) (pa_cons (pv 1) (pa_cons (pv 2) pa_nil))))))
      (pss_one ps_never)
      pss_nil)), ?_⟩
    exact ⟨_, rfl, _, rfl, _, rfl, n, lo, hi, rfl, h1, h2, h3, h4, _, rfl, iteF k⟩
def sp_check_interval (K : PySem.W.Frag) : Sp := fun vs H Q _ => ∃ n : Int, vs = [.int n] ∧ 1 ≤ n ∧ n ≤ 32 ∧ Q .non H
theorem ok_check_interval (T : T K mg) : FnOk P w K mg base CX0 4 T.f_check_interval T.d_check_interval ["value"] (sp_check_interval K) := by
  have G_check_between : FnOk P w K mg base CX0 3 T.f_check_between T.d_check_between ["value", "low", "high"] (sp_check_between K) := ok_check_between T
  refine T.F_check_interval.ok sc_check_interval (fun vs H Q E h => ?_) (fun cdv A outer s H vs Q E hr h => ?_)
  · obtain ⟨n, rfl, _⟩ := h
    rfl
  · obtain ⟨n, rfl, h1, h2, k⟩ := h
    have hu := hu_of hr
    have hr_check_between : Room 3 _ := hr.mono (by decide)
    obtain ⟨_, c_MAX_INTERVAL⟩ := T.c_MAX_INTERVAL
    refine ⟨_, (pss_one (ps_expr (pe_call G_check_between hr_check_between rfl T.m_check_between T.F_check_between.kp T.b_check_between .nil pass0 (pa_cons (pv 0) (pa_cons pe_int (pa_cons (pe_glob (v := V.int 32) rfl c_MAX_INTERVAL ⟨_, rfl⟩) pa_nil)))))), ?_⟩
    exact ⟨_, rfl, n, 1, 32, rfl, by omega, by omega, h1, h2, k⟩
def sp_slot_of (K : PySem.W.Frag) : Sp := fun vs H Q _ => ∃ t m : Int, vs = [.int t, .int m] ∧ -1000000000000 < t ∧ t < 1000000000000 ∧ 1 ≤ m ∧ m ≤ 32 ∧ Q (.int (t % m)) H
theorem ok_slot_of (T : T K mg) : FnOk P w K mg base CX0 5 T.f_slot_of T.d_slot_of ["tick", "interval"] (sp_slot_of K) := by
  have G_check_integer : FnOk P w K mg base CX0 2 T.f_check_integer T.d_check_integer ["value"] (sp_check_integer K) := ok_check_integer T
  have G_check_interval : FnOk P w K mg base CX0 4 T.f_check_interval T.d_check_interval ["value"] (sp_check_interval K) := ok_check_interval T
  refine T.F_slot_of.ok sc_slot_of (fun vs H Q E h => ?_) (fun cdv A outer s H vs Q E hr h => ?_)
  · obtain ⟨t, m, rfl, _⟩ := h
    rfl
  · obtain ⟨t, m, rfl, h1, h2, h3, h4, k⟩ := h
    have hu := hu_of hr
    have hr_check_integer : Room 2 _ := hr.mono (by decide)
    have hr_check_interval : Room 4 _ := hr.mono (by decide)
    refine ⟨_, (pss_cons (ps_expr (pe_call G_check_integer hr_check_integer rfl T.m_check_integer T.F_check_integer.kp T.b_check_integer .nil pass0 (pa_cons (pv 0) pa_nil)))
      (pss_cons (ps_expr (pe_call G_check_interval hr_check_interval rfl T.m_check_interval T.F_check_interval.kp T.b_check_interval .nil pass0 (pa_cons (pv 1) pa_nil)))
      (pss_one (ps_ret (pe_op op_mod (pv 0) (pv 1)))))), ?_⟩
    refine ⟨_, rfl, t, rfl, h1, h2, ?_⟩
    refine ⟨_, rfl, m, rfl, h3, h4, ?_⟩
    exact ⟨_, rfl, _, rfl, _, _, rfl, rfl, (show (0 : Int) < m by omega), k⟩
def sp_rounded_up (K : PySem.W.Frag) : Sp := fun vs H Q _ => ∃ n s m : Int, vs = [.int n, .int s, .int m] ∧ (-1000000000000 < n ∧ n < 1000000000000) ∧ (-1000000000000 < s ∧ s < 1000000000000) ∧ 1 ≤ m ∧ m ≤ 32 ∧ Q (.int (n + (s - n) % m)) H
theorem ok_rounded_up (T : T K mg) : FnOk P w K mg base CX0 5 T.f_rounded_up T.d_rounded_up ["number", "slot", "interval"] (sp_rounded_up K) := by
  have G_check_integer : FnOk P w K mg base CX0 2 T.f_check_integer T.d_check_integer ["value"] (sp_check_integer K) := ok_check_integer T
  have G_check_interval : FnOk P w K mg base CX0 4 T.f_check_interval T.d_check_interval ["value"] (sp_check_interval K) := ok_check_interval T
  refine T.F_rounded_up.ok sc_rounded_up (fun vs H Q E h => ?_) (fun cdv A outer s H vs Q E hr h => ?_)
  · obtain ⟨n, t, m, rfl, _⟩ := h
    rfl
  · obtain ⟨n, t, m, rfl, ⟨h1, h2⟩, ⟨g1, g2⟩, h3, h4, k⟩ := h
    have hu := hu_of hr
    have hr_check_integer : Room 2 _ := hr.mono (by decide)
    have hr_check_interval : Room 4 _ := hr.mono (by decide)
    refine ⟨_, (pss_cons (ps_expr (pe_call G_check_integer hr_check_integer rfl T.m_check_integer T.F_check_integer.kp T.b_check_integer .nil pass0 (pa_cons (pv 0) pa_nil)))
      (pss_cons (ps_expr (pe_call G_check_integer hr_check_integer rfl T.m_check_integer T.F_check_integer.kp T.b_check_integer .nil pass0 (pa_cons (pv 1) pa_nil)))
      (pss_cons (ps_expr (pe_call G_check_interval hr_check_interval rfl T.m_check_interval T.F_check_interval.kp T.b_check_interval .nil pass0 (pa_cons (pv 2) pa_nil)))
      (pss_one (ps_ret (pe_op op_add (pv 0) (pe_op op_mod (pe_op op_sub (pv 1) (pv 0)) (pv 2)))))))), ?_⟩
    refine ⟨_, rfl, n, rfl, h1, h2, ?_⟩
    refine ⟨_, rfl, t, rfl, g1, g2, ?_⟩
    refine ⟨_, rfl, m, rfl, h3, h4, ?_⟩
    exact ⟨_, rfl, _, rfl, _, rfl, _, _, rfl, rfl, _, rfl, _, _, rfl, rfl, (show (0 : Int) < m by omega), _, _, rfl, rfl, k⟩
def sp_times_alive (K : PySem.W.Frag) : Sp := fun vs H Q _ => ∃ b e t m : Int, vs = [.int b, .int e, .int t, .int m] ∧ (-1000000000000 < b ∧ b < 1000000000000) ∧ (-1000000000000 < e ∧ e < 1000000000000) ∧ b ≤ e ∧ (-1000000000000 < t ∧ t < 1000000000000) ∧ 1 ≤ m ∧ m ≤ 32 ∧ Q (.int ((t - b) / m - (t - e) / m)) H
theorem ok_times_alive (T : T K mg) : FnOk P w K mg base CX0 5 T.f_times_alive T.d_times_alive ["begin", "end", "tick", "interval"] (sp_times_alive K) := by
  have G_check_integer : FnOk P w K mg base CX0 2 T.f_check_integer T.d_check_integer ["value"] (sp_check_integer K) := ok_check_integer T
  have G_check_interval : FnOk P w K mg base CX0 4 T.f_check_interval T.d_check_interval ["value"] (sp_check_interval K) := ok_check_interval T
  refine T.F_times_alive.ok sc_times_alive (fun vs H Q E h => ?_) (fun cdv A outer s H vs Q E hr h => ?_)
  · obtain ⟨b, e, t, m, rfl, _⟩ := h
    rfl
  · obtain ⟨b, e, t, m, rfl, ⟨b1, b2⟩, ⟨e1, e2⟩, be, ⟨t1, t2⟩, h3, h4, k⟩ := h
    have hu := hu_of hr
    have hr_check_integer : Room 2 _ := hr.mono (by decide)
    have hr_check_interval : Room 4 _ := hr.mono (by decide)
    refine ⟨_, (pss_cons (ps_expr (pe_call G_check_integer hr_check_integer rfl T.m_check_integer T.F_check_integer.kp T.b_check_integer .nil pass0 (pa_cons (pv 0) pa_nil)))
      (pss_cons (ps_expr (pe_call G_check_integer hr_check_integer rfl T.m_check_integer T.F_check_integer.kp T.b_check_integer .nil pass0 (pa_cons (pv 1) pa_nil)))
      (pss_cons (ps_if (pt_cmpR op_lt (pv 1) (pv 0) (nomark _))
      (pss_one ps_never)
      pss_nil)
      (pss_cons (ps_expr (pe_call G_check_integer hr_check_integer rfl T.m_check_integer T.F_check_integer.kp T.b_check_integer .nil pass0 (pa_cons (pv 2) pa_nil)))
      (pss_cons (ps_expr (pe_call G_check_interval hr_check_interval rfl T.m_check_interval T.F_check_interval.kp T.b_check_interval .nil pass0 (pa_cons (pv 3) pa_nil)))
      (pss_one (ps_ret (pe_op op_sub (pe_op op_fdivW (pe_op op_sub (pv 2) (pv 0)) (pv 3)) (pe_op op_fdivW (pe_op op_sub (pv 2) (pv 1)) (pv 3)))))))))), ?_⟩
    refine ⟨_, rfl, b, rfl, b1, b2, ?_⟩
    refine ⟨_, rfl, e, rfl, e1, e2, ?_⟩
    refine ⟨_, rfl, _, rfl, _, _, rfl, rfl, _, rfl, ?_⟩
    refine ite2 (fun c => absurd (of_decide_eq_true c) (by omega)) (fun _ => ?_)
    refine ⟨_, rfl, t, rfl, t1, t2, ?_⟩
    refine ⟨_, rfl, m, rfl, h3, h4, ?_⟩
    have hm : CDivW (t - b) m := ⟨by omega, Nat.lt_trans (lg (b := 6) (by omega) (by omega) (by decide)) (by decide)⟩
    exact ⟨_, rfl, _, rfl, _, _, rfl, rfl, _, rfl, _, _, rfl, rfl, hm, _, rfl, _, rfl, _, _, rfl, rfl, _, rfl, _, _, rfl, rfl, hm, _, _, rfl, rfl, k⟩
def sp_w_slot (K : PySem.W.Frag) : Sp := fun vs H Q _ => ∃ t m : Int, vs = [.int t, .int m] ∧ 1 ≤ m ∧ m ≤ 32 ∧ Q (.int (t % m)) H
theorem ok_w_slot (T : T K mg) : FnOk P w K mg base CX0 1 T.f_w_slot T.d_w_slot ["tick", "interval"] (sp_w_slot K) := by
  refine T.F_w_slot.ok sc_w_slot (fun vs H Q E h => ?_) (fun cdv A outer s H vs Q E hr h => ?_)
  · obtain ⟨t, m, rfl, _⟩ := h
    rfl
  · obtain ⟨t, m, rfl, h3, h4, k⟩ := h
    have hu := hu_of hr
    refine ⟨_, (pss_cons (ps_set (i := 2) sc_w_slot.nd rfl (Or.inl rfl) (pe_op op_sub (pe_callB call_abs (by rfl) T.z_abs (by decide +kernel) (pa_cons (pv 0) pa_nil)) (pe_op op_mul (pe_op op_fdivW (pe_callB call_abs (by rfl) T.z_abs (by decide +kernel) (pa_cons (pv 0) pa_nil)) (pv 1)) (pv 1))))
      (pss_one (ps_ret (pe_ifExp (PW.pt (pw_or (pt_cmpR op_ge (pv 0) pe_int (nomark _)) (pw_or1 (pt_cmpR op_eq (pv 2) pe_int (nomark _))))) (pv 2) (pe_op op_sub (pv 1) (pv 2)))))), ?_⟩
    have hm : ∀ x, CDivW x m := fun _ => ⟨by omega, Nat.lt_trans (lg (b := 6) (by omega) (by omega) (by decide)) (by decide)⟩
    refine ⟨_, rfl, _, rfl, _, rfl, _, rfl, _, rfl, _, _, rfl, rfl, hm _, _, rfl, _, _, rfl, rfl, .inr ⟨by omega, by omega⟩, _, _, rfl, rfl, ?_⟩
    refine ⟨_, rfl, _, _, rfl, rfl, _, rfl, ?_⟩
    refine ite2 (fun c => ?_) (fun c => ?_)
    · have h0 : 0 ≤ t := of_decide_eq_true c
      refine iteT ⟨_, rfl, ?_⟩
      exact int_to (slot_pos h0) k
    · have h0 : ¬ 0 ≤ t := fun z => c (decide_eq_true z)
      refine ⟨_, rfl, rfl, _, rfl, ?_⟩
      refine ite2 (fun c2 => ?_) (fun c2 => ?_)
      · have h1 := V.int.inj (of_decide_eq_true c2)
        exact ⟨_, rfl, int_to (slot_neg0 (by omega) h0 h1) k⟩
      · have h1 := fun z => c2 (decide_eq_true (congrArg V.int z))
        exact ⟨_, rfl, _, rfl, _, _, rfl, rfl, int_to (slot_neg1 (by omega) h0 h1) k⟩
def sp_w_cell_right (K : PySem.W.Frag) : Sp := fun vs H Q _ => ∃ r : Addr, vs = [.ref r] ∧ Rl H r ∧ ∀ H', Only r H H' → Q (.bl true) H'
theorem ok_w_cell_right (T : T K mg) : FnOk P w K mg base CX0 6 T.f_w_cell_right T.d_w_cell_right ["reel"] (sp_w_cell_right K) := by
  have G_w_pick : FnOk P w K mg base CX0 2 T.f_w_pick T.d_w_pick ["reel", "items"] (sp_w_pick K) := ok_w_pick T
  have G_w_slot : FnOk P w K mg base CX0 1 T.f_w_slot T.d_w_slot ["tick", "interval"] (sp_w_slot K) := ok_w_slot T
  have G_w_spin : FnOk P w K mg base CX0 1 T.f_w_spin T.d_w_spin ["reel", "total"] (sp_w_spin K) := ok_w_spin T
  have G_rounded_up : FnOk P w K mg base CX0 5 T.f_rounded_up T.d_rounded_up ["number", "slot", "interval"] (sp_rounded_up K) := ok_rounded_up T
  have G_slot_of : FnOk P w K mg base CX0 5 T.f_slot_of T.d_slot_of ["tick", "interval"] (sp_slot_of K) := ok_slot_of T
  have G_times_alive : FnOk P w K mg base CX0 5 T.f_times_alive T.d_times_alive ["begin", "end", "tick", "interval"] (sp_times_alive K) := ok_times_alive T
  refine T.F_w_cell_right.ok sc_w_cell_right (fun vs H Q E h => ?_) (fun cdv A outer s H vs Q E hr h => ?_)
  · obtain ⟨r, rfl, _⟩ := h
    rfl
  · obtain ⟨r, rfl, hR, k⟩ := h
    have hu := hu_of hr
    have hr_w_pick : Room 2 _ := hr.mono (by decide)
    have hr_w_slot : Room 1 _ := hr.mono (by decide)
    have hr_w_spin : Room 1 _ := hr.mono (by decide)
    have hr_rounded_up : Room 5 _ := hr.mono (by decide)
    have hr_slot_of : Room 5 _ := hr.mono (by decide)
    have hr_times_alive : Room 5 _ := hr.mono (by decide)
    refine ⟨_, (pss_cons (ps_set (i := 1) sc_w_cell_right.nd rfl (Or.inr rfl) (pe_op op_add pe_int (pe_call G_w_spin hr_w_spin rfl T.m_w_spin T.F_w_spin.kp T.b_w_spin .nil pass0 (pa_cons (pv 0) (pa_cons (pe_call G_w_pick hr_w_pick rfl T.m_w_pick T.F_w_pick.kp T.b_w_pick .nil pass0 (pa_cons (pv 0) (pa_cons (pe_lst (pa_cons pe_int (pa_cons pe_int (pa_cons pe_int pa_nil)))) pa_nil))) pa_nil)))))
      (pss_cons (ps_set (i := 2) sc_w_cell_right.nd rfl (Or.inl rfl) (pe_op op_mul (pe_call G_w_pick hr_w_pick rfl T.m_w_pick T.F_w_pick.kp T.b_w_pick .nil pass0 (pa_cons (pv 0) (pa_cons (pe_lst (pa_cons pe_int (pa_cons (pe_op op_pow pe_int pe_int) (pa_cons (pe_op op_pow pe_int pe_int) pa_nil)))) pa_nil))) (pe_call G_w_pick hr_w_pick rfl T.m_w_pick T.F_w_pick.kp T.b_w_pick .nil pass0 (pa_cons (pv 0) (pa_cons (pe_lst (pa_cons pe_int (pa_cons (pe_un un_neg pe_int) pa_nil))) pa_nil)))))
      (pss_cons (ps_asg (pe_tup (pa_cons (pe_op op_mul (pe_call G_w_spin hr_w_spin rfl T.m_w_spin T.F_w_spin.kp T.b_w_spin .nil pass0 (pa_cons (pv 0) (pa_cons pe_int pa_nil))) (pv 2)) (pa_cons (pe_op op_sub (pe_call G_w_spin hr_w_spin rfl T.m_w_spin T.F_w_spin.kp T.b_w_spin .nil pass0 (pa_cons (pv 0) (pa_cons pe_int pa_nil))) pe_int) pa_nil))) (pg_tup rfl (pgs_cons (pg_name (i := 3) sc_w_cell_right.nd rfl (Or.inr rfl)) (pgs_cons (pg_name (i := 4) sc_w_cell_right.nd rfl (Or.inr rfl)) pgs_nil))))
      (pss_cons (ps_if (PW.pt (pw_or (pt_cmpR op_ne (pe_call G_slot_of hr_slot_of rfl T.m_slot_of T.F_slot_of.kp T.b_slot_of .nil pass0 (pa_cons (pv 3) (pa_cons (pv 1) pa_nil))) (pe_call G_w_slot hr_w_slot rfl T.m_w_slot T.F_w_slot.kp T.b_w_slot .nil pass0 (pa_cons (pv 3) (pa_cons (pv 1) pa_nil))) (nomark _)) (pw_or1 (pt_cmpR op_ne (pe_call G_slot_of hr_slot_of rfl T.m_slot_of T.F_slot_of.kp T.b_slot_of .nil pass0 (pa_cons (pv 4) (pa_cons (pv 1) pa_nil))) (pe_call G_w_slot hr_w_slot rfl T.m_w_slot T.F_w_slot.kp T.b_w_slot .nil pass0 (pa_cons (pv 4) (pa_cons (pv 1) pa_nil))) (nomark _)))))
      (pss_one (ps_ret pe_bl))
      pss_nil)
      (pss_cons (ps_set (i := 5) sc_w_cell_right.nd rfl (Or.inl rfl) (pv 3))
      (pss_cons (ps_while PassesOwn.never (pt_cmpR op_ne (pe_call G_w_slot hr_w_slot rfl T.m_w_slot T.F_w_slot.kp T.b_w_slot .nil pass0 (pa_cons (pv 5) (pa_cons (pv 1) pa_nil))) (pe_call G_w_slot hr_w_slot rfl T.m_w_slot T.F_w_slot.kp T.b_w_slot .nil pass0 (pa_cons (pv 4) (pa_cons (pv 1) pa_nil))) (nomark _))
      (pss_one (ps_set (i := 5) sc_w_cell_right.nd rfl (Or.inl rfl) (pe_op op_add (pv 5) pe_int))))
      (pss_cons (ps_if (PW.pt (pw_or (pt_cmpR op_ne (pe_call G_rounded_up hr_rounded_up rfl T.m_rounded_up T.F_rounded_up.kp T.b_rounded_up .nil pass0 (pa_cons (pv 3) (pa_cons (pv 4) (pa_cons (pv 1) pa_nil)))) (pv 5) (nomark _)) (pw_or1 (pt_cmpR op_ne (pe_call G_rounded_up hr_rounded_up rfl T.m_rounded_up T.F_rounded_up.kp T.b_rounded_up .nil pass0 (pa_cons (pv 5) (pa_cons (pv 4) (pa_cons (pv 1) pa_nil)))) (pv 5) (nomark _)))))
      (pss_one (ps_ret pe_bl))
      pss_nil)
      (pss_cons (ps_set (i := 6) sc_w_cell_right.nd rfl (Or.inr rfl) (pe_op op_add (pv 3) (pe_call G_w_spin hr_w_spin rfl T.m_w_spin T.F_w_spin.kp T.b_w_spin .nil pass0 (pa_cons (pv 0) (pa_cons (pe_op op_add (pe_op op_mul pe_int (pv 1)) pe_int) pa_nil)))))
      (pss_cons (ps_setLc (i := 7) (own := [("each", 8)]) (g := gName 8) rfl sc_w_cell_right.nd rfl rfl (sw_true rfl rfl rfl (by decide +kernel)) (pi_range2 (by rfl) T.z_range (pa_cons (pv 3) (pa_cons (pv 6) pa_nil))) (blkOk_by (N := ["reel", "interval", "far", "tick", "other", "due", "end", "alive", "each", "slot"]) (sc := defScope s_w_cell_right) (by decide +kernel)) (fun _ _ _ _ _ => (pg_name (i := 8) sc_w_cell_right.nd rfl (Or.inl rfl))) (fun _ _ _ _ _ => pts_one (pt_cmpR op_eq (pe_call G_w_slot hr_w_slot rfl T.m_w_slot T.F_w_slot.kp T.b_w_slot .nil pass0 (pa_cons (pe_op op_sub (pv 8) (pv 4)) (pa_cons (pv 1) pa_nil))) pe_int (nomark _))) (fun _ _ _ _ _ => (pv 8)))
      (pss_cons (ps_if (pt_cmpR op_ne (pe_call G_times_alive hr_times_alive rfl T.m_times_alive T.F_times_alive.kp T.b_times_alive .nil pass0 (pa_cons (pv 3) (pa_cons (pv 6) (pa_cons (pv 4) (pa_cons (pv 1) pa_nil))))) (pe_callB call_len (by rfl) T.z_len (by decide +kernel) (pa_cons (pv 7) pa_nil)) (nomark _))
      (pss_one (ps_ret pe_bl))
      pss_nil)
      (pss_one (ps_ret (pe_cmpR op_eq (pe_callB (cr_sum rfl) (by rfl) T.z_sum (by decide +kernel) (pa_cons (pe_lc (own := [("slot", 9)]) (g := gName 9) rfl sc_w_cell_right.nd (pi_range1 (by rfl) T.z_range (pa_cons (pv 1) pa_nil)) (blkOk_by (N := ["reel", "interval", "far", "tick", "other", "due", "end", "alive", "each", "slot"]) (sc := defScope s_w_cell_right) (by decide +kernel)) (fun _ _ _ _ _ => (pg_name (i := 9) sc_w_cell_right.nd rfl (Or.inl rfl))) (fun _ _ _ _ _ => pts_nil) (fun _ _ _ _ _ => (pe_call G_times_alive hr_times_alive rfl T.m_times_alive T.F_times_alive.kp T.b_times_alive .nil pass0 (pa_cons (pv 3) (pa_cons (pv 6) (pa_cons (pv 9) (pa_cons (pv 1) pa_nil))))))) pa_nil)) (pe_op op_sub (pv 6) (pv 3)) (nomark _)))))))))))))), ?_⟩
    -- interval
    refine ⟨_, rfl, _, rfl, (by show 3 ≤ sizeLine; decide), fun l0 n0 => ?_⟩
    refine ⟨r, _, ([3, 6, 32] : List Int).map V.int, rfl, hR.new n0, .inl ⟨l0, rfl, hR.ne n0, .inl (SqL.of upd_same)⟩, by decide, by decide, fun v H1 hv R1 O1 => ?_⟩
    obtain ⟨m0, hm0, rfl⟩ := List.mem_map.mp hv
    have hm1 : 1 ≤ m0 ∧ m0 ≤ 32 := by
      simp only [List.mem_cons, List.mem_nil_iff, or_false] at hm0
      omega
    refine ⟨r, m0, rfl, R1, by omega, Nat.lt_trans (lg (b := 6) (by omega) (by omega) (by decide)) (by decide), fun v1 H2 a1 b1 R2 O2 => ?_⟩
    refine ⟨_, _, rfl, rfl, ?_⟩
    have hm : 1 ≤ 1 + v1 ∧ 1 + v1 ≤ 32 := by omega
    have P2 : Only r H H2 := ((Only.new n0).trans O1).trans O2
    clear hv hm0 hm1 a1 b1 O1 O2 n0 hR
    dsimp only
    generalize 1 + v1 = m at hm ⊢
    -- far
    refine ⟨_, rfl, _, _, rfl, rfl, ⟨by decide, by decide, by decide⟩, _, _, rfl, rfl, ⟨by decide, by decide, by decide⟩, (by show 3 ≤ sizeLine; decide), fun l1 n1 => ?_⟩
    refine ⟨r, _, ([1, 1000, 10000000000] : List Int).map V.int, rfl, R2.new n1, .inl ⟨l1, rfl, R2.ne n1, .inl (SqL.of upd_same)⟩, by decide, by decide, fun v H3 hv R3 O3 => ?_⟩
    obtain ⟨f1, hf1, rfl⟩ := List.mem_map.mp hv
    have hf2 : 1 ≤ f1 ∧ f1 ≤ 10000000000 := by
      simp only [List.mem_cons, List.mem_nil_iff, or_false] at hf1
      omega
    refine ⟨_, rfl, _, rfl, (by show 2 ≤ sizeLine; decide), fun l2 n2 => ?_⟩
    refine ⟨r, _, ([1, -1] : List Int).map V.int, rfl, R3.new n2, .inl ⟨l2, rfl, R3.ne n2, .inl (SqL.of upd_same)⟩, by decide, by decide, fun v H4 hv' R4 O4 => ?_⟩
    obtain ⟨f3, hf3, rfl⟩ := List.mem_map.mp hv'
    have hf4 : f3 = 1 ∨ f3 = -1 := by
      simp only [List.mem_cons, List.mem_nil_iff, or_false] at hf3
      omega
    refine ⟨_, _, rfl, rfl, .inl ⟨by omega, by omega⟩, ?_⟩
    have hf : -10000000000 ≤ f1 * f3 ∧ f1 * f3 ≤ 10000000000 := by
      rcases hf4 with rfl | rfl <;> omega
    have P4 : Only r H H4 := ((P2.trans ((Only.new n1).trans O3)).trans (Only.new n2)).trans O4
    clear hv hf1 hf2 hv' hf3 hf4 O3 O4 n1 n2 P2 R2 R3
    dsimp only
    generalize f1 * f3 = far at hf ⊢
    -- tick, other
    refine ⟨_, rfl, r, 40, rfl, R4, by decide, by decide, fun v5 H5 a5 b5 R5 O5 => ?_⟩
    refine ⟨_, rfl, _, _, rfl, rfl, .inl ⟨by omega, by omega⟩, ?_⟩
    refine ⟨_, rfl, r, 60, rfl, R5, by decide, by decide, fun v6 H6 a6 b6 R6 O6 => ?_⟩
    refine ⟨_, _, rfl, rfl, (by show 2 ≤ sizeLine; decide), fun t7 n7 => ?_⟩
    have hb : -400000000000 ≤ v5 * far ∧ v5 * far ≤ 400000000000 := by
      have h1 : v5 * far ≤ v5 * 10000000000 := Int.mul_le_mul_of_nonneg_left hf.2 a5
      have h2 : v5 * (-10000000000) ≤ v5 * far := Int.mul_le_mul_of_nonneg_left hf.1 a5
      omega
    have ho : -30 ≤ v6 - 30 ∧ v6 - 30 < 30 := by omega
    have P6 : Only r H H6 := P4.trans (O5.trans O6)
    clear P4 O5 O6 R4 R5 a5 b5 a6 b6
    dsimp only
    generalize v5 * far = tk at hb ⊢
    generalize v6 - 30 = o at ho ⊢
    have R7 : Rl (upd H6 t7 (.tup [.int tk, .int o])) r := R6.new n7
    have P7 : Only r H (upd H6 t7 (.tup [.int tk, .int o])) := P6.trans (Only.new n7)
    have e7 : SqT K (upd H6 t7 (.tup [.int tk, .int o])) t7 [.int tk, .int o] := SqT.of upd_same
    refine ⟨t7, _, rfl, e7, rfl, _, _, rfl, _, _, rfl, rfl, ?_⟩
    clear e7 P6 R6
    generalize upd H6 t7 (.tup [.int tk, .int o]) = H7 at R7 P7 ⊢
    have bt : -1000000000000 < tk ∧ tk < 1000000000000 := by omega
    have bo : -1000000000000 < o ∧ o < 1000000000000 := by omega
    -- both slots
    refine ⟨_, rfl, _, rfl, tk, m, rfl, bt.1, bt.2, hm.1, hm.2, _, rfl, _, rfl, tk, m, rfl, hm.1, hm.2, rfl, _, rfl, iteNS rfl ?_⟩
    refine ⟨_, rfl, _, rfl, o, m, rfl, bo.1, bo.2, hm.1, hm.2, _, rfl, _, rfl, o, m, rfl, hm.1, hm.2, rfl, _, rfl, iteNS rfl ?_⟩
    -- due = tick
    refine ⟨_, rfl, ?_⟩
    have hm0 : 0 < m := by omega
    have hr0 := Int.emod_nonneg (o - tk) (show m ≠ 0 by omega)
    have hr1 := Int.emod_lt_of_pos (o - tk) hm0
    refine while_by (fun σ H' => ∃ j : Int, σ = [some (.ref r), some (.int m), some (.int far), some (.int tk), some (.int o), some (.int (tk + j)), none, none, none, none] ∧ 0 ≤ j ∧ j ≤ (o - tk) % m ∧ H' = H7)
      (fun (σ : St) (_ : Hp) => match σ[5]? with | some (some (V.int d)) => (tk + (o - tk) % m - d).toNat | _ => 0) ⟨0, by rw [Int.add_zero]; rfl, by omega, by omega, rfl⟩ ?_ ?_
    · rintro σ H' ⟨j, rfl, j0, j1, rfl⟩
      refine ⟨_, rfl, _, rfl, tk + j, m, rfl, hm.1, hm.2, _, rfl, _, rfl, o, m, rfl, hm.1, hm.2, rfl, _, rfl, ?_⟩
      by_cases ej : (tk + j) % m = o % m
      · refine iteNS (congrArg V.int ej) ?_
        have hj := first_slot hm0 j0 j1 ej
        subst hj
        have bd : -1000000000000 < tk + (o - tk) % m ∧ tk + (o - tk) % m < 1000000000000 := by omega
        have hd := slot_done ej
        refine ⟨_, rfl, _, rfl, _, rfl, tk, o, m, rfl, bt, bo, hm.1, hm.2, _, rfl, rfl, _, rfl, iteNS rfl ?_⟩
        refine ⟨_, rfl, _, rfl, _, rfl, _, o, m, rfl, bd, bo, hm.1, hm.2, _, rfl, rfl, _, rfl, iteNS (congrArg V.int hd) ?_⟩
        clear bd hd ej j0 j1
        generalize tk + (o - tk) % m = due
        -- end
        refine ⟨_, rfl, _, rfl, _, rfl, _, _, rfl, rfl, .inl ⟨by decide, by decide⟩, _, _, rfl, rfl, ?_⟩
        refine ⟨r, 6 * m + 1, rfl, R7, by omega, Nat.lt_trans (lg (b := 8) (by omega) (by omega) (by decide)) (by decide), fun v8 H8 a8 b8 R8 O8 => ?_⟩
        refine ⟨_, _, rfl, rfl, ?_⟩
        have P8 := P7.trans O8
        clear P7 O8 R7
        obtain ⟨n, rfl⟩ : ∃ n : Nat, v8 = (n : Int) := ⟨v8.toNat, by omega⟩
        have be : -1000000000000 < tk + (n : Int) ∧ tk + (n : Int) < 1000000000000 := by omega
        -- alive
        refine ⟨_, rfl, _, rfl, tk, tk + (n : Int), rfl, ⟨by omega, by omega, by omega, by omega⟩, fun D hD => ?_⟩
        have en : (tk + (n : Int) - tk).toNat = n := by omega
        rw [en]
        refine lc_range (fun i H' => H' D = some (.lst ((alv tk o m i).map V.int)) ∧ Rl H' r ∧ Only r H H') ⟨upd_same, R8.new hD, P8.trans (Only.new hD)⟩ ?_ ?_
        · rintro i H' hi ⟨eD, RD, PD⟩
          refine ⟨rfl, _, rfl, _, rfl, _, _, rfl, rfl, _, rfl, _, m, rfl, hm.1, hm.2, rfl, _, rfl, ?_⟩
          by_cases ei : (tk + (i : Int) - o) % m = 0
          · have e2 : alv tk o m (i + 1) = alv tk o m i ++ [tk + (i : Int)] := by rw [alv_succ, if_pos ei]
            have nr : D ≠ r := R8.ne hD
            refine if_dec_t (congrArg V.int ei) ⟨_, rfl, _, eD, ?_, ?_⟩
            · rw [List.length_map]
              exact Nat.lt_of_le_of_lt (alv_le tk o m i) (Nat.lt_trans hi (Nat.lt_of_lt_of_le (show n < 200 by omega) (by decide)))
            · obtain ⟨x, y, z, ez⟩ := RD
              refine ⟨by rw [upd_same, e2, List.map_append]; rfl, ⟨x, y, z, by rw [upd_ne nr.symm]; exact ez⟩, fun b u nb eb => ?_⟩
              rw [upd_ne (ne_of_none (P8 b u nb eb) hD)]
              exact PD b u nb eb
          · have e2 : alv tk o m (i + 1) = alv tk o m i := by rw [alv_succ, if_neg ei, List.append_nil]
            exact if_dec_f (fun z => ei (V.int.inj z)) ⟨by rw [e2]; exact eD, RD, PD⟩
        · rintro H9 ⟨eD, R9, P9⟩
          have hal : tk ≤ tk + (n : Int) := by omega
          refine ⟨_, rfl, _, rfl, _, rfl, _, rfl, tk, tk + (n : Int), o, m, rfl, bt, be, hal, bo, hm.1, hm.2, _, rfl, _, _, rfl, .inl ⟨_, SqL.of eD, rfl⟩, rfl, _, rfl, iteNS (congrArg V.int ?_) ?_⟩
          · rw [List.length_map, alv_len hm0]
          -- the sum
          refine ⟨_, rfl, m, rfl, by omega, by omega, fun D2 hD2 => ?_⟩
          refine lc_range (fun i H' => H' D2 = some (.lst ((per tk (tk + (n : Int)) m i).map V.int)) ∧ Only r H H') ⟨upd_same, P9.trans (Only.new hD2)⟩ ?_ ?_
          · rintro i H' hi ⟨eD2, PD⟩
            have bi : -1000000000000 < 0 + (i : Int) ∧ 0 + (i : Int) < 1000000000000 := by omega
            refine ⟨rfl, ?_⟩
            unfold tYes
            dsimp only
            rw [if_pos rfl]
            refine ⟨_, rfl, _, rfl, _, rfl, _, rfl, tk, tk + (n : Int), 0 + (i : Int), m, rfl, bt, be, hal, bi, hm.1, hm.2, _, eD2, ?_, ?_⟩
            · rw [List.length_map]
              exact Nat.lt_of_le_of_lt (Nat.le_of_eq (per_len ..)) (Nat.lt_of_lt_of_le (show i < 200 by omega) (by decide))
            · refine ⟨by rw [upd_same, per_succ, List.map_append, Int.zero_add]; rfl, fun b u nb eb => ?_⟩
              rw [upd_ne (ne_of_none (P9 b u nb eb) hD2)]
              exact PD b u nb eb
          · rintro H10 ⟨eD2, P10⟩
            refine ⟨_, _, rfl, SqL.of eD2, _, rfl, _, rfl, _, _, rfl, rfl, rfl, ?_⟩
            refine bl_t (decide_eq_true (congrArg V.int ?_)) (k _ P10)
            rw [per_sum hm0 (by omega)]
            omega
      · refine if_ne (fun z => ej (V.int.inj z)) ?_
        refine ⟨_, rfl, _, _, rfl, rfl, ?_⟩
        have hj : j ≠ (o - tk) % m := fun z => ej (by rw [z]; exact at_slot hm0)
        refine ⟨⟨j + 1, by rw [← Int.add_assoc]; rfl, by omega, by omega, rfl⟩, ?_⟩
        show (tk + (o - tk) % m - (tk + j + 1)).toNat < (tk + (o - tk) % m - (tk + j)).toNat
        omega
    · rintro σ H' Q1 Q2 hq ⟨a, ha, b, hb', t, m', e, g1, g2, a2, ha2, b2, hb2, t2, m2, e2, g3, g4, s, c, ec, q⟩
      exact ⟨a, ha, b, hb', t, m', e, g1, g2, a2, ha2, b2, hb2, t2, m2, e2, g3, g4, s, c, ec, hq _ _ q⟩
/-- law's: a list of at most 63 ints is handed in, True comes out -/
def spLaw (K : PySem.W.Frag) : Sp := fun vs H Q _ => ∃ (a : Addr) (ns : List Int), vs = [.ref a] ∧ SqL K H a (ns.map V.int) ∧ ns.length ≤ 63 ∧ ∀ H', Q (.bl true) H'
abbrev sp_law (K : PySem.W.Frag) : Sp := spLaw K
theorem ok_law (T : T K mg) : FnOk P w K mg base CX0 7 T.f_law T.d_law ["script"] (sp_law K) := by
  have G_w_cell_right : FnOk P w K mg base CX0 6 T.f_w_cell_right T.d_w_cell_right ["reel"] (sp_w_cell_right K) := ok_w_cell_right T
  have G_w_reel : FnOk P w K mg base CX0 1 T.f_w_reel T.d_w_reel ["script", "at"] (sp_w_reel K) := ok_w_reel T
  have G_rounded_up : FnOk P w K mg base CX0 5 T.f_rounded_up T.d_rounded_up ["number", "slot", "interval"] (sp_rounded_up K) := ok_rounded_up T
  have G_slot_of : FnOk P w K mg base CX0 5 T.f_slot_of T.d_slot_of ["tick", "interval"] (sp_slot_of K) := ok_slot_of T
  have G_times_alive : FnOk P w K mg base CX0 5 T.f_times_alive T.d_times_alive ["begin", "end", "tick", "interval"] (sp_times_alive K) := ok_times_alive T
  refine T.F_law.ok sc_law (fun vs H Q E h => ?_) (fun cdv A outer s H vs Q E hr h => ?_)
  · obtain ⟨a, ns, rfl, _⟩ := h
    rfl
  · obtain ⟨a, ns, rfl, hS, hlen, k⟩ := h
    have hu := hu_of hr
    have hr_w_cell_right : Room 6 _ := hr.mono (by decide)
    have hr_w_reel : Room 1 _ := hr.mono (by decide)
    have hr_rounded_up : Room 5 _ := hr.mono (by decide)
    have hr_slot_of : Room 5 _ := hr.mono (by decide)
    have hr_times_alive : Room 5 _ := hr.mono (by decide)
    obtain ⟨_, c_MAX_INTERVAL⟩ := T.c_MAX_INTERVAL
    obtain ⟨_, c_MAX_TICKS⟩ := T.c_MAX_TICKS
    refine ⟨_, (pss_cons (ps_for PassesOwn.never rfl (pi_range1 (by rfl) T.z_range (pa_cons (pe_callB (call_max2 rfl) (by rfl) T.z_max (by decide +kernel) (pa_cons pe_int (pa_cons (pe_callB (call_min2 rfl) (by rfl) T.z_min (by decide +kernel) (pa_cons pe_int (pa_cons (pe_callB call_len (by rfl) T.z_len (by decide +kernel) (pa_cons (pv 0) pa_nil)) pa_nil))) pa_nil))) pa_nil)) (pg_name (i := 1) sc_law.nd rfl (Or.inl rfl))
      (pss_one (ps_if (pt_not (pt_val (pe_call G_w_cell_right hr_w_cell_right rfl T.m_w_cell_right T.F_w_cell_right.kp T.b_w_cell_right .nil pass0 (pa_cons (pe_call G_w_reel hr_w_reel rfl T.m_w_reel T.F_w_reel.kp T.b_w_reel .nil pass0 (pa_cons (pv 0) (pa_cons (pv 1) pa_nil))) pa_nil))))
      (pss_one (ps_ret pe_bl))
      pss_nil)))
      (pss_cons (ps_set (i := 2) sc_law.nd rfl (Or.inl rfl) (pe_lst (pa_cons (pe_call G_slot_of hr_slot_of rfl T.m_slot_of T.F_slot_of.kp T.b_slot_of .nil pass0 (pa_cons (pe_un un_neg pe_int) (pa_cons pe_int pa_nil))) (pa_cons (pe_call G_rounded_up hr_rounded_up rfl T.m_rounded_up T.F_rounded_up.kp T.b_rounded_up .nil pass0 (pa_cons (pe_un un_neg pe_int) (pa_cons pe_int (pa_cons pe_int pa_nil)))) (pa_cons (pe_call G_rounded_up hr_rounded_up rfl T.m_rounded_up T.F_rounded_up.kp T.b_rounded_up .nil pass0 (pa_cons pe_int (pa_cons pe_int (pa_cons pe_int pa_nil)))) (pa_cons (pe_call G_times_alive hr_times_alive rfl T.m_times_alive T.F_times_alive.kp T.b_times_alive .nil pass0 (pa_cons pe_int (pa_cons pe_int (pa_cons pe_int (pa_cons pe_int pa_nil))))) (pa_cons (pe_call G_times_alive hr_times_alive rfl T.m_times_alive T.F_times_alive.kp T.b_times_alive .nil pass0 (pa_cons pe_int (pa_cons pe_int (pa_cons pe_int (pa_cons pe_int pa_nil))))) pa_nil)))))))
      (pss_cons (ps_set (i := 2) sc_law.nd rfl (Or.inl rfl) (pe_op op_cat (pv 2) (pe_lst (pa_cons (pe_call G_slot_of hr_slot_of rfl T.m_slot_of T.F_slot_of.kp T.b_slot_of .nil pass0 (pa_cons pe_int (pa_cons pe_int pa_nil))) (pa_cons (pe_call G_slot_of hr_slot_of rfl T.m_slot_of T.F_slot_of.kp T.b_slot_of .nil pass0 (pa_cons (pe_un un_neg pe_int) (pa_cons pe_int pa_nil))) (pa_cons (pe_call G_rounded_up hr_rounded_up rfl T.m_rounded_up T.F_rounded_up.kp T.b_rounded_up .nil pass0 (pa_cons (pe_un un_neg pe_int) (pa_cons (pe_un un_neg pe_int) (pa_cons pe_int pa_nil)))) (pa_cons (pe_call G_times_alive hr_times_alive rfl T.m_times_alive T.F_times_alive.kp T.b_times_alive .nil pass0 (pa_cons (pe_un un_neg pe_int) (pa_cons pe_int (pa_cons pe_int (pa_cons pe_int pa_nil))))) (pa_cons (pe_glob (v := V.int 32) rfl c_MAX_INTERVAL ⟨_, rfl⟩) pa_nil))))))))
      (pss_one (ps_ret (pe_cmpR (op_eqD hr.units) (pe_op op_cat (pv 2) (pe_lst (pa_cons (pe_glob (v := V.int 4) rfl c_MAX_TICKS ⟨_, rfl⟩) pa_nil))) (pe_lst (pa_cons pe_int (pa_cons pe_int (pa_cons pe_int (pa_cons pe_int (pa_cons pe_int (pa_cons pe_int (pa_cons pe_int (pa_cons (pe_un un_neg pe_int) (pa_cons pe_int (pa_cons pe_int (pa_cons pe_int pa_nil)))))))))))) (nomark _))))))), ?_⟩
    refine ⟨_, rfl, _, _, rfl, .inl ⟨_, hS, rfl⟩, _, _, rfl, _, _, rfl, ?_⟩
    have hb := cells_n (ns.map V.int).length 12
    refine ⟨_, rfl, Int.le_trans (by decide) hb.2, Int.lt_of_le_of_lt hb.1 (by decide), ?_⟩
    refine for_range (fun i σ H' => ∃ v, σ = [some (.ref a), v, none] ∧ SqL K H' a (ns.map V.int)) ⟨none, rfl, hS⟩ ?_ ?_
    · rintro i σ H' hi ⟨v, rfl, hS'⟩
      refine ⟨_, rfl, _, rfl, a, ns, i, congrArg (fun z => [V.ref a, V.int z]) (Int.zero_add _), hS', fun p x y z hp => ?_⟩
      refine ⟨p, rfl, ⟨x, y, z, upd_same⟩, fun H2 O2 => ⟨_, rfl, iteF ?_⟩⟩
      refine ⟨_, rfl, Same.seq (fun b o e => ?_) hS'⟩
      have nb := ne_of_none e hp
      exact O2 b o nb (by rw [upd_ne nb]; exact e)
    · rintro σ H' ⟨v, rfl, hS'⟩
      refine ⟨_, rfl, -3, 4, rfl, by decide, by decide, by decide, by decide, ?_⟩
      refine ⟨_, rfl, -1, 6, 4, rfl, ⟨by decide, by decide⟩, ⟨by decide, by decide⟩, by decide, by decide, ?_⟩
      refine ⟨3, 0, 3, rfl, ⟨by decide, by decide⟩, ⟨by decide, by decide⟩, by decide, by decide, ?_⟩
      refine ⟨2, 9, 0, 3, rfl, ⟨by decide, by decide⟩, ⟨by decide, by decide⟩, by decide, ⟨by decide, by decide⟩, by decide, by decide, ?_⟩
      refine ⟨4, 4, 0, 1, rfl, ⟨by decide, by decide⟩, ⟨by decide, by decide⟩, by decide, ⟨by decide, by decide⟩, by decide, by decide, ?_⟩
      refine ⟨by show 5 ≤ sizeLine; decide, fun d1 n1 => ?_⟩
      have e1 : (upd H' d1 (.lst (([1, 2, 3, 2, 0] : List Int).map V.int))) d1 = some (.lst (([1, 2, 3, 2, 0] : List Int).map V.int)) := upd_same
      refine ⟨_, rfl, 0, 1, rfl, by decide, by decide, by decide, by decide, ?_⟩
      refine ⟨_, rfl, -32, 32, rfl, by decide, by decide, by decide, by decide, ?_⟩
      refine ⟨_, rfl, _, rfl, -7, -7, 5, rfl, ⟨by decide, by decide⟩, ⟨by decide, by decide⟩, by decide, by decide, ?_⟩
      refine ⟨_, rfl, -4, 5, 100, 3, rfl, ⟨by decide, by decide⟩, ⟨by decide, by decide⟩, by decide, ⟨by decide, by decide⟩, by decide, by decide, ?_⟩
      refine ⟨by show 5 ≤ sizeLine; decide, fun d2 n2 => ?_⟩
      have n21 : d1 ≠ d2 := ne_of_none e1 n2
      refine ⟨d1, d2, _, _, rfl, rfl, (upd_ne n21).trans upd_same, upd_same, by show 5 + 5 ≤ sizeLine; decide, fun d3 n3 => ?_⟩
      refine ⟨_, rfl, by show 1 ≤ sizeLine; decide, fun d4 n4 => ?_⟩
      have n43 : d3 ≠ d4 := ne_of_none upd_same n4
      refine ⟨d3, d4, _, _, rfl, rfl, (upd_ne n43).trans upd_same, upd_same, by show 10 + 1 ≤ sizeLine; decide, fun d5 n5 => ?_⟩
      refine ⟨_, rfl, by show 11 ≤ sizeLine; decide, fun d6 n6 => ?_⟩
      have n65 : d5 ≠ d6 := ne_of_none upd_same n6
      refine ⟨_, _, dp_ints [1, 2, 3, 2, 0, 0, 0, -7, 3, 32, 4] (SqL.of ((upd_ne n65).trans upd_same)), dp_ints [1, 2, 3, 2, 0, 0, 0, -7, 3, 32, 4] (SqL.of upd_same), by decide +kernel, by decide +kernel, ?_⟩
      exact bl_t (by decide +kernel) (k _)
end
theorem all_mk {l : PySem.W.OpenLaw} {w : World} {K : PySem.W.Frag} {h : Heap} {mg : Str → Option Value} {fa f_is_integer f_is_between f_check_integer f_check_between f_check_interval f_slot_of f_rounded_up f_times_alive f_w_reel f_w_spin f_w_pick f_w_slot f_w_cell_right f_law : Addr} (X : K.In h) (G : h.Ns mainGlobals mg) (hfa : mg "law" = some (.ref fa))
    {od_is_integer an_is_integer od_is_between an_is_between od_check_integer an_check_integer od_check_between an_check_between od_check_interval an_check_interval od_slot_of an_slot_of od_rounded_up an_rounded_up od_times_alive an_times_alive od_w_reel an_w_reel od_w_spin an_w_spin od_w_pick an_w_pick od_w_slot an_w_slot od_w_cell_right an_w_cell_right od_law an_law : Option Addr} {sl_is_integer sl_is_between sl_check_integer sl_check_between sl_check_interval sl_slot_of sl_rounded_up sl_times_alive sl_w_reel sl_w_spin sl_w_pick sl_w_slot sl_w_cell_right sl_law : Array (Option Value)} {oc_is_integer kV_is_integer dc_is_integer pm_is_integer cd_is_integer ct_is_integer oc_is_between kV_is_between dc_is_between pm_is_between cd_is_between ct_is_between oc_check_integer kV_check_integer dc_check_integer pm_check_integer cd_check_integer ct_check_integer oc_check_between kV_check_between dc_check_between pm_check_between cd_check_between ct_check_between oc_check_interval kV_check_interval dc_check_interval pm_check_interval cd_check_interval ct_check_interval oc_slot_of kV_slot_of dc_slot_of pm_slot_of cd_slot_of ct_slot_of oc_rounded_up kV_rounded_up dc_rounded_up pm_rounded_up cd_rounded_up ct_rounded_up oc_times_alive kV_times_alive dc_times_alive pm_times_alive cd_times_alive ct_times_alive oc_w_reel kV_w_reel dc_w_reel pm_w_reel cd_w_reel ct_w_reel oc_w_spin kV_w_spin dc_w_spin pm_w_spin cd_w_spin ct_w_spin oc_w_pick kV_w_pick dc_w_pick pm_w_pick cd_w_pick ct_w_pick oc_w_slot kV_w_slot dc_w_slot pm_w_slot cd_w_slot ct_w_slot oc_w_cell_right kV_w_cell_right dc_w_cell_right pm_w_cell_right cd_w_cell_right ct_w_cell_right oc_law kV_law dc_law pm_law cd_law ct_law : Value} {t_MAX_INTERVAL t_MAX_TICKS : Tok}
    (a_is_integer : PySem.W.nsIn K mainGlobals "is_integer" = some (some (.ref f_is_integer))) (l_is_integer : K.lookup f_is_integer = some ⟨oc_is_integer, od_is_integer, .func (PySem.W.fnOf "is_integer" "is_integer" (defArgs s_is_integer) (defBody s_is_integer) (defScope s_is_integer) .none kV_is_integer dc_is_integer pm_is_integer an_is_integer cd_is_integer ct_is_integer), sl_is_integer⟩) (k_is_integer : PySem.W.codeIn K cd_is_integer "is_integer" = true) (p_is_integer : PySem.W.keepIn K (.ref f_is_integer) = true)
    (a_is_between : PySem.W.nsIn K mainGlobals "is_between" = some (some (.ref f_is_between))) (l_is_between : K.lookup f_is_between = some ⟨oc_is_between, od_is_between, .func (PySem.W.fnOf "is_between" "is_between" (defArgs s_is_between) (defBody s_is_between) (defScope s_is_between) .none kV_is_between dc_is_between pm_is_between an_is_between cd_is_between ct_is_between), sl_is_between⟩) (k_is_between : PySem.W.codeIn K cd_is_between "is_between" = true) (p_is_between : PySem.W.keepIn K (.ref f_is_between) = true)
    (a_check_integer : PySem.W.nsIn K mainGlobals "check_integer" = some (some (.ref f_check_integer))) (l_check_integer : K.lookup f_check_integer = some ⟨oc_check_integer, od_check_integer, .func (PySem.W.fnOf "check_integer" "check_integer" (defArgs s_check_integer) (defBody s_check_integer) (defScope s_check_integer) .none kV_check_integer dc_check_integer pm_check_integer an_check_integer cd_check_integer ct_check_integer), sl_check_integer⟩) (k_check_integer : PySem.W.codeIn K cd_check_integer "check_integer" = true) (p_check_integer : PySem.W.keepIn K (.ref f_check_integer) = true)
    (a_check_between : PySem.W.nsIn K mainGlobals "check_between" = some (some (.ref f_check_between))) (l_check_between : K.lookup f_check_between = some ⟨oc_check_between, od_check_between, .func (PySem.W.fnOf "check_between" "check_between" (defArgs s_check_between) (defBody s_check_between) (defScope s_check_between) .none kV_check_between dc_check_between pm_check_between an_check_between cd_check_between ct_check_between), sl_check_between⟩) (k_check_between : PySem.W.codeIn K cd_check_between "check_between" = true) (p_check_between : PySem.W.keepIn K (.ref f_check_between) = true)
    (a_check_interval : PySem.W.nsIn K mainGlobals "check_interval" = some (some (.ref f_check_interval))) (l_check_interval : K.lookup f_check_interval = some ⟨oc_check_interval, od_check_interval, .func (PySem.W.fnOf "check_interval" "check_interval" (defArgs s_check_interval) (defBody s_check_interval) (defScope s_check_interval) .none kV_check_interval dc_check_interval pm_check_interval an_check_interval cd_check_interval ct_check_interval), sl_check_interval⟩) (k_check_interval : PySem.W.codeIn K cd_check_interval "check_interval" = true) (p_check_interval : PySem.W.keepIn K (.ref f_check_interval) = true)
    (a_slot_of : PySem.W.nsIn K mainGlobals "slot_of" = some (some (.ref f_slot_of))) (l_slot_of : K.lookup f_slot_of = some ⟨oc_slot_of, od_slot_of, .func (PySem.W.fnOf "slot_of" "slot_of" (defArgs s_slot_of) (defBody s_slot_of) (defScope s_slot_of) .none kV_slot_of dc_slot_of pm_slot_of an_slot_of cd_slot_of ct_slot_of), sl_slot_of⟩) (k_slot_of : PySem.W.codeIn K cd_slot_of "slot_of" = true) (p_slot_of : PySem.W.keepIn K (.ref f_slot_of) = true)
    (a_rounded_up : PySem.W.nsIn K mainGlobals "rounded_up" = some (some (.ref f_rounded_up))) (l_rounded_up : K.lookup f_rounded_up = some ⟨oc_rounded_up, od_rounded_up, .func (PySem.W.fnOf "rounded_up" "rounded_up" (defArgs s_rounded_up) (defBody s_rounded_up) (defScope s_rounded_up) .none kV_rounded_up dc_rounded_up pm_rounded_up an_rounded_up cd_rounded_up ct_rounded_up), sl_rounded_up⟩) (k_rounded_up : PySem.W.codeIn K cd_rounded_up "rounded_up" = true) (p_rounded_up : PySem.W.keepIn K (.ref f_rounded_up) = true)
    (a_times_alive : PySem.W.nsIn K mainGlobals "times_alive" = some (some (.ref f_times_alive))) (l_times_alive : K.lookup f_times_alive = some ⟨oc_times_alive, od_times_alive, .func (PySem.W.fnOf "times_alive" "times_alive" (defArgs s_times_alive) (defBody s_times_alive) (defScope s_times_alive) .none kV_times_alive dc_times_alive pm_times_alive an_times_alive cd_times_alive ct_times_alive), sl_times_alive⟩) (k_times_alive : PySem.W.codeIn K cd_times_alive "times_alive" = true) (p_times_alive : PySem.W.keepIn K (.ref f_times_alive) = true)
    (a_w_reel : PySem.W.nsIn K mainGlobals "_law_reel" = some (some (.ref f_w_reel))) (l_w_reel : K.lookup f_w_reel = some ⟨oc_w_reel, od_w_reel, .func (PySem.W.fnOf "_law_reel" "_law_reel" (defArgs s_w_reel) (defBody s_w_reel) (defScope s_w_reel) .none kV_w_reel dc_w_reel pm_w_reel an_w_reel cd_w_reel ct_w_reel), sl_w_reel⟩) (k_w_reel : PySem.W.codeIn K cd_w_reel "_law_reel" = true) (p_w_reel : PySem.W.keepIn K (.ref f_w_reel) = true)
    (a_w_spin : PySem.W.nsIn K mainGlobals "_law_spin" = some (some (.ref f_w_spin))) (l_w_spin : K.lookup f_w_spin = some ⟨oc_w_spin, od_w_spin, .func (PySem.W.fnOf "_law_spin" "_law_spin" (defArgs s_w_spin) (defBody s_w_spin) (defScope s_w_spin) .none kV_w_spin dc_w_spin pm_w_spin an_w_spin cd_w_spin ct_w_spin), sl_w_spin⟩) (k_w_spin : PySem.W.codeIn K cd_w_spin "_law_spin" = true) (p_w_spin : PySem.W.keepIn K (.ref f_w_spin) = true)
    (a_w_pick : PySem.W.nsIn K mainGlobals "_law_pick" = some (some (.ref f_w_pick))) (l_w_pick : K.lookup f_w_pick = some ⟨oc_w_pick, od_w_pick, .func (PySem.W.fnOf "_law_pick" "_law_pick" (defArgs s_w_pick) (defBody s_w_pick) (defScope s_w_pick) .none kV_w_pick dc_w_pick pm_w_pick an_w_pick cd_w_pick ct_w_pick), sl_w_pick⟩) (k_w_pick : PySem.W.codeIn K cd_w_pick "_law_pick" = true) (p_w_pick : PySem.W.keepIn K (.ref f_w_pick) = true)
    (a_w_slot : PySem.W.nsIn K mainGlobals "_law_slot" = some (some (.ref f_w_slot))) (l_w_slot : K.lookup f_w_slot = some ⟨oc_w_slot, od_w_slot, .func (PySem.W.fnOf "_law_slot" "_law_slot" (defArgs s_w_slot) (defBody s_w_slot) (defScope s_w_slot) .none kV_w_slot dc_w_slot pm_w_slot an_w_slot cd_w_slot ct_w_slot), sl_w_slot⟩) (k_w_slot : PySem.W.codeIn K cd_w_slot "_law_slot" = true) (p_w_slot : PySem.W.keepIn K (.ref f_w_slot) = true)
    (a_w_cell_right : PySem.W.nsIn K mainGlobals "_law_cell_right" = some (some (.ref f_w_cell_right))) (l_w_cell_right : K.lookup f_w_cell_right = some ⟨oc_w_cell_right, od_w_cell_right, .func (PySem.W.fnOf "_law_cell_right" "_law_cell_right" (defArgs s_w_cell_right) (defBody s_w_cell_right) (defScope s_w_cell_right) .none kV_w_cell_right dc_w_cell_right pm_w_cell_right an_w_cell_right cd_w_cell_right ct_w_cell_right), sl_w_cell_right⟩) (k_w_cell_right : PySem.W.codeIn K cd_w_cell_right "_law_cell_right" = true) (p_w_cell_right : PySem.W.keepIn K (.ref f_w_cell_right) = true)
    (a_law : PySem.W.nsIn K mainGlobals "law" = some (some (.ref f_law))) (l_law : K.lookup f_law = some ⟨oc_law, od_law, .func (PySem.W.fnOf "law" "law" (defArgs s_law) (defBody s_law) (defScope s_law) .none kV_law dc_law pm_law an_law cd_law ct_law), sl_law⟩) (k_law : PySem.W.codeIn K cd_law "law" = true) (p_law : PySem.W.keepIn K (.ref f_law) = true)
    (e_MAX_INTERVAL : PySem.W.nsIn K mainGlobals "MAX_INTERVAL" = some (some (.int 32 t_MAX_INTERVAL)))
    (e_MAX_TICKS : PySem.W.nsIn K mainGlobals "MAX_TICKS" = some (some (.int 4 t_MAX_TICKS)))
    (y_int : PySem.W.nsIn K mainGlobals "int" = some none)
    (y_abs : PySem.W.nsIn K mainGlobals "abs" = some none)
    (y_len : PySem.W.nsIn K mainGlobals "len" = some none)
    (y_max : PySem.W.nsIn K mainGlobals "max" = some none)
    (y_min : PySem.W.nsIn K mainGlobals "min" = some none)
    (y_range : PySem.W.nsIn K mainGlobals "range" = some none)
    (y_sum : PySem.W.nsIn K mainGlobals "sum" = some none)
    (y_isinstance : PySem.W.nsIn K mainGlobals "isinstance" = some none)
    (y_bool : PySem.W.nsIn K mainGlobals "bool" = some none)
    : ∃ fd : FuncData, (∀ (s : Shared) (v : Value), BindsTo s fd ⟨[v], []⟩ [("script", v)]) ∧ ∀ base : Heap, K.In base → base.Ns mainGlobals mg → FnOk l.prog w K mg base CX0 7 fa fd ["script"] (spLaw K) := by
  have e := hfa.symm.trans (PySem.W.mg_of X G a_law)
  cases e
  have F_is_integer := fun_mk (st := s_is_integer) l_is_integer k_is_integer p_is_integer
  have b_is_integer := F_is_integer.binds (ps := ["value"]) fun _ _ _ _ _ _ us hl => match us, hl with | [_], _ => rfl
  have F_is_between := fun_mk (st := s_is_between) l_is_between k_is_between p_is_between
  have b_is_between := F_is_between.binds (ps := ["value", "low", "high"]) fun _ _ _ _ _ _ us hl => match us, hl with | [_, _, _], _ => rfl
  have F_check_integer := fun_mk (st := s_check_integer) l_check_integer k_check_integer p_check_integer
  have b_check_integer := F_check_integer.binds (ps := ["value"]) fun _ _ _ _ _ _ us hl => match us, hl with | [_], _ => rfl
  have F_check_between := fun_mk (st := s_check_between) l_check_between k_check_between p_check_between
  have b_check_between := F_check_between.binds (ps := ["value", "low", "high"]) fun _ _ _ _ _ _ us hl => match us, hl with | [_, _, _], _ => rfl
  have F_check_interval := fun_mk (st := s_check_interval) l_check_interval k_check_interval p_check_interval
  have b_check_interval := F_check_interval.binds (ps := ["value"]) fun _ _ _ _ _ _ us hl => match us, hl with | [_], _ => rfl
  have F_slot_of := fun_mk (st := s_slot_of) l_slot_of k_slot_of p_slot_of
  have b_slot_of := F_slot_of.binds (ps := ["tick", "interval"]) fun _ _ _ _ _ _ us hl => match us, hl with | [_, _], _ => rfl
  have F_rounded_up := fun_mk (st := s_rounded_up) l_rounded_up k_rounded_up p_rounded_up
  have b_rounded_up := F_rounded_up.binds (ps := ["number", "slot", "interval"]) fun _ _ _ _ _ _ us hl => match us, hl with | [_, _, _], _ => rfl
  have F_times_alive := fun_mk (st := s_times_alive) l_times_alive k_times_alive p_times_alive
  have b_times_alive := F_times_alive.binds (ps := ["begin", "end", "tick", "interval"]) fun _ _ _ _ _ _ us hl => match us, hl with | [_, _, _, _], _ => rfl
  have F_w_reel := fun_mk (st := s_w_reel) l_w_reel k_w_reel p_w_reel
  have b_w_reel := F_w_reel.binds (ps := ["script", "at"]) fun _ _ _ _ _ _ us hl => match us, hl with | [_, _], _ => rfl
  have F_w_spin := fun_mk (st := s_w_spin) l_w_spin k_w_spin p_w_spin
  have b_w_spin := F_w_spin.binds (ps := ["reel", "total"]) fun _ _ _ _ _ _ us hl => match us, hl with | [_, _], _ => rfl
  have F_w_pick := fun_mk (st := s_w_pick) l_w_pick k_w_pick p_w_pick
  have b_w_pick := F_w_pick.binds (ps := ["reel", "items"]) fun _ _ _ _ _ _ us hl => match us, hl with | [_, _], _ => rfl
  have F_w_slot := fun_mk (st := s_w_slot) l_w_slot k_w_slot p_w_slot
  have b_w_slot := F_w_slot.binds (ps := ["tick", "interval"]) fun _ _ _ _ _ _ us hl => match us, hl with | [_, _], _ => rfl
  have F_w_cell_right := fun_mk (st := s_w_cell_right) l_w_cell_right k_w_cell_right p_w_cell_right
  have b_w_cell_right := F_w_cell_right.binds (ps := ["reel"]) fun _ _ _ _ _ _ us hl => match us, hl with | [_], _ => rfl
  have F_law := fun_mk (st := s_law) l_law k_law p_law
  have b_law := F_law.binds (ps := ["script"]) fun _ _ _ _ _ _ us hl => match us, hl with | [_], _ => rfl
  exact ⟨PySem.W.fnOf "law" "law" (defArgs s_law) (defBody s_law) (defScope s_law) .none kV_law dc_law pm_law an_law cd_law ct_law, fun s v => .of_eq rfl, fun base _ _ => ok_law (⟨_, _, F_is_integer, PySem.W.mg_of X G a_is_integer, b_is_integer, _, _, F_is_between, PySem.W.mg_of X G a_is_between, b_is_between, _, _, F_check_integer, PySem.W.mg_of X G a_check_integer, b_check_integer, _, _, F_check_between, PySem.W.mg_of X G a_check_between, b_check_between, _, _, F_check_interval, PySem.W.mg_of X G a_check_interval, b_check_interval, _, _, F_slot_of, PySem.W.mg_of X G a_slot_of, b_slot_of, _, _, F_rounded_up, PySem.W.mg_of X G a_rounded_up, b_rounded_up, _, _, F_times_alive, PySem.W.mg_of X G a_times_alive, b_times_alive, _, _, F_w_reel, PySem.W.mg_of X G a_w_reel, b_w_reel, _, _, F_w_spin, PySem.W.mg_of X G a_w_spin, b_w_spin, _, _, F_w_pick, PySem.W.mg_of X G a_w_pick, b_w_pick, _, _, F_w_slot, PySem.W.mg_of X G a_w_slot, b_w_slot, _, _, F_w_cell_right, PySem.W.mg_of X G a_w_cell_right, b_w_cell_right, _, _, F_law, PySem.W.mg_of X G a_law, b_law, ⟨t_MAX_INTERVAL, PySem.W.mg_of X G e_MAX_INTERVAL⟩, ⟨t_MAX_TICKS, PySem.W.mg_of X G e_MAX_TICKS⟩, PySem.W.mg_none_of X G y_int, PySem.W.mg_none_of X G y_abs, PySem.W.mg_none_of X G y_len, PySem.W.mg_none_of X G y_max, PySem.W.mg_none_of X G y_min, PySem.W.mg_none_of X G y_range, PySem.W.mg_none_of X G y_sum, PySem.W.mg_none_of X G y_isinstance, PySem.W.mg_none_of X G y_bool⟩ : T K mg)⟩
theorem walk {l : PySem.W.OpenLaw} {q : Program} {loose : List Str} {XP : (Str → Option Value) → Heap → Prop} {YP : World → Heap → Prop} {d : DefRec} {K : Params → PySem.W.Frag} (hn : l.most = some 63) (hdf : d.params.defaults = [])
    (hY : ∀ (w : World) (h : Heap), YP w h → (K w.params).In h)
    (F : ∀ (w : World) (mg : Str → Option Value) (fa : Addr) (h : Heap), (K w.params).In h → h.Ns mainGlobals mg → mg d.name = some (.ref fa) →
      ∃ fd : FuncData, (∀ (s : Shared) (u : Value), BindsTo s fd ⟨[u], []⟩ [("script", u)]) ∧ ∀ base : Heap, (K w.params).In base → base.Ns mainGlobals mg → FnOk l.prog w (K w.params) mg base CX0 7 fa fd ["script"] (spLaw (K w.params))) :
    PySem.W.WalkO q loose XP YP l.row.toRowW d [] (fun f vs => PySem.call f vs) :=
  L2.walk_of (n := 63) (k := 7) (x := "script") (CX := fun _ => CX0) (sp := fun w => spLaw (K w.params)) hn (by decide) hdf ⟨rfl, by decide, by decide⟩ hY F (fun _ _ a ns hl _ hS => ⟨a, ns, rfl, hS, hl, fun _ => rfl⟩) fun _ _ _ _ _ z => z
end K02
open PySem PySem.W PyProof.Rows
set_option maxRecDepth 100000 in
set_option maxHeartbeats 0 in
theorem PySem.Challenge.cw_overrounds_k02_slots_and_times_holds : PySem.Challenge.rw_overrounds_k02_slots_and_times.Holds := by
  w_on; o_law; k_head; (case hw => w_witness2)
  k_fill
  refine K02.walk (l := PySem.Challenge.rw_overrounds_k02_slots_and_times) rfl rfl (fun w h Y => PySem.W.kIn_of Y) ?F
  case F =>
    intro w mg fa h KX G hmg
    refine' K02.all_mk KX G hmg ?a_is_integer ?l_is_integer ?k_is_integer ?p_is_integer ?a_is_between ?l_is_between ?k_is_between ?p_is_between ?a_check_integer ?l_check_integer ?k_check_integer ?p_check_integer ?a_check_between ?l_check_between ?k_check_between ?p_check_between ?a_check_interval ?l_check_interval ?k_check_interval ?p_check_interval ?a_slot_of ?l_slot_of ?k_slot_of ?p_slot_of ?a_rounded_up ?l_rounded_up ?k_rounded_up ?p_rounded_up ?a_times_alive ?l_times_alive ?k_times_alive ?p_times_alive ?a_w_reel ?l_w_reel ?k_w_reel ?p_w_reel ?a_w_spin ?l_w_spin ?k_w_spin ?p_w_spin ?a_w_pick ?l_w_pick ?k_w_pick ?p_w_pick ?a_w_slot ?l_w_slot ?k_w_slot ?p_w_slot ?a_w_cell_right ?l_w_cell_right ?k_w_cell_right ?p_w_cell_right ?a_law ?l_law ?k_law ?p_law ?e_MAX_INTERVAL ?e_MAX_TICKS ?y_int ?y_abs ?y_len ?y_max ?y_min ?y_range ?y_sum ?y_isinstance ?y_bool
    (case a_is_integer => k_is)
    (case l_is_integer => k_is)
    (case k_is_integer => k_is)
    (case p_is_integer => k_is)
    (case a_is_between => k_is)
    (case l_is_between => k_is)
    (case k_is_between => k_is)
    (case p_is_between => k_is)
    (case a_check_integer => k_is)
    (case l_check_integer => k_is)
    (case k_check_integer => k_is)
    (case p_check_integer => k_is)
    (case a_check_between => k_is)
    (case l_check_between => k_is)
    (case k_check_between => k_is)
    (case p_check_between => k_is)
    (case a_check_interval => k_is)
    (case l_check_interval => k_is)
    (case k_check_interval => k_is)
    (case p_check_interval => k_is)
    (case a_slot_of => k_is)
    (case l_slot_of => k_is)
    (case k_slot_of => k_is)
    (case p_slot_of => k_is)
    (case a_rounded_up => k_is)
    (case l_rounded_up => k_is)
    (case k_rounded_up => k_is)
    (case p_rounded_up => k_is)
    (case a_times_alive => k_is)
    (case l_times_alive => k_is)
    (case k_times_alive => k_is)
    (case p_times_alive => k_is)
    (case a_w_reel => k_is)
    (case l_w_reel => k_is)
    (case k_w_reel => k_is)
    (case p_w_reel => k_is)
    (case a_w_spin => k_is)
    (case l_w_spin => k_is)
    (case k_w_spin => k_is)
    (case p_w_spin => k_is)
    (case a_w_pick => k_is)
    (case l_w_pick => k_is)
    (case k_w_pick => k_is)
    (case p_w_pick => k_is)
    (case a_w_slot => k_is)
    (case l_w_slot => k_is)
    (case k_w_slot => k_is)
    (case p_w_slot => k_is)
    (case a_w_cell_right => k_is)
    (case l_w_cell_right => k_is)
    (case k_w_cell_right => k_is)
    (case p_w_cell_right => k_is)
    (case a_law => k_is)
    (case l_law => k_is)
    (case k_law => k_is)
    (case p_law => k_is)
    (case e_MAX_INTERVAL => k_is)
    (case e_MAX_TICKS => k_is)
    (case y_int => k_is)
    (case y_abs => k_is)
    (case y_len => k_is)
    (case y_max => k_is)
    (case y_min => k_is)
    (case y_range => k_is)
    (case y_sum => k_is)
    (case y_isinstance => k_is)
    (case y_bool => k_is)
#print axioms PySem.Challenge.cw_overrounds_k02_slots_and_times_holds
