import PyProof.Rows.All
import Wide.All
import OpenK.AllK
import Wide.FinOn
import HandS.ForMost
import HandS.ForExc
import HandS.ExcInit
import HandS.ExcField
import KE.KExcInit
import HandS.ExcIs
import HandS.IsInst
import HandS.TryMany
import HandS.Wide
import HandS.Walk
import HandS.Style
import HandS.Lambda
import HandS.Defaults
import HandS.Star
import HandS.Gcd
import HandS.Conv
import KE.DataCmp
import HandS.EndTab
import KE.KNestM
import HandS.ClsMeth
import KE.RegKIsAll
import PySem.Challenge.RW_overrounds_k04_errors_of_numbers
set_option Elab.async false
set_option linter.all false
set_option maxRecDepth 100000
set_option maxHeartbeats 2000000
namespace OXB
open PySem PySem.W PySem.Calls PyProof.Rows PySem.HandSPX
/-- what the chain behind an error class must have -/
structure Chain (bm : List Value) (B : String) : Prop where
  own : bm.contains (.type B) = true
  noA : bm.contains (.type "AttributeError") = false
  noN : bm.contains (.type "NameError") = false
  obj : bm.contains (.type "object") = true
  go : ∀ x : Value, refuseLoop x "__setattr__" bm = pure ()
section
variable {M : Model} {A : Around} {E : Value → Shared → Prop} {hp : Heap} {gs : Array GenState} {dr : Drawn} {tk : Nat} {os : OsState}
variable {cn cq : Str} {C N : Addr} {bl bm mB : List Value} {hd : Bool} {sl : List Str} {sb : List Value} {ab : Bool} {co : Option Bool} {cd : Option Addr} {j0 j1 j2 j3 j5 : Option Value} {B nI iI : String}
theorem checks (F : ExcBaseFacts B nI iI mB) (T : Chain bm B) {us : List Value} {Q : Unit → Shared → Prop}
    (cl : hp.get? C = some (excClassObj cn cq C N bl bm hd sl sb ab co cd j0 j1 j2 j3 j5 nI)) (k : Q () ⟨hp, gs, dr, tk, os⟩) : wpAny M A (checkBuiltinCall nI ⟨.ref C :: us, []⟩) Q E ⟨hp, gs, dr, tk, os⟩ := by
  have c1 : (Value.ref C :: bm).contains (.type B) = true := by rw [List.contains_cons, T.own, Bool.or_true]
  have star := F.noStar
  simp only [checkBuiltinCall, F.newKind, F.newSplit, F.newRow]
  repeat (first
    | refine wpAny_loadPart_at cl ?_
    | (refine wpAny_isSubtype_exc cl ?_; rw [c1])
    | refine wpAny_staticBase_exc cl ?_
    | refine wpAny_madeBy_exc cl ?_
    | simp only [bne_self_eq_false, Bool.false_eq_true, if_false]
    | wp_step)
  exact k
end
section
variable {pr : Program} {w : World} {A : Around} {E : Value → Shared → Prop} {R : Result → Shared → Prop} {hp : Heap} {gs : Array GenState} {dr : Drawn} {tk : Nat} {os : OsState}
variable {cn cq : Str} {C N : Addr} {bl bm mB : List Value} {hd : Bool} {sl : List Str} {sb : List Value} {ab : Bool} {co : Option Bool} {cd : Option Addr} {j0 j1 j2 j3 j5 : Option Value} {B nI iI : String}
theorem makes (F : ExcBaseFacts B nI iI mB) (T : Chain bm B) {us : List Value}
    (cl : hp.get? C = some (excClassObj cn cq C N bl bm hd sl sb ab co cd j0 j1 j2 j3 j5 nI)) (hz : us.length ≤ sizeLine)
    (k : R (.ok (.ret (.ref (hp.objs.size + 1)))) ⟨(hp.push (PySem.W.kdv_tup us)).push (excO C hp.objs.size), gs, dr, tk, os⟩) :
    codeAny (model pr w) A (.builtin nI ⟨.ref C :: us, []⟩) R ⟨hp, gs, dr, tk, os⟩ := by
  have ends := F.ends
  have c1 : (Value.ref C :: bm).contains (.type B) = true := by rw [List.contains_cons, T.own, Bool.or_true]
  have c2 : (Value.ref C :: bm).contains (.type "AttributeError") = false := by rw [List.contains_cons, T.noA]; rfl
  have c3 : (Value.ref C :: bm).contains (.type "NameError") = false := by rw [List.contains_cons, T.noN]; rfl
  refine codeAny_builtinAt F.entry ?_
  unfold Builtin.«BaseException.__new__»
  refine PySem.wpAt_bind ?_
  show PySem.wpAt _ _ _ (stack >>= _) _ _ _
  refine PySem.wpAt_bind (PySem.wpAt_stack fun _ _ => PySem.wpAt_of_wpAny ?_)
  wp_walk
  refine PySem.wpAt_of_wpAny ?_
  rw [F.owner]
  repeat (first
    | with_reducible refine wpAny_madeHere_exc F.canon cl ?_
    | with_reducible refine wpAny_loadPart_at cl ?_
    | (with_reducible refine wpAny_isSubtype_exc cl ?_; first | rw [c1] | rw [c2] | rw [c3])
    | wp_step)
  show R _ _
  rw [Heap.size_push]
  exact k
theorem tcall (F : ExcBaseFacts B nI iI mB) (T : Chain bm B) {us : List Value} {f : Addr} {Q : Fin → Shared → Prop}
    (cl : hp.get? C = some (excClassObj cn cq C N bl bm hd sl sb ab co cd j0 j1 j2 j3 j5 nI))
    (li : PySem.W.Looks (model pr w) hp (typeLookup (.ref C) "__init__") (some (.ref f))) (lb : ∀ x, PySem.W.Looks (model pr w) hp (bindSpecial (.ref f) x) (.ref f, [x])) (hz : us.length ≤ sizeLine)
    (k : codeAny (model pr w) A (.call (.ref f) ⟨.ref (hp.objs.size + 1) :: us, []⟩)
      (fun r s' => match r with | .ok (.ret v) => v = .none ∧ Q (.done (.ret (.ref (hp.objs.size + 1)))) s' | .ok _ => False | .error e => E e s')
      ⟨(hp.push (PySem.W.kdv_tup us)).push (excO C hp.objs.size), gs, dr, tk, os⟩) :
    wpAny (model pr w) A (Builtin.«type.__call__» ⟨.ref C :: us, []⟩) Q E ⟨hp, gs, dr, tk, os⟩ := by
  repeat (first | with_reducible refine wpAny_loadPart_at cl ?_ | with_reducible refine wpAny_madeBy_exc cl ?_ | wp_step)
  refine codeAny_call_builtin_code (Code.quiet_builtin _ F.quiet) (checks F T cl ?_)
  refine makes F T cl hz ?_
  show wpAny _ _ _ _ _ _
  have up : ∀ b o, hp.get? b = some o → ((hp.push (PySem.W.kdv_tup us)).push (excO C hp.objs.size)).get? b = some o := fun b o z => Heap.get?_push_of_some _ (Heap.get?_push_of_some _ z)
  have cl2 := up _ _ cl
  have at2 : ((hp.push (PySem.W.kdv_tup us)).push (excO C hp.objs.size)).get? (hp.objs.size + 1) = some (excO C hp.objs.size) := by heap_get
  have cC : (Value.ref C :: bm).contains (.ref C) = true := by simp
  have li2 := li.keeps up
  have lb2 := (lb (.ref (hp.objs.size + 1))).keeps up
  unfold isInstance
  repeat (first | with_reducible refine wpAny_loadPart_at at2 ?_ | (with_reducible refine wpAny_isSubtype_exc cl2 ?_; rw [cC]) | wp_step)
  show wpAny _ _ (typeLookup (.ref C) _) _ _ _
  refine li2.at ?_
  refine wpAny_holding (wpAny_bind (lb2.at ?_))
  refine wpAny_bind (wpAny_call (codeAny_mono k fun r s' z => ?_))
  rcases r with e |
      (v | _ | _ | _) <;> first | exact z | exact z.elim | skip
  obtain ⟨rfl, z⟩ := z
  first
    | exact wpAny_pure (wpAny_pure z)
    | (wp_walk; exact z)
theorem call_any (F : ExcBaseFacts B nI iI mB) (T : Chain bm B) {us : List Value} {f : Addr}
    (cl : hp.get? C = some (excClassObj cn cq C N bl bm hd sl sb ab co cd j0 j1 j2 j3 j5 nI))
    (li : PySem.W.Looks (model pr w) hp (typeLookup (.ref C) "__init__") (some (.ref f))) (lb : ∀ x, PySem.W.Looks (model pr w) hp (bindSpecial (.ref f) x) (.ref f, [x])) (hz : us.length ≤ sizeLine)
    (k : codeAny (model pr w) (A.under (.builtin "type.__call__" ⟨.ref C :: us, []⟩)) (.call (.ref f) ⟨.ref (hp.objs.size + 1) :: us, []⟩) (PySem.W.InitBack (hp.objs.size + 1) R)
      ⟨(hp.push (PySem.W.kdv_tup us)).push (excO C hp.objs.size), gs, dr, tk, os⟩) :
    codeAny (model pr w) A (.call (.ref C) ⟨us, []⟩) R ⟨hp, gs, dr, tk, os⟩ := by
  have t1 := tc_lookup
  have t2 := tc_bind (.ref C)
  have t3 : (⟨hp, gs, dr, tk, os⟩ : Shared).TypeIs (.ref C) "type" := ⟨_, cl, rfl⟩
  refine codeAny_of_tree ?_
  show wpAny _ _ (callAny (.ref C) _) _ _ _
  repeat (any_goals (first | assumption | with_reducible refine wpAny_loadPart_at cl ?_ | wp_step))
  refine ⟨rfl, ?_⟩
  refine codeAny_call_builtin_at (Code.quiet_builtin _ (by decide +kernel)) entry_typeCall (wpAny_check_type_call_sub cl (tcall F T cl li lb hz ?_))
  refine codeAny_mono k fun r s' z => ?_
  rcases r with e | (v | _ | _ | _) <;> exact z
/-- the common beginning of a store into such an object -/
theorem osa_to {K : Frag} {nm : Str} {tn : Tok} {v : Value} {x dx : Addr} {ox : Obj} {od : Option Obj} {kd : ClassData} (X : K.In hp) (I : PySem.W.InstAt hp x ox C od) (hk : PySem.W.clsIn K C = some kd)
    (hm : kd.mro = .ref C :: bm) (T : Chain bm B) (ha : PySem.W.findIn K (.ref C) nm = some none)
    (k : wpAny (model pr w) (A.in1) (Builtin.ObjectAttr.storeInOwnDict (.ref x) (.ref C) (.str nm tn) nm v false)
      (fun fin s' => match fin with | Fin.done f => R (.ok f) s' | Fin.again c' => c'.quiet = true ∧ codeAny (model pr w) A c' R s') (fun e s' => R (.error e) s') ⟨hp, gs, dr, tk, os⟩) :
    codeAny (model pr w) A (.call (.builtin "object.__setattr__") ⟨[.ref x, .str nm tn, v], []⟩) R ⟨hp, gs, dr, tk, os⟩ := by
  have S := F.store_object
  have e1 : kd.mro.isEmpty = false := by rw [hm]; rfl
  have e2 : kd.mro.contains (.type "object") = true := by rw [hm, List.contains_cons, T.obj, Bool.or_true]
  have is : PySem.W.Looks (model pr w) hp (isInstance (.ref x) (.type "object")) true :=
    I.type.andThen (PySem.W.looks_mroIn X (by unfold PySem.W.mroIn; rw [hk, Option.bind_some, if_neg (by rw [e1]; decide), e2]))
  refine codeAny_call_builtin S.slot.plain S.entry (@PySem.W.check_slot (model pr w) _ _ ⟨hp, gs, dr, tk, os⟩ "object.__setattr__" "object" "__setattr__" (.ref x) [.str nm tn, v] [] _
    S.kind S.split is (S.args (.ref x) (.str nm tn) v) ?_)
  have l1 : PySem.W.Looks (model pr w) hp (mroOf (.ref C)) kd.mro := (PySem.W.looks_clsIn X hk).andThen .now
  have l2 : PySem.W.Looks (model pr w) hp (Builtin.ObjectAttr.storeTaker? none) none := .now
  rw [PySem.W.osa_eq, refuse_eq]
  refine wpAny_bind (wpAny_bind (I.type.at (wpAny_bind (l1.at ?_))))
  rw [hm, refuseLoop_ref, T.go]
  refine wpAny_pure (wpAny_bind (I.type.at (wpAny_bind ((PySem.W.looks_findIn X ha).at (wpAny_bind (l2.at ?_))))))
  exact k
theorem osa_one {K : Frag} {nm : Str} {tn : Tok} {v : Value} {x : Addr} {fv : Array Value} {kd : ClassData} (X : K.In hp) (hx : hp.get? x = some { cls := .ref C, data := .fields fv }) (hk : PySem.W.clsIn K C = some kd)
    (hm : kd.mro = .ref C :: bm) (hh : kd.hasDict = true) (T : Chain bm B) (ha : PySem.W.findIn K (.ref C) nm = some none)
    (k : ∀ G tn' dx, (∀ b o, b ≠ x → hp.get? b = some o → G.get? b = some o) → hp.objs.size ≤ dx → dx ≠ x → G.get? x = some { cls := .ref C, dict := some dx, data := .fields fv } →
      G.Ns1 dx (fun y => if y = nm then some v else none) → R (.ok (.ret .none)) ⟨G, gs, dr, tn', os⟩) :
    codeAny (model pr w) A (.call (.builtin "object.__setattr__") ⟨[.ref x, .str nm tn, v], []⟩) R ⟨hp, gs, dr, tk, os⟩ := by
  have lc : PySem.W.Looks (model pr w) hp (classData C) kd := PySem.W.looks_clsIn X hk
  have ne : x ≠ hp.objs.size := Nat.ne_of_lt (Heap.lt_size hx)
  refine osa_to (dx := x) (od := none) X ⟨hx, rfl, rfl, trivial⟩ hk hm T ha ?_
  obtain ⟨_, _, _, _, _, hdd, _, _, _, _, _⟩ := kd
  dsimp only at hh
  subst hh
  unfold Builtin.ObjectAttr.storeInOwnDict Builtin.ObjectAttr.ownDictForStores
  repeat (first
    | with_reducible refine store_in_new ?_ ?_
    | with_reducible refine wpAny_loadPart_at hx ?_
    | with_reducible refine lc.at ?_
    | wp_step)
  · exact ⟨_, #[], _, (Heap.get?_update_ne _ _ _ _ ne.symm).trans (Heap.get?_push_at rfl rfl), rfl, fun e z => absurd z (by simp), fun _ => rfl⟩
  · intro G tn' hn sm
    have hx2 : (hp.push { cls := .type "dict", data := .dict #[] }).get? x = some { cls := .ref C, data := .fields fv } := Heap.get?_push_of_some _ hx
    refine k G tn' hp.objs.size (fun b o hb z => ?_) (Nat.le_refl _) ne.symm ?_ hn
    · exact (sm.2 b (Nat.ne_of_lt (Heap.lt_size z))).trans ((Heap.get?_update_ne _ _ _ _ hb).trans (Heap.get?_push_of_some _ z))
    · exact (sm.2 x ne).trans (Heap.get?_update_self _ hx2 rfl)
theorem osa_more {K : Frag} {nm : Str} {tn : Tok} {v : Value} {x dx : Addr} {fv : Array Value} {kd : ClassData} {m0 : Str → Option Value} {ns : List Str} (X : K.In hp)
    (hx : hp.get? x = some { cls := .ref C, dict := some dx, data := .fields fv }) (hn : hp.Ns1 dx m0) (hw : Within m0 ns) (hz : ns.length ≤ 1000) (hk : PySem.W.clsIn K C = some kd)
    (hm : kd.mro = .ref C :: bm) (hh : kd.hasDict = true) (T : Chain bm B) (ha : PySem.W.findIn K (.ref C) nm = some none)
    (k : ∀ G tn', (∀ b o, b ≠ dx → hp.get? b = some o → G.get? b = some o) → G.Ns1 dx (fun y => if y = nm then some v else m0 y) → R (.ok (.ret .none)) ⟨G, gs, dr, tn', os⟩) :
    codeAny (model pr w) A (.call (.builtin "object.__setattr__") ⟨[.ref x, .str nm tn, v], []⟩) R ⟨hp, gs, dr, tk, os⟩ := by
  obtain ⟨oD, _, _, hoD, _, _⟩ := hn.count hw
  have lc : PySem.W.Looks (model pr w) hp (classData C) kd := PySem.W.looks_clsIn X hk
  refine osa_to (dx := x) (od := some oD) X ⟨hx, rfl, rfl, hoD⟩ hk hm T ha ?_
  obtain ⟨_, _, _, _, _, hdd, _, _, _, _, _⟩ := kd
  dsimp only at hh
  subst hh
  unfold Builtin.ObjectAttr.storeInOwnDict Builtin.ObjectAttr.ownDictForStores
  repeat (first
    | with_reducible refine PySem.OEX.store_in_old hn hw hz ?_
    | with_reducible refine wpAny_loadPart_at hx ?_
    | with_reducible refine lc.at ?_
    | wp_step)
  intro G tn' hn' sm
  exact k G tn' (fun b o hb z => (sm.2 b hb).trans z) hn'
end
end OXB
namespace L2
open PySem PySem.Spec PyProof.Rows
/-- what the written part says of an error class, whatever its base -/
structure OxB (K : PySem.W.Frag) (C : Addr) : Prop where
  cls : ∃ nm q N bs bm sn sub ab col dd k0 k1 k2 k3 k5 B nI iI mB, ExcBaseFacts B nI iI mB ∧ OXB.Chain bm B ∧ K.lookup C = some (excClassObj nm q C N bs bm true sn sub ab col dd k0 k1 k2 k3 k5 nI)
  sa : PySem.W.findIn K (.ref C) "__setattr__" = some
      (some (.builtin "object.__setattr__"))
  exC : PySem.W.subIn K (.ref C)
      (.type "BaseException") = some true
  tyC : PySem.W.typeIn K (.ref C) = some (.type "type")
  kC : PySem.W.keepIn K (.ref C) = true
section
variable {X : Cx} {pins : List (Addr × Obj)} {σ : St} {H : Hp} {s : Shared} {a C dx : Addr} {f : Str}
    {y : V} {u : Value} {fs : List (Str × V)} {Q : Unit → Shared → Prop} {E : Value → Shared → Prop} {A : Around}
theorem st_first (T : OxB X.K C) (I : Inv X pins σ H s) (ea : H a = some (exo a C none)) (no : PySem.W.findIn X.K (.ref C) f = some none) (ry : RelV y u)
    (k : ∀ d s', H d = none → d ≠ a → Inv X pins σ (upd (upd H d (exd d [(f, y)])) a (exo a C (some d))) s' → Q () s') : wpAny (model X.prog X.w) A (setAttr (.ref a) f u) Q E s := by
  obtain ⟨nm, q, N, bs, bm, sn, sub, ab, col, dd, k0, k1, k2, k3, k5, B, nI, iI, mB, F, Ch, hC⟩ := T.cls
  have hcl : PySem.W.clsIn X.K C = some { name := nm, bases := bs, mro := .ref C :: bm, ns := N, qualname := q, hasDict := true, slotNames := sn, subclasses := sub, abstract := ab, collection := col, hasDel := false } := by
    unfold PySem.W.clsIn
    rw [hC] <;> rfl
  obtain ⟨t1, ho⟩ := exo_at I.hok ea
  obtain ⟨hp, g, dr, t, os⟩ := s
  refine PySem.W.set_plain I.kIn (od := none) ⟨ho, rfl, rfl, trivial⟩ T.sa ?_
  refine OXB.osa_one I.kIn ho hcl rfl rfl Ch no (fun G tn d keep new ned hx hn => ?_)
  have hd : H d = none := I.hok.fresh new
  have old : ∀ {b : Addr} {o : Obj}, hp.get? b = some o → b ≠ d := fun {b o} z => Nat.ne_of_lt (Nat.lt_of_lt_of_le (Heap.lt_size z) new)
  have nota : ∀ {b : Addr}, H b = none → b ≠ a := fun {b} z e => by
    rw [e, ea] at z
    cases z
  have U : Un X.fs [] H (upd (upd H d (exd d [(f, y)])) a (exo a C (some d))) hp G := {
    keep := fun b o z n _ _ => keep b o (nota n) z
    slot := fun b o z n _ _ => ⟨o.slots, keep b o (nota n) z⟩
    free := fun b o z n _ => by
      rw [upd_ne (nota n), upd_ne (old z)]
      exact n
    there := fun b o z _ => by
      by_cases e : b = a
      · exact ⟨_, by rw [e]; exact hx⟩
      · exact ⟨o, keep b o e z⟩
    tups := fun b xs z => by
      rw [upd_ne (at_ne ea z exo_tup), upd_ne (ne_of_none z hd)]
      exact z
    frzs := fun b o v z => by
      rw [upd_ne (at_ne ea z exo_frz), upd_ne (ne_of_none z hd)]
      exact z
    tbls := fun b ps z => ⟨#[], by
      rw [upd_ne (at_ne ea z exo_tbl), upd_ne (ne_of_none z hd), z]
      simp⟩ }
  refine k d _ hd ned (I.un (t' := tn) U fun b o z => ?_)
  by_cases e1 : b = a
  · subst e1
    rw [upd_same] at z
    cases z
    exact exo_ok hx
  · rw [upd_ne e1] at z
    by_cases e2 : b = d
    · subst e2
      rw [upd_same] at z
      cases z
      exact exd_ok hn (relO_put
          (fs := []) ry fun g => True.intro)
    · rw [upd_ne e2] at z
      refine (I.hok b o z).stay (fun c v hc y => ?_) (fun c hc => ?_) (fun c xs hc => ?_)
      · refine keep c v ?_ y
        rcases hc with hc | hc
        · rw [hc]
          exact e1
        · exact at_ne ea hc exo_own
      · rw [upd_ne (at_ne ea hc exo_own), upd_ne (ne_of_none hc hd)]
        exact hc
      · rw [upd_ne (at_ne ea hc exo_tup), upd_ne (ne_of_none hc hd)]
        exact hc
theorem st_more (T : OxB X.K C) (I : Inv X pins σ H s) (ea : H a = some (exo a C (some dx))) (ed : H dx = some (exd dx fs)) (hl : fs.length ≤ 900) (no : PySem.W.findIn X.K (.ref C) f = some none) (ry : RelV y u)
    (k : ∀ s', Inv X pins σ (upd H dx (exd dx ((f, y) :: fs))) s' → Q () s') : wpAny (model X.prog X.w) A (setAttr (.ref a) f u) Q E s := by
  obtain ⟨nm, q, N, bs, bm, sn, sub, ab, col, dd, k0, k1, k2, k3, k5, B, nI, iI, mB, F, Ch, hC⟩ := T.cls
  have hcl : PySem.W.clsIn X.K C = some { name := nm, bases := bs, mro := .ref C :: bm, ns := N, qualname := q, hasDict := true, slotNames := sn, subclasses := sub, abstract := ab, collection := col, hasDel := false } := by
    unfold PySem.W.clsIn
    rw [hC] <;> rfl
  obtain ⟨t1, ho⟩ := exo_at I.hok ea
  obtain ⟨mA, hn, rel⟩ := exd_at I.hok ed
  have hw := within_of rel
  obtain ⟨hp, g, dr, t, os⟩ := s
  obtain ⟨oD, _, _, hoD, _, _⟩ := hn.count hw
  refine PySem.W.set_plain I.kIn (od := some oD) ⟨ho, rfl, rfl, hoD⟩ T.sa ?_
  refine OXB.osa_more I.kIn ho hn hw (by rw [List.length_map]; omega) hcl rfl rfl Ch no (fun G tn keep hn2 => ?_)
  have there : ∃ o, G.get? dx = some o := by
    obtain ⟨o, _, _, z, _⟩ := hn2
    exact ⟨o, z⟩
  refine k _ (I.write (t' := tn) (x := dx) (e := dx) (o := exd dx ((f, y) :: fs)) ?_ (.inl rfl) keep there (exd_ok hn2 (relO_put ry rel)))
  rw [ed]
  exact True.intro
end
/-- self.f = e in an error -/
def tOsB (K : PySem.W.Frag) (f : Str) (to te : TE) : TS := fun D σ H => te σ H fun y H1 => to σ H1 fun x H2 => ∃ a C : Addr, x = .ref a ∧ OxB K C ∧ PySem.W.findIn K (.ref C) f = some none ∧
  ((H2 a = some (exo a C none) ∧ ∀ d, H2 d = none → d ≠ a → D.nx σ (upd (upd H2 d (exd d [(f, y)])) a (exo a C (some d)))) ∨
    ∃ (d : Addr) (fs : List (Str × V)), H2 a = some (exo a C (some d)) ∧ H2 d = some (exd d fs) ∧ fs.length ≤ 900 ∧ D.nx σ (upd H2 d (exd d ((f, y) :: fs))))
section
variable {X : Cx} {o e : Expr} {es : List Expr} {to te : TE} {ta : TA} {f : Str} {p p' pos : Pos}
theorem ps_osB (ho : PE X o to) (he : PE X e te) (hs : swapsWith e (some (.Attribute o f p')) pos.line X.env = pure false := by rfl) : PS X (.Assign [.Attribute o f p'] e pos) (tOsB X.K f to te) := by
  refine ⟨fun pins s σ H D I h => plainObj_wpAny_Assign_Attribute (thn (he.run pins s σ H _ I h) fun v s1 ⟨y, H1, I1, r1, q1⟩ => thn (ho.run pins s1 σ H1 _ I1 q1) fun u s2 ⟨x, H2, I2, r2, a, C, ex, T, no, q⟩ => ?_) hs⟩
  subst ex
  cases (show u = Value.ref a from r2)
  rcases q with ⟨ea, q⟩ | ⟨d, fs, ea, ed, hl, q⟩
  · exact st_first T I2 ea no r1 fun d s' n ne J => ⟨σ, _, J, q d n ne⟩
  · exact st_more T I2 ea ed hl no r1 fun s' J => ⟨σ, _, J, q⟩
/-- the object is made, its own __init__ has run -/
theorem made_ox {CX : CXT} {C fI : Addr} {n : Nat} {fd : FuncData} {ps : List Str} {sp : Sp} {ds : List Value} {dvs vs : List V} {us : List Value} {pins : List (Addr × Obj)} {σ : St} {H1 : Hp} {s1 : Shared} {QV : Addr → V → Hp → Prop} {Q : Value → Shared → Prop}
    (T : OxB X.K C) (iC : PySem.W.findIn X.K (.ref C) "__init__" = some (some (.ref fI))) (tI : PySem.W.typeIn X.K (.ref fI) = some (.type "function"))
    (F1 : FnOk X.prog X.w X.K X.mg X.base CX n fI fd ps sp) (hr : Room (n + 1) X.A) (hb : Binds X.K fd ps ds) (hd : Vals dvs ds) (hx : Passes CX X (fun _ _ _ => False)) (I1 : Inv X pins σ H1 s1) (r1 : Vals vs us) (hz : vs.length ≤ 1000)
    (q1 : ∀ a, H1 a = none → sp (.ref a :: (vs ++ dvs)) (upd H1 a (exo a C none)) (QV a) (fun _ _ _ => False))
    (k2 : ∀ (a : Addr) (h2 : Heap) (t2 : Nat) (H2 : Hp) (v : V) (s' : Shared), s1.heap.objs.size ≤ a → H1 a = none → (∀ b o, s1.heap.get? b = some o → h2.get? b = some o) → Inv X pins σ (upd H1 a (exo a C none)) ⟨h2, s1.gens, s1.drawn, t2, s1.os⟩ →
      Un (frs X.stack) [] (upd H1 a (exo a C none)) H2 h2 s'.heap → HOk X.prog X.w H2 s'.heap → s'.os = s1.os → AllBare s'.gens → QV a v H2 → v = .non ∧ Q (.ref a) s') :
    wpAny (model X.prog X.w) X.A (call (.ref C) us) Q X.xe s1 := by
  obtain ⟨nm, q, N, bs, bm, sn, sub, ab, col, dd, k0, k1, k3, k4, k5, B, nI, iI, mB, F, Ch, hC⟩ := T.cls
  obtain ⟨hp, g, dr, tk, os⟩ := s1
  have new : hp.objs.size ≤ hp.objs.size + 1 := Nat.le_succ _
  have hn : H1 (hp.objs.size + 1) = none := I1.hok.fresh new
  have hq := q1 _ hn
  have up : ∀ b o, hp.get? b = some o → ((hp.push (PySem.W.kdv_tup us)).push (PySem.HandSPX.excO C hp.objs.size)).get? b = some o := fun b o z => Heap.get?_push_of_some _ (Heap.get?_push_of_some _ z)
  have at2 : ((hp.push (PySem.W.kdv_tup us)).push (PySem.HandSPX.excO C hp.objs.size)).get? (hp.objs.size + 1) = some (PySem.HandSPX.excO C hp.objs.size) := by heap_get
  have I2 : Inv X pins σ (upd H1 (hp.objs.size + 1) (exo (hp.objs.size + 1) C none))
      ⟨(hp.push (PySem.W.kdv_tup us)).push (PySem.HandSPX.excO C hp.objs.size), g, dr, tk, os⟩ :=
    I1.laid (t' := tk) up new (exo_ok at2)
  have r2 : Vals (V.ref (hp.objs.size + 1) :: (vs ++ dvs)) (Value.ref
      (hp.objs.size + 1) :: (us ++ ds)) := .cons rfl (r1.append hd)
  have len : (Value.ref (hp.objs.size + 1) :: us ++ ds).length = ps.length := by
    have e := r2.length
    rw [F1.len _ _ _ _ hq] at e
    exact e.symm
  have uz : us.length ≤ sizeLine := by
    rw [← Paired.length r1, sizeLine_eq]
    omega
  have run := F1.run _ X.stack _ _ ⟨Value.ref (hp.objs.size + 1) :: us, []⟩ (Value.ref (hp.objs.size + 1) :: (us ++ ds)) _ _ (fun _ _ _ => False) (hr.make C us []) (I2.env0.make C us []) (hb _ (Value.ref (hp.objs.size + 1) :: us) I2.kIn len) r2 hq
  refine wpAny_call (OXB.call_any F Ch (I1.kIn _ _ hC) (PySem.W.looks_findIn I1.kIn iC) (fun x => PySem.W.bind_fn I1.kIn x tI) uz (codeAny_mono run fun r s' z => ?_))
  cases r with
  | error er => exact hx pins σ _ _ er s' I2 z
  | ok fl =>
    cases fl with
    | next => exact False.elim z
    | brk => exact False.elim z
    | cont => exact False.elim z
    | ret u =>
      obtain ⟨v, H2, os2, bare2, un2, hok2, rv, qv⟩ := z
      obtain ⟨ev, z⟩ := k2 _ _ _ H2 v s' new hn up I2 un2 hok2 os2 bare2 qv
      subst ev
      exact ⟨rv, z⟩
/-- raise C(e, ..) -/
theorem pmk_ox {CX : CXT} {x : Str} {C fI : Addr} {k : Nat} {fd : FuncData} {ps : List Str} {sp : Sp} {ds : List Value} {dvs : List V} (T : OxB X.K C) (iC : PySem.W.findIn X.K (.ref C) "__init__" = some (some (.ref fI))) (tI : PySem.W.typeIn X.K (.ref fI) = some (.type "function"))
    (F1 : FnOk X.prog X.w X.K X.mg X.base CX k fI fd ps sp) (hr : Room (k + 1) X.A) (hb : Binds X.K fd ps ds)
        (hd : Vals dvs ds) (hx : Passes CX X (fun _ _ _ => False)) (hg : Gl X x) (hm : X.mg x = some (.ref C)) (ha : PA X (e :: es) ta)
    (hdb : (x == ("__debug__" : Str)) = false := by decide) (he : starEach (e :: es) X.env =
        (false, eval e X.env) :: starEach es X.env := by rfl) (hpl : (backTo pos (starEach es X.env)).any (·.1) = false := by rfl) :
    PMk X (.Call (.Name x p)
        (e :: es) [] pos) (tMkO C sp dvs ta) := by
  intro pins s σ H Q I h
  refine wpAny_Call_Name_kw (ld_glob I hg hm ?_ hdb)
  refine PySem.W.callWith_K (h₀ := X.base) I.ok.mod.kin T.kC (thn
      (ha.run pos pins s σ H _ I h) fun us s1 ⟨vs, H1, I1, r1, hz, q1⟩ => ⟨I1.kIn, ?_⟩) he hpl
  refine made_ox T iC tI F1 hr hb hd hx I1 r1 hz q1 fun a h2 t2 H2 v s' new hn up I2 un hok os2 bare z => ?_
  obtain ⟨ev, d, fs, ea, ed, hd1, q⟩ := z
  obtain ⟨hp, g, dr, tk, os⟩ := s1
  obtain ⟨h3, g3, d3, t3, os3⟩ := s'
  exact ⟨ev, mk_end (raises_own T.exC T.tyC) I1 new up un hok os2 bare ea ed hd1 q⟩
end
end L2
namespace PySem.W
open PySem PySem.Spec PySem.Calls PyProof.Rows
section
variable {pr : Program} {w : World} {A : Around} {E : Value → Shared → Prop} {s : Shared} {K : Frag} {x D : Addr} {ox : Obj} {oD : Option Obj}
theorem oxb_find {m : Str} {a g : Value} (c : (clsIn K D).isSome = true) (ea : findIn K (.ref D) m = some (some a)) (eg : specialIn K a "__get__" = some (some g)) (et : takesIn K a = some true) : findObj K D oD m = some (.bind g a) := by
  obtain ⟨kd, c⟩ := Option.isSome_iff_exists.mp c
  unfold findObj
  rw [c, Option.bind_some, ea, Option.bind_some]
  simp [eg, et]
theorem oxb_class {Q : Option Value → Shared → Prop} (g1 : findIn K (.ref D) "__getattribute__" = some (some (.builtin "BaseException.__getattribute__"))) (g2 : findIn K (.ref D) "__getattr__" = some none) (g3 : subIn K (.ref D) (.type "BaseException") = some true)
    (g4 : hasDictIn K D = true) (g5 : findIn K (.ref D) "__class__" = some (some (.builtin "object.__class__")))
    (g6 : specialIn K (.builtin "object.__class__") "__get__" = some (some (.builtin "getset_descriptor.__get__"))) (g7 : takesIn K (.builtin "object.__class__") = some true) (g8 : mroIn K D (.type "object") = some true)
    (X : K.In s.heap) (I : InstAt s.heap x ox D oD) (k : Q (some (.ref D)) { s with toks := s.toks + 1 }) : wpAny (model pr w) A (getAttr? (.ref x) "__class__") Q E s := by
  have fo : findObj K D oD "__class__" = some (.bind (.builtin "getset_descriptor.__get__") (.builtin "object.__class__")) :=
    oxb_find (by obtain ⟨kd, c, _⟩ := any_some g4; rw [c]; rfl) g5 g6 g7
  obtain ⟨hp, gs, dr, tk, os⟩ := s
  have l0 := I.type (M := model pr w)
  have l1 := looks_findIn (M := model pr w) X g1
  have l2 := looks_findIn (M := model pr w) X g2
  have l3 := looks_find (M := model pr w) X I fo
  have is : Looks (model pr w) hp (isInstance (.ref x) (.type "BaseException")) true := l0.andThen (looks_subIn X g3)
  have n2 : (Value.builtin "BaseException.__getattribute__" == Value.builtin "object.__getattribute__") = false := by decide +kernel
  have n1 : (onTheHeap (Value.ref D) && Value.builtin "BaseException.__getattribute__" == Value.builtin "object.__getattribute__") = false := by rw [n2]; rfl
  have n0 : (false && onTheHeap (Value.builtin "BaseException.__getattribute__")) = false := rfl
  unfold getAttr? getAttrBy? getAttrBy
  refine wpAny_bind (wpAny_mkText (wpAny_bind (wpAny_attempt (wpAny_holding (wpAny_bind (l0.at (wpAny_bind (l1.at ?_))))))))
  show wpAny _ _ (if (onTheHeap
      (Value.ref D) && Value.builtin "BaseException.__getattribute__" == Value.builtin "object.__getattribute__") = true then _ else _) _ _ _
  rw [n1, if_neg Bool.false_ne_true]
  unfold getAttrByItsOwn hookBefore
  refine wpAny_bind ?_
  rw [if_pos (show onTheHeap (Value.ref D) = true from rfl)]
  refine l2.at (wpAny_bind (wpAny_attempt (wpAny_holding ?_)))
  unfold callGetattribute
  rw [n0, if_neg Bool.false_ne_true]
  unfold boundAndCalled
  rw [PySem.F.excAttr_ValueError.ga.bind (.ref x)]
  refine wpAny_bind (wpAny_pure ?_)
  show wpAny _ _ (call (.builtin "BaseException.__getattribute__") [.ref x, .str "__class__" tk]) _ _ _
  refine wpAny_call
      (codeAny_call_builtin PySem.F.excAttr_ValueError.ga.plain PySem.F.entry_bexc_ga ?_)
  refine @check_slot (model pr w) _ _ ⟨hp, gs, dr, tk + 1, os⟩ "BaseException.__getattribute__" "BaseException" "__getattribute__" (.ref x) [.str "__class__" tk] [] _
    (by decide +kernel) (by decide +kernel) is (PySem.F.args_bexc_ga (.ref x) (.str "__class__" tk)) ?_
  unfold Builtin.«object.__getattribute__»
  refine wpAny_bind (wpAny_of_eq (a := ((Value.ref x : Value), [Value.str "__class__" tk])) (by first | rfl | (simp only [slotArgs]; rfl)) ?_)
  refine wpAny_bind (wpAny_pure (wpAny_bind (l0.at (wpAny_bind (l3.at ?_)))))
  show wpAny _ _ (holding [Value.builtin "object.__class__"] (call
      (.builtin "getset_descriptor.__get__") [.builtin "object.__class__", .ref x, .ref D]) >>= ret) _ _ _
  refine wpAny_bind (wpAny_holding (wpAny_call (class_get (s := ⟨hp, gs, dr, tk + 1, os⟩) (ox := ox) (od := oD) X I g8 ?_)))
  refine wpAny_pure ?_
  show wpAny _ _ (handedOut (.ref D)) _ _ _
  rw [handedOut_of (v := .ref D) rfl]
  first
    | exact wpAny_pure (wpAny_pure k)
    | exact wpAny_pure k
    | exact wpAny_pure (wpAny_bind (wpAny_pure (wpAny_pure k)))
theorem oxb_kit (g1 : findIn K (.ref D) "__getattribute__" = some (some (.builtin "BaseException.__getattribute__"))) (g2 : findIn K (.ref D) "__getattr__" = some none) (g3 : subIn K (.ref D) (.type "BaseException") = some true)
    (g4 : hasDictIn K D = true) (g5 : findIn K (.ref D) "__class__" = some (some (.builtin "object.__class__")))
    (g6 : specialIn K (.builtin "object.__class__") "__get__" = some (some (.builtin "getset_descriptor.__get__"))) (g7 : takesIn K (.builtin "object.__class__") = some true) (g8 : mroIn K D (.type "object") = some true) :
    KitX K (.ref x) (.ref D) (fun h => InstAt h x ox D oD) := by
  obtain ⟨kd, hk, _⟩ := any_some g4
  have at1 : ∃ cc dd sl, K.lookup D = some ⟨cc, dd, .cls kd, sl⟩ := by
    unfold clsIn at hk
    split at hk
    · rename_i ho
      cases hk
      exact ⟨_, _, _, ho⟩
    · cases hk
  obtain ⟨cc, dd, sl, ho⟩ := at1
  exact {
    ty := fun _ _ _ I => I.type
    it := fun _ _ X _ => by
      intro A' Q' E' s' k q
      unfold isType loadHead
      exact wpAny_bind (wpAny_loadPart
          (k _ _ (X _ _ ho)) (wpAny_pure q))
    ne := fun h tp _ its n _ X htp => by
      refine Bool.eq_false_iff.mpr fun q => ?_
      have e : D = tp := Value.ref.inj (beq_iff_eq.mp q)
      subst e
      have z := (X _ _ ho).symm.trans htp
      cases z
    ca := fun X I k => oxb_class g1 g2 g3 g4 g5 g6 g7 g8 X I k }
end
end PySem.W
namespace L2
open PySem PySem.Spec PyProof.Rows
/-- C(e, ..) as a value -/
def tMkV (C : Addr) (sp : Sp) (dvs : List V) (ta : TA) : TE := fun σ H Q => ta σ H fun vs H1 => vs.length ≤ 1000 ∧ ∀ a, H1 a = none → sp (.ref a :: (vs ++ dvs)) (upd H1 a (exo a C none)) (fun v H2 => v = .non ∧ Q (.ref a) H2) (fun _ _ _ => False)
/-- an error of a class that isinstance and a field's reading may be asked of -/
def ErrAt (K : PySem.W.Frag) (H : Hp) (x : V) (C : Addr) (fs : List (Str × V)) : Prop := ∃ a d : Addr, x = .ref a ∧ H a = some (exo a C (some d)) ∧ H d = some (exd d fs)
def rIsErr (K : PySem.W.Frag) : List V → Hp → VK → Prop := fun xs H Q => ∃ (x c : V) (u : Value) (C : Addr) (fs : List (Str × V)) (b : Bool), xs = [x, c] ∧ ClsV c u ∧ ErrAt K H x C fs ∧ ExcC K C ∧ PySem.W.kitOne K (.ref C) u = some b ∧ Q (.bl b) H
/-- e.f, e such a value -/
def tErrF (K : PySem.W.Frag) (te : TE) (f : Str) : TE := fun σ H Q => te σ H fun x H1 => ∃ (C : Addr) (fs : List (Str × V)) (v : V), ErrAt K H1 x C fs ∧ XfC K C ∧ PySem.W.findIn K (.ref C) f = some none ∧ fs.lookup f = some v ∧ Q v H1
section
variable {X : Cx} {e : Expr} {es : List Expr} {te : TE} {ta : TA} {f x : Str} {p pos : Pos} {CX : CXT} {C fI : Addr} {k : Nat} {fd : FuncData} {ps : List Str} {sp : Sp} {ds : List Value} {dvs : List V}
theorem pe_mkv (T : OxB X.K C) (iC : PySem.W.findIn X.K (.ref C) "__init__" = some (some (.ref fI))) (tI : PySem.W.typeIn X.K (.ref fI) = some (.type "function"))
    (F1 : FnOk X.prog X.w X.K X.mg X.base CX k fI fd ps sp) (hr : Room (k + 1) X.A) (hb : Binds X.K fd ps ds)
        (hd : Vals dvs ds) (hx : Passes CX X (fun _ _ _ => False)) (hg : Gl X x) (hm : X.mg x = some (.ref C)) (ha : PA X (e :: es) ta)
    (hdb : (x == ("__debug__" : Str)) = false := by decide) (he : starEach (e :: es) X.env =
        (false, eval e X.env) :: starEach es X.env := by rfl) (hpl : (backTo pos (starEach es X.env)).any (·.1) = false := by rfl) :
    PE X (.Call (.Name x p) (e :: es) [] pos) (tMkV C sp dvs ta) := by
  refine ⟨fun pins s σ H Q I h => wpAny_Call_Name_kw (ld_glob I hg hm ?_ hdb)⟩
  refine PySem.W.callWith_K (h₀ := X.base) I.ok.mod.kin T.kC (thn
      (ha.run pos pins s σ H _ I h) fun us s1 ⟨vs, H1, I1, r1, hz, q1⟩ => ⟨I1.kIn, ?_⟩) he hpl
  refine made_ox T iC tI F1 hr hb hd hx I1 r1 hz q1 fun a h2 t2 H2 v s' new hn up I2 un hok os2 bare z => ?_
  obtain ⟨ev, q⟩ := z
  exact ⟨ev, .ref a, H2, I2.call' (ch := []) os2 un hok bare (fun b z => absurd z (by simp)), rfl, q⟩
theorem pe_mkv0 (T : OxB X.K C) (iC : PySem.W.findIn X.K (.ref C) "__init__" = some (some (.ref fI))) (tI : PySem.W.typeIn X.K (.ref fI) = some (.type "function"))
    (F1 : FnOk X.prog X.w X.K X.mg X.base CX k fI fd ps sp) (hr : Room (k + 1) X.A) (hb : Binds X.K fd ps ds) (hd : Vals dvs ds) (hx : Passes CX X (fun _ _ _ => False)) (hg : Gl X x) (hm : X.mg x = some (.ref C))
    (hdb : (x == ("__debug__" : Str)) = false := by decide) : PE X (.Call (.Name x p) [] [] pos) (tMkV C sp dvs tNil) := by
  refine ⟨fun pins s σ H Q I h => wpAny_Call_Name_kw (ld_glob I hg hm ?_ hdb)⟩
  obtain ⟨hz, q1⟩ := h
  refine PySem.W.callWith_K0 I.kIn T.kC (made_ox (us := []) T iC tI F1 hr hb hd hx I .nil hz q1 fun a h2 t2 H2 v s' new hn up I2 un hok os2 bare z => ?_)
  obtain ⟨ev, q⟩ := z
  exact ⟨ev, .ref a, H2, I2.call' (ch := []) os2 un hok bare (fun b z => absurd z (by simp)), rfl, q⟩
theorem err_at {pins : List (Addr × Obj)} {σ : St} {H : Hp} {s : Shared} {a d : Addr} {fs : List (Str × V)} (I : Inv X pins σ H s) (ea : H a = some (exo a C (some d))) (ed : H d = some (exd d fs)) :
    ∃ (ox oD : Obj) (mA : Str → Option Value), PySem.W.InstAt s.heap a ox C (some oD) ∧ s.heap.Ns1 d mA ∧ s.heap.get? d = some oD ∧ (∀ g, RelO (fs.lookup g) (mA g)) := by
  obtain ⟨t1, h1⟩ := exo_at I.hok ea
  obtain ⟨mA, hn, rel⟩ := exd_at I.hok ed
  obtain ⟨oD, _, _, h2, _⟩ := hn.count (within_of rel)
  exact ⟨_, oD, mA, ⟨h1, rfl, rfl, h2⟩, hn, h2, rel⟩
theorem call_isErr : CallR X (.builtin "isinstance") (rIsErr X.K) := by
  intro pins s σ H xs us Q I r h
  obtain ⟨x, c, u, C, fs, b, rfl, k, ⟨a, d, rfl, ea, ed⟩, T, e, q⟩ := h
  obtain ⟨u1, u2, rfl, r1, r2⟩ := vals2 r
  have e2 := k.eq r2
  subst e2
  cases (show u1 = Value.ref a from r1)
  obtain ⟨ox, oD, mA, J, _⟩ := err_at I ea ed
  exact PySem.W.kia_one (PySem.W.oxb_kit T.hg T.hk T.hs T.hd T.ha T.hn T.ht T.hm) I.kIn J e (fun z => nomatch z) fun tk => ⟨.bl b, H, I.tok tk, rfl, q⟩
theorem pe_errF (he : PE X e te) (hb : attributeBase e f X.env (eval e X.env) = eval e X.env := by rfl) : PE X (.Attribute e f pos) (tErrF X.K te f) := by
  refine ⟨fun pins s σ H Q I h => attr_of hb (thn (he.run pins s σ H _ I h) fun u s1 hh => ?_)⟩
  obtain ⟨x, H1, I1, rx, C, fs, v, ⟨a, d, ex, ea, ed⟩, T, no, l, q⟩ := hh
  subst ex
  cases (show u = Value.ref a from rx)
  obtain ⟨ox, oD, mA, J, hn, ho, rel⟩ := err_at I1 ea ed
  obtain ⟨oD2, ho2, hl⟩ := lookIn_ns hn
  cases ho.symm.trans ho2
  obtain ⟨z, hz, rz⟩ := RelO.some_of (v := v) (o := mA f) (by rw [← l]; exact rel f)
  exact HandSPX.exc_get I1.kIn J T.ga T.gg T.exC (PySem.W.findObj_own T.hdC no rfl (by rw [hl, hz])) (handed_of rz) ⟨v, H1, I1.tok _, rz, q⟩
end
end L2
namespace L2
open PySem PySem.Spec PyProof.Rows
/-! ### try with several clauses that name what they catch -/
/-- the ends of a suite that has named it at i -/
def asEnds (i : Nat) (D : Ends) : Ends := { nx := fun st6 H6 => D.nx (st6.set i none) H6, rt := D.rt, bk := fun st6 H6 => D.bk (st6.set i none) H6, ct := fun st6 H6 => D.ct (st6.set i none) H6 }
abbrev AsL := List (Value × Nat × (Addr → Value → Option Addr → TS))
def wAsL (K : PySem.W.Frag) (D : Ends) : AsL → WX
  | [] => fun _ _ _ _ => False
  | (cv, i, wt) :: ls => fun kl dd st6 H6 => ∃ b, PySem.W.exmOne K kl cv = some b ∧ (b = true → ∀ ad, H6 ad = none → wt ad kl dd (asEnds i D) (st6.set i (some (.ref ad))) H6) ∧ (b = false → wAsL K D ls kl dd st6 H6)
inductive PreA (X : Cx) : List ExceptHandler → AsL → Prop
  | rest (gs : List ExceptHandler) : PreA X gs []
  | more {nm nn : Str} {cv : Value} {i : Nat} {wt : Addr → Value → Option Addr → TS} {st0 : Stmt} {sts : List Stmt} {pp qq : Pos} {gs : List ExceptHandler} {ls : AsL}
      (known : Names X nm cv) (place : X.N[i]? = some nn) (kind : X.env.kindOf nn = some .local)
      (suite : ∀ (ad : Addr) (ob : Obj) (kl : Value) (dd : Option Addr) (pins0 : List (Addr × Obj)), Zc kl dd ob → (∃ fv, ob.data = .fields fv) → PSs (X.suite ad ((ad, ob) :: pins0)) (st0 :: sts) (wt ad kl dd))
      (tail : PreA X gs ls) : PreA X (.ExceptHandler (some (.Name nm pp)) (some nn) (st0 :: sts) qq :: gs) ((cv, i, wt) :: ls)
section
variable {X : Cx} {todo : List Stmt} {g : ExceptHandler} {gs : List ExceptHandler} {ls : AsL} {at_ : Pos} {rd : WX → TS}
theorem try_preA (nd : X.N.Nodup) (st : X.stack = X.env :: X.outer) (fr : X.env.frame = some X.env.locals)
    (inner : ∀ (Wx : WX) (pins1 : List (Addr × Obj)) (ex1 : Value → Shared → Prop), Takes (X.tr pins1 ex1) Wx → PassesOwn (model X.prog X.w) X.A X.env ex1 → PSs (X.tr pins1 ex1) todo (rd Wx))
    (cl : PreA X (g :: gs) ls) : PS X (.Try todo (g :: gs) [] [] at_) (fun De st0 He => rd (wAsL X.K De ls) De st0 He) := by
  constructor
  intro pn0 s0 st0 He De inv rdg
  have okx := inv.ok
  have frames : X.A.frames = some (X.env :: X.outer) := by
    rw [okx.frames, st]
  apply wpAny_Try_except
  have run1 := (inner (wAsL X.K De ls) (X.pn ++ pn0)
    (fun ev s1 => wpAny (model X.prog X.w) X.A (noteFrame ev X.env)
      (fun _ s2 => wpAny (model X.prog X.w) X.A (setFlight ev none)
        (fun _ s3 => wpAny (model X.prog X.w) X.A (handleBy ev X.env (g :: gs)) (SP X pn0 De) X.xe s3) X.xe s2) X.xe s1)
    ?caught PassesOwn.looking).run [] s0 st0 He De (inv.toTry _) rdg
  case caught =>
    intro ev sE came
    obtain ⟨ad, gr, sJ, pinsJ, stJ, HJ, kl, dd, evq, invJ0, kept, slotsUp, flies, untracked, osq, bareq, wish⟩ := came
    subst evq
    have invJ : Inv X pn0 stJ HJ sJ := invJ0.ofTry okx
    have flies2 : Sky gr (X.env :: X.outer) ad (Zc kl dd) X.env.locals sE.heap := st ▸ flies
    refine Sky.land Zc.steady frames fr flies2 ?_
    intro hA flA upA
    have invA : Inv X pn0 stJ HJ { sE with heap := hA } := invJ.landed kept flA.1 (slotsUp.trans upA) osq bareq
    obtain ⟨obA, fvA, getA, zA, dataA⟩ := flA.there
    have offFrames : ad ∉ frs (X.env :: X.outer) := by
      intro inside
      obtain ⟨_, ob2, get2, no2⟩ := flA.2.2.1.mem inside
      have same := getA.symm.trans get2
      cases same
      exact no2 _ dataA
    have offLocals : ad ≠ X.env.locals := by
      intro q
      exact offFrames (List.mem_filterMap.mpr ⟨X.env, List.mem_cons_self, fr.trans (congrArg some q.symm)⟩)
    have offFs : ad ∉ X.fs := by
      intro inside
      obtain ⟨en, hen, q⟩ := List.mem_filterMap.mp inside
      exact offFrames (List.mem_filterMap.mpr ⟨en, List.mem_cons_of_mem _ hen, q⟩)
    have invS := invA.suite getA dataA untracked offLocals offFs
    have walk : ∀ {hs : List ExceptHandler} {l2 : AsL}, PreA X hs l2 → wAsL X.K De l2 kl dd stJ HJ →
        wpAny (model X.prog X.w) X.A (handleBy (.ref ad) X.env hs) (SP X pn0 De) X.xe { sE with heap := hA } := by
      intro hs l2 pr
      induction pr with
      | rest _ => exact fun none_ => none_.elim
      | @more nm nn cv ix wt stm sts pp qq hs2 l3 known place kind suite _ ih =>
        rintro ⟨yes, meets, go1, go2⟩
        refine wpAny_handleBy_cons
            (codeAny_handlers_test ?_) (by intro q; cases q)
        have typeIs : PySem.W.Looks (model X.prog X.w) hA (typeOf (.ref ad)) kl := fun A0 Q0 E0 sx kp q =>
          wpAny_typeOf_ref (kp _ _ getA) (by rw [zA.1]; exact q)
        have asked := PySem.W.exm_one (M := model X.prog X.w) invA.kIn typeIs meets
        have named : ∀ {Q0 : Value → Shared → Prop} {E0 : Value → Shared → Prop}, Q0 cv { sE with heap := hA } →
            wpAny (model X.prog X.w) (X.A.mark (some (.ref ad))) (eval (.Name nm pp) X.env) Q0 E0 { sE with heap := hA } := by
          intro Q0 E0 q
          obtain ⟨vis, dbg, glob | ⟨glob, boot, nn⟩⟩ := known
          · exact ld_glob (X := X.suite ad ((ad, obA) :: (X.pn ++ pn0))) invS vis glob q dbg
          · exact ld_blt (X := X.suite ad ((ad, obA) :: (X.pn ++ pn0))) invS vis glob boot q nn dbg
        refine named (asked.here ?_)
        cases yes with
        | false => exact ih (go2 rfl)
        | true =>
          refine codeAny_handlers_suite_as (HandSPX.lands_againZ flA ?_)
          intro hB flB upB
          have invB : Inv X pn0 stJ HJ { sE with heap := hB } := invJ.landed kept flB.1 ((slotsUp.trans upA).trans upB) osq bareq
          obtain ⟨obB, fvB, getB, zB, dataB⟩ := flB.there
          have invT := invB.suite getB dataB untracked offLocals offFs
          refine store_ok (X := X.suite ad ((ad, obB) :: (X.pn ++ pn0))) (v := .ref ad) invT nd place (.inl kind) rfl (fun sN invN => ?_) (.inr kind)
          have run2 := (suite ad obB kl dd (X.pn ++ pn0) zB ⟨_, dataB⟩).run [] sN _ HJ _ invN (go1 rfl ad untracked)
          refine wpAny_mono run2 ?_ (fun _ _ q => q.elim)
          intro fl sF ended
          have over : ∀ {stF : St} {HF : Hp} {Q0 : Shared → Prop}, Inv (X.suite ad ((ad, obB) :: (X.pn ++ pn0))) [] stF HF sF → (∀ sG, Inv X pn0 (stF.set ix none) HF sG → Q0 sG) →
              wpAny (model X.prog X.w) X.A (do bindName X.env nn .none; unbindBehindTheSuite X.env nn qq) (fun _ sG => Q0 sG) X.xe sF :=
            fun invF q => gone_ok (invF.unsuite okx) nd place kind q
          cases fl with
          | ret uv =>
            obtain ⟨vv, stF, HF, invF, rel, q⟩ := ended
            exact over invF fun sG invG => ⟨_, _, _, invG, rel, q⟩
          | next =>
            obtain ⟨stF, HF, invF, q⟩ := ended
            exact over invF fun sG invG => ⟨_, _, invG, q⟩
          | brk =>
            obtain ⟨stF, HF, invF, q⟩ := ended
            exact over invF fun sG invG => ⟨_, _, invG, q⟩
          | cont =>
            obtain ⟨stF, HF, invF, q⟩ := ended
            exact over invF fun sG invG => ⟨_, _, invG, q⟩
    exact walk cl wish
  refine wpAny_mono run1 ?_ (fun _ _ q => q)
  intro fl sF ended
  cases fl with
  | ret uv =>
    obtain ⟨vv, stF, HF, invF, rel, q⟩ := ended
    exact ⟨vv, stF, HF, invF.ofTry okx, rel, q⟩
  | next =>
    obtain ⟨stF, HF, invF, q⟩ := ended
    exact wpAny_execs_nil ⟨stF, HF, invF.ofTry okx, q⟩
  | brk =>
    obtain ⟨stF, HF, invF, q⟩ := ended
    exact ⟨stF, HF, invF.ofTry okx, q⟩
  | cont =>
    obtain ⟨stF, HF, invF, q⟩ := ended
    exact ⟨stF, HF, invF.ofTry okx, q⟩
end
end L2
namespace K04
open PySem L2
def top (i : Nat) : Stmt := PySem.Challenge.pw_overrounds_k04_errors_of_numbers.main.body.getD i (.Pass ⟨0, 0, 0, 0⟩)
abbrev s_is_integer : Stmt := top 20
abbrev s_is_between : Stmt := top 21
abbrev s_check_integer : Stmt := top 22
abbrev s_check_between : Stmt := top 23
abbrev s_check_interval : Stmt := top 24
abbrev s_slot_of : Stmt := top 25
abbrev s_rounded_up : Stmt := top 26
abbrev s_times_alive : Stmt := top 27
abbrev s_common_multiple : Stmt := top 28
abbrev s_w_reel : Stmt := top 30
abbrev s_w_spin : Stmt := top 31
abbrev s_w_pick : Stmt := top 32
abbrev s_w_odd : Stmt := top 33
abbrev s_w_kept : Stmt := top 34
abbrev s_w_cell_right : Stmt := top 35
abbrev s_law : Stmt := top 36
abbrev s_RoundError_init : Stmt := inClass (top 2) 0
abbrev s_ParseError_init : Stmt := inClass (top 10) 0
abbrev s_UnknownName_init : Stmt := inClass (top 11) 0
abbrev s_InvalidNumber_init : Stmt := inClass (top 12) 0
abbrev s_TooMany_init : Stmt := inClass (top 13) 0
abbrev s_NothingToUndo_init : Stmt := inClass (top 14) 0
abbrev s_Broken_init : Stmt := inClass (top 15) 0
theorem sc_RoundError_init : FnScope ["self", "told"] ["self", "told"] (defScope s_RoundError_init) := ⟨rfl, rfl, rfl, by decide +kernel, rfl, by decide +kernel, by decide +kernel⟩
theorem sc_ParseError_init : FnScope ["self", "line"] ["self", "line"] (defScope s_ParseError_init) := ⟨rfl, rfl, rfl, by decide +kernel, rfl, by decide +kernel, by decide +kernel⟩
theorem sc_UnknownName_init : FnScope ["self", "wanted"] ["self", "wanted"] (defScope s_UnknownName_init) := ⟨rfl, rfl, rfl, by decide +kernel, rfl, by decide +kernel, by decide +kernel⟩
theorem sc_InvalidNumber_init : FnScope ["self", "value"] ["self", "value"] (defScope s_InvalidNumber_init) := ⟨rfl, rfl, rfl, by decide +kernel, rfl, by decide +kernel, by decide +kernel⟩
theorem sc_TooMany_init : FnScope ["self", "limit"] ["self", "limit"] (defScope s_TooMany_init) := ⟨rfl, rfl, rfl, by decide +kernel, rfl, by decide +kernel, by decide +kernel⟩
theorem sc_NothingToUndo_init : FnScope ["self", "many"] ["self", "many"] (defScope s_NothingToUndo_init) := ⟨rfl, rfl, rfl, by decide +kernel, rfl, by decide +kernel, by decide +kernel⟩
theorem sc_Broken_init : FnScope ["self", "kind", "reason"] ["self", "kind", "reason"] (defScope s_Broken_init) := ⟨rfl, rfl, rfl, by decide +kernel, rfl, by decide +kernel, by decide +kernel⟩
theorem sc_is_integer : FnScope ["value"] ["value"] (defScope s_is_integer) := ⟨rfl, rfl, rfl, by decide +kernel, rfl, by decide +kernel, by decide +kernel⟩
theorem sc_is_between : FnScope ["value", "low", "high"] ["value", "low", "high"] (defScope s_is_between) := ⟨rfl, rfl, rfl, by decide +kernel, rfl, by decide +kernel, by decide +kernel⟩
theorem sc_check_integer : FnScope ["value"] ["value"] (defScope s_check_integer) := ⟨rfl, rfl, rfl, by decide +kernel, rfl, by decide +kernel, by decide +kernel⟩
theorem sc_check_between : FnScope ["value", "low", "high"] ["value", "low", "high"] (defScope s_check_between) := ⟨rfl, rfl, rfl, by decide +kernel, rfl, by decide +kernel, by decide +kernel⟩
theorem sc_check_interval : FnScope ["value"] ["value"] (defScope s_check_interval) := ⟨rfl, rfl, rfl, by decide +kernel, rfl, by decide +kernel, by decide +kernel⟩
theorem sc_slot_of : FnScope ["tick", "interval"] ["tick", "interval"] (defScope s_slot_of) := ⟨rfl, rfl, rfl, by decide +kernel, rfl, by decide +kernel, by decide +kernel⟩
theorem sc_rounded_up : FnScope ["number", "slot", "interval"] ["number", "slot", "interval"] (defScope s_rounded_up) := ⟨rfl, rfl, rfl, by decide +kernel, rfl, by decide +kernel, by decide +kernel⟩
theorem sc_times_alive : FnScope ["begin", "end", "tick", "interval"] ["begin", "end", "tick", "interval"] (defScope s_times_alive) := ⟨rfl, rfl, rfl, by decide +kernel, rfl, by decide +kernel, by decide +kernel⟩
theorem sc_common_multiple : FnScope ["numbers", "number", "multiple"] ["numbers"] (defScope s_common_multiple) := ⟨rfl, rfl, rfl, by decide +kernel, rfl, by decide +kernel, by decide +kernel⟩
theorem sc_w_reel : FnScope ["script", "at", "cell", "great", "mixed"] ["script", "at"] (defScope s_w_reel) := ⟨rfl, rfl, rfl, by decide +kernel, rfl, by decide +kernel, by decide +kernel⟩
theorem sc_w_spin : FnScope ["reel", "total", "found", "one", "two"] ["reel", "total"] (defScope s_w_spin) := ⟨rfl, rfl, rfl, by decide +kernel, rfl, by decide +kernel, by decide +kernel⟩
theorem sc_w_pick : FnScope ["reel", "items"] ["reel", "items"] (defScope s_w_pick) := ⟨rfl, rfl, rfl, by decide +kernel, rfl, by decide +kernel, by decide +kernel⟩
theorem sc_w_odd : FnScope ["reel", "many"] ["reel"] (defScope s_w_odd) := ⟨rfl, rfl, rfl, by decide +kernel, rfl, by decide +kernel, by decide +kernel⟩
theorem sc_w_kept : FnScope ["call", "error"] ["call"] (defScope s_w_kept) := ⟨rfl, rfl, rfl, by decide +kernel, rfl, by decide +kernel, by decide +kernel⟩
theorem sc_w_cell_right : FnScope ["reel", "odd", "bad", "fine", "wide", "told", "due", "many"] ["reel"] (defScope s_w_cell_right) := ⟨rfl, rfl, rfl, by decide +kernel, rfl, by decide +kernel, by decide +kernel⟩
theorem sc_law : FnScope ["script", "at", "told", "base", "others", "kept", "one"] ["script"] (defScope s_law) := ⟨rfl, rfl, rfl, by decide +kernel, rfl, by decide +kernel, by decide +kernel⟩
/-- where the defs stand, and what the names hold -/
structure T (K : PySem.W.Frag) (mg : Str → Option Value) where
  f_is_integer : Addr
  d_is_integer : FuncData
  F_is_integer : Fun K "is_integer" "is_integer" s_is_integer f_is_integer d_is_integer
  m_is_integer : mg "is_integer" = some (.ref f_is_integer)
  b_is_integer : Binds K d_is_integer ["value"] []
  f_is_between : Addr
  d_is_between : FuncData
  F_is_between : Fun K "is_between" "is_between" s_is_between f_is_between d_is_between
  m_is_between : mg "is_between" = some (.ref f_is_between)
  b_is_between : Binds K d_is_between ["value", "low", "high"] []
  f_check_integer : Addr
  d_check_integer : FuncData
  F_check_integer : Fun K "check_integer" "check_integer" s_check_integer f_check_integer d_check_integer
  m_check_integer : mg "check_integer" = some (.ref f_check_integer)
  b_check_integer : Binds K d_check_integer ["value"] []
  f_check_between : Addr
  d_check_between : FuncData
  F_check_between : Fun K "check_between" "check_between" s_check_between f_check_between d_check_between
  m_check_between : mg "check_between" = some (.ref f_check_between)
  b_check_between : Binds K d_check_between ["value", "low", "high"] []
  f_check_interval : Addr
  d_check_interval : FuncData
  F_check_interval : Fun K "check_interval" "check_interval" s_check_interval f_check_interval d_check_interval
  m_check_interval : mg "check_interval" = some (.ref f_check_interval)
  b_check_interval : Binds K d_check_interval ["value"] []
  f_slot_of : Addr
  d_slot_of : FuncData
  F_slot_of : Fun K "slot_of" "slot_of" s_slot_of f_slot_of d_slot_of
  m_slot_of : mg "slot_of" = some (.ref f_slot_of)
  b_slot_of : Binds K d_slot_of ["tick", "interval"] []
  f_rounded_up : Addr
  d_rounded_up : FuncData
  F_rounded_up : Fun K "rounded_up" "rounded_up" s_rounded_up f_rounded_up d_rounded_up
  m_rounded_up : mg "rounded_up" = some (.ref f_rounded_up)
  b_rounded_up : Binds K d_rounded_up ["number", "slot", "interval"] []
  f_times_alive : Addr
  d_times_alive : FuncData
  F_times_alive : Fun K "times_alive" "times_alive" s_times_alive f_times_alive d_times_alive
  m_times_alive : mg "times_alive" = some (.ref f_times_alive)
  b_times_alive : Binds K d_times_alive ["begin", "end", "tick", "interval"] []
  f_common_multiple : Addr
  d_common_multiple : FuncData
  F_common_multiple : Fun K "common_multiple" "common_multiple" s_common_multiple f_common_multiple d_common_multiple
  m_common_multiple : mg "common_multiple" = some (.ref f_common_multiple)
  f_w_reel : Addr
  d_w_reel : FuncData
  F_w_reel : Fun K "_law_reel" "_law_reel" s_w_reel f_w_reel d_w_reel
  m_w_reel : mg "_law_reel" = some (.ref f_w_reel)
  b_w_reel : Binds K d_w_reel ["script", "at"] []
  f_w_spin : Addr
  d_w_spin : FuncData
  F_w_spin : Fun K "_law_spin" "_law_spin" s_w_spin f_w_spin d_w_spin
  m_w_spin : mg "_law_spin" = some (.ref f_w_spin)
  b_w_spin : Binds K d_w_spin ["reel", "total"] []
  f_w_pick : Addr
  d_w_pick : FuncData
  F_w_pick : Fun K "_law_pick" "_law_pick" s_w_pick f_w_pick d_w_pick
  m_w_pick : mg "_law_pick" = some (.ref f_w_pick)
  b_w_pick : Binds K d_w_pick ["reel", "items"] []
  f_w_odd : Addr
  d_w_odd : FuncData
  F_w_odd : Fun K "_law_odd" "_law_odd" s_w_odd f_w_odd d_w_odd
  m_w_odd : mg "_law_odd" = some (.ref f_w_odd)
  b_w_odd : Binds K d_w_odd ["reel"] []
  f_w_kept : Addr
  d_w_kept : FuncData
  F_w_kept : Fun K "_law_kept" "_law_kept" s_w_kept f_w_kept d_w_kept
  m_w_kept : mg "_law_kept" = some (.ref f_w_kept)
  b_w_kept : Binds K d_w_kept ["call"] []
  f_w_cell_right : Addr
  d_w_cell_right : FuncData
  F_w_cell_right : Fun K "_law_cell_right" "_law_cell_right" s_w_cell_right f_w_cell_right d_w_cell_right
  m_w_cell_right : mg "_law_cell_right" = some (.ref f_w_cell_right)
  b_w_cell_right : Binds K d_w_cell_right ["reel"] []
  f_law : Addr
  d_law : FuncData
  F_law : Fun K "law" "law" s_law f_law d_law
  m_law : mg "law" = some (.ref f_law)
  b_law : Binds K d_law ["script"] []
  c_MAX_INTERVAL : ∃ t, mg "MAX_INTERVAL" = some (.int 32 t)
  c_MAX_FACTOR : ∃ t, mg "MAX_FACTOR" = some (.int 64 t)
  c_MAX_FACTORS : ∃ t, mg "MAX_FACTORS" = some (.int 16 t)
  x_lcm : mg "lcm" = some (.builtin "math.lcm")
  z_int : mg "int" = none
  z_abs : mg "abs" = none
  z_len : mg "len" = none
  z_max : mg "max" = none
  z_min : mg "min" = none
  z_range : mg "range" = none
  z_isinstance : mg "isinstance" = none
  z_repr : mg "repr" = none
  z_bool : mg "bool" = none
/-- a list of three ints stands at r -/
def Rl (H : Hp) (r : Addr) : Prop := ∃ a b c : Int, H r = some (.lst [.int a, .int b, .int c])
/-- what the heap held, but for what stands at r -/
def Only (r : Addr) (H H' : Hp) : Prop := ∀ b o, b ≠ r → H b = some o → H' b = some o
theorem Only.refl {r : Addr} {H : Hp} : Only r H H := fun _ _ _ e => e
theorem Only.trans {r : Addr} {H H1 H2 : Hp} (a : Only r H H1) (b : Only r H1 H2) : Only r H H2 := fun c o n e => b c o n (a c o n e)
theorem Only.upd {r : Addr} {H : Hp} {o : HO} : Only r H (upd H r o) := fun b _ n e => by rw [upd_ne n]; exact e
theorem Only.new {r p : Addr} {H : Hp} {o : HO} (n : H p = none) : Only r H (L2.upd H p o) := fun b _ _ e => by rw [upd_ne (ne_of_none e n)]; exact e
theorem Rl.new {r p : Addr} {H : Hp} {o : HO} (h : Rl H r) (n : H p = none) : Rl (upd H p o) r := by
  obtain ⟨a, b, c, e⟩ := h
  exact ⟨a, b, c, by rw [upd_ne (ne_of_none e n)]; exact e⟩
theorem Rl.ne {r p : Addr} {H : Hp} (h : Rl H r) (n : H p = none) : p ≠ r := by
  obtain ⟨a, b, c, e⟩ := h
  exact (ne_of_none e n).symm
theorem Only.seqL {K : PySem.W.Frag} {r l : Addr} {H H' : Hp} {xs : List V} (o : Only r H H') (n : l ≠ r) (h : SqL K H l xs) : SqL K H' l xs := by
  rcases h with (h | ⟨u, h⟩) | h
  · exact .inl (.inl (o _ _ n h))
  · exact .inl (.inr ⟨u, o _ _ n h⟩)
  · exact .inr h
theorem Only.seqT {K : PySem.W.Frag} {r l : Addr} {H H' : Hp} {xs : List V} (o : Only r H H') (n : l ≠ r) (h : SqT K H l xs) : SqT K H' l xs := by
  rcases h with (h | ⟨u, h⟩) | h
  · exact .inl (.inl (o _ _ n h))
  · exact .inl (.inr ⟨u, o _ _ n h⟩)
  · exact .inr h
theorem ix_at {α : Type} {xs : List α} {i : Int} (h0 : 0 ≤ i) (h1 : i < xs.length) : ∃ v, v ∈ xs ∧ atI xs i = some v := by
  have h2 : i.toNat < xs.length := by omega
  refine ⟨xs[i.toNat], List.getElem_mem h2, ?_⟩
  have h3 : ((i.toNat : Nat) : Int) = i := Int.toNat_of_nonneg h0
  have := atI_nat (xs := xs) (j := i.toNat) (List.getElem?_eq_getElem h2)
  rw [h3] at this
  exact this
/-- what a draw is made from: a list, a tuple, a text -/
def SeqV (K : PySem.W.Frag) (H : Hp) (r : Addr) (x : V) (xs : List V) : Prop :=
  (∃ l, x = .ref l ∧ l ≠ r ∧ (SqL K H l xs ∨ SqT K H l xs)) ∨ (∃ z : Str, x = .str z ∧ z.length ≤ sizeLine ∧ xs = z.cps.toList.map fun c => V.str ⟨#[c]⟩)
theorem lg {i : Int} {b : Nat} (h0 : 0 ≤ i) (h : i < 2 ^ b) (hb : 0 < b) : i.natAbs.log2 < b := by
  refine PySem.Flt.log2_lt_of hb ?_
  have : (i.natAbs : Int) = i := Int.natAbs_of_nonneg h0
  have h2 : ((i.natAbs : Nat) : Int) < ((2 ^ b : Nat) : Int) := by rw [this, Int.natCast_pow]; exact h
  exact Int.ofNat_lt.mp h2
section
variable {X : Cx}
theorem op_powW : OpR X (binaryOp .Pow) (rI (fun i j => 0 ≤ j ∧ (Builtin.Int.intBits i : Int) * j ≤ 2 ^ 27) fun i j => .int (i ^ j.toNat)) := opI fun _ _ _ _ _ _ _ hc q => PyProof.Rows.pow_int hc.1 hc.2 q
end
theorem ite_join {c : Bool} {ta tb : TE} {σ : St} {H : Hp} {Q : VK} (R : V → Hp → Prop) (ha : c = true → ∀ Q' : VK, (∀ v H', R v H' → Q' v H') → ta σ H Q') (hb : c = false → ∀ Q' : VK, (∀ v H', R v H' → Q' v H') → tb σ H Q')
    (h : ∀ v H', R v H' → Q v H') : if c = true then ta σ H Q else tb σ H Q := by
  cases c with
  | true => exact iteT (ha rfl Q h)
  | false => exact iteF (hb rfl Q h)
theorem at_ns {ns : List Int} {i : Nat} (h : i < ns.length) : ∃ z, atI (ns.map V.int) (i : Int) = some (.int z) :=
  ⟨ns[i], atI_nat (by rw [List.getElem?_map, List.getElem?_eq_getElem h]; rfl)⟩
theorem bl_t {Q : VK} {b : Bool} {H : Hp} (e : b = true) (k : Q (.bl true) H) : Q (.bl b) H := e ▸ k
theorem int_to {Q : VK} {i j : Int} {H : Hp} (e : i = j) (k : Q (.int j) H) : Q (.int i) H := e ▸ k
theorem if_ne {x y : V} {A B : Prop} (h : x ≠ y) (a : A) : if (!decide (x = y)) = true then A else B := by
  rw [decide_eq_false h]
  exact iteT a
theorem if_dec_t {x y : V} {A B : Prop} (h : x = y) (a : A) : if decide (x = y) = true then A else B := by
  rw [decide_eq_true h]
  exact iteT a
theorem if_dec_f {x y : V} {A B : Prop} (h : x ≠ y) (b : B) : if decide (x = y) = true then A else B := by
  rw [decide_eq_false h]
  exact iteF b
theorem dp_all {K : PySem.W.Frag} {H : Hp} : ∀ ns : List Int, DpAll K H (ns.map V.int) (ns.map PyData.int)
  | [] => .nil
  | n :: r => .cons (.int n) (dp_all r)
theorem dp_ints {K : PySem.W.Frag} {H : Hp} {a : Addr} (ns : List Int) (h : SqL K H a (ns.map V.int)) : Dp K H (.ref a) (.list (ns.map PyData.int)) := .lst h (dp_all ns)
theorem cells_n (n m : Nat) : ((if (if ((n : Nat) : Int) < (m : Int) then ((n : Nat) : Int) else (m : Int)) > 1 then (if ((n : Nat) : Int) < (m : Int) then ((n : Nat) : Int) else (m : Int)) else 1) : Int) ≤ (m : Int) + 1 ∧ 1 ≤ ((if (if ((n : Nat) : Int) < (m : Int) then ((n : Nat) : Int) else (m : Int)) > 1 then (if ((n : Nat) : Int) < (m : Int) then ((n : Nat) : Int) else (m : Int)) else 1) : Int) := by
  split <;> split <;> omega
def nmC (z : Str) : Bool := decide (1 ≤ z.length ∧ z.length ≤ 8) && z.cps.toList.all fun c => decide (97 ≤ c) && decide (c ≤ 122)
def nmD : PyData → Bool
  | .str z => nmC z
  | _ => false
def inD (lo hi : Int) : PyData → Bool
  | .int n => (decide (-1000000000000 < n) && decide (n < 1000000000000)) && (decide (lo ≤ n) && decide (n ≤ hi))
  | _ => false
def isInD : PyData → Bool
  | .int n => decide (-1000000000000 < n) && decide (n < 1000000000000)
  | _ => false
def prD (hi : Int) : PyData → Bool
  | .tuple [a, b] => nmD a && inD 0 hi b
  | _ => false
def rwD (most : Nat) (hi : Int) : PyData → Bool
  | .tuple ds => decide (ds.length ≤ most) && ds.all (prD hi)
  | _ => false
/-- every text in it is short -/
def okD (d : PyData) : Prop := d.weight ≤ 1000000
/-- a value that is the datum d, or a dict -/
def DD (K : PySem.W.Frag) (H : Hp) (x : V) (d : PyData) : Prop := Dp K H x d ∨ ∃ a kvs, x = .ref a ∧ H a = some (.dK kvs) ∧ d = .dict []
theorem Same.seqT {K : PySem.W.Frag} {H H' : Hp} {a : Addr} {xs : List V} (e : Same H H') (h : SqT K H a xs) : SqT K H' a xs := by
  rcases h with (h | ⟨o, h⟩) | h
  · exact .inl (.inl (e _ _ h))
  · exact .inl (.inr ⟨o, e _ _ h⟩)
  · exact .inr h
mutual
theorem dp_same {K : PySem.W.Frag} {H H' : Hp} (s : Same H H') : ∀ (d : PyData) (x : V), Dp K H x d → Dp K H' x d
  | .none, _, h => by cases h; exact .non
  | .bool b, _, h => by cases h; exact .bl b
  | .int i, _, h => by cases h; exact .int i
  | .str z, _, h => by cases h; exact .str z
  | .list ds, _, h => by
    cases h with
    | lst h1 h2 => exact .lst (Same.seq s h1) (dpa_same s ds _ h2)
  | .tuple ds, _, h => by
    cases h with
    | tup h1 h2 => exact .tup (Same.seqT s h1) (dpa_same s ds _ h2)
  | .dict _, _, h => by cases h
theorem dpa_same {K : PySem.W.Frag} {H H' : Hp} (s : Same H H') : ∀ (ds : List PyData) (xs : List V), DpAll K H xs ds → DpAll K H' xs ds
  | [], _, h => by cases h; exact .nil
  | d :: ds, _, h => by
    cases h with
    | cons h1 h2 => exact .cons (dp_same s d _ h1) (dpa_same s ds _ h2)
end
theorem DD.same {K : PySem.W.Frag} {H H' : Hp} {x : V} {d : PyData} (s : Same H H') (h : DD K H x d) : DD K H' x d := by
  rcases h with h | ⟨a, kvs, e1, e2, e3⟩
  · exact .inl (dp_same s d x h)
  · exact .inr ⟨a, kvs, e1, s _ _ e2, e3⟩
theorem dpa_len {K : PySem.W.Frag} {H : Hp} : ∀ {ds : List PyData} {xs : List V}, DpAll K H xs ds → ds.length = xs.length
  | [], _, h => by cases h; rfl
  | d :: ds, _, h => by
    cases h with
    | cons h1 h2 => rw [List.length_cons, List.length_cons, dpa_len h2]
theorem dpa_get {K : PySem.W.Frag} {H : Hp} : ∀ {ds : List PyData} {xs : List V} {i : Nat} {x : V}, DpAll K H xs ds → xs[i]? = some x → ∃ d, ds[i]? = some d ∧ Dp K H x d
  | [], _, i, x, h, e => by cases h; simp at e
  | d :: ds, _, 0, x, h, e => by
    cases h with
    | cons h1 h2 =>
      obtain rfl := Option.some.inj e
      exact ⟨d, rfl, h1⟩
  | d :: ds, _, i + 1, x, h, e => by
    cases h with
    | cons h1 h2 => exact dpa_get (i := i) h2 e
def tyD : PyData → String
  | .none => "NoneType" | .bool _ => "bool" | .int _ => "int" | .str _ => "str" | .list _ => "list" | .tuple _ => "tuple" | .dict _ => "dict"
theorem DD.ty {K : PySem.W.Frag} {H : Hp} {x : V} {d : PyData} (h : DD K H x d) : TyX K H x (.type (tyD d)) := by
  rcases h with h | ⟨a, kvs, rfl, e, rfl⟩
  · cases h with
    | non => exact .base .non
    | bl b => exact .base (.bl b)
    | int i => exact .base (.int i)
    | str z => exact .base (.str z)
    | lst h1 h2 =>
      rcases h1 with (h | ⟨o, h⟩) | ⟨o, its, n, e1, e2, _⟩
      · exact .base (.lst h)
      · exact .base (.frz h)
      · exact .kList e1 e2
    | tup h1 h2 =>
      rcases h1 with (h | ⟨o, h⟩) | ⟨o, its, n, e1, e2, _⟩
      · exact .base (.tup h)
      · exact .fTuple h
      · exact .kTuple e1 e2
  · exact .base (.dK e)
theorem weight_mem : ∀ {ds : List PyData} {d : PyData}, d ∈ ds → d.weight ≤ PyData.weightAll ds
  | a :: r, d, h => by
    rw [PyData.weightAll]
    rcases List.mem_cons.mp h with rfl | h
    · omega
    · have := weight_mem h
      omega
theorem okD_tup {ds : List PyData} (h : okD (.tuple ds)) {d : PyData} (hd : d ∈ ds) : okD d := by
  have h1 := weight_mem hd
  have h2 : PyData.weightAll ds ≤ 1000000 := by
    have h3 : (PyData.tuple ds).weight ≤ 1000000 := h
    rw [PyData.weight] at h3
    exact h3
  exact Nat.le_trans h1 h2
theorem okD_str {z : Str} (h : okD (.str z)) : z.length ≤ 1000000 := by
  have h3 : (PyData.str z).weight ≤ 1000000 := h
  rw [PyData.weight] at h3
  exact h3
theorem bl_to {Q : VK} {b c : Bool} {H : Hp} (e : b = c) (k : Q (.bl c) H) : Q (.bl b) H := e ▸ k
theorem Same.rl {H H' : Hp} {r : Addr} (s : Same H H') (h : Rl H r) : Rl H' r := by
  obtain ⟨a, b, c, e⟩ := h
  exact ⟨a, b, c, s _ _ e⟩
theorem Same.only {H H' : Hp} {r : Addr} (s : Same H H') : Only r H H' := fun b o _ e => s b o e
theorem Same.new {H : Hp} {p : Addr} {o : HO} (n : H p = none) : Same H (upd H p o) := fun b u e => by rw [upd_ne (ne_of_none e n)]; exact e
theorem Same.at {H0 H : Hp} {D : Addr} {o : HO} (n : H0 D = none) (s : Same H0 H) : Same H0 (upd H D o) := fun b u e => by rw [upd_ne (ne_of_none e n)]; exact s b u e
theorem lt_sign (c d : Nat) : (([c] : List Nat) < [d]) ↔ c < d := by
  constructor
  · intro h
    rcases List.cons_lt_cons_iff.mp h with h | ⟨_, h⟩
    · exact h
    · exact absurd h (by simp)
  · intro h
    exact List.cons_lt_cons_iff.mpr (.inl h)
theorem tk_succ {z : Str} {i c : Nat} (h : z.cps[i]? = some c) : z.cps.toList.take (i + 1) = z.cps.toList.take i ++ [c] := by
  have h2 : z.cps.toList[i]? = some c := by rw [Array.getElem?_toList]; exact h
  rw [List.take_add_one, h2]
  rfl
theorem tk_all (z : Str) : z.cps.toList.take z.cps.size = z.cps.toList := List.take_of_length_le (by rw [Array.length_toList]; exact Nat.le_refl _)
theorem not_str {d : PyData} (h : ∀ z, d ≠ .str z) : kitB (tyD d) "str" = some false ∧ nmD d = false := by
  cases d with
  | str z => exact absurd rfl (h z)
  | _ => exact ⟨by simp only [tyD]; decide +kernel, rfl⟩
theorem not_int {d : PyData} (h1 : ∀ n, d ≠ .int n) (h2 : ∀ b, d ≠ .bool b) : kitB (tyD d) "int" = some false ∧ isInD d = false := by
  cases d with
  | int n => exact absurd rfl (h1 n)
  | bool b => exact absurd rfl (h2 b)
  | _ => exact ⟨by simp only [tyD]; decide +kernel, rfl⟩
theorem not_tup {d : PyData} (h : ∀ ds, d ≠ .tuple ds) : kitB (tyD d) "tuple" = some false := by
  cases d with
  | tuple z => exact absurd rfl (h z)
  | _ => simp only [tyD]; decide +kernel
/-- its items ascend -/
def ascD (ds : List PyData) : Bool := (List.range (ds.length - 1)).all fun i => PySem.W.dataLt (ds.getD i .none) (ds.getD (i + 1) .none)
theorem depth_in {hi : Int} {d : PyData} (h : prD hi d = true) : ∃ z n, d = .tuple [.str z, .int n] := by
  unfold prD at h
  split at h
  · rename_i a b
    have h1 := (Bool.and_eq_true_iff.mp h).1
    have h2 := (Bool.and_eq_true_iff.mp h).2
    cases a with
    | str z =>
      cases b with
      | int n => exact ⟨z, n, rfl⟩
      | _ => cases h2
    | _ => cases h1
  · cases h
section
variable {X : Cx}
def rLtD (K : PySem.W.Frag) : R2 := fun x y H Q => ∃ d e, Dp K H x d ∧ Dp K H y e ∧ PySem.W.alike d e = true ∧ d ≠ .none ∧ d.depth ≤ 60 ∧ Q (.bl (PySem.W.dataLt d e)) H
theorem op_ltD (hu : X.A.units + 64 < cLine) : OpR X (compareOp .Lt) (rLtD X.K) := by
  intro pins s σ H x y v u Q I rx ry h
  obtain ⟨d, e, h1, h2, h3, h4, h5, q⟩ := h
  obtain ⟨as, r1⟩ := Dp.reads I d x v h1 rx
  obtain ⟨bs, r2⟩ := Dp.reads I e y u h2 ry
  exact PySem.W.lt_data r1 r2 h3 h4 (by have := Nat.min_le_left d.depth e.depth; omega) ⟨.bl _, H, I, rfl, q⟩
end

section
variable {P : Program} {w : World} {K : PySem.W.Frag}
    {mg : Str → Option Value} {base : Heap}
def sp_w_reel (K : PySem.W.Frag) : Sp := fun vs H Q _ => ∃ (s : Addr) (ns : List Int) (i : Nat), vs = [.ref s, .int (i : Int)] ∧ SqL K H s (ns.map V.int) ∧ ∀ p a b c, H p = none → Q (.ref p) (upd H p (.lst [.int a, .int b, .int c]))
theorem ok_w_reel (T : T K mg) : FnOk P w K mg base CX0 1 T.f_w_reel T.d_w_reel ["script", "at"] (sp_w_reel K) := by
  refine T.F_w_reel.ok sc_w_reel (fun vs H Q E h => ?_) (fun cdv A outer s H vs Q E hr h => ?_)
  · obtain ⟨s, ns, i, rfl, _⟩ := h
    rfl
  · obtain ⟨s, ns, i, rfl, hS, k⟩ := h
    have hu := hu_of hr
    refine ⟨_, (pss_cons (ps_set (i := 2) sc_w_reel.nd rfl (Or.inl rfl) (pe_ifExp (pt_cmpR op_lt (pv 1) (pe_callB call_len (by rfl) T.z_len (by decide +kernel) (pa_cons (pv 0) pa_nil)) (nomark _)) (pe_ix ix_seq (pv 0) (pv 1) (fun _ _ => rfl)) (pe_op op_add (pe_op op_mul pe_int (pv 1)) pe_int)))
      (pss_cons (ps_set (i := 3) sc_w_reel.nd rfl (Or.inl rfl) (pe_op op_mod (pe_callTy call_int1 (by rfl) T.z_int (by decide +kernel) (pa_cons (pe_callB call_abs (by rfl) T.z_abs (by decide +kernel) (pa_cons (pv 2) pa_nil)) pa_nil)) (pe_op op_powW (pe_op op_pow pe_int pe_int) pe_int)))
      (pss_cons (ps_set (i := 4) sc_w_reel.nd rfl (Or.inl rfl) (pe_op op_add (pe_op op_add (pe_op op_add (pe_op op_mul (pe_op op_mod (pe_callTy call_int1 (by rfl) T.z_int (by decide +kernel) (pa_cons (pv 3) pa_nil)) pe_int) pe_int) (pe_op op_mul pe_int (pv 1))) (pe_op op_mul pe_int (pe_callTy call_int1 (by rfl) T.z_int (by decide +kernel) (pa_cons (pe_cmpR op_lt (pv 2) pe_int (nomark _)) pa_nil)))) pe_int))
      (pss_one (ps_ret (pe_lst (pa_cons (pe_callB (call_max2 rfl) (by rfl) T.z_max (by decide +kernel) (pa_cons pe_int (pa_cons (pe_op op_sub (pv 3) (pe_op op_pow pe_int pe_int)) pa_nil))) (pa_cons (pe_op op_mod (pe_callTy call_int1 (by rfl) T.z_int (by decide +kernel) (pa_cons (pv 4) pa_nil)) pe_int) (pa_cons pe_int pa_nil))))))))), ?_⟩
    refine ⟨_, rfl, _, rfl, _, _, rfl, .inl ⟨_, hS, rfl⟩, _, _, rfl, rfl, _, rfl, ?_⟩
    refine ite_join (fun v H' => H' = H ∧ ∃ z, v = .int z) (fun c Q' q => ?_) (fun c Q' q => ?_) ?_
    · have hi := of_decide_eq_true c
      rw [List.length_map] at hi
      obtain ⟨z, hz⟩ := at_ns (ns := ns) (i := i) (by omega)
      exact ⟨_, rfl, _, rfl, .inl ⟨_, _, _, _, rfl, rfl, hS, hz, q _ _ ⟨rfl, z, rfl⟩⟩⟩
    · exact ⟨_, rfl, _, _, rfl, rfl, .inl ⟨by decide, by decide⟩, _, _, rfl, rfl, q _ _ ⟨rfl, _, rfl⟩⟩
    rintro v H' ⟨rfl, z, rfl⟩
    refine ⟨_, rfl, _, rfl, .inl ⟨_, rfl, ?_⟩⟩
    refine ⟨_, _, rfl, rfl, ⟨by decide, by decide, by decide⟩, _, _, rfl, rfl, ⟨by decide, by decide +kernel⟩, _, _, rfl, rfl, (by show (0 : Int) < _; decide +kernel), ?_⟩
    refine ⟨_, rfl, .inl ⟨_, rfl, ?_⟩⟩
    refine ⟨_, _, rfl, rfl, (by show (0 : Int) < _; decide), _, _, rfl, rfl, .inr ⟨by decide, by decide⟩, _, rfl, _, _, rfl, rfl, .inl ⟨by decide, by decide⟩, _, _, rfl, rfl, ?_⟩
    refine ⟨_, rfl, _, _, rfl, rfl, .inr ⟨_, rfl, ?_⟩⟩
    refine ⟨_, _, rfl, rfl, .inl ⟨by decide, by decide⟩, _, _, rfl, rfl, _, _, rfl, rfl, ?_⟩
    refine ⟨_, rfl, _, _, rfl, rfl, ⟨by decide, by decide, by decide⟩, _, _, rfl, rfl, _, _, rfl, _, rfl, .inl ⟨_, rfl, ?_⟩⟩
    refine ⟨_, _, rfl, rfl, (by show (0 : Int) < _; decide), (by show 3 ≤ sizeLine; decide), fun p hp => ?_⟩
    exact k p _ _ _ hp
def sp_w_spin (K : PySem.W.Frag) : Sp := fun vs H Q _ => ∃ (r : Addr) (n : Int), vs = [.ref r, .int n] ∧ Rl H r ∧ 0 < n ∧ n.natAbs.log2 < 9000 ∧ ∀ v H', 0 ≤ v → v < n → Rl H' r → Only r H H' → Q (.int v) H'
theorem ok_w_spin (T : T K mg) : FnOk P w K mg base CX0 1 T.f_w_spin T.d_w_spin ["reel", "total"] (sp_w_spin K) := by
  refine T.F_w_spin.ok sc_w_spin (fun vs H Q E h => ?_) (fun cdv A outer s H vs Q E hr h => ?_)
  · obtain ⟨r, n, rfl, _⟩ := h
    rfl
  · obtain ⟨r, n, rfl, ⟨a, b, c, e⟩, h0, h9, k⟩ := h
    have hu := hu_of hr
    refine ⟨_, (pss_cons (ps_if (pt_cmpR op_gt (pe_ix ix_seq (pv 0) pe_int (fun _ _ => rfl)) pe_int (nomark _))
      (pss_cons (ps_set (i := 2) sc_w_spin.nd rfl (Or.inl rfl) (pe_op op_mod (pe_callTy call_int1 (by rfl) T.z_int (by decide +kernel) (pa_cons (pe_ix ix_seq (pv 0) pe_int (fun _ _ => rfl)) pa_nil)) (pv 1)))
      (pss_cons (ps_asg (pe_op op_fdivW (pe_ix ix_seq (pv 0) pe_int (fun _ _ => rfl)) (pv 1)) (pg_sub (pv 0) pe_int set_list))
      (pss_one (ps_ret (pv 2)))))
      pss_nil)
      (pss_cons (ps_asg (pe_op op_add (pe_ix ix_seq (pv 0) pe_int (fun _ _ => rfl)) pe_int) (pg_sub (pv 0) pe_int set_list))
      (pss_cons (ps_set (i := 3) sc_w_spin.nd rfl (Or.inl rfl) (pe_op op_mod (pe_callTy call_int1 (by rfl) T.z_int (by decide +kernel) (pa_cons (pe_op op_add (pe_ix ix_seq (pv 0) pe_int (fun _ _ => rfl)) (pe_op op_mul pe_int (pe_ix ix_seq (pv 0) pe_int (fun _ _ => rfl)))) pa_nil)) pe_int))
      (pss_cons (ps_set (i := 4) sc_w_spin.nd rfl (Or.inl rfl) (pe_op op_add (pe_op op_mul (pe_op op_mod (pe_callTy call_int1 (by rfl) T.z_int (by decide +kernel) (pa_cons (pe_op op_mul (pv 3) (pv 3)) pa_nil)) pe_int) (pv 3)) (pe_op op_mul pe_int (pe_ix ix_seq (pv 0) pe_int (fun _ _ => rfl)))))
      (pss_cons (ps_set (i := 4) sc_w_spin.nd rfl (Or.inl rfl) (pe_op op_mod (pe_callTy call_int1 (by rfl) T.z_int (by decide +kernel) (pa_cons (pv 4) pa_nil)) pe_int))
      (pss_one (ps_ret (pe_op op_mod (pe_callTy call_int1 (by rfl) T.z_int (by decide +kernel) (pa_cons (pe_op op_fdivW (pv 4) pe_int) pa_nil)) (pv 1))))))))), ?_⟩
    have u3 : ∀ {x y z : V} {G : Hp}, G r = some (.lst [x, y, z]) → SqL K G r [x, y, z] := fun g => SqL.of g
    refine ⟨_, rfl, .inl ⟨_, _, _, _, rfl, rfl, u3 e, rfl, ?_⟩⟩
    refine ⟨_, _, rfl, rfl, _, rfl, ?_⟩
    refine ite2 (fun c1 => ?_) (fun c1 => ?_)
    · refine ⟨_, rfl, .inl ⟨_, _, _, _, rfl, rfl, u3 e, rfl, .inl ⟨_, rfl, ?_⟩⟩⟩
      refine ⟨_, rfl, _, _, rfl, rfl, h0, ?_⟩
      refine ⟨_, rfl, .inl ⟨_, _, _, _, rfl, rfl, u3 e, rfl, ?_⟩⟩
      refine ⟨_, rfl, _, _, rfl, rfl, ⟨h0, h9⟩, _, rfl, _, _, _, 0, rfl, rfl, e, rfl, ?_⟩
      refine ⟨_, rfl, ?_⟩
      exact k _ _ (Int.emod_nonneg _ (by omega)) (Int.emod_lt_of_pos _ h0) ⟨_, _, _, upd_same⟩ Only.upd
    · refine ⟨_, rfl, .inl ⟨_, _, _, _, rfl, rfl, u3 e, rfl, ?_⟩⟩
      refine ⟨_, _, rfl, rfl, _, rfl, _, _, _, 2, rfl, rfl, e, rfl, ?_⟩
      have e2 : (upd H r (.lst [.int a, .int b, .int (c + 1)])) r = some (.lst [.int a, .int b, .int (c + 1)]) := upd_same
      refine ⟨_, rfl, .inl ⟨_, _, _, _, rfl, rfl, u3 e2, rfl, ?_⟩⟩
      refine ⟨_, rfl, .inl ⟨_, _, _, _, rfl, rfl, u3 e2, rfl, ?_⟩⟩
      refine ⟨_, _, rfl, rfl, .inl ⟨by decide, by decide⟩, _, _, rfl, rfl, .inl ⟨_, rfl, ?_⟩⟩
      refine ⟨_, _, rfl, rfl, (by show (0 : Int) < _; decide), ?_⟩
      have o1 : -(2 ^ 64) < (b + 1000303 * (c + 1)) % 2305843009213693951 ∧ (b + 1000303 * (c + 1)) % 2305843009213693951 < 2 ^ 64 := by omega
      refine ⟨_, rfl, _, rfl, _, _, rfl, rfl, .inl o1, .inl ⟨_, rfl, ?_⟩⟩
      refine ⟨_, _, rfl, rfl, (by show (0 : Int) < _; decide), _, rfl, _, _, rfl, rfl, .inr o1, ?_⟩
      refine ⟨_, rfl, .inl ⟨_, _, _, _, rfl, rfl, u3 e2, rfl, ?_⟩⟩
      refine ⟨_, _, rfl, rfl, .inl ⟨by decide, by decide⟩, _, _, rfl, rfl, ?_⟩
      refine ⟨_, rfl, .inl ⟨_, rfl, ?_⟩⟩
      refine ⟨_, _, rfl, rfl, (by show (0 : Int) < _; decide), ?_⟩
      refine ⟨_, rfl, _, _, rfl, rfl, ⟨by decide, by decide⟩, .inl ⟨_, rfl, ?_⟩⟩
      refine ⟨_, rfl, _, _, rfl, rfl, h0, ?_⟩
      exact k _ _ (Int.emod_nonneg _ (by omega)) (Int.emod_lt_of_pos _ h0) ⟨_, _, _, e2⟩ Only.upd
def sp_w_pick (K : PySem.W.Frag) : Sp := fun vs H Q _ => ∃ (r : Addr) (x : V) (xs : List V), vs = [.ref r, x] ∧ Rl H r ∧ SeqV K H r x xs ∧ 0 < xs.length ∧ xs.length ≤ sizeLine ∧ ∀ v H', v ∈ xs → Rl H' r → Only r H H' → Q v H'
theorem ok_w_pick (T : T K mg) : FnOk P w K mg base CX0 2 T.f_w_pick T.d_w_pick ["reel", "items"] (sp_w_pick K) := by
  have G_w_spin : FnOk P w K mg base CX0 1 T.f_w_spin T.d_w_spin ["reel", "total"] (sp_w_spin K) := ok_w_spin T
  refine T.F_w_pick.ok sc_w_pick (fun vs H Q E h => ?_) (fun cdv A outer s H vs Q E hr h => ?_)
  · obtain ⟨r, x, xs, rfl, _⟩ := h
    rfl
  · obtain ⟨r, x, xs, rfl, hR, hx, h0, h1, k⟩ := h
    have hu := hu_of hr
    have hr_w_spin : Room 1 _ := hr.mono (by decide)
    refine ⟨_, (pss_one (ps_ret (pe_ix ix_seq (pv 1) (pe_call G_w_spin hr_w_spin rfl T.m_w_spin T.F_w_spin.kp T.b_w_spin .nil pass0 (pa_cons (pv 0) (pa_cons (pe_callB call_len (by rfl) T.z_len (by decide +kernel) (pa_cons (pv 1) pa_nil)) pa_nil))) (fun _ _ => rfl)))), ?_⟩
    have hl : (xs.length : Int).natAbs.log2 < 9000 := by
      have : xs.length < 2 ^ 63 := Nat.lt_of_le_of_lt h1 (by decide)
      exact Nat.lt_trans (lg (b := 63) (by omega) (by omega) (by decide)) (by decide)
    refine ⟨_, rfl, _, rfl, _, rfl, x, xs.length, rfl, ?_, ?_⟩
    · rcases hx with ⟨l, rfl, hn, h | h⟩ | ⟨z, rfl, hz, rfl⟩
      · exact .inl ⟨_, h, rfl⟩
      · exact .inr ⟨_, h, rfl⟩
      · exact ⟨hz, by rw [List.length_map]; rfl⟩
    refine ⟨r, _, rfl, hR, by omega, hl, fun v H' v0 v1 R' O' => ?_⟩
    obtain ⟨y, hy, ha⟩ := ix_at v0 v1
    rcases hx with ⟨l, rfl, hn, h | h⟩ | ⟨z, rfl, hz, rfl⟩
    · exact .inl ⟨_, _, _, _, rfl, rfl, O'.seqL hn h, ha, k _ _ hy R' O'⟩
    · exact .inr (.inl ⟨_, _, _, _, rfl, rfl, O'.seqT hn h, ha, k _ _ hy R' O'⟩)
    · obtain ⟨i, hi⟩ : ∃ c, atI z.cps.toList v = some c := by
        unfold atI at ha ⊢
        rw [List.length_map] at ha
        cases e : ixN z.cps.toList.length v with
        | none => rw [e] at ha; cases ha
        | some j =>
          rw [e] at ha
          simp only [Option.bind_some] at ha ⊢
          rw [List.getElem?_map] at ha
          cases e2 : z.cps.toList[j]? with
          | none => rw [e2] at ha; cases ha
          | some c => exact ⟨c, rfl⟩
      have hc : i ∈ z.cps.toList := by
        unfold atI at hi
        cases e : ixN z.cps.toList.length v with
        | none => rw [e] at hi; cases hi
        | some j => rw [e] at hi; exact List.mem_of_getElem? hi
      exact .inr (.inr ⟨_, _, _, rfl, rfl, hz, hi, k _ _ (List.mem_map.mpr ⟨i, hc, rfl⟩) R' O'⟩)
def sp_is_integer (K : PySem.W.Frag) : Sp := fun vs H Q _ => ∃ (x : V) (d : PyData), vs = [x] ∧ DD K H x d ∧ Q (.bl (isInD d)) H
theorem ok_is_integer (T : T K mg) : FnOk P w K mg base CX0 1 T.f_is_integer T.d_is_integer ["value"] (sp_is_integer K) := by
  refine T.F_is_integer.ok sc_is_integer (fun vs H Q E h => ?_) (fun cdv A outer s H vs Q E hr h => ?_)
  · obtain ⟨x, d, rfl, _⟩ := h
    rfl
  · obtain ⟨x, d, rfl, hx, k⟩ := h
    have hu := hu_of hr
    refine ⟨_, (pss_cons (ps_if (PW.pt (pw_or (pt_not (pt_val (pe_callB call_isi (by rfl) T.z_isinstance (by decide +kernel) (pa_cons (pv 0) (pa_cons (pe_bltn (v := V.ty "int") (u := Value.type "int") (by rfl) T.z_int (by decide +kernel) rfl) pa_nil))))) (pw_or1 (pt_val (pe_callB call_isi (by rfl) T.z_isinstance (by decide +kernel) (pa_cons (pv 0) (pa_cons (pe_bltn (v := V.ty "bool") (u := Value.type "bool") (by rfl) T.z_bool (by decide +kernel) rfl) pa_nil)))))))
      (pss_one (ps_ret pe_bl))
      pss_nil)
      (pss_one (ps_ret (pe_chain op_lt op_lt (pe_un un_neg (pe_op op_pow pe_int pe_int)) (pv 0) (pe_op op_pow pe_int pe_int))))), ?_⟩
    by_cases h1 : ∃ n, d = .int n
    · obtain ⟨n, rfl⟩ := h1
      obtain rfl : x = .int n := by
        rcases hx with h | ⟨_, _, _, _, h⟩
        · cases h
          rfl
        · cases h
      refine ⟨_, rfl, _, _, _, _, true, rfl, .ty _, .base (.int _), kit_ty (by decide +kernel), _, rfl, iteF ?_⟩
      refine ⟨_, rfl, _, _, _, _, false, rfl, .ty _, .base (.int _), kit_ty (by decide +kernel), _, rfl, iteF ?_⟩
      refine ⟨_, _, rfl, rfl, ⟨by decide, by decide, by decide⟩, _, rfl, _, rfl, _, _, rfl, rfl, _, rfl, ?_⟩
      have e1 : decide (-(10 ^ Int.toNat 12) < n) = decide (-1000000000000 < n) := rfl
      refine ite2 (fun c => ?_) (fun c => ?_)
      · refine ⟨_, _, rfl, rfl, ⟨by decide, by decide, by decide⟩, _, _, rfl, rfl, ?_⟩
        refine bl_to ?_ k
        show _ = (decide (-1000000000000 < n) && decide (n < 1000000000000))
        rw [← e1, c, Bool.true_and]
        rfl
      · refine bl_to ?_ k
        show _ = (decide (-1000000000000 < n) && decide (n < 1000000000000))
        rw [← e1, Bool.eq_false_iff.mpr c, Bool.false_and]
    · by_cases h2 : ∃ b, d = .bool b
      · obtain ⟨b, rfl⟩ := h2
        refine ⟨_, rfl, _, _, _, _, true, rfl, .ty _, hx.ty, kit_ty (a := "bool") (b := "int") (by decide +kernel), _, rfl, iteF ?_⟩
        refine ⟨_, rfl, _, _, _, _, true, rfl, .ty _, hx.ty, kit_ty (a := "bool") (b := "bool") (by decide +kernel), _, rfl, iteT ?_⟩
        exact k
      · have hn := not_int (fun n e => h1 ⟨n, e⟩) fun b e => h2 ⟨b, e⟩
        refine ⟨_, rfl, _, _, _, _, false, rfl, .ty _, hx.ty, kit_ty hn.1, _, rfl, iteT ?_⟩
        exact iteT (bl_to hn.2.symm k)
def sp_is_between (K : PySem.W.Frag) : Sp := fun vs H Q _ => ∃ (x : V) (d : PyData) (lo hi : Int), vs = [x, .int lo, .int hi] ∧ DD K H x d ∧ Q (.bl (inD lo hi d)) H
theorem ok_is_between (T : T K mg) : FnOk P w K mg base CX0 2 T.f_is_between T.d_is_between ["value", "low", "high"] (sp_is_between K) := by
  have G_is_integer : FnOk P w K mg base CX0 1 T.f_is_integer T.d_is_integer ["value"] (sp_is_integer K) := ok_is_integer T
  refine T.F_is_between.ok sc_is_between (fun vs H Q E h => ?_) (fun cdv A outer s H vs Q E hr h => ?_)
  · obtain ⟨x, d, lo, hi, rfl, _⟩ := h
    rfl
  · obtain ⟨x, d, lo, hi, rfl, hx, k⟩ := h
    have hu := hu_of hr
    have hr_is_integer : Room 1 _ := hr.mono (by decide)
    refine ⟨_, (pss_one (ps_ret (pe_and (pe_call G_is_integer hr_is_integer rfl T.m_is_integer T.F_is_integer.kp T.b_is_integer .nil pass0 (pa_cons (pv 0) pa_nil)) (pe_one (pe_chain op_le op_le (pv 1) (pv 0) (pv 2)))))), ?_⟩
    refine ⟨_, rfl, x, d, rfl, hx, _, rfl, ?_⟩
    by_cases h : isInD d = true
    · rw [h]
      refine iteT ?_
      obtain ⟨n, rfl⟩ : ∃ n, d = .int n := by
        cases d with
        | int n => exact ⟨n, rfl⟩
        | _ => cases h
      obtain rfl : x = .int n := by
        rcases hx with h | ⟨_, _, _, _, h⟩
        · cases h
          rfl
        · cases h
      have hi2 : (decide (-1000000000000 < n) && decide (n < 1000000000000)) = true := h
      have k2 : Q (.bl (decide (lo ≤ n) && decide (n ≤ hi))) H := bl_to (by show _ = ((decide (-1000000000000 < n) && decide (n < 1000000000000)) && _); rw [hi2, Bool.true_and]) k
      refine ⟨_, rfl, _, rfl, _, _, rfl, rfl, _, rfl, ?_⟩
      refine ite2 (fun c => ?_) (fun c => ?_)
      · exact ⟨_, rfl, _, _, rfl, rfl, bl_to (by rw [c, Bool.true_and]) k2⟩
      · exact bl_to (by rw [Bool.eq_false_iff.mpr c, Bool.false_and]) k2
    · rw [Bool.eq_false_iff.mpr h]
      refine iteF (bl_to ?_ k)
      cases d with
      | int n =>
        show false = ((decide (-1000000000000 < n) && decide (n < 1000000000000)) && _)
        have h3 : ¬ (decide (-1000000000000 < n) && decide (n < 1000000000000)) = true := h
        rw [Bool.eq_false_iff.mpr h3, Bool.false_and]
      | _ => rfl
/-! ### values that are written down -/
/-- what is new -/
def dif (H' H : Hp) : Hp := fun b => match H b with
  | none => H' b
  | some _ => none
theorem dif_new {H' H : Hp} {b : Addr} (n : H b = none) : dif H' H b = H' b := by unfold dif; rw [n]
theorem dif_inv {H' H : Hp} {b : Addr} {o : HO} (e : dif H' H b = some o) : H b = none ∧ H' b = some o := by
  unfold dif at e
  cases h : H b with
  | none => rw [h] at e; exact ⟨rfl, e⟩
  | some u => rw [h] at e; cases e
theorem none_of {H H' : Hp} {b : Addr} (s : Same H H') (n : H' b = none) : H b = none := by
  cases h : H b with
  | none => rfl
  | some u => rw [s _ _ h] at n; cases n
theorem dif_same (H' H : Hp) : Same (dif H' H) H' := fun b o e => (dif_inv e).2
theorem dif_l {H H1 H2 : Hp} (s : Same H1 H2) : Same (dif H1 H) (dif H2 H) := fun b o e => by
  rw [dif_new (dif_inv e).1]
  exact s _ _ (dif_inv e).2
theorem dif_r {H H1 H2 : Hp} (s : Same H H1) : Same (dif H2 H1) (dif H2 H) := fun b o e => by
  rw [dif_new (none_of s (dif_inv e).1)]
  exact (dif_inv e).2
abbrev Dm := PyData ⊕ List (Key × PyData)
/-- a datum, or a dict with keys and data -/
def VD (K : PySem.W.Frag) (G : Hp) (x : V) : Dm → Prop
  | .inl d => Dp K G x d
  | .inr kds => ∃ a kvs, x = .ref a ∧ G a = some (.dK kvs) ∧ kvs.map (·.1) = kds.map (·.1) ∧ DpAll K G (kvs.map (·.2)) (kds.map (·.2))
theorem vd_same {K : PySem.W.Frag} {G G' : Hp} (s : Same G G') {x : V} : ∀ {m : Dm}, VD K G x m → VD K G' x m
  | .inl d, h => dp_same s d x h
  | .inr kds, ⟨a, kvs, e1, e2, e3, e4⟩ => ⟨a, kvs, e1, s _ _ e2, e3, dpa_same s _ _ e4⟩
def Among (K : PySem.W.Frag) (G : Hp) (xs : List V) (ms : List Dm) : Prop := ∀ x ∈ xs, ∃ m ∈ ms, VD K G x m
theorem among_same {K : PySem.W.Frag} {G G' : Hp} (s : Same G G') {xs : List V} {ms : List Dm} (h : Among K G xs ms) : Among K G' xs ms := fun x hx => by
  obtain ⟨m, hm, v⟩ := h x hx
  exact ⟨m, hm, vd_same s v⟩
theorem among_app {K : PySem.W.Frag} {G : Hp} {xs ys : List V} {ms ns : List Dm} (h : Among K G xs ms) (g : Among K G ys ns) : Among K G (xs ++ ys) (ms ++ ns) := fun x hx => by
  rcases List.mem_append.mp hx with hx | hx
  · obtain ⟨m, hm, v⟩ := h x hx
    exact ⟨m, List.mem_append.mpr (.inl hm), v⟩
  · obtain ⟨m, hm, v⟩ := g x hx
    exact ⟨m, List.mem_append.mpr (.inr hm), v⟩
def tDat (K : PySem.W.Frag) (d : PyData) : TE := fun _ H Q => ∀ v H', Same H H' → Dp K (dif H' H) v d → Q v H'
def tDats (K : PySem.W.Frag) (ds : List PyData) : TA := fun _ H Q => ∀ vs H', Same H H' → DpAll K (dif H' H) vs ds → Q vs H'
def tVd (K : PySem.W.Frag) (m : Dm) : TE := fun _ H Q => ∀ v H', Same H H' → VD K (dif H' H) v m → Q v H'
def tVds (K : PySem.W.Frag) (ms : List Dm) : TA := fun _ H Q => ∀ vs H', Same H H' → Among K (dif H' H) vs ms → vs.length = ms.length → Q vs H'
def tDraw (K : PySem.W.Frag) (ms : List Dm) : TE := fun _ H Q => ∀ l xs H', Same H H' → H l = none → H' l = some (.lst xs) → Among K (dif H' H) xs ms → xs.length = ms.length → Q (.ref l) H'
section
variable {X : Cx} {e : Expr} {es : List Expr} {pos : Pos} {d : PyData} {ds : List PyData} {m : Dm} {ms : List Dm} {k j : Nat}
theorem pe_imp {t t' : TE} (h : PE X e t) (i : ∀ σ H Q, t' σ H Q → t σ H Q) : PE X e t' := ⟨fun pins s σ H Q I q => h.run pins s σ H Q I (i _ _ _ q)⟩
theorem pa_imp {t t' : TA} (h : PA X es t) (i : ∀ σ H Q, t' σ H Q → t σ H Q) : PA X es t' := ⟨fun pos pins s σ H Q I q => h.run pos pins s σ H Q I (i _ _ _ q)⟩
theorem da_non : PE X (.Constant .none j pos) (tDat X.K .none) := pe_imp pe_non fun _ _ _ q => q _ _ (Same.refl _) .non
theorem da_bl {b : Bool} : PE X (.Constant (.bool b) j pos) (tDat X.K (.bool b)) := pe_imp pe_bl fun _ _ _ q => q _ _ (Same.refl _) (.bl b)
theorem da_int {i : Int} : PE X (.Constant (.int i) j pos) (tDat X.K (.int i)) := pe_imp pe_int fun _ _ _ q => q _ _ (Same.refl _) (.int i)
theorem da_str {z : Str} : PE X (.Constant (.str z) j pos) (tDat X.K (.str z)) := pe_imp pe_str fun _ _ _ q => q _ _ (Same.refl _) (.str z)
theorem da_neg {i : Int} : PE X (.UnaryOp .USub (.Constant (.int i) j pos) pos') (tDat X.K (.int (-i))) := pe_imp (pe_un un_neg pe_int) fun _ _ _ q => ⟨_, rfl, q _ _ (Same.refl _) (.int _)⟩
theorem ds_nil : PA X [] (tDats X.K []) := pa_imp pa_nil fun _ _ _ q => q _ _ (Same.refl _) .nil
theorem ds_cons (h : PE X e (tDat X.K d)) (r : PA X es (tDats X.K ds)) (hs : starEach (e :: es) X.env = (false, eval e X.env) :: starEach es X.env := by rfl) : PA X (e :: es) (tDats X.K (d :: ds)) := pa_imp (pa_cons h r hs) fun _ H Q q v H1 S1 p1 vs H2 S2 p2 =>
  q _ _ (Same.trans S1 S2) (.cons (dp_same (dif_l S2) _ _ p1) (dpa_same (dif_r S1) _ _ p2))
theorem da_tup (h : PA X es (tDats X.K ds)) (hl : ds.length ≤ 1000) : PE X (.Tuple es k pos) (tDat X.K (.tuple ds)) := pe_imp (pe_tup h) fun _ H Q q vs H1 S p =>
  ⟨by rw [← dpa_len p]; exact Nat.le_trans hl (by decide), fun a ha => q _ _ (Same.trans S (Same.new ha)) (.tup (SqT.of (by rw [dif_new (none_of S ha), upd_same])) (dpa_same (dif_l (Same.new ha)) _ _ p))⟩
theorem da_lst (h : PA X es (tDats X.K ds)) (hl : ds.length ≤ 1000) : PE X (.List es pos) (tDat X.K (.list ds)) := pe_imp (pe_lst h) fun _ H Q q vs H1 S p =>
  ⟨by rw [← dpa_len p]; exact Nat.le_trans hl (by decide), fun a ha => q _ _ (Same.trans S (Same.new ha)) (.lst (SqL.of (by rw [dif_new (none_of S ha), upd_same])) (dpa_same (dif_l (Same.new ha)) _ _ p))⟩
theorem vd_of (h : PE X e (tDat X.K d)) : PE X e (tVd X.K (.inl d)) := pe_imp h fun _ _ _ q v H' S p => q v H' S p
theorem vd_new : PE X (.Dict [] [] pos) (tVd X.K (.inr [])) := pe_imp pe_dnewK fun _ H Q q a ha => q _ _ (Same.new ha) ⟨a, [], rfl, by rw [dif_new ha, upd_same], rfl, .nil⟩
theorem vs_nil : PA X [] (tVds X.K []) := pa_imp pa_nil fun _ _ _ q => q _ _ (Same.refl _) (fun x hx => by cases hx) rfl
theorem vs_cons (h : PE X e (tVd X.K m)) (r : PA X es (tVds X.K ms)) (hs : starEach (e :: es) X.env = (false, eval e X.env) :: starEach es X.env := by rfl) : PA X (e :: es) (tVds X.K (m :: ms)) := pa_imp (pa_cons h r hs) fun _ H Q q v H1 S1 p1 vs H2 S2 p2 l =>
  q _ _ (Same.trans S1 S2) (fun x hx => by
    rcases List.mem_cons.mp hx with rfl | hx
    · exact ⟨m, List.mem_cons_self, vd_same (dif_l S2) p1⟩
    · obtain ⟨n, hn, p⟩ := p2 x hx
      exact ⟨n, List.mem_cons_of_mem _ hn, vd_same (dif_r S1) p⟩) (congrArg Nat.succ l)
theorem merge_app : ∀ (more acc : List (Key × V)), ((acc ++ more).map (·.1)).Nodup → mergeK acc more = acc ++ more
  | [], acc, _ => (List.append_nil _).symm
  | p :: r, acc, h => by
    have e : acc ++ p :: r = (acc ++ [p]) ++ r := by simp
    have hp : putK acc p.1 p.2 = acc ++ [p] := by
      unfold putK
      rw [if_neg]
      intro z
      obtain ⟨q, hq, e2⟩ := List.any_eq_true.mp z
      have e3 : q.1 = p.1 := of_decide_eq_true e2
      rw [List.map_append, List.map_cons] at h
      have := (List.nodup_append.mp h).2.2 q.1 (List.mem_map.mpr ⟨q, hq, rfl⟩) p.1 (List.mem_cons_self ..)
      exact this e3
    show mergeK (putK acc p.1 p.2) r = _
    rw [hp, e]
    exact merge_app r (acc ++ [p]) (by rw [← e]; exact h)
structure PDs (X : Cx) (pos : Pos) (keys : List (Option Expr)) (values : List Expr) (kds : List (Key × PyData)) : Prop where
  to : ∃ trs, PPs X pos keys values trs ∧ ∀ (σ : St) (H : Hp) (Q : List (V × V) → Hp → Prop), (∀ (kvs : List (Key × V)) (H' : Hp), Same H H' → kvs.map (·.1) = kds.map (·.1) → DpAll X.K (dif H' H) (kvs.map (·.2)) (kds.map (·.2)) → Q (kvs.map fun kv => (kV kv.1, kv.2)) H') → tPairs trs σ H Q
theorem pd_nil : PDs X pos [] [] [] := ⟨[], pps_nil, fun σ H Q q => q [] H (Same.refl _) rfl .nil⟩
theorem pd_cons {z : Str} {v : Expr} {ks : List (Option Expr)} {vs : List Expr} {kds : List (Key × PyData)} {q2 : Pos} (hv : PE X v (tDat X.K d)) (r : PDs X pos ks vs kds) : PDs X pos (some (.Constant (.str z) j q2) :: ks) (v :: vs) ((.inr z, d) :: kds) := by
  obtain ⟨trs, h, t⟩ := r.to
  refine ⟨_, pps_cons pe_str hv h, fun σ H Q q => ?_⟩
  intro x H1 S1 p1
  refine t σ H1 _ fun kvs H2 S2 e2 p2 => ?_
  exact q ((.inr z, x) :: kvs) H2 (Same.trans S1 S2) (by rw [List.map_cons, List.map_cons, e2]) (.cons (dp_same (dif_l S2) _ _ p1) (dpa_same (dif_r S1) _ _ p2))
theorem pd_int {i : Int} {v : Expr} {ks : List (Option Expr)} {vs : List Expr} {kds : List (Key × PyData)} {q2 : Pos} (hv : PE X v (tDat X.K d)) (r : PDs X pos ks vs kds) : PDs X pos (some (.Constant (.int i) j q2) :: ks) (v :: vs) ((.inl i, d) :: kds) := by
  obtain ⟨trs, h, t⟩ := r.to
  refine ⟨_, pps_cons pe_int hv h, fun σ H Q q => ?_⟩
  intro x H1 S1 p1
  refine t σ H1 _ fun kvs H2 S2 e2 p2 => ?_
  exact q ((.inl i, x) :: kvs) H2 (Same.trans S1 S2) (by rw [List.map_cons, List.map_cons, e2]) (.cons (dp_same (dif_l S2) _ _ p1) (dpa_same (dif_r S1) _ _ p2))
theorem vd_dict {keys : List (Option Expr)} {values : List Expr} {kds : List (Key × PyData)} (r : PDs X pos keys values kds) (hall : keys.all (·.isSome) = true) (hl : keys.length = values.length) (h0 : keys ≠ []) (h15 : keys.length ≤ 15) (hk : kds.length ≤ 15) (hn : (kds.map (·.1)).Nodup) :
    PE X (.Dict keys values pos) (tVd X.K (.inr kds)) := by
  obtain ⟨trs, h, t⟩ := r.to
  refine pe_imp (pe_disp h hall hl h0 h15) fun σ H Q q a ha => t σ _ _ fun kvs H2 S2 e2 p2 => ?_
  have S1 : Same H H2 := Same.trans (Same.new ha) S2
  refine ⟨S2 _ _ upd_same, kvs, rfl, ?_, ?_⟩
  · have := congrArg List.length e2
    rw [List.length_map, List.length_map] at this
    omega
  rw [merge_app kvs [] (by rw [List.nil_append, e2]; exact hn), List.nil_append]
  have S3 : Same H (upd H2 a (.dK kvs)) := fun b o e => by
    rw [upd_ne (ne_of_none e ha)]
    exact S1 _ _ e
  refine q _ _ S3 ⟨a, kvs, rfl, by rw [dif_new ha, upd_same], e2, dpa_same ?_ _ _ p2⟩
  intro b o e
  have h1 := dif_inv e
  have nb : b ≠ a := fun z => by
    rw [z, upd_same] at h1
    cases h1.1
  rw [dif_new (by rw [upd_ne nb] at h1; exact h1.1), upd_ne nb]
  exact h1.2
theorem dr_lst (h : PA X es (tVds X.K ms)) (hl : ms.length ≤ 1000) : PE X (.List es pos) (tDraw X.K ms) := pe_imp (pe_lst h) fun _ H Q q vs H1 S p l =>
  ⟨by rw [l]; exact Nat.le_trans hl (by decide), fun a ha => q a vs _ (Same.trans S (Same.new ha)) (none_of S ha) upd_same (among_same (dif_l (Same.new ha)) p) l⟩
end
/-- what the top has written of an error class that keeps what it takes -/
structure EB (K : PySem.W.Frag) (mg : Str → Option Value) (x : Str) (C fI : Addr) (fld : Str) : Prop where
  mg : mg x = some (.ref C)
  ox : OxB K C
  init : PySem.W.findIn K
      (.ref C) "__init__" = some (some (.ref fI))
  ty : PySem.W.typeIn K (.ref fI) = some (.type "function")
  no : PySem.W.findIn K (.ref C) fld = some none
structure UX (K : PySem.W.Frag) (mg : Str → Option Value) where
  fN : Addr
  dN : FuncData
  FN : Fun K "__init__" "InvalidNumber.__init__" s_InvalidNumber_init fN dN
  bN : Binds K dN ["self", "value"] []
  N : Addr
  n : EB K mg "InvalidNumber" N fN "value"
  fM : Addr
  dM : FuncData
  FM : Fun K "__init__" "TooMany.__init__" s_TooMany_init fM dM
  bM : Binds K dM ["self", "limit"] []
  M : Addr
  m : EB K mg "TooMany" M fM "limit"
def sp_E (fld : Str) (K : PySem.W.Frag) : Sp := fun vs H Q _ => ∃ (a C : Addr) (v : V), vs = [.ref a, v] ∧ OxB K C ∧ PySem.W.findIn K (.ref C) fld = some none ∧ H a = some (exo a C none) ∧
  ∀ d, H d = none → d ≠ a → Q .non (upd (upd H d (exd d [(fld, v)])) a (exo a C (some d)))
theorem ok_N (U : UX K mg) : FnOk P w K mg base CX0 1 U.fN U.dN ["self", "value"] (sp_E "value" K) := by
  refine U.FN.ok sc_InvalidNumber_init (fun vs H Q E h => ?_) (fun cdv A outer s H vs Q E hr h => ?_)
  · obtain ⟨a, C, v, rfl, _⟩ := h
    rfl
  · obtain ⟨a, C, v, rfl, hC, hn, ha, k⟩ := h
    exact ⟨_, pss_one (ps_osB (pv 0) (pv 1)), _, rfl, _, rfl, a, C, rfl, hC, hn, .inl ⟨ha, fun d hd nd => k d hd nd⟩⟩
theorem ok_M (U : UX K mg) : FnOk P w K mg base CX0 1 U.fM U.dM ["self", "limit"] (sp_E "limit" K) := by
  refine U.FM.ok sc_TooMany_init (fun vs H Q E h => ?_) (fun cdv A outer s H vs Q E hr h => ?_)
  · obtain ⟨a, C, v, rfl, _⟩ := h
    rfl
  · obtain ⟨a, C, v, rfl, hC, hn, ha, k⟩ := h
    exact ⟨_, pss_one (ps_osB (pv 0) (pv 1)), _, rfl, _, rfl, a, C, rfl, hC, hn, .inl ⟨ha, fun d hd nd => k d hd nd⟩⟩
/-- the error C leaves, and keeps v as fld -/
def Er (C : Addr) (fld : Str) (H : Hp) (v : V) (E : XK) : Prop := ∀ (d : Addr) (H' : Hp), Same H H' → H' d = some (.xd [(fld, v)]) → E (.ref C) (some d) H'
theorem Er.same {C : Addr} {fld : Str} {H H1 : Hp} {v : V} {E : XK} (s : Same H H1) (h : Er C fld H v E) : Er C fld H1 v E := fun d H' S e => h d H' (Same.trans s S) e
theorem er_out {K : PySem.W.Frag} {mg : Str → Option Value} {x fld : Str} {C fI : Addr} (T : EB K mg x C fI fld) {H : Hp} {v : V} {a : Addr} {Q : XK} (na : H a = none) (k : Er C fld H v Q) :
    sp_E fld K (.ref a :: ([v] ++ [])) (upd H a (exo a C none)) (fun v H2 => v = .non ∧ ∃ (d : Addr) (fs : List (Str × V)), H2 a = some (exo a C (some d)) ∧ H2 d = some (exd d fs) ∧ H d = none ∧ Q (.ref C) (some d) (upd (del H2 a) d (.xd fs))) (fun _ _ _ => False) := by
  refine ⟨a, C, v, rfl, T.ox, T.no, upd_same, fun d hd nd => ⟨rfl, d, _, upd_same, (upd_ne nd).trans upd_same, ?_, k d _ (fun b o e => ?_) upd_same⟩⟩
  · rw [upd_ne nd] at hd
    exact hd
  · have nba : b ≠ a := ne_of_none e na
    have nbd : b ≠ d := by
      refine ne_of_none e ?_
      rw [upd_ne nd] at hd
      exact hd
    rw [upd_ne nbd, del_ne nba, upd_ne nba, upd_ne nbd, upd_ne nba]
    exact e
def sp_check_integer (K : PySem.W.Frag) (N : Addr) : Sp := fun vs H Q E => ∃ (x : V) (d : PyData), vs = [x] ∧ DD K H x d ∧ (isInD d = true → Q .non H) ∧ (isInD d = false → Er N "value" H x E)
theorem ok_check_integer (T : T K mg) (U : UX K mg) : FnOk P w K mg base (L2.CX P w) 3 T.f_check_integer T.d_check_integer ["value"] (sp_check_integer K U.N) := by
  have G_is_integer : FnOk P w K mg base CX0 1 T.f_is_integer T.d_is_integer ["value"] (sp_is_integer K) := ok_is_integer T
  have G_N : FnOk P w K mg base CX0 1 U.fN U.dN ["self", "value"] (sp_E "value" K) := ok_N U
  refine T.F_check_integer.okX sc_check_integer (fun vs H Q E h => ?_) (fun cdv A outer s H vs Q E hr h => ?_)
  · obtain ⟨x, d, rfl, _⟩ := h
    rfl
  · obtain ⟨x, d, rfl, hx, k1, k2⟩ := h
    have hr1 : Room 1 _ := hr.mono (by decide)
    refine ⟨_, (pss_one (ps_if (pt_not (pt_val (pe_call G_is_integer hr1 rfl T.m_is_integer T.F_is_integer.kp T.b_is_integer .nil pass0 (pa_cons (pv 0) pa_nil))))
      (pss_one (ps_raise rfl (takes_of rfl rfl rfl rfl) (pmk_ox U.n.ox U.n.init U.n.ty G_N hr U.bN .nil pass0 rfl U.n.mg (pa_cons (pv 0) pa_nil))))
      pss_nil)), ?_⟩
    refine ⟨_, rfl, x, d, rfl, hx, _, rfl, ?_⟩
    cases c : isInD d with
    | true => exact iteF (k1 c)
    | false => exact iteT ⟨_, rfl, Nat.le_of_ble_eq_true rfl, fun a ha => er_out U.n ha (k2 c)⟩
def sp_check_between (K : PySem.W.Frag) (N : Addr) : Sp := fun vs H Q E => ∃ (x : V) (d : PyData) (lo hi : Int), vs = [x, .int lo, .int hi] ∧ DD K H x d ∧ (inD lo hi d = true → Q .non H) ∧ (inD lo hi d = false → Er N "value" H x E)
theorem ok_check_between (T : T K mg) (U : UX K mg) : FnOk P w K mg base (L2.CX P w) 3 T.f_check_between T.d_check_between ["value", "low", "high"] (sp_check_between K U.N) := by
  have G_is_between : FnOk P w K mg base CX0 2 T.f_is_between T.d_is_between ["value", "low", "high"] (sp_is_between K) := ok_is_between T
  have G_N : FnOk P w K mg base CX0 1 U.fN U.dN ["self", "value"] (sp_E "value" K) := ok_N U
  refine T.F_check_between.okX sc_check_between (fun vs H Q E h => ?_) (fun cdv A outer s H vs Q E hr h => ?_)
  · obtain ⟨x, d, lo, hi, rfl, _⟩ := h
    rfl
  · obtain ⟨x, d, lo, hi, rfl, hx, k1, k2⟩ := h
    have hr2 : Room 2 _ := hr.mono (by decide)
    refine ⟨_, (pss_one (ps_if (pt_not (pt_val (pe_call G_is_between hr2 rfl T.m_is_between T.F_is_between.kp T.b_is_between .nil pass0 (pa_cons (pv 0) (pa_cons (pv 1) (pa_cons (pv 2) pa_nil))))))
      (pss_one (ps_raise rfl (takes_of rfl rfl rfl rfl) (pmk_ox U.n.ox U.n.init U.n.ty G_N hr2 U.bN .nil pass0 rfl U.n.mg (pa_cons (pv 0) pa_nil))))
      pss_nil)), ?_⟩
    refine ⟨_, rfl, _, rfl, _, rfl, x, d, lo, hi, rfl, hx, _, rfl, ?_⟩
    cases c : inD lo hi d with
    | true => exact iteF (k1 c)
    | false => exact iteT ⟨_, rfl, Nat.le_of_ble_eq_true rfl, fun a ha => er_out U.n ha (k2 c)⟩
def sp_check_interval (K : PySem.W.Frag) (N : Addr) : Sp := fun vs H Q E => ∃ (x : V) (d : PyData), vs = [x] ∧ DD K H x d ∧ (inD 1 32 d = true → Q .non H) ∧ (inD 1 32 d = false → Er N "value" H x E)
theorem ok_check_interval (T : T K mg) (U : UX K mg) : FnOk P w K mg base (L2.CX P w) 4 T.f_check_interval T.d_check_interval ["value"] (sp_check_interval K U.N) := by
  have G_check_between : FnOk P w K mg base (L2.CX P w) 3 T.f_check_between T.d_check_between ["value", "low", "high"] (sp_check_between K U.N) := ok_check_between T U
  refine T.F_check_interval.okX sc_check_interval (fun vs H Q E h => ?_) (fun cdv A outer s H vs Q E hr h => ?_)
  · obtain ⟨x, d, rfl, _⟩ := h
    rfl
  · obtain ⟨x, d, rfl, hx, k1, k2⟩ := h
    obtain ⟨_, c_MAX_INTERVAL⟩ := T.c_MAX_INTERVAL
    refine ⟨_, (pss_one (ps_expr (pe_call G_check_between hr rfl T.m_check_between T.F_check_between.kp T.b_check_between .nil (passes_call (takes_of rfl rfl rfl rfl) (fun _ _ _ _ h => h)) (pa_cons (pv 0) (pa_cons pe_int (pa_cons (pe_glob (v := V.int 32) rfl c_MAX_INTERVAL ⟨_, rfl⟩) pa_nil)))))), ?_⟩
    exact ⟨_, rfl, x, d, 1, 32, rfl, hx, k1, k2⟩
/-- the first that is not as told -/
def fb : List (Bool × V) → Option V
  | [] => none
  | (true, _) :: r => fb r
  | (false, x) :: _ => some x
/-- what comes of it -/
def Res (N : Addr) (H : Hp) (Q : VK) (E : XK) : Option V → Prop
  | none => ∀ i : Int, Q (.int i) H
  | some x => Er N "value" H x E
def sp_slot_of (K : PySem.W.Frag) (N : Addr) : Sp := fun vs H Q E => ∃ (x y : V) (dx dy : PyData), vs = [x, y] ∧ DD K H x dx ∧ DD K H y dy ∧ Res N H Q E (fb [(isInD dx, x), (inD 1 32 dy, y)])
theorem int_of {K : PySem.W.Frag} {H : Hp} {x : V} {d : PyData} (h : DD K H x d) (e : isInD d = true) : ∃ n : Int, x = .int n ∧ d = .int n ∧ -1000000000000 < n ∧ n < 1000000000000 := by
  cases d with
  | int n =>
    have e2 : (decide (-1000000000000 < n) && decide (n < 1000000000000)) = true := e
    rw [Bool.and_eq_true, decide_eq_true_eq, decide_eq_true_eq] at e2
    rcases h with h | ⟨_, _, _, _, h⟩
    · cases h
      exact ⟨n, rfl, rfl, e2.1, e2.2⟩
    · cases h
  | _ => cases e
theorem bet_of {K : PySem.W.Frag} {H : Hp} {x : V} {d : PyData} {lo hi : Int} (h : DD K H x d) (e : inD lo hi d = true) : ∃ n : Int, x = .int n ∧ d = .int n ∧ lo ≤ n ∧ n ≤ hi := by
  cases d with
  | int n =>
    have e2 : ((decide (-1000000000000 < n) && decide (n < 1000000000000)) && (decide (lo ≤ n) && decide (n ≤ hi))) = true := e
    simp only [Bool.and_eq_true, decide_eq_true_eq] at e2
    rcases h with h | ⟨_, _, _, _, h⟩
    · cases h
      exact ⟨n, rfl, rfl, e2.2.1, e2.2.2⟩
    · cases h
  | _ => cases e
theorem ok_slot_of (T : T K mg) (U : UX K mg) : FnOk P w K mg base (L2.CX P w) 5 T.f_slot_of T.d_slot_of ["tick", "interval"] (sp_slot_of K U.N) := by
  have G_check_integer : FnOk P w K mg base (L2.CX P w) 3 T.f_check_integer T.d_check_integer ["value"] (sp_check_integer K U.N) := ok_check_integer T U
  have G_check_interval : FnOk P w K mg base (L2.CX P w) 4 T.f_check_interval T.d_check_interval ["value"] (sp_check_interval K U.N) := ok_check_interval T U
  refine T.F_slot_of.okX sc_slot_of (fun vs H Q E h => ?_) (fun cdv A outer s H vs Q E hr h => ?_)
  · obtain ⟨x, y, dx, dy, rfl, _⟩ := h
    rfl
  · obtain ⟨x, y, dx, dy, rfl, hx, hy, k⟩ := h
    have hr3 : Room 3 _ := hr.mono (by decide)
    refine ⟨_, (pss_cons (ps_expr (pe_call G_check_integer hr3 rfl T.m_check_integer T.F_check_integer.kp T.b_check_integer .nil (passes_call (takes_of rfl rfl rfl rfl) (fun _ _ _ _ h => h)) (pa_cons (pv 0) pa_nil)))
      (pss_cons (ps_expr (pe_call G_check_interval hr rfl T.m_check_interval T.F_check_interval.kp T.b_check_interval .nil (passes_call (takes_of rfl rfl rfl rfl) (fun _ _ _ _ h => h)) (pa_cons (pv 1) pa_nil)))
      (pss_one (ps_ret (pe_op op_mod (pv 0) (pv 1)))))), ?_⟩
    refine ⟨_, rfl, x, dx, rfl, hx, fun c1 => ?_, fun c1 => by rw [c1] at k; exact k⟩
    rw [c1] at k
    refine ⟨_, rfl, y, dy, rfl, hy, fun c2 => ?_, fun c2 => by rw [c2] at k; exact k⟩
    rw [c2] at k
    obtain ⟨n, rfl, rfl, _, _⟩ := int_of hx c1
    obtain ⟨m, rfl, rfl, _, _⟩ := bet_of hy c2
    exact ⟨_, rfl, _, rfl, _, _, rfl, rfl, by omega, k _⟩
end
end K04
namespace K04
open PySem L2
section
variable {P : Program} {w : World} {K : PySem.W.Frag}
    {mg : Str → Option Value} {base : Heap}
section
variable {X : Cx}
def rLcm : List V → Hp → VK → Prop := fun vs H Q => ∃ a b : Nat, vs = [.int (a : Int), .int (b : Int)] ∧ a < 2 ^ 120 ∧ b < 2 ^ 120 ∧ Q (.int ((Nat.lcm a b : Nat) : Int)) H
theorem cr_lcm : CallR X (.builtin "math.lcm") rLcm := by
  intro pins s σ H vs us Q I r h
  obtain ⟨a, b, rfl, ha, hb, q⟩ := h
  obtain ⟨t, u, rfl⟩ := Vals.int2 r
  have e1 : ((a : Nat) : Int).natAbs = a := Int.natAbs_natCast a
  have e2 : ((b : Nat) : Int).natAbs = b := Int.natAbs_natCast b
  have z := @PySem.W.mg_run_lcm (a : Int) t (b : Int) u
  rw [e1, e2, show Nat.lcm 1 a = a by simp [Nat.lcm]] at z
  have hl : Nat.lcm a b ≤ a * b := by
    by_cases h0 : 0 < a * b
    · exact Nat.le_of_dvd h0 (Nat.lcm_dvd_mul a b)
    · have : a * b = 0 := by omega
      rcases Nat.mul_eq_zero.mp this with rfl | rfl <;> simp [Nat.lcm]
  have hs : Nat.lcm a b < 2 ^ 240 := Nat.lt_of_le_of_lt hl (by rw [show (240 : Nat) = 120 + 120 from rfl, Nat.pow_add]; exact Nat.mul_lt_mul'' ha hb)
  have hone : (1 : Nat) < 2 ^ 120 := by decide
  have l1 : (max 1 a).log2 ≤ 119 := PySem.W.mg_log (by show max 1 a < 2 ^ 120; exact Nat.max_lt.mpr ⟨hone, ha⟩)
  have l2 : (max a b).log2 ≤ 119 := PySem.W.mg_log (by show max a b < 2 ^ 120; exact Nat.max_lt.mpr ⟨ha, hb⟩)
  have l3 : ((Nat.lcm a b : Nat) : Int).natAbs.log2 < bitsLine := by
    rw [Int.natAbs_natCast]
    exact Nat.lt_of_le_of_lt (PySem.W.mg_log (k := 239) hs) (by decide)
  exact PySem.call_function_meets PySem.W.MGF.kind_lcm PySem.W.MGF.plain_lcm PySem.W.MGF.entry_lcm (PySem.W.MGF.args_lcm _ _) (z (by omega) (by omega) l3).meets ⟨.int _, H, I.tok _, ⟨_, rfl⟩, q⟩
variable {CX : CXT} {k : Nat} {f : Addr} {sp : Sp} {E : XK} {x : Str} {p pos : Pos} {e : Expr} {es : List Expr} {t : TA}
theorem pe_callR (F : FnR X.prog X.w X.K X.mg X.base CX k f sp) (hr : Room k X.A) (hg : Gl X x) (hm : X.mg x = some (.ref f)) (hk : PySem.W.keepIn X.K (.ref f) = true) (hx : Passes CX X E)
    (ha : PA X (e :: es) t) (hdb : (x == ("__debug__" : Str)) = false := by decide) (he : starEach (e :: es) X.env =
        (false, eval e X.env) :: starEach es X.env := by rfl) (hpl : (backTo pos (starEach es X.env)).any (·.1) = false := by rfl) :
    PE X (.Call (.Name x p) (e :: es) [] pos)
        (fun σ H Q => t σ H fun vs H1 => sp vs H1 Q E) := by
  refine ⟨fun pins s σ H Q I h => ?_⟩
  refine wpAny_Call_Name_kw (ld_glob I hg hm ?_ hdb)
  refine PySem.W.callWith_K (h₀ := X.base) I.ok.mod.kin hk (thn
      (ha.run pos pins s σ H _ I h) fun us s1 ⟨vs, H1, I1, r, q⟩ => ⟨I1.kIn, ?_⟩) he hpl
  exact wpAny_call (run_fnR F hr hx I1 r q)
theorem pe_callR0 (F : FnR X.prog X.w X.K X.mg X.base CX k f sp) (hr : Room k X.A) (hg : Gl X x) (hm : X.mg x = some (.ref f)) (hk : PySem.W.keepIn X.K (.ref f) = true) (hx : Passes CX X E)
    (hdb : (x == ("__debug__" : Str)) = false := by decide) : PE X (.Call (.Name x p) [] [] pos) (fun σ H Q => sp [] H Q E) := by
  refine ⟨fun pins s σ H Q I h => ?_⟩
  refine wpAny_Call_Name_kw (ld_glob I hg hm ?_ hdb)
  exact PySem.W.callWith_K0 I.kIn hk (wpAny_call (run_fnR (us := []) F hr hx I .nil h))
end

def sp_rounded_up (K : PySem.W.Frag) (N : Addr) : Sp := fun vs H Q E => ∃ (x y z : V) (dx dy dz : PyData), vs = [x, y, z] ∧ DD K H x dx ∧ DD K H y dy ∧ DD K H z dz ∧ Res N H Q E (fb [(isInD dx, x), (isInD dy, y), (inD 1 32 dz, z)])
theorem ok_rounded_up (T : T K mg) (U : UX K mg) : FnOk P w K mg base (L2.CX P w) 5 T.f_rounded_up T.d_rounded_up ["number", "slot", "interval"] (sp_rounded_up K U.N) := by
  have G_check_integer : FnOk P w K mg base (L2.CX P w) 3 T.f_check_integer T.d_check_integer ["value"] (sp_check_integer K U.N) := ok_check_integer T U
  have G_check_interval : FnOk P w K mg base (L2.CX P w) 4 T.f_check_interval T.d_check_interval ["value"] (sp_check_interval K U.N) := ok_check_interval T U
  refine T.F_rounded_up.okX sc_rounded_up (fun vs H Q E h => ?_) (fun cdv A outer s H vs Q E hr h => ?_)
  · obtain ⟨x, y, z, dx, dy, dz, rfl, _⟩ := h
    rfl
  · obtain ⟨x, y, z, dx, dy, dz, rfl, hx, hy, hz, k⟩ := h
    have hr3 : Room 3 _ := hr.mono (by decide)
    refine ⟨_, (pss_cons (ps_expr (pe_call G_check_integer hr3 rfl T.m_check_integer T.F_check_integer.kp T.b_check_integer .nil (passes_call (takes_of rfl rfl rfl rfl) (fun _ _ _ _ h => h)) (pa_cons (pv 0) pa_nil)))
      (pss_cons (ps_expr (pe_call G_check_integer hr3 rfl T.m_check_integer T.F_check_integer.kp T.b_check_integer .nil (passes_call (takes_of rfl rfl rfl rfl) (fun _ _ _ _ h => h)) (pa_cons (pv 1) pa_nil)))
      (pss_cons (ps_expr (pe_call G_check_interval hr rfl T.m_check_interval T.F_check_interval.kp T.b_check_interval .nil (passes_call (takes_of rfl rfl rfl rfl) (fun _ _ _ _ h => h)) (pa_cons (pv 2) pa_nil)))
      (pss_one (ps_ret (pe_op op_add (pv 0) (pe_op op_mod (pe_op op_sub (pv 1) (pv 0)) (pv 2)))))))), ?_⟩
    refine ⟨_, rfl, x, dx, rfl, hx, fun c1 => ?_, fun c1 => by rw [c1] at k; exact k⟩
    rw [c1] at k
    refine ⟨_, rfl, y, dy, rfl, hy, fun c2 => ?_, fun c2 => by rw [c2] at k; exact k⟩
    rw [c2] at k
    refine ⟨_, rfl, z, dz, rfl, hz, fun c3 => ?_, fun c3 => by rw [c3] at k; exact k⟩
    rw [c3] at k
    obtain ⟨n, rfl, rfl, _, _⟩ := int_of hx c1
    obtain ⟨m, rfl, rfl, _, _⟩ := int_of hy c2
    obtain ⟨i, rfl, rfl, _, _⟩ := bet_of hz c3
    exact ⟨_, rfl, _, rfl, _, rfl, _, _, rfl, rfl, _, rfl, _, _, rfl, rfl, by omega, _, _, rfl, rfl, k _⟩
def leD : PyData → PyData → Bool
  | .int a, .int b => decide (a ≤ b)
  | _, _ => true
def sp_times_alive (K : PySem.W.Frag) (N : Addr) : Sp := fun vs H Q E => ∃ (x y z u : V) (dx dy dz du : PyData), vs = [x, y, z, u] ∧ DD K H x dx ∧ DD K H y dy ∧ DD K H z dz ∧ DD K H u du ∧
  Res N H Q E (fb [(isInD dx, x), (isInD dy, y), (leD dx dy, y), (isInD dz, z), (inD 1 32 du, u)])
theorem ok_times_alive (T : T K mg) (U : UX K mg) : FnOk P w K mg base (L2.CX P w) 5 T.f_times_alive T.d_times_alive ["begin", "end", "tick", "interval"] (sp_times_alive K U.N) := by
  have G_check_integer : FnOk P w K mg base (L2.CX P w) 3 T.f_check_integer T.d_check_integer ["value"] (sp_check_integer K U.N) := ok_check_integer T U
  have G_check_interval : FnOk P w K mg base (L2.CX P w) 4 T.f_check_interval T.d_check_interval ["value"] (sp_check_interval K U.N) := ok_check_interval T U
  have G_N : FnOk P w K mg base CX0 1 U.fN U.dN ["self", "value"] (sp_E "value" K) := ok_N U
  refine T.F_times_alive.okX sc_times_alive (fun vs H Q E h => ?_) (fun cdv A outer s H vs Q E hr h => ?_)
  · obtain ⟨x, y, z, u, dx, dy, dz, du, rfl, _⟩ := h
    rfl
  · obtain ⟨x, y, z, u, dx, dy, dz, du, rfl, hx, hy, hz, hw, k⟩ := h
    have hr3 : Room 3 _ := hr.mono (by decide)
    have hr2 : Room 2 _ := hr.mono (by decide)
    refine ⟨_, (pss_cons (ps_expr (pe_call G_check_integer hr3 rfl T.m_check_integer T.F_check_integer.kp T.b_check_integer .nil (passes_call (takes_of rfl rfl rfl rfl) (fun _ _ _ _ h => h)) (pa_cons (pv 0) pa_nil)))
      (pss_cons (ps_expr (pe_call G_check_integer hr3 rfl T.m_check_integer T.F_check_integer.kp T.b_check_integer .nil (passes_call (takes_of rfl rfl rfl rfl) (fun _ _ _ _ h => h)) (pa_cons (pv 1) pa_nil)))
      (pss_cons (ps_if (pt_cmpR op_lt (pv 1) (pv 0) (nomark _))
      (pss_one (ps_raise rfl (takes_of rfl rfl rfl rfl) (pmk_ox U.n.ox U.n.init U.n.ty G_N hr2 U.bN .nil pass0 rfl U.n.mg (pa_cons (pv 1) pa_nil))))
      pss_nil)
      (pss_cons (ps_expr (pe_call G_check_integer hr3 rfl T.m_check_integer T.F_check_integer.kp T.b_check_integer .nil (passes_call (takes_of rfl rfl rfl rfl) (fun _ _ _ _ h => h)) (pa_cons (pv 2) pa_nil)))
      (pss_cons (ps_expr (pe_call G_check_interval hr rfl T.m_check_interval T.F_check_interval.kp T.b_check_interval .nil (passes_call (takes_of rfl rfl rfl rfl) (fun _ _ _ _ h => h)) (pa_cons (pv 3) pa_nil)))
      (pss_one (ps_ret (pe_op op_sub (pe_op op_fdivW (pe_op op_sub (pv 2) (pv 0)) (pv 3)) (pe_op op_fdivW (pe_op op_sub (pv 2) (pv 1)) (pv 3)))))))))), ?_⟩
    refine ⟨_, rfl, x, dx, rfl, hx, fun c1 => ?_, fun c1 => by rw [c1] at k; exact k⟩
    rw [c1] at k
    refine ⟨_, rfl, y, dy, rfl, hy, fun c2 => ?_, fun c2 => by rw [c2] at k; exact k⟩
    rw [c2] at k
    obtain ⟨n, rfl, rfl, _, _⟩ := int_of hx c1
    obtain ⟨m, rfl, rfl, _, _⟩ := int_of hy c2
    refine ⟨_, rfl, _, rfl, _, _, rfl, rfl, _, rfl, ?_⟩
    refine ite2 (fun c3 => ?_) (fun c3 => ?_)
    · have c4 : leD (.int n) (.int m) = false := decide_eq_false (by have := of_decide_eq_true c3; omega)
      rw [c4] at k
      exact ⟨_, rfl, Nat.le_of_ble_eq_true rfl, fun a ha => er_out U.n ha k⟩
    have c4 : leD (.int n) (.int m) = true := decide_eq_true (by have := mt decide_eq_true c3; omega)
    rw [c4] at k
    refine ⟨_, rfl, z, dz, rfl, hz, fun c5 => ?_, fun c5 => by rw [c5] at k; exact k⟩
    rw [c5] at k
    refine ⟨_, rfl, u, du, rfl, hw, fun c6 => ?_, fun c6 => by rw [c6] at k; exact k⟩
    rw [c6] at k
    obtain ⟨t, rfl, rfl, _, _⟩ := int_of hz c5
    obtain ⟨i, rfl, rfl, _, _⟩ := bet_of hw c6
    refine ⟨_, rfl, _, rfl, _, _, rfl, rfl, _, rfl, _, _, rfl, rfl, ⟨by omega, Nat.lt_trans (lg (b := 6) (by omega) (by omega) (by decide)) (by decide)⟩, _, rfl, _, rfl, _, _, rfl, rfl, _, rfl, _, _, rfl, rfl, ⟨by omega, Nat.lt_trans (lg (b := 6) (by omega) (by omega) (by decide)) (by decide)⟩, _, _, rfl, rfl, k _⟩

theorem fb_at {g : V × PyData → Bool} : ∀ {ps : List (V × PyData)} {i : Nat} {p : V × PyData}, (∀ j q, j < i → ps[j]? = some q → g q = true) → ps[i]? = some p → g p = false → fb (ps.map fun p => (g p, p.1)) = some p.1
  | [], _, _, _, e, _ => by simp at e
  | q :: r, 0, p, _, e, c => by
    obtain rfl := Option.some.inj e
    show fb ((g q, q.1) :: _) = _
    rw [c]
    rfl
  | q :: r, i + 1, p, h, e, c => by
    show fb ((g q, q.1) :: _) = _
    rw [h 0 q (Nat.succ_pos _) rfl]
    exact fb_at (i := i) (fun j z l y => h (j + 1) z (Nat.succ_lt_succ l) y) e c
theorem fb_all {g : V × PyData → Bool} : ∀ {ps : List (V × PyData)}, (∀ p ∈ ps, g p = true) → fb (ps.map fun p => (g p, p.1)) = none
  | [], _ => rfl
  | q :: r, h => by
    show fb ((g q, q.1) :: _) = _
    rw [h q List.mem_cons_self]
    exact fb_all fun p hp => h p (List.mem_cons_of_mem _ hp)
/-- what comes of a common multiple -/
def ResM (N M : Addr) (H : Hp) (Q : VK) (E : XK) (ps : List (V × PyData)) : Prop := match fb (ps.map fun p => (inD 1 64 p.2, p.1)) with
  | some x => Er N "value" H x E
  | none => if ps.length ≤ 16 then ∀ (i : Int) (H' : Hp), Same H H' → Q (.int i) H' else Er M "limit" H (.int 16) E
def sp_common_multiple (K : PySem.W.Frag) (N M : Addr) : Sp := fun vs H Q E => ∃ ps : List (V × PyData), vs = ps.map (·.1) ∧ ps.length ≤ 1000 ∧ (∀ p ∈ ps, DD K H p.1 p.2) ∧ ResM N M H Q E ps
def sp_cm0 (K : PySem.W.Frag) (N M : Addr) : Sp := fun vs H Q E => ∃ (p : Addr) (ps : List (V × PyData)), vs = [.ref p] ∧ H p = some (.tup (ps.map (·.1))) ∧ ps.length ≤ 1000 ∧ (∀ p ∈ ps, DD K H p.1 p.2) ∧ ResM N M H Q E ps
theorem ok_common_multiple (T : T K mg) (U : UX K mg) : FnR P w K mg base (L2.CX P w) 4 T.f_common_multiple (sp_common_multiple K U.N U.M) := by
  have G_check_between : FnOk P w K mg base (L2.CX P w) 3 T.f_check_between T.d_check_between ["value", "low", "high"] (sp_check_between K U.N) := ok_check_between T U
  have G_M : FnOk P w K mg base CX0 1 U.fM U.dM ["self", "limit"] (sp_E "limit" K) := ok_M U
  obtain ⟨oc, od, kV, doc, pm, an, cdv, ct, osl, hfd, lk, hcd⟩ := T.F_common_multiple.ex
  rw [hfd] at lk
  refine (StX.fn_star (CX := L2.CX P w) (ps := []) (pv := "numbers") (sp := sp_cm0 K U.N U.M) lk hcd sc_common_multiple StX.cxUp ?_ ?_).imp ?_
  · intro us rest hl
    obtain rfl := List.eq_nil_of_length_eq_zero hl
    cases rest <;> rfl
  · intro A outer s H vs Q E hr h
    obtain ⟨p, ps, rfl, hp, hl, hD, k⟩ := h
    have hu := hu_of hr
    have hr2 : Room 2 _ := hr.mono (by decide)
    obtain ⟨_, c_MAX_FACTOR⟩ := T.c_MAX_FACTOR
    obtain ⟨_, c_MAX_FACTORS⟩ := T.c_MAX_FACTORS
    refine ⟨_, (pss_cons (ps_for (passes_of rfl) rfl (pi_tup (pv 0)) (pg_name (i := 1) sc_common_multiple.nd rfl (Or.inl rfl))
      (pss_one (ps_expr (pe_call G_check_between hr rfl T.m_check_between T.F_check_between.kp T.b_check_between .nil (passes_call (takes_of rfl rfl rfl rfl) (fun _ _ _ _ h => h)) (pa_cons (pv 1) (pa_cons pe_int (pa_cons (pe_glob (v := V.int 64) rfl c_MAX_FACTOR ⟨_, rfl⟩) pa_nil)))))))
      (pss_cons (ps_if (pt_cmpR op_gt (pe_callB call_len (by rfl) T.z_len (by decide +kernel) (pa_cons (pv 0) pa_nil)) (pe_glob (v := V.int 16) rfl c_MAX_FACTORS ⟨_, rfl⟩) (nomark _))
      (pss_one (ps_raise rfl (takes_of rfl rfl rfl rfl) (pmk_ox U.m.ox U.m.init U.m.ty G_M hr2 U.bM .nil pass0 rfl U.m.mg (pa_cons (pe_glob (v := V.int 16) rfl c_MAX_FACTORS ⟨_, rfl⟩) pa_nil))))
      pss_nil)
      (pss_cons (ps_set (i := 2) sc_common_multiple.nd rfl (Or.inl rfl) pe_int)
      (pss_cons (ps_for (passes_of rfl) rfl (pi_tup (pv 0)) (pg_name (i := 1) sc_common_multiple.nd rfl (Or.inl rfl))
      (pss_one (ps_set (i := 2) sc_common_multiple.nd rfl (Or.inl rfl) (pe_callBfun cr_lcm rfl T.x_lcm (pa_cons (pv 2) (pa_cons (pv 1) pa_nil))))))
      (pss_one (ps_ret (pv 2))))))), ?_⟩
    have hT : SqT K H p (ps.map (·.1)) := SqT.of hp
    have hN : (ps.map (·.1)).length = ps.length := by rw [List.length_map]
    have at1 : ∀ {i : Nat} {x : V}, (ps.map (·.1))[i]? = some x → ∃ q, ps[i]? = some q ∧ q.1 = x := fun {i x} e => by
      rw [List.getElem?_map] at e
      cases h : ps[i]? with
      | none => rw [h] at e; cases e
      | some q => rw [h] at e; exact ⟨q, rfl, Option.some.inj e⟩
    refine ⟨_, rfl, p, rfl, ⟨_, hT⟩, for_tup (K := K) (a := p) (xs := ps.map (·.1)) (fun i σ H' => ∃ v, σ = [some (.ref p), v, none] ∧ H' = H ∧ ∀ j q, j < i → ps[j]? = some q → inD 1 64 q.2 = true) ⟨none, rfl, rfl, fun _ _ l _ => absurd l (Nat.not_lt_zero _)⟩ (fun i σ H' _ ⟨_, _, e, _⟩ => by rw [e]; exact hT) ?_ ?_⟩
    · rintro i x σ H' hx ⟨v, rfl, rfl, hall⟩
      obtain ⟨q, hq, rfl⟩ := at1 hx
      refine ⟨_, rfl, q.1, q.2, 1, 64, rfl, hD q (List.mem_of_getElem? hq), fun c => ⟨_, rfl, rfl, fun j z l e => ?_⟩, fun c => ?_⟩
      · rcases Nat.lt_succ_iff_lt_or_eq.mp l with l | rfl
        · exact hall j z l e
        · rw [hq] at e
          obtain rfl := Option.some.inj e
          exact c
      · unfold ResM at k
        rw [fb_at (g := fun p => inD 1 64 p.2) hall hq c] at k
        exact k
    · rintro σ H' ⟨v, rfl, rfl, hall⟩
      rw [hN] at hall
      have all : ∀ q ∈ ps, inD 1 64 q.2 = true := fun q hq => by
        obtain ⟨j, hj, e⟩ := List.getElem_of_mem hq
        exact hall j q hj (by rw [List.getElem?_eq_getElem hj, e])
      unfold ResM at k
      rw [fb_all (g := fun p => inD 1 64 p.2) all] at k
      refine ⟨_, rfl, _, _, rfl, .inr ⟨_, hT, rfl⟩, _, _, rfl, rfl, _, rfl, ?_⟩
      rw [hN]
      refine ite2 (fun c => ?_) (fun c => ?_)
      · have h16 : ¬ ps.length ≤ 16 := by have := of_decide_eq_true c; omega
        replace k : Er U.M "limit" H' (.int 16) E := by
          rw [if_neg h16] at k
          exact k
        exact ⟨Nat.le_of_ble_eq_true rfl, fun a ha => er_out U.m ha k⟩
      have h16 : ps.length ≤ 16 := by have := mt decide_eq_true c; omega
      replace k : ∀ (i : Int) (G : Hp), Same H' G → Q (.int i) G := by
        rw [if_pos h16] at k
        exact k
      refine ⟨_, rfl, p, rfl, ⟨_, hT⟩, for_tup (K := K) (a := p) (xs := ps.map (·.1)) (fun i σ H2 => ∃ v, ∃ m : Nat, σ = [some (.ref p), v, some (.int (m : Int))] ∧ H2 = H' ∧ m ≤ 64 ^ i) ⟨_, 1, rfl, rfl, by decide⟩ (fun i σ H2 _ ⟨_, _, _, e, _⟩ => by rw [e]; exact hT) ?_ ?_⟩
      · rintro i x σ H2 hx ⟨v, m, rfl, rfl, hm⟩
        obtain ⟨q, hq, rfl⟩ := at1 hx
        have hi : i < 16 := Nat.lt_of_lt_of_le (List.getElem?_eq_some_iff.mp hq).1 h16
        obtain ⟨n, e1, _, l1, l2⟩ := bet_of (hD q (List.mem_of_getElem? hq)) (all q (List.mem_of_getElem? hq))
        obtain ⟨b, rfl⟩ : ∃ b : Nat, n = (b : Int) := ⟨n.toNat, by omega⟩
        have hm2 : m < 2 ^ 120 := Nat.lt_of_le_of_lt hm (Nat.lt_of_le_of_lt (Nat.pow_le_pow_right (by decide) (Nat.le_of_lt hi)) (by decide))
        have hb2 : b < 2 ^ 120 := Nat.lt_of_le_of_lt (by omega : b ≤ 64) (by decide)
        refine ⟨_, rfl, _, rfl, m, b, by rw [e1], hm2, hb2, ?_⟩
        refine ⟨some q.1, Nat.lcm m b, ?_, rfl, ?_⟩
        · rw [e1]
          rfl
        · have h1 : Nat.lcm m b ≤ m * b := by
            by_cases h0 : 0 < m * b
            · exact Nat.le_of_dvd h0 (Nat.lcm_dvd_mul m b)
            · have : m * b = 0 := by omega
              rcases Nat.mul_eq_zero.mp this with h | h
              · rw [h]
                simp [Nat.lcm]
              · rw [h]
                simp [Nat.lcm]
          refine Nat.le_trans h1 ?_
          rw [Nat.pow_succ]
          exact Nat.mul_le_mul hm (by omega)
      · rintro σ H2 ⟨v, m, rfl, rfl, hm⟩
        exact ⟨_, rfl, k _ _ (Same.refl _)⟩
  · rintro vs H Q E ⟨ps, rfl, hl, hD, k⟩
    refine ⟨[], ps.map (·.1), rfl, rfl, ?_, fun p hp => ⟨p, ps, rfl, upd_same, hl, fun q hq => DD.same (Same.new hp) (hD q hq), ?_⟩⟩
    · rw [List.length_map]
      exact Nat.le_trans hl (by decide)
    · unfold ResM at k ⊢
      split at k
      · rename_i h
        exact Er.same (Same.new hp) k
      · rename_i h
        by_cases c : ps.length ≤ 16
        · rw [if_pos c] at k ⊢
          exact fun i G S => k i G (Same.trans (Same.new hp) S)
        · rw [if_neg c] at k ⊢
          exact Er.same (Same.new hp) k
end
end K04
namespace K04
open PySem L2
section
variable {P : Program} {w : World} {K : PySem.W.Frag}
    {mg : Str → Option Value} {base : Heap}
/-- a value that is told again: a datum of few signs, or an empty dict -/
def OD (K : PySem.W.Frag) (H : Hp) (x : V) (d : PyData) : Prop := (Dp K H x d ∨ ∃ a, x = .ref a ∧ H a = some (.dK []) ∧ d = .dict []) ∧ d.showable = true ∧ d.shown.length ≤ 1000 ∧
  ((∀ a, x ≠ .ref a) ∨ ∃ a, x = .ref a ∧ ((∃ ns : List Int, H a = some (.tup (ns.map V.int)) ∧ d = .tuple (ns.map .int)) ∨ (∃ ns : List Int, H a = some (.lst (ns.map V.int)) ∧ d = .list (ns.map .int)) ∨ (H a = some (.dK []) ∧ d = .dict [])))
theorem OD.dd {K : PySem.W.Frag} {H : Hp} {x : V} {d : PyData} (h : OD K H x d) : DD K H x d := by
  rcases h.1 with h | ⟨a, e1, e2, e3⟩
  · exact .inl h
  · exact .inr ⟨a, [], e1, e2, e3⟩
theorem OD.same {K : PySem.W.Frag} {H H' : Hp} {x : V} {d : PyData} (s : Same H H') (h : OD K H x d) : OD K H' x d := by
  refine ⟨?_, h.2.1, h.2.2.1, ?_⟩
  rotate_left
  · rcases h.2.2.2 with h | ⟨a, e, ⟨ns, e1, e2⟩ | ⟨ns, e1, e2⟩ | ⟨e1, e2⟩⟩
    · exact .inl h
    · exact .inr ⟨a, e, .inl ⟨ns, s _ _ e1, e2⟩⟩
    · exact .inr ⟨a, e, .inr (.inl ⟨ns, s _ _ e1, e2⟩)⟩
    · exact .inr ⟨a, e, .inr (.inr ⟨s _ _ e1, e2⟩)⟩
  rcases h.1 with h | ⟨a, e1, e2, e3⟩
  · exact .inl (dp_same s d x h)
  · exact .inr ⟨a, e1, s _ _ e2, e3⟩
theorem shown_int {n : Int} (h : n.natAbs < 10 ^ 40) : (PyData.int n).showable = true ∧ (PyData.int n).shown.length ≤ 1000 := by
  refine ⟨?_, ?_⟩
  · show decide _ = true
    exact decide_eq_true (Nat.lt_trans (PySem.Flt.log2_lt_of (k := 200) (by decide) (Nat.lt_trans h (by decide))) (by decide))
  · show (Str.ofString (toString n)).length ≤ 1000
    have h1 := PySem.int_text_length_le10 (k := 40) (by decide) h
    rw [ofString_length]
    omega

theorem isIn_big {n : Int} (h : n ≤ -1000000000000 ∨ 1000000000000 ≤ n) : isInD (.int n) = false := by
  show (decide (-1000000000000 < n) && decide (n < 1000000000000)) = false
  rcases h with h | h
  · rw [decide_eq_false (by omega), Bool.false_and]
  · rw [decide_eq_false (p := n < 1000000000000) (by omega), Bool.and_false]
theorem od_int {K : PySem.W.Frag} {H : Hp} {n : Int} (h : n.natAbs < 10 ^ 40) : OD K H (.int n) (.int n) :=
  ⟨.inl (.int n), (shown_int h).1, (shown_int h).2, .inl (fun _ z => by cases z)⟩
def hid (r : Addr) (G : Hp) : Hp := fun b => if b = r then none else G b
theorem hid_inv {r b : Addr} {G : Hp} {o : HO} (e : hid r G b = some o) : b ≠ r ∧ G b = some o := by
  unfold hid at e
  by_cases h : b = r
  · rw [if_pos h] at e
    cases e
  · rw [if_neg h] at e
    exact ⟨h, e⟩
theorem hid_at {r b : Addr} {G : Hp} (h : b ≠ r) : hid r G b = G b := by unfold hid; rw [if_neg h]
theorem hid_same (r : Addr) (G : Hp) : Same (hid r G) G := fun b o e => (hid_inv e).2
theorem hid_only {r : Addr} {G G' : Hp} (h : Only r G G') : Same (hid r G) (hid r G') := fun b o e => by
  rw [hid_at (hid_inv e).1]
  exact h _ _ (hid_inv e).1 (hid_inv e).2
def sp_w_odd (K : PySem.W.Frag) : Sp := fun vs H Q _ => ∃ r : Addr, vs = [.ref r] ∧ Rl H r ∧ ∀ v d H', OD K (hid r H') v d → isInD d = false → Rl H' r → Only r H H' → Q v H'
theorem ok_w_odd (T : T K mg) : FnOk P w K mg base CX0 3 T.f_w_odd T.d_w_odd ["reel"] (sp_w_odd K) := by
  have G_w_pick : FnOk P w K mg base CX0 2 T.f_w_pick T.d_w_pick ["reel", "items"] (sp_w_pick K) := ok_w_pick T
  have G_w_spin : FnOk P w K mg base CX0 1 T.f_w_spin T.d_w_spin ["reel", "total"] (sp_w_spin K) := ok_w_spin T
  refine T.F_w_odd.ok sc_w_odd (fun vs H Q E h => ?_) (fun cdv A outer s H vs Q E hr h => ?_)
  · obtain ⟨r, rfl, _⟩ := h
    rfl
  · obtain ⟨r, rfl, hR, k⟩ := h
    have hu := hu_of hr
    have hr_w_pick : Room 2 _ := hr.mono (by decide)
    have hr_w_spin : Room 1 _ := hr.mono (by decide)
    refine ⟨_, (pss_cons (ps_set (i := 1) sc_w_odd.nd rfl (Or.inl rfl) (pe_op op_add (pe_op op_powW pe_int pe_int) (pe_call G_w_spin hr_w_spin rfl T.m_w_spin T.F_w_spin.kp T.b_w_spin .nil pass0 (pa_cons (pv 0) (pa_cons (pe_op op_powW pe_int pe_int) pa_nil)))))
      (pss_one (ps_ret (pe_call G_w_pick hr_w_pick rfl T.m_w_pick T.F_w_pick.kp T.b_w_pick .nil pass0 (pa_cons (pv 0) (pa_cons (pe_lst (pa_cons pe_non (pa_cons pe_bl (pa_cons pe_bl (pa_cons pe_str (pa_cons pe_str (pa_cons (pe_tup pa_nil) (pa_cons (pe_tup (pa_cons pe_int pa_nil)) (pa_cons (pe_lst pa_nil) (pa_cons (pe_lst (pa_cons pe_int pa_nil)) (pa_cons pe_dnewK (pa_cons (pv 1) (pa_cons (pe_un un_neg (pv 1)) (pa_cons (pe_op op_powW pe_int pe_int) pa_nil)))))))))))))) pa_nil)))))), ?_⟩
    refine ⟨_, _, rfl, rfl, ⟨by decide, by decide⟩, _, rfl, _, _, rfl, rfl, ⟨by decide, by decide⟩, ?_⟩
    refine ⟨r, _, rfl, hR, by show (0 : Int) < 1000000; decide, by show Nat.log2 1000000 < 9000; decide +kernel, fun z H1 z0 z1 R1 O1 => ⟨_, _, rfl, rfl, ?_⟩⟩
    have zb : z < 1000000 := z1
    refine ⟨_, rfl, by decide, fun a1 n1 => ⟨by decide, fun a2 n2 => ⟨by decide, fun a3 n3 => ⟨by decide, fun a4 n4 => fun a5 n5 => ?_⟩⟩⟩⟩
    refine ⟨_, rfl, _, rfl, _, rfl, _, _, rfl, rfl, ⟨by decide, by decide⟩, Nat.le_of_ble_eq_true rfl, fun a6 n6 => ?_⟩
    have R6 := (((((R1.new (o := .tup []) n1).new (o := .tup [.int 1]) n2).new (o := .lst []) n3).new (o := .lst [.int 2]) n4).new (o := .dK []) n5)
    refine ⟨r, _, _, rfl, R6.new n6, .inl ⟨_, rfl, R6.ne n6, .inl (SqL.of upd_same)⟩, Nat.succ_pos _, Nat.le_of_ble_eq_true rfl, fun v H2 hv R2 O2 => ?_⟩
    have x5 := (hid_at (G := H2) (((((R1.new n1).new n2).new n3).new n4).ne n5)).trans <| O2 a5 _ (((((R1.new n1).new n2).new n3).new n4).ne n5) (Same.new n6 _ _ upd_same)
    have x4 := (hid_at (G := H2) ((((R1.new n1).new n2).new n3).ne n4)).trans <| O2 a4 _ ((((R1.new n1).new n2).new n3).ne n4) (Same.new n6 _ _ (Same.new n5 _ _ upd_same))
    have x3 := (hid_at (G := H2) (((R1.new n1).new n2).ne n3)).trans <| O2 a3 _ (((R1.new n1).new n2).ne n3) (Same.new n6 _ _ (Same.new n5 _ _ (Same.new n4 _ _ upd_same)))
    have x2 := (hid_at (G := H2) ((R1.new n1).ne n2)).trans <| O2 a2 _ ((R1.new n1).ne n2) (Same.new n6 _ _ (Same.new n5 _ _ (Same.new n4 _ _ (Same.new n3 _ _ upd_same))))
    have x1 := (hid_at (G := H2) (R1.ne n1)).trans <| O2 a1 _ (R1.ne n1) (Same.new n6 _ _ (Same.new n5 _ _ (Same.new n4 _ _ (Same.new n3 _ _ (Same.new n2 _ _ upd_same)))))
    have OO : Only r H H2 := Only.trans O1 (Only.trans (Only.new n1) (Only.trans (Only.new n2) (Only.trans (Only.new n3) (Only.trans (Only.new n4) (Only.trans (Only.new n5) (Only.trans (Only.new n6) O2))))))
    have big : (10 : Int) ^ Int.toNat 12 = 1000000000000 := rfl
    simp only [List.mem_cons, List.not_mem_nil, or_false] at hv
    rcases hv with rfl | rfl | rfl | rfl | rfl | rfl | rfl | rfl | rfl | rfl | rfl | rfl | rfl
    · exact k _ _ H2 ⟨.inl .non, by decide +kernel, by decide +kernel, .inl (fun _ z => by cases z)⟩ rfl R2 OO
    · exact k _ _ H2 ⟨.inl (.bl true), by decide +kernel, by decide +kernel, .inl (fun _ z => by cases z)⟩ rfl R2 OO
    · exact k _ _ H2 ⟨.inl (.bl false), by decide +kernel, by decide +kernel, .inl (fun _ z => by cases z)⟩ rfl R2 OO
    · exact k _ _ H2 ⟨.inl (.str _), by decide +kernel, by decide +kernel, .inl (fun _ z => by cases z)⟩ rfl R2 OO
    · exact k _ _ H2 ⟨.inl (.str _), by decide +kernel, by decide +kernel, .inl (fun _ z => by cases z)⟩ rfl R2 OO
    · exact k _ _ H2 ⟨.inl (.tup (SqT.of x1) .nil), by decide +kernel, by decide +kernel, .inr ⟨_, rfl, .inl ⟨[], x1, rfl⟩⟩⟩ rfl R2 OO
    · exact k _ _ H2 ⟨.inl (.tup (SqT.of x2) (.cons (.int 1) .nil)), by decide +kernel, by decide +kernel, .inr ⟨_, rfl, .inl ⟨[1], x2, rfl⟩⟩⟩ rfl R2 OO
    · exact k _ _ H2 ⟨.inl (.lst (SqL.of x3) .nil), by decide +kernel, by decide +kernel, .inr ⟨_, rfl, .inr (.inl ⟨[], x3, rfl⟩)⟩⟩ rfl R2 OO
    · exact k _ _ H2 ⟨.inl (.lst (SqL.of x4) (.cons (.int 2) .nil)), by decide +kernel, by decide +kernel, .inr ⟨_, rfl, .inr (.inl ⟨[2], x4, rfl⟩)⟩⟩ rfl R2 OO
    · exact k _ (.dict []) H2 ⟨.inr ⟨a5, rfl, x5, rfl⟩, by decide +kernel, by decide +kernel, .inr ⟨_, rfl, .inr (.inr ⟨x5, rfl⟩)⟩⟩ rfl R2 OO
    · exact k _ _ H2 (od_int (by show Int.natAbs ((10 : Int) ^ Int.toNat 12 + z) < _; omega)) (isIn_big (.inr (by show _ ≤ (10 : Int) ^ Int.toNat 12 + z; omega))) R2 OO
    · exact k _ _ H2 (od_int (by show Int.natAbs (-((10 : Int) ^ Int.toNat 12 + z)) < _; omega)) (isIn_big (.inl (by show -((10 : Int) ^ Int.toNat 12 + z) ≤ _; omega))) R2 OO
    · exact k _ _ H2 (od_int (by decide)) (isIn_big (.inr (by decide))) R2 OO
end
end K04
namespace K04
open PySem L2
section
variable {P : Program} {w : World} {K : PySem.W.Frag}
    {mg : Str → Option Value} {base : Heap}
/-- what the handlers of the law's word ask of the two classes -/
structure KC (K : PySem.W.Frag) (N M : Addr) : Prop where
  xN : XfC K N
  xM : XfC K M
  noN : PySem.W.findIn K (.ref N) "value" = some none
  noM : PySem.W.findIn K (.ref M) "limit" = some none
  nn : PySem.W.exmOne K (.ref N) (.ref N) = some true
  mn : PySem.W.exmOne K (.ref M) (.ref N) = some false
  mm : PySem.W.exmOne K (.ref M) (.ref M) = some true
/-- what the law's word makes of a call -/
def TTK (N M : Addr) : (XK → Hp → VK → Prop) → Hp → VK → Prop := fun tl H Q =>
  tl (fun cls dd H' => (cls = .ref N ∧ ∃ d v, dd = some d ∧ H' d = some (.xd [("value", v)]) ∧ ∀ p, H' p = none → Q (.ref p) (upd H' p (.lst [v]))) ∨ (cls = .ref M ∧ ∃ d, dd = some d ∧ H' d = some (.xd [("limit", .int 16)]) ∧ Q (.str "many") H')) H (fun _ H' => Q (.str "fine") H')
theorem takes_len {X : Cx} {W : WX} (tk : Takes X W) : Takes X (fun cls d σ H => σ.length = X.N.length → W cls d σ H) := fun u s' x => by
  obtain ⟨ad, gr, sJ, pinsJ, stJ, HJ, kl, dd, evq, inv, kept, up, flies, un, osq, bareq, wish⟩ := x
  exact tk u s' ⟨ad, gr, sJ, pinsJ, stJ, HJ, kl, dd, evq, inv, kept, up, flies, un, osq, bareq, wish inv.len⟩
open LamX in
theorem kept_gives {X : Cx} {N M g : Addr} {cdg : Value} {q : Str} (mN : X.mg "InvalidNumber" = some (.ref N)) (mM : X.mg "TooMany" = some (.ref M)) (C : KC X.K N M) :
    GivesTo X ["call", "error"] "_law_kept" (defScope s_w_kept) g cdg (defBody s_w_kept) "call" q (TTK N M) := by
  intro f c' s H Q tl act hc h
  refine ⟨_, pss_cons (try_preA (X := (cxOf C8.CX0 X.prog X.w X.K X.mg X.base ["call", "error"] "_law_kept" (defScope s_w_kept) g cdg X.A X.stack s H C8.E0).nox)
      (rd := fun W D σ H => ∃ Ech : XK, (∀ cls d σ' H', σ'.length = 2 → Ech cls d H' → W cls d σ' H') ∧ σ[0]? = some (some (.ref f)) ∧ H c' = some (CodeO c' q) ∧ tl Ech H (fun _ H1 => D.nx σ H1))
      sc_w_kept.nd rfl rfl (fun W pn xe tk _ => ?_)
      (.more (cv := .ref N) (i := 1) ⟨rfl, by decide, .inl mN⟩ rfl rfl (fun a oe cls d pn hz hf => pss_one (ps_ret (pe_lst (pa_cons (pe_xf C.xN C.noN hz hf (pv 1)) pa_nil))))
      (.more (cv := .ref M) (i := 1) ⟨rfl, by decide, .inl mM⟩ rfl rfl (fun a oe cls d pn hz hf => pss_one (ps_ret (pe_ifExp (pt_cmpR op_eq (pe_xf C.xM C.noM hz hf (pv 1)) pe_int (nomark _)) pe_str pe_str)))
      (.rest _)))) (pss_one (ps_ret pe_str)), ?_⟩
  · refine ⟨fun pins s' σ H' D I h' => ?_⟩
    obtain ⟨Ech, hW, h1, h2, h3⟩ := h'
    exact (pss_one (ps_expr (act _ pn xe Ech _ _ (takes_len tk) (fun cls d σ' H' e hl => hW cls d σ' H' hl e)))).run pins s' σ H' D I ⟨h1, h2, h3⟩
  · refine ⟨fun cls dd H' => (cls = .ref N ∧ ∃ d v, dd = some d ∧ H' d = some (.xd [("value", v)]) ∧ ∀ p, H' p = none → Q (.ref p) (upd H' p (.lst [v]))) ∨ (cls = .ref M ∧ ∃ d, dd = some d ∧ H' d = some (.xd [("limit", .int 16)]) ∧ Q (.str "many") H'), fun cls d σ' H' hl hh => ?_, rfl, hc, h⟩
    rcases hh with ⟨rfl, d, v, rfl, e, q1⟩ | ⟨rfl, d, rfl, e, q1⟩
    · refine ⟨true, C.nn, fun _ ad na => ?_, (fun z => by cases z)⟩
      refine ⟨_, List.getElem?_set_self (by omega), rfl, rfl, d, _, v, rfl, e, rfl, Nat.le_of_ble_eq_true rfl, fun p hp => q1 p hp⟩
    · refine ⟨false, C.mn, (fun z => by cases z), fun _ => ⟨true, C.mm, fun _ ad na => ?_, (fun z => by cases z)⟩⟩
      refine ⟨_, List.getElem?_set_self (by omega), rfl, rfl, d, _, _, rfl, e, rfl, rfl, true, congrArg V.bl (decide_eq_true rfl), iteT q1⟩
end
end K04
namespace K04
open PySem L2
section
variable {P : Program} {w : World} {K : PySem.W.Frag}
    {mg : Str → Option Value} {base : Heap}
open LamX in
theorem ext_seqL {K : PySem.W.Frag} {H H' : Hp} {a : Addr} {xs : List V} (e : ExtN H H') (h : SqL K H a xs) : SqL K H' a xs := by
  rcases h with (h | ⟨o, h⟩) | h
  · exact .inl (.inl (e _ _ h (by intro _ z; cases z)))
  · exact .inl (.inr ⟨o, e _ _ h (by intro _ z; cases z)⟩)
  · exact .inr h
open LamX in
theorem ext_seqT {K : PySem.W.Frag} {H H' : Hp} {a : Addr} {xs : List V} (e : ExtN H H') (h : SqT K H a xs) : SqT K H' a xs := by
  rcases h with (h | ⟨o, h⟩) | h
  · exact .inl (.inl (e _ _ h (by intro _ z; cases z)))
  · exact .inl (.inr ⟨o, e _ _ h (by intro _ z; cases z)⟩)
  · exact .inr h
mutual
theorem dp_ext {K : PySem.W.Frag} {H H' : Hp} (s : LamX.ExtN H H') : ∀ (d : PyData) (x : V), Dp K H x d → Dp K H' x d
  | .none, _, h => by cases h; exact .non
  | .bool b, _, h => by cases h; exact .bl b
  | .int i, _, h => by cases h; exact .int i
  | .str z, _, h => by cases h; exact .str z
  | .list ds, _, h => by
    cases h with
    | lst h1 h2 => exact .lst (ext_seqL s h1) (dpa_ext s ds _ h2)
  | .tuple ds, _, h => by
    cases h with
    | tup h1 h2 => exact .tup (ext_seqT s h1) (dpa_ext s ds _ h2)
  | .dict _, _, h => by cases h
theorem dpa_ext {K : PySem.W.Frag} {H H' : Hp} (s : LamX.ExtN H H') : ∀ (ds : List PyData) (xs : List V), DpAll K H xs ds → DpAll K H' xs ds
  | [], _, h => by cases h; exact .nil
  | d :: ds, _, h => by
    cases h with
    | cons h1 h2 => exact .cons (dp_ext s d _ h1) (dpa_ext s ds _ h2)
end
open LamX in
theorem OD.ext {K : PySem.W.Frag} {H H' : Hp} {x : V} {d : PyData} (s : ExtN H H') (h : OD K H x d) : OD K H' x d := by
  refine ⟨?_, h.2.1, h.2.2.1, ?_⟩
  rotate_left
  · rcases h.2.2.2 with h | ⟨a, e, ⟨ns, e1, e2⟩ | ⟨ns, e1, e2⟩ | ⟨e1, e2⟩⟩
    · exact .inl h
    · exact .inr ⟨a, e, .inl ⟨ns, s _ _ e1 (by intro _ z; cases z), e2⟩⟩
    · exact .inr ⟨a, e, .inr (.inl ⟨ns, s _ _ e1 (by intro _ z; cases z), e2⟩)⟩
    · exact .inr ⟨a, e, .inr (.inr ⟨s _ _ e1 (by intro _ z; cases z), e2⟩)⟩
  rcases h.1 with h | ⟨a, e1, e2, e3⟩
  · exact .inl (dp_ext s d x h)
  · exact .inr ⟨a, e1, s _ _ e2 (by intro _ z; cases z), e3⟩
open LamX in
theorem ext_same {H H' : Hp} (e : Same H H') : ExtN H H' := fun b o h _ => e b o h
open LamX in
theorem ext_at {Gd G : Hp} {l : Addr} {o : HO} (e : ExtN Gd G) (n : Gd l = none) : ExtN Gd (upd G l o) := fun b u h m => by
  rw [upd_ne (ne_of_none h n)]
  exact e b u h m
open LamX in
theorem tabs_at {T : List (Addr × Str)} {G : Hp} {l : Addr} {o u : HO} (t : Tabs T G) (h : G l = some u) (n1 : ∀ ps, u ≠ .tbl ps) (n2 : ∀ c q, u ≠ CodeO c q) : Tabs T (upd G l o) := fun p hp => by
  obtain ⟨ps, h1, h2, h3⟩ := t p hp
  refine ⟨ps, ?_, h2, fun pos cv hc => ?_⟩
  · rw [upd_ne (fun z => by rw [z, h] at h1; exact n1 ps (Option.some.inj h1))]
    exact h1
  · obtain ⟨c, e1, e2⟩ := h3 pos cv hc
    exact ⟨c, e1, by rw [upd_ne (fun z => by rw [z, h] at e2; exact n2 l _ (Option.some.inj e2))]; exact e2⟩
open LamX in
/-- a def whose code object is known -/
structure FunC (K : PySem.W.Frag) (x qual : Str) (st : Stmt) (f : Addr) (fd : FuncData) (c : Addr) : Prop where
  ex : ∃ (oc : Value) (od : Option Addr) (kV doc pm : Value) (an : Option Addr) (ct : Value) (osl : Array (Option Value)),
    fd = PySem.W.fnOf x qual (defArgs st) (defBody st) (defScope st) .none kV doc pm an (.ref c) ct ∧ K.lookup f = some ⟨oc, od, .func fd, osl⟩ ∧ PySem.W.codeIn K (.ref c) qual = true
theorem FunC.ok {x qual : Str} {st : Stmt} {f : Addr} {fd : FuncData} {N ps : List Str} {k : Nat} {sp : Sp} {c : Addr} (F : FunC K x qual st f fd c) (S : FnScope N ps (defScope st)) (len : ∀ vs H Q E, sp vs H Q E → vs.length = ps.length)
    (hbody : ∀ (A : Around) (outer : List Env) (s : Shared) (H : Hp) (vs : List V) (Q : VK) (E : XK), Room k (A.deeper (PyProof.Rows.envOfC qual (defScope st) s.heap.objs.size f (.ref c))) → sp vs H Q E →
      ∃ t, PSs (cxOf CX0 P w K mg base N qual (defScope st) f (.ref c) A outer s H E).nox (defBody st) t ∧ t { nx := fun _ H' => Q .non H', rt := Q } (L2.start N vs) H) : FnOk P w K mg base CX0 (k + 1) f fd ps sp := by
  obtain ⟨oc, od, kV, doc, pm, an, ct, osl, rfl, lk, hcd⟩ := F.ex
  refine fn_of lk hcd S len fun A outer s H vs Q E hr hsp => ?_
  obtain ⟨t, h, q⟩ := hbody A outer s H vs Q E hr hsp
  exact ⟨t, h.nox, q⟩
abbrev qC : Str := ("_law_cell_right" ++ ".<locals>.") ++ "<lambda>"
abbrev qL : Str := ("law" ++ ".<locals>.") ++ "<lambda>"
/-- the tables of the two defs that make lambdas -/
abbrev TT2 (P1 P2 : Addr) : List (Addr × Str) := [(P1, qC), (P2, qL)]
/-- kept: all but the reel and the tables -/
def OnlyN (r : Addr) (H H' : Hp) : Prop := ∀ b o, b ≠ r → H b = some o → (∀ ps, o ≠ .tbl ps) → H' b = some o
/-- tables out of sight -/
def noT (G : Hp) : Hp := fun b => match G b with
  | some (.tbl _) => none
  | o => o
theorem noT_at {G : Hp} {b : Addr} {o : HO} (e : G b = some o) (n : ∀ ps, o ≠ .tbl ps) : noT G b = some o := by
  unfold noT
  rw [e]
  cases o with
  | tbl ps => exact absurd rfl (n ps)
  | _ => rfl
theorem noT_inv {G : Hp} {b : Addr} {o : HO} (e : noT G b = some o) : G b = some o ∧ ∀ ps, o ≠ .tbl ps := by
  unfold noT at e
  cases h : G b with
  | none => rw [h] at e; cases e
  | some u =>
    rw [h] at e
    cases u with
    | tbl ps => cases e
    | _ =>
      cases e
      exact ⟨rfl, fun ps z => by cases z⟩
open LamX in
theorem noT_ext {G M : Hp} (h : ExtN G M) : ExtN (noT G) M := fun b o e n => h b o (noT_inv e).1 n
open LamX in
theorem noT_none {G M : Hp} {l : Addr} (h : ExtN (noT G) M) (n : M l = none) : noT G l = none := by
  cases e : noT G l with
  | none => rfl
  | some o => rw [h _ _ e (noT_inv e).2] at n; cases n
open LamX in
theorem hid_noT {r : Addr} {G : Hp} : ExtN (hid r G) (noT G) := fun b o e n => noT_at (hid_inv e).2 n
open LamX in
theorem hid_ext {r : Addr} {G M : Hp} (h : ExtN (noT G) M) : ExtN (hid r G) (hid r M) := fun b o e n => by
  rw [hid_at (hid_inv e).1]
  exact h _ _ (noT_at (hid_inv e).2 n) n
open LamX in
theorem rl_ext {r : Addr} {G M : Hp} (h : ExtN (noT G) M) (R : Rl G r) : Rl M r := by
  obtain ⟨x, y, z, e⟩ := R
  exact ⟨x, y, z, h _ _ (noT_at e (by intro _ z; cases z)) (by intro _ z; cases z)⟩
theorem Only.n {r : Addr} {H H' : Hp} (o : Only r H H') : OnlyN r H H' := fun b u n e _ => o b u n e
theorem OnlyN.trans {r : Addr} {H H1 H2 : Hp} (a : OnlyN r H H1) (b : OnlyN r H1 H2) : OnlyN r H H2 := fun c o n e m => b c o n (a c o n e m) m
open LamX in
theorem OnlyN.ext {r : Addr} {H G M : Hp} (a : OnlyN r H G) (h : ExtN (noT G) M) : OnlyN r H M := fun c o n e m => h _ _ (noT_at (a c o n e m) m) m
open LamX in
theorem tabs_only {T : List (Addr × Str)} {r : Addr} {H H' : Hp} (t : Tabs T H) (R : Rl H r) (o : Only r H H') : Tabs T H' := fun p hp => by
  obtain ⟨x, y, z, e⟩ := R
  obtain ⟨ps, h1, h2, h3⟩ := t p hp
  refine ⟨ps, o _ _ (fun q => by rw [q, e] at h1; cases h1) h1, h2, fun pos cv hc => ?_⟩
  obtain ⟨c, e1, e2⟩ := h3 pos cv hc
  exact ⟨c, e1, o _ _ (fun q => by rw [q, e] at e2; cases e2) e2⟩
theorem lst_tbl {xs : List V} : ∀ ps, HO.lst xs ≠ .tbl ps := fun _ z => by cases z
theorem lst_code {xs : List V} : ∀ c q, HO.lst xs ≠ LamX.CodeO c q := fun c q z => by
  unfold LamX.CodeO at z
  cases z

/-- at l: a list of lists of one value each -/
def Told (M : Hp) (l : Addr) (vs : List V) : Prop := ∃ ps : List Addr, M l = some (.lst (ps.map V.ref)) ∧ ps.length = vs.length ∧ ∀ (i : Nat) (p : Addr) (v : V), ps[i]? = some p → vs[i]? = some v → p ≠ l ∧ M p = some (.lst [v])
open LamX in
theorem Told.ext {M M' : Hp} {l : Addr} {vs : List V} (e : ExtN M M') (h : Told M l vs) : Told M' l vs := by
  obtain ⟨ps, h1, h2, h3⟩ := h
  exact ⟨ps, e _ _ h1 lst_tbl, h2, fun i p v a b => ⟨(h3 i p v a b).1, e _ _ (h3 i p v a b).2 lst_tbl⟩⟩
open LamX in
/-- what holds while the law's told list grows: G the heap ahead of it -/
structure CI (T : List (Addr × Str)) (G M : Hp) (l : Addr) (vs : List V) : Prop where
  ex : ExtN (noT G) M
  nl : noT G l = none
  tb : Tabs T M
  told : Told M l vs
  len : vs.length ≤ 100
theorem kept_one {N Mm : Addr} {tl : XK → Hp → VK → Prop} {M1 : Hp} {v : V} {Q : VK} (hk : ∀ (E : XK) (Q0 : VK), Er N "value" M1 v E → tl E M1 Q0) (k : ∀ M' p, Same M1 M' → M' p = none → Q (.ref p) (upd M' p (.lst [v]))) : TTK N Mm tl M1 Q := by
  refine hk _ _ fun d M' S e => .inl ⟨rfl, d, v, rfl, e, fun p hp => k M' p S hp⟩
open LamX in
theorem first_told {T : List (Addr × Str)} {G M : Hp} {p l : Addr} {v : V} (X : ExtN (noT G) M) (tb : Tabs T M) (hp : M p = none) (hl : (upd M p (.lst [v])) l = none) : CI T G (upd (upd M p (.lst [v])) l (.lst [.ref p])) l [v] := by
  have S1 := Same.new (o := .lst [v]) hp
  have S2 := Same.new (o := .lst [.ref p]) hl
  have X2 := ExtN.trans X (ext_same (Same.trans S1 S2))
  refine ⟨X2, noT_none (ExtN.trans X (ext_same S1)) hl, Tabs.ext tb (Same.trans S1 S2), ⟨[p], upd_same, rfl, fun i q u a b => ?_⟩, Nat.le_of_ble_eq_true rfl⟩
  cases i with
  | zero =>
    obtain rfl := Option.some.inj a
    obtain rfl := Option.some.inj b
    have ne : p ≠ l := fun z => by
      rw [← z, upd_same] at hl
      cases hl
    exact ⟨ne, S2 _ _ upd_same⟩
  | succ i => cases a
open LamX in
theorem next_told {T : List (Addr × Str)} {G M M' : Hp} {p l : Addr} {v : V} {vs : List V} (C : CI T G M l vs) (e : ExtN M M') (tb : Tabs T M') (hp : M' p = none) (hl : vs.length < 100) :
    ∃ zs : List V, (upd M' p (.lst [v])) l = some (.lst zs) ∧ zs.length < sizeLine ∧ CI T G (upd (upd M' p (.lst [v])) l (.lst (zs ++ [.ref p]))) l (vs ++ [v]) := by
  obtain ⟨ps, h1, h2, h3⟩ := Told.ext e C.told
  have S1 := Same.new (o := .lst [v]) hp
  have X1 := ExtN.trans C.ex (ExtN.trans e (ext_same S1))
  refine ⟨ps.map V.ref, S1 _ _ h1, ?_, ⟨ext_at X1 C.nl, C.nl, tabs_at (Tabs.ext tb S1) (S1 _ _ h1) lst_tbl lst_code, ⟨ps ++ [p], ?_, ?_, fun i q u a b => ?_⟩, ?_⟩⟩
  · rw [List.length_map, h2, sizeLine_eq]
    omega
  · rw [upd_same, List.map_append]
    rfl
  · rw [List.length_append, List.length_append, h2]
    rfl
  · by_cases c : i < ps.length
    · rw [List.getElem?_append_left c] at a
      rw [List.getElem?_append_left (by omega)] at b
      obtain ⟨n1, n2⟩ := h3 i q u a b
      exact ⟨n1, by rw [upd_ne n1]; exact S1 _ _ n2⟩
    · rw [List.getElem?_append_right (by omega)] at a b
      rw [h2] at a
      cases h : i - vs.length with
      | zero =>
        rw [h] at a b
        obtain rfl := Option.some.inj a
        obtain rfl := Option.some.inj b
        have ne : p ≠ l := fun z => by
          rw [z, h1] at hp
          cases hp
        exact ⟨ne, by rw [upd_ne ne, upd_same]⟩
      | succ j =>
        rw [h] at a
        cases a
  · rw [List.length_append]
    exact hl
open LamX in
/-- told.append(_law_kept(lambda: ..)) -/
theorem step_told {T : List (Addr × Str)} {N Mm : Addr} {t : XK → TE} {σ : St} {G M : Hp} {l : Addr} {vs : List V} {Q : VK} (C : CI T G M l vs) (hl : vs.length < 100) (v : V) (iσ : Nat) (eσ : σ[iσ]? = some (some (.ref l)))
    (hk : ∀ (M1 : Hp) (E : XK) (Q0 : VK), ExtN (noT G) M1 → Er N "value" M1 v E → t E σ M1 Q0) (next : ∀ M4, CI T G M4 l (vs ++ [v]) → Q .non M4) :
    tBM K "list" rAppend (tVar iσ) (tCons (tLam T (TTK N Mm) t) tNil) σ M Q := by
  obtain ⟨ps, h1, h2, h3⟩ := id C.told
  refine ⟨_, eσ, .inl ⟨rfl, _, SqL.of h1⟩, C.tb, fun M1 eN TA => kept_one (v := v) (fun E Q0 er => hk M1 E Q0 (ExtN.trans C.ex eN) er) fun M' p S hp => ?_⟩
  obtain ⟨zs, g1, g2, g3⟩ := next_told (v := v) C (ExtN.trans eN (ext_same S)) (Tabs.ext TA S) hp hl
  exact ⟨l, zs, _, rfl, rfl, g1, g2, next _ g3⟩
open LamX in
/-- [_law_kept(lambda: ..)] -/
theorem start_told {T : List (Addr × Str)} {N Mm : Addr} {t : XK → TE} {σ : St} {G : Hp} {Q : VK} (tb : Tabs T G) (v : V)
    (hk : ∀ (M1 : Hp) (E : XK) (Q0 : VK), ExtN (noT G) M1 → Er N "value" M1 v E → t E σ M1 Q0) (next : ∀ M4 l, CI T G M4 l [v] → Q (.ref l) M4) :
    tLst (tCons (tLam T (TTK N Mm) t) tNil) σ G Q := by
  refine ⟨tb, fun M1 eN TA => kept_one (v := v) (fun E Q0 er => hk M1 E Q0 (noT_ext eN) er) fun M' p S hp => ?_⟩
  refine ⟨Nat.le_of_ble_eq_true rfl, fun l hl => next _ _ (first_told (ExtN.trans (noT_ext eN) (ext_same S)) (Tabs.ext TA S) hp hl)⟩
end
end K04
namespace K04
open PySem L2
section
variable {P : Program} {w : World} {K : PySem.W.Frag}
    {mg : Str → Option Value} {base : Heap}
/-! ### repr of a told list -/
def OB (H : Hp) (b : Addr) : Prop := (∃ ns : List Int, H b = some (.tup (ns.map V.int))) ∨ (∃ ns : List Int, H b = some (.lst (ns.map V.int))) ∨ H b = some (.dK [])
section
variable {X : Cx} {pins : List
    (Addr × Obj)} {σ : St} {H : Hp} {s : Shared}
theorem show_ints : ∀ {ns : List Int} {its : List Value}, Vals (ns.map V.int) its → PyData.showableAll (ns.map .int) = true → PySem.ReprAllK X.prog X.w [] s.heap 0 its (PyData.shownAll (ns.map .int))
  | [], _, .nil, _ => by simp only [List.map_nil, PyData.shownAll]; exact .nil
  | n :: r, _, .cons rv rr, hs => by
    obtain ⟨t, rfl⟩ := (show ∃ t, _ = Value.int n t from rv)
    have h2 : (PyData.int n).showable = true ∧ PyData.showableAll (r.map .int) = true := by simpa [PyData.showableAll] using hs
    simp only [List.map_cons, PyData.shownAll, PyData.shown]
    exact .cons (.of_is (PySem.ReprIs.int t (by simpa [PyData.showable] using h2.1)) _ _ _) (show_ints rr h2.2)
theorem show_val {x : V} {v : Value} {d : PyData} (I : Inv X pins σ H s) (h : OD X.K H x d) (rv : RelV x v) : ∃ bs : List Addr, (∀ b ∈ bs, x = .ref b ∧ OB H b) ∧ PySem.ReprK X.prog X.w bs s.heap 1 v d.shown := by
  obtain ⟨hd, hs, hl, hr⟩ := h
  rcases hr with nr | ⟨a, rfl, ⟨ns, ea, rfl⟩ | ⟨ns, ea, rfl⟩ | ⟨ea, rfl⟩⟩
  · refine ⟨[], (fun b hb => nomatch hb), ?_⟩
    rcases hd with hd | ⟨a, e, _⟩
    · cases hd with
      | non =>
        cases (show v = Value.none from rv)
        simp only [PyData.shown]
        exact .of_is PySem.ReprIs.none _ _ _
      | bl b =>
        cases (show v = Value.bool b from rv)
        simp only [PyData.shown]
        exact .of_is (PySem.ReprIs.bool b) _ _ _
      | int i =>
        obtain ⟨t, rfl⟩ := (show ∃ t, v = Value.int i t from rv)
        simp only [PyData.shown]
        exact .of_is (PySem.ReprIs.int t (by simpa [PyData.showable] using hs)) _ _ _
      | str z =>
        obtain ⟨t, rfl⟩ := (show ∃ t, v = Value.str z t from rv)
        simp only [PyData.shown] at hl ⊢
        exact .of_is (PySem.ReprIs.str z t (Nat.le_trans hl (by decide))) _ _ _
      | lst _ _ => exact absurd rfl (nr _)
      | tup _ _ => exact absurd rfl (nr _)
    · exact absurd e (nr a)
  · cases (show v = Value.ref a from rv)
    obtain ⟨_, its, rr, o, h1, h2, n, h3⟩ := (show ObjOk X.prog X.w H s.heap a (.tup (ns.map V.int)) from I.hok a _ ea)
    refine ⟨[a], fun b hb => by rw [List.mem_singleton.mp hb]; exact ⟨rfl, .inl ⟨ns, ea⟩⟩, ?_⟩
    simp only [PyData.shown]
    exact PySem.ReprK.tuple h1 h2 h3 (List.not_mem_nil) (show_ints (by simpa using rr) (by simpa [PyData.showable] using hs))
  · cases (show v = Value.ref a from rv)
    obtain ⟨its, rr, pl, hz⟩ := I.list (SqL.of ea)
    refine ⟨[a], fun b hb => by rw [List.mem_singleton.mp hb]; exact ⟨rfl, .inr (.inl ⟨ns, ea⟩)⟩, ?_⟩
    simp only [PyData.shown]
    obtain ⟨o, n, h1, h2, _, h3⟩ := pl
    have hk := show_ints (X := X) (s := s) rr (by simpa [PyData.showable] using hs)
    cases its with
    | nil =>
      cases ns with
      | nil => exact PySem.ReprK.listEmpty h1 h2 h3
      | cons _ _ => cases rr
    | cons y l => exact PySem.ReprK.list h1 h2 h3 (List.not_mem_nil) (by simpa using hk.length_eq) (fun i z e => hk.item i z (by simpa using e))
  · cases (show v = Value.ref a from rv)
    obtain ⟨_, hsys, vs, kv, o, es, ep, h1, h2, h3, _, hp, _⟩ := dk_of I.hok ea
    cases kv
    have he : es.toList = [] := by
      cases hp' : es.toList with
      | nil => rfl
      | cons y l => rw [hp'] at hp; cases hp
    refine ⟨[a], fun b hb => by rw [List.mem_singleton.mp hb]; exact ⟨rfl, .inr (.inr ea)⟩, ?_⟩
    simp only [PyData.shown, PyData.shownKv]
    exact (PySem.ReprK.dict (d := 0) (as := []) h1 h2.1 h3 hsys (List.not_mem_nil) (by rw [he]; exact .nil)).level_le (Nat.le_refl _)
theorem show_one {x : V} {p : Addr} {d : PyData} (I : Inv X pins σ H s) (hp : H p = some (.lst [x])) (h : OD X.K H x d) : ∃ bs : List Addr, (∀ b ∈ bs, b = p ∨ OB H b) ∧ PySem.ReprK X.prog X.w bs s.heap 2 (.ref p) (PyData.list [d]).shown := by
  obtain ⟨its, rr, pl, hz⟩ := I.list (SqL.of hp)
  obtain ⟨o, n, h1, h2, _, h3⟩ := pl
  cases rr with
  | @cons _ v _ l rv rr =>
    cases rr
    obtain ⟨bs, hb, hk⟩ := show_val I h rv
    have np : p ∉ bs := fun hm => by
      obtain ⟨e, q⟩ := hb p hm
      rw [e] at hp
      rcases q with ⟨ns, q⟩ | ⟨ns, q⟩ | q
      · rw [hp] at q
        cases q
      · rw [hp] at q
        cases ns with
        | nil => cases q
        | cons _ _ => cases q
      · rw [hp] at q
        cases q
    refine ⟨p :: bs, fun b hm => ?_, ?_⟩
    · rcases List.mem_cons.mp hm with e | hm
      · exact .inl e
      · exact .inr (hb b hm).2
    · simp only [PyData.shown, PyData.shownAll]
      refine PySem.ReprK.list h1 h2 h3 np rfl (fun i y e => ?_)
      cases i with
      | zero =>
        obtain rfl := Option.some.inj e
        exact ⟨_, rfl, hk⟩
      | succ i => cases e
theorem show_told (I : Inv X pins σ H s) : ∀ {ps : List Addr} {vs : List V} {ds : List PyData}, ps.length = vs.length → vs.length = ds.length → (∀ (i : Nat) (p : Addr) (v : V), ps[i]? = some p → vs[i]? = some v → H p = some (.lst [v])) →
    (∀ (i : Nat) (v : V) (d : PyData), vs[i]? = some v → ds[i]? = some d → OD X.K H v d) → ∃ bs : List Addr, (∀ b ∈ bs, b ∈ ps ∨ OB H b) ∧ PySem.ReprAllK X.prog X.w bs s.heap 2 (ps.map Value.ref) (PyData.shownAll (ds.map fun d => .list [d]))
  | [], [], [], _, _, _, _ => ⟨[], (fun b hb => nomatch hb), by simp only [List.map_nil, PyData.shownAll]; exact .nil⟩
  | p :: ps, v :: vs, d :: ds, l1, l2, h1, h2 => by
    obtain ⟨b1, m1, k1⟩ := show_one I (h1 0 p v rfl rfl) (h2 0 v d rfl rfl)
    obtain ⟨b2, m2, k2⟩ := show_told I (ps := ps) (vs := vs) (ds := ds) (Nat.succ.inj l1) (Nat.succ.inj l2) (fun i => h1 (i + 1)) (fun i => h2 (i + 1))
    refine ⟨b1 ++ b2, fun b hb => ?_, ?_⟩
    · rcases List.mem_append.mp hb with hb | hb
      · rcases m1 b hb with e | e
        · exact .inl (by rw [e]; exact List.mem_cons_self)
        · exact .inr e
      · rcases m2 b hb with e | e
        · exact .inl (List.mem_cons_of_mem _ e)
        · exact .inr e
    · simp only [List.map_cons, PyData.shownAll]
      exact .cons (k1.more fun b hb => List.mem_append_left _ hb) (k2.more_le (fun b hb => List.mem_append_right _ hb) (Nat.le_refl _))
  | [], _ :: _, _, l1, _, _, _ => by cases l1
  | _ :: _, [], _, l1, _, _, _ => by cases l1
  | _ :: _, _ :: _, [], _, l2, _, _ => by cases l2
  | [], [], _ :: _, _, l2, _, _ => by cases l2
theorem shown_sum : ∀ {ds : List PyData}, (∀ d ∈ ds, d.shown.length ≤ 1000) → ((PyData.shownAll (ds.map fun d => .list [d])).map (·.length)).sum ≤ 1010 * ds.length
  | [], _ => by simp only [List.map_nil, PyData.shownAll, List.sum_nil]; exact Nat.zero_le _
  | d :: ds, h => by
    have h1 := shown_sum (ds := ds) fun e he => h e (List.mem_cons_of_mem _ he)
    have h2 := h d List.mem_cons_self
    have h3 : (PyData.list [d]).shown.length ≤ 1005 := by
      simp only [PyData.shown, PyData.shownAll]
      have := PySem.listText_len_le [d.shown]
      simp only [List.map_cons, List.map_nil, List.sum_cons, List.sum_nil, List.length_cons, List.length_nil] at this
      omega
    simp only [List.map_cons, PyData.shownAll, List.sum_cons, List.length_cons]
    omega
/-- what the law's told list says of itself -/
def rShow (K : PySem.W.Frag) : List V → Hp → VK → Prop := fun xs H Q => ∃ (l : Addr) (vs : List V) (ds : List PyData), xs = [.ref l] ∧ Told H l vs ∧ vs.length = ds.length ∧ 0 < vs.length ∧ vs.length ≤ 100 ∧
  (∀ (i : Nat) (v : V) (d : PyData), vs[i]? = some v → ds[i]? = some d → OD K H v d) ∧ Q (.str (PyData.list (ds.map fun d => .list [d])).shown) H
theorem call_show (hgd : X.A.guards = some []) (hu : X.A.units + 64 < cLine) : CallR X (.builtin "repr") (rShow X.K) := by
  intro pins s σ H xs us Q I r h
  obtain ⟨l, vs, ds, rfl, ⟨ps, h1, h2, h3⟩, h4, h5, h6, h7, q⟩ := h
  obtain ⟨u, rfl, ru⟩ := vals1 r
  cases (show u = Value.ref l from ru)
  obtain ⟨its, rr, ⟨o, n, e1, e2, _, e3⟩, hz⟩ := I.list (SqL.of h1)
  have hits : ps.map Value.ref = its := by
    clear e3 hz h1 h2 h3
    induction ps generalizing its with
    | nil => cases rr; rfl
    | cons p ps ih =>
      cases rr with
      | cons ra rb =>
        rw [List.map_cons, ih _ rb]
        congr 1
        exact ra.symm
  subst hits
  obtain ⟨bs, hb, hk⟩ := show_told I h2 h4 (fun i p v a b => (h3 i p v a b).2) h7
  have nl : l ∉ bs := fun hm => by
    rcases hb l hm with e | ⟨ns, e⟩ | ⟨ns, e⟩ | e
    · obtain ⟨i, hi, ei⟩ := List.getElem_of_mem e
      exact (h3 i l vs[i] (by rw [List.getElem?_eq_getElem hi, ei]) (List.getElem?_eq_getElem (by omega))).1 rfl
    · rw [h1] at e
      cases e
    · rw [h1] at e
      cases ps with
      | nil => simp at h2; omega
      | cons p ps =>
        cases ns with
        | nil => cases e
        | cons _ _ => cases e
    · rw [h1] at e
      cases e
  have hsz : (listText (PyData.shownAll (ds.map fun d => .list [d]))).length ≤ sizeLine := by
    have b1 := PySem.listText_len_le (PyData.shownAll (ds.map fun d => .list [d]))
    have b2 := shown_sum (ds := ds) fun d hd => by
      obtain ⟨i, hi, ei⟩ := List.getElem_of_mem hd
      exact (h7 i vs[i] d (List.getElem?_eq_getElem (by omega)) (by rw [List.getElem?_eq_getElem hi, ei])).2.2.1
    have b3 : (PyData.shownAll (ds.map fun d => .list [d])).length = ds.length := by
      have := hk.length_eq
      rw [List.length_map] at this
      omega
    rw [sizeLine_eq]
    omega
  have ht : (⟨s.heap, s.gens, s.drawn, s.toks, s.os⟩ : Shared).TypeIs (.ref l) "list" := ⟨o, e1, e2⟩
  cases ps with
  | nil => simp at h2; omega
  | cons p ps =>
    refine PySem.call_repr_slot (by omega) ht PySem.F.slot_list_repr.toG ?_
    refine PySem.call_list_reprK (as := bs) (d := 2) (g := []) e1 e2 e3 nl (by simpa using hk.length_eq) (fun i y e => hk.item i y (by simpa using e)) hgd (fun b _ => PySem.Clear.nil b) (by show X.A.units + 1 + 3 < cLine; omega) (fun _ _ z => z) (fun h' t tk k => ?_) hsz
    refine ⟨_, _, rfl, .str _, H, I.kept (t' := tk) k, ⟨_, rfl⟩, ?_⟩
    simp only [PyData.shown] at q
    exact q
end
end
end K04
namespace K04
open PySem L2
section
variable {P : Program} {w : World} {K : PySem.W.Frag}
    {mg : Str → Option Value} {base : Heap}
open LamX in
/-- a def whose promise is kept where nothing is being told of itself -/
structure FnG (P : Program) (w : World) (K : PySem.W.Frag) (mg : Str → Option Value) (base : Heap) (CX : CXT) (k : Nat) (f : Addr) (fd : FuncData) (ps : List Str) (sp : Sp) : Prop where
  len : ∀ vs H Q E, sp vs H Q E → vs.length = ps.length
  run : ∀ (A : Around) (outer : List Env) (s : Shared) (H : Hp) (args : Args) (us : List Value) (vs : List V) (Q : VK) (E : XK), A.guards = some [] → Room k A → Env0 P w K mg base A outer s H → BindsTo s fd args (ps.zip us) → Vals vs us → sp vs H Q E →
    codeAny (model P w) A (.call
        (.ref f) args) (CR CX outer P w H s Q E) s
open LamX in
theorem FunC.okG {x qual : Str} {st : Stmt} {f : Addr} {fd : FuncData} {N ps : List Str} {k : Nat} {sp : Sp} {c : Addr} (F : FunC K x qual st f fd c) (S : FnScope N ps (defScope st)) (len : ∀ vs H Q E, sp vs H Q E → vs.length = ps.length)
    (hbody : ∀ (A : Around) (outer : List Env) (s : Shared) (H : Hp) (vs : List V) (Q : VK) (E : XK), A.guards = some [] → Room k (A.deeper (PyProof.Rows.envOfC qual (defScope st) s.heap.objs.size f (.ref c))) → sp vs H Q E →
      ∃ t, PSs (cxOf CX0 P w K mg base N qual (defScope st) f (.ref c) A outer s H E).nox (defBody st) t ∧ t { nx := fun _ H' => Q .non H', rt := Q } (L2.start N vs) H) : FnG P w K mg base CX0 (k + 1) f fd ps sp := by
  obtain ⟨oc, od, kV, doc, pm, an, ct, osl, rfl, lk, hcd⟩ := F.ex
  refine ⟨len, fun A outer s H args us vs Q E hg hr e0 hb r hsp => ?_⟩
  exact run_ofS lk hcd S hr e0 hb r (len _ _ _ _ hsp) fun hr' => by
    obtain ⟨t, h, q⟩ := hbody A outer s H vs Q E hg hr' hsp
    exact ⟨t, h.nox, q⟩
theorem tCons_read {ta : TE} {tr : TA} {σ : St} {H : Hp} {Q : List V → Hp → Prop} (h : ta σ H fun x H1 => tr σ H1 fun xs H2 => Q (x :: xs) H2) : tCons ta tr σ H Q := h
/-- readings of single items in lists -/
def singTA : List TE → TA
  | [] => tNil
  | t :: r => tCons (tLst (tCons t tNil)) (singTA r)
theorem sing_read : ∀ (l : List (TE × V)) (σ : St) (H : Hp) (Q : List V → Hp → Prop), (∀ p ∈ l, ∀ (H : Hp) (Q : VK), Q p.2 H → p.1 σ H Q) →
    (∀ (ps : List Addr) (H' : Hp), Same H H' → ps.length = l.length → (∀ (i : Nat) (p : Addr) (v : V), ps[i]? = some p → (l.map (·.2))[i]? = some v → H' p = some (.lst [v])) → Q (ps.map V.ref) H') → singTA (l.map (·.1)) σ H Q
  | [], σ, H, Q, _, k => k [] H (Same.refl _) rfl fun i p v a _ => by simp at a
  | (t, v) :: l, σ, H, Q, h, k => by
    refine h (t, v) List.mem_cons_self _ _ ⟨Nat.le_of_ble_eq_true rfl, fun p hp => ?_⟩
    refine sing_read l σ _ _ (fun q hq => h q (List.mem_cons_of_mem _ hq)) fun ps H' S e f => ?_
    refine k (p :: ps) H' (Same.trans (Same.new hp) S) (by rw [List.length_cons, List.length_cons, e]) fun i q u a b => ?_
    cases i with
    | zero =>
      obtain rfl := Option.some.inj a
      obtain rfl := Option.some.inj b
      exact S _ _ upd_same
    | succ i => exact f i q u a b
theorem sing_told {H' : Hp} {l : Addr} {ps : List Addr} {vs : List V} (e : ps.length = vs.length) (f : ∀ (i : Nat) (p : Addr) (v : V), ps[i]? = some p → vs[i]? = some v → H' p = some (.lst [v])) (hl : H' l = none) : Told (upd H' l (.lst (ps.map V.ref))) l vs :=
  ⟨ps, upd_same, e, fun i p v a b => by
    have z := f i p v a b
    exact ⟨ne_of_none z hl, (Same.new hl) _ _ z⟩⟩
open LamX in
def sp_cell (K : PySem.W.Frag) (P1 P2 : Addr) : Sp := fun vs H Q _ => ∃ (r : Addr), vs = [.ref r] ∧ Rl H r ∧ Tabs (TT2 P1 P2) H ∧ ∀ H', OnlyN r H H' → Tabs (TT2 P1 P2) H' → Q (.bl true) H'
open LamX in
theorem ok_cell (T : T K mg) (U : UX K mg) (C : KC K U.N U.M) {c1 P1 P2 : Addr} (hP : P1 ≠ P2) (TB1 : TabB base mg c1 P1) (F : FunC K "_law_cell_right" "_law_cell_right" s_w_cell_right T.f_w_cell_right T.d_w_cell_right c1) : FnG P w K mg base CX0 8 T.f_w_cell_right T.d_w_cell_right ["reel"] (sp_cell K P1 P2) := by
  have G_w_odd : FnOk P w K mg base CX0 3 T.f_w_odd T.d_w_odd ["reel"] (sp_w_odd K) := ok_w_odd T
  have G_w_pick : FnOk P w K mg base CX0 2 T.f_w_pick T.d_w_pick ["reel", "items"] (sp_w_pick K) := ok_w_pick T
  have G_w_spin : FnOk P w K mg base CX0 1 T.f_w_spin T.d_w_spin ["reel", "total"] (sp_w_spin K) := ok_w_spin T
  have G_common_multiple : FnR P w K mg base (L2.CX P w) 4 T.f_common_multiple (sp_common_multiple K U.N U.M) := ok_common_multiple T U
  have G_rounded_up : FnOk P w K mg base (L2.CX P w) 5 T.f_rounded_up T.d_rounded_up ["number", "slot", "interval"] (sp_rounded_up K U.N) := ok_rounded_up T U
  have G_slot_of : FnOk P w K mg base (L2.CX P w) 5 T.f_slot_of T.d_slot_of ["tick", "interval"] (sp_slot_of K U.N) := ok_slot_of T U
  have G_times_alive : FnOk P w K mg base (L2.CX P w) 5 T.f_times_alive T.d_times_alive ["begin", "end", "tick", "interval"] (sp_times_alive K U.N) := ok_times_alive T U
  obtain ⟨oc, od, kV, doc, pm, an, cdw, ct, osl, ed, lk0, hcg⟩ := T.F_w_kept.ex
  have lk : K.lookup T.f_w_kept = some ⟨oc, od, .func (PySem.W.fnOf "_law_kept" "_law_kept" (defArgs s_w_kept) (defBody s_w_kept) (defScope s_w_kept) .none kV doc pm an cdw ct), osl⟩ := by rw [← ed]; exact lk0
  have bw : L2.Binds K (PySem.W.fnOf "_law_kept" "_law_kept" (defArgs s_w_kept) (defBody s_w_kept) (defScope s_w_kept) .none kV doc pm an cdw ct) ["call"] [] := by rw [← ed]; exact T.b_w_kept
  have hm1 : (P1, qC) ∈ TT2 P1 P2 := List.mem_cons_self
  have hu1 : ∀ p ∈ TT2 P1 P2, p.1 = P1 → p.2 = qC := fun p hp e => by
    rcases List.mem_cons.mp hp with rfl | hp
    · rfl
    · obtain rfl := List.mem_singleton.mp hp
      exact absurd e.symm hP
  refine F.okG sc_w_cell_right (fun vs H Q E h => ?_) (fun A outer s H vs Q E hg hr h => ?_)
  · obtain ⟨r, rfl, _⟩ := h
    rfl
  · obtain ⟨r, rfl, hR, hT, k⟩ := h
    have hr7 : Room 7 _ := hr
    have hr_w_odd : Room 3 _ := hr.mono (by decide)
    have hr_w_pick : Room 2 _ := hr.mono (by decide)
    have hr_w_spin : Room 1 _ := hr.mono (by decide)
    have hgd : (cxOf CX0 P w K mg base ["reel", "odd", "bad", "fine", "wide", "told", "due", "many"] "_law_cell_right" (defScope s_w_cell_right) T.f_w_cell_right (.ref c1) A outer s H E).nox.A.guards = some [] := hg
    have hun : (cxOf CX0 P w K mg base ["reel", "odd", "bad", "fine", "wide", "told", "due", "many"] "_law_cell_right" (defScope s_w_cell_right) T.f_w_cell_right (.ref c1) A outer s H E).nox.A.units + 64 < cLine := by
      have := hr.un
      show (A.deeper _).units + 64 < cLine
      omega
    refine ⟨_, (pss_cons (ps_asg (pe_tup (pa_cons (pe_call G_w_odd hr_w_odd rfl T.m_w_odd T.F_w_odd.kp T.b_w_odd .nil pass0 (pa_cons (pv 0) pa_nil)) (pa_cons (pe_call G_w_odd hr_w_odd rfl T.m_w_odd T.F_w_odd.kp T.b_w_odd .nil pass0 (pa_cons (pv 0) pa_nil)) pa_nil))) (pg_tup rfl (pgs_cons (pg_name (i := 1) sc_w_cell_right.nd rfl (Or.inr rfl)) (pgs_cons (pg_name (i := 2) sc_w_cell_right.nd rfl (Or.inr rfl)) pgs_nil))))
      (pss_cons (ps_set (i := 3) sc_w_cell_right.nd rfl (Or.inr rfl) (pe_op op_sub (pe_call G_w_spin hr_w_spin rfl T.m_w_spin T.F_w_spin.kp T.b_w_spin .nil pass0 (pa_cons (pv 0) (pa_cons pe_int pa_nil))) pe_int))
      (pss_cons (ps_set (i := 4) sc_w_cell_right.nd rfl (Or.inr rfl) (pe_call G_w_pick hr_w_pick rfl T.m_w_pick T.F_w_pick.kp T.b_w_pick .nil pass0 (pa_cons (pv 0) (pa_cons (pe_lst (pa_cons pe_int (pa_cons (pe_un un_neg pe_int) (pa_cons pe_int (pa_cons (pe_op op_powW pe_int pe_int) (pa_cons (pv 1) pa_nil)))))) pa_nil))))
      (pss_cons (ps_set (i := 5) sc_w_cell_right.nd rfl (Or.inl rfl) (pe_lst (pa_cons (pe_lamcall (T := TT2 P1 P2) (TT := TTK U.N U.M) (t := fun E => tCall (sp_slot_of K U.N) [] E (tCons (tVar 1) (tCons (tVar 2) tNil))) rfl T.m_w_kept T.F_w_kept.kp lk hcg bw sc_w_kept rfl (Or.inl rfl) (kept_gives U.n.mg U.m.mg C) TB1 rfl hm1 hu1 hr7 (lamS_by (by rfl)) rfl (fun _ _ _ _ _ => rfl) (fun A outer s H E f c2 hr2 => (pe_call G_slot_of (hr2.mono (by decide)) rfl T.m_slot_of T.F_slot_of.kp T.b_slot_of .nil (passes_call (takes_of rfl rfl rfl rfl) (fun _ _ _ _ h => h)) (pa_cons (pv 1) (pa_cons (pv 2) pa_nil))))) pa_nil)))
      (pss_cons (ps_expr (pe_bm PySem.F.plainAttrs_list PySem.F.slot_list_append PySem.F.type_list_append mt_append (pv 5) (pa_cons (pe_lamcall (T := TT2 P1 P2) (TT := TTK U.N U.M) (t := fun E => tCall (sp_slot_of K U.N) [] E (tCons (tVar 3) (tCons (tVar 4) tNil))) rfl T.m_w_kept T.F_w_kept.kp lk hcg bw sc_w_kept rfl (Or.inl rfl) (kept_gives U.n.mg U.m.mg C) TB1 rfl hm1 hu1 hr7 (lamS_by (by rfl)) rfl (fun _ _ _ _ _ => rfl) (fun A outer s H E f c2 hr2 => (pe_call G_slot_of (hr2.mono (by decide)) rfl T.m_slot_of T.F_slot_of.kp T.b_slot_of .nil (passes_call (takes_of rfl rfl rfl rfl) (fun _ _ _ _ h => h)) (pa_cons (pv 3) (pa_cons (pv 4) pa_nil))))) pa_nil)))
      (pss_cons (ps_expr (pe_bm PySem.F.plainAttrs_list PySem.F.slot_list_append PySem.F.type_list_append mt_append (pv 5) (pa_cons (pe_lamcall (T := TT2 P1 P2) (TT := TTK U.N U.M) (t := fun E => tCall (sp_rounded_up K U.N) [] E (tCons (tVar 1) (tCons (tVar 2) (tCons (tVar 4) tNil)))) rfl T.m_w_kept T.F_w_kept.kp lk hcg bw sc_w_kept rfl (Or.inl rfl) (kept_gives U.n.mg U.m.mg C) TB1 rfl hm1 hu1 hr7 (lamS_by (by rfl)) rfl (fun _ _ _ _ _ => rfl) (fun A outer s H E f c2 hr2 => (pe_call G_rounded_up (hr2.mono (by decide)) rfl T.m_rounded_up T.F_rounded_up.kp T.b_rounded_up .nil (passes_call (takes_of rfl rfl rfl rfl) (fun _ _ _ _ h => h)) (pa_cons (pv 1) (pa_cons (pv 2) (pa_cons (pv 4) pa_nil)))))) pa_nil)))
      (pss_cons (ps_expr (pe_bm PySem.F.plainAttrs_list PySem.F.slot_list_append PySem.F.type_list_append mt_append (pv 5) (pa_cons (pe_lamcall (T := TT2 P1 P2) (TT := TTK U.N U.M) (t := fun E => tCall (sp_rounded_up K U.N) [] E (tCons (tVar 3) (tCons (tVar 2) (tCons (tVar 4) tNil)))) rfl T.m_w_kept T.F_w_kept.kp lk hcg bw sc_w_kept rfl (Or.inl rfl) (kept_gives U.n.mg U.m.mg C) TB1 rfl hm1 hu1 hr7 (lamS_by (by rfl)) rfl (fun _ _ _ _ _ => rfl) (fun A outer s H E f c2 hr2 => (pe_call G_rounded_up (hr2.mono (by decide)) rfl T.m_rounded_up T.F_rounded_up.kp T.b_rounded_up .nil (passes_call (takes_of rfl rfl rfl rfl) (fun _ _ _ _ h => h)) (pa_cons (pv 3) (pa_cons (pv 2) (pa_cons (pv 4) pa_nil)))))) pa_nil)))
      (pss_cons (ps_expr (pe_bm PySem.F.plainAttrs_list PySem.F.slot_list_append PySem.F.type_list_append mt_append (pv 5) (pa_cons (pe_lamcall (T := TT2 P1 P2) (TT := TTK U.N U.M) (t := fun E => tCall (sp_rounded_up K U.N) [] E (tCons (tVar 3) (tCons (tVar 3) (tCons (tVar 4) tNil)))) rfl T.m_w_kept T.F_w_kept.kp lk hcg bw sc_w_kept rfl (Or.inl rfl) (kept_gives U.n.mg U.m.mg C) TB1 rfl hm1 hu1 hr7 (lamS_by (by rfl)) rfl (fun _ _ _ _ _ => rfl) (fun A outer s H E f c2 hr2 => (pe_call G_rounded_up (hr2.mono (by decide)) rfl T.m_rounded_up T.F_rounded_up.kp T.b_rounded_up .nil (passes_call (takes_of rfl rfl rfl rfl) (fun _ _ _ _ h => h)) (pa_cons (pv 3) (pa_cons (pv 3) (pa_cons (pv 4) pa_nil)))))) pa_nil)))
      (pss_cons (ps_expr (pe_bm PySem.F.plainAttrs_list PySem.F.slot_list_append PySem.F.type_list_append mt_append (pv 5) (pa_cons (pe_lamcall (T := TT2 P1 P2) (TT := TTK U.N U.M) (t := fun E => tCall (sp_times_alive K U.N) [] E (tCons (tVar 1) (tCons (tVar 2) (tCons (tVar 2) (tCons (tVar 4) tNil))))) rfl T.m_w_kept T.F_w_kept.kp lk hcg bw sc_w_kept rfl (Or.inl rfl) (kept_gives U.n.mg U.m.mg C) TB1 rfl hm1 hu1 hr7 (lamS_by (by rfl)) rfl (fun _ _ _ _ _ => rfl) (fun A outer s H E f c2 hr2 => (pe_call G_times_alive (hr2.mono (by decide)) rfl T.m_times_alive T.F_times_alive.kp T.b_times_alive .nil (passes_call (takes_of rfl rfl rfl rfl) (fun _ _ _ _ h => h)) (pa_cons (pv 1) (pa_cons (pv 2) (pa_cons (pv 2) (pa_cons (pv 4) pa_nil))))))) pa_nil)))
      (pss_cons (ps_expr (pe_bm PySem.F.plainAttrs_list PySem.F.slot_list_append PySem.F.type_list_append mt_append (pv 5) (pa_cons (pe_lamcall (T := TT2 P1 P2) (TT := TTK U.N U.M) (t := fun E => tCall (sp_times_alive K U.N) [] E (tCons (tVar 3) (tCons (tVar 2) (tCons (tVar 1) (tCons (tVar 4) tNil))))) rfl T.m_w_kept T.F_w_kept.kp lk hcg bw sc_w_kept rfl (Or.inl rfl) (kept_gives U.n.mg U.m.mg C) TB1 rfl hm1 hu1 hr7 (lamS_by (by rfl)) rfl (fun _ _ _ _ _ => rfl) (fun A outer s H E f c2 hr2 => (pe_call G_times_alive (hr2.mono (by decide)) rfl T.m_times_alive T.F_times_alive.kp T.b_times_alive .nil (passes_call (takes_of rfl rfl rfl rfl) (fun _ _ _ _ h => h)) (pa_cons (pv 3) (pa_cons (pv 2) (pa_cons (pv 1) (pa_cons (pv 4) pa_nil))))))) pa_nil)))
      (pss_cons (ps_expr (pe_bm PySem.F.plainAttrs_list PySem.F.slot_list_append PySem.F.type_list_append mt_append (pv 5) (pa_cons (pe_lamcall (T := TT2 P1 P2) (TT := TTK U.N U.M) (t := fun E => tCall (sp_times_alive K U.N) [] E (tCons (tVar 3) (tCons (tOp (rI0 fun i j => .int (i - j)) (tVar 3) (tC (.int 1))) (tCons (tVar 1) (tCons (tVar 4) tNil))))) rfl T.m_w_kept T.F_w_kept.kp lk hcg bw sc_w_kept rfl (Or.inl rfl) (kept_gives U.n.mg U.m.mg C) TB1 rfl hm1 hu1 hr7 (lamS_by (by rfl)) rfl (fun _ _ _ _ _ => rfl) (fun A outer s H E f c2 hr2 => (pe_call G_times_alive (hr2.mono (by decide)) rfl T.m_times_alive T.F_times_alive.kp T.b_times_alive .nil (passes_call (takes_of rfl rfl rfl rfl) (fun _ _ _ _ h => h)) (pa_cons (pv 3) (pa_cons (pe_op op_sub (pv 3) pe_int) (pa_cons (pv 1) (pa_cons (pv 4) pa_nil))))))) pa_nil)))
      (pss_cons (ps_expr (pe_bm PySem.F.plainAttrs_list PySem.F.slot_list_append PySem.F.type_list_append mt_append (pv 5) (pa_cons (pe_lamcall (T := TT2 P1 P2) (TT := TTK U.N U.M) (t := fun E => tCall (sp_times_alive K U.N) [] E (tCons (tVar 3) (tCons (tVar 3) (tCons (tVar 1) (tCons (tVar 4) tNil))))) rfl T.m_w_kept T.F_w_kept.kp lk hcg bw sc_w_kept rfl (Or.inl rfl) (kept_gives U.n.mg U.m.mg C) TB1 rfl hm1 hu1 hr7 (lamS_by (by rfl)) rfl (fun _ _ _ _ _ => rfl) (fun A outer s H E f c2 hr2 => (pe_call G_times_alive (hr2.mono (by decide)) rfl T.m_times_alive T.F_times_alive.kp T.b_times_alive .nil (passes_call (takes_of rfl rfl rfl rfl) (fun _ _ _ _ h => h)) (pa_cons (pv 3) (pa_cons (pv 3) (pa_cons (pv 1) (pa_cons (pv 4) pa_nil))))))) pa_nil)))
      (pss_cons (ps_expr (pe_bm PySem.F.plainAttrs_list PySem.F.slot_list_append PySem.F.type_list_append mt_append (pv 5) (pa_cons (pe_lamcall (T := TT2 P1 P2) (TT := TTK U.N U.M) (t := fun E => tCall (sp_times_alive K U.N) [] E (tCons (tVar 3) (tCons (tVar 3) (tCons (tVar 3) (tCons (tVar 4) tNil))))) rfl T.m_w_kept T.F_w_kept.kp lk hcg bw sc_w_kept rfl (Or.inl rfl) (kept_gives U.n.mg U.m.mg C) TB1 rfl hm1 hu1 hr7 (lamS_by (by rfl)) rfl (fun _ _ _ _ _ => rfl) (fun A outer s H E f c2 hr2 => (pe_call G_times_alive (hr2.mono (by decide)) rfl T.m_times_alive T.F_times_alive.kp T.b_times_alive .nil (passes_call (takes_of rfl rfl rfl rfl) (fun _ _ _ _ h => h)) (pa_cons (pv 3) (pa_cons (pv 3) (pa_cons (pv 3) (pa_cons (pv 4) pa_nil))))))) pa_nil)))
      (pss_cons (ps_set (i := 6) sc_w_cell_right.nd rfl (Or.inl rfl) (pe_lst (pa_cons (pe_lst (pa_cons (pv 1) pa_nil)) (pa_cons (pe_lst (pa_cons (pv 4) pa_nil)) (pa_cons (pe_lst (pa_cons (pv 1) pa_nil)) (pa_cons (pe_lst (pa_cons (pv 2) pa_nil)) (pa_cons (pe_lst (pa_cons (pv 4) pa_nil)) (pa_cons (pe_lst (pa_cons (pv 1) pa_nil)) (pa_cons (pe_lst (pa_cons (pv 2) pa_nil)) (pa_cons (pe_lst (pa_cons (pe_op op_sub (pv 3) pe_int) pa_nil)) (pa_cons (pe_lst (pa_cons (pv 1) pa_nil)) (pa_cons (pe_lst (pa_cons (pv 4) pa_nil)) pa_nil))))))))))))
      (pss_cons (ps_if (pt_cmpR op_ne (pe_callB (call_show hgd hun) (by rfl) T.z_repr (by decide +kernel) (pa_cons (pv 5) pa_nil)) (pe_callB (call_show hgd hun) (by rfl) T.z_repr (by decide +kernel) (pa_cons (pv 6) pa_nil)) (nomark _))
      (pss_one (ps_ret pe_bl))
      pss_nil)
      (pss_cons (ps_set (i := 7) sc_w_cell_right.nd rfl (Or.inr rfl) (pe_call G_w_pick hr_w_pick rfl T.m_w_pick T.F_w_pick.kp T.b_w_pick .nil pass0 (pa_cons (pv 0) (pa_cons (pe_lst (pa_cons pe_int (pa_cons pe_int (pa_cons (pe_un un_neg pe_int) (pa_cons (pv 1) pa_nil))))) pa_nil))))
      (pss_cons (ps_set (i := 5) sc_w_cell_right.nd rfl (Or.inl rfl) (pe_lst (pa_cons (pe_lamcall (T := TT2 P1 P2) (TT := TTK U.N U.M) (t := fun E => (fun σ H Q => (tCons (tC (.int 3)) (tCons (tVar 7) (tCons (tC (.int 0)) tNil))) σ H fun vs H1 => sp_common_multiple K U.N U.M vs H1 Q E)) rfl T.m_w_kept T.F_w_kept.kp lk hcg bw sc_w_kept rfl (Or.inl rfl) (kept_gives U.n.mg U.m.mg C) TB1 rfl hm1 hu1 hr7 (lamS_by (by rfl)) rfl (fun _ _ _ _ _ => rfl) (fun A outer s H E f c2 hr2 => (pe_callR G_common_multiple (hr2.mono (by decide)) rfl T.m_common_multiple T.F_common_multiple.kp (passes_call (takes_of rfl rfl rfl rfl) (fun _ _ _ _ h => h)) (pa_cons pe_int (pa_cons (pv 7) (pa_cons pe_int pa_nil)))))) pa_nil)))
      (pss_cons (ps_expr (pe_bm PySem.F.plainAttrs_list PySem.F.slot_list_append PySem.F.type_list_append mt_append (pv 5) (pa_cons (pe_lamcall (T := TT2 P1 P2) (TT := TTK U.N U.M) (t := fun E => (fun σ H Q => (tCons (tVar 7) tNil) σ H fun vs H1 => sp_common_multiple K U.N U.M vs H1 Q E)) rfl T.m_w_kept T.F_w_kept.kp lk hcg bw sc_w_kept rfl (Or.inl rfl) (kept_gives U.n.mg U.m.mg C) TB1 rfl hm1 hu1 hr7 (lamS_by (by rfl)) rfl (fun _ _ _ _ _ => rfl) (fun A outer s H E f c2 hr2 => (pe_callR G_common_multiple (hr2.mono (by decide)) rfl T.m_common_multiple T.F_common_multiple.kp (passes_call (takes_of rfl rfl rfl rfl) (fun _ _ _ _ h => h)) (pa_cons (pv 7) pa_nil)))) pa_nil)))
      (pss_one (ps_ret (pe_cmpR op_eq (pe_callB (call_show hgd hun) (by rfl) T.z_repr (by decide +kernel) (pa_cons (pv 5) pa_nil)) (pe_callB (call_show hgd hun) (by rfl) T.z_repr (by decide +kernel) (pa_cons (pe_lst (pa_cons (pe_lst (pa_cons (pv 7) pa_nil)) (pa_cons (pe_lst (pa_cons (pv 7) pa_nil)) pa_nil))) pa_nil)) (nomark _)))))))))))))))))))))), ?_⟩
    refine ⟨_, rfl, r, rfl, hR, fun v1 d1 H1 o1 i1 R1 O1 => ⟨_, rfl, r, rfl, R1, fun v2 d2 H2 o2 i2 R2 O2 => ⟨Nat.le_of_ble_eq_true rfl, fun t ht => ?_⟩⟩⟩
    have St := Only.new (r := r) (o := .tup [v1, v2]) ht
    have o1 := OD.same (hid_only (Only.trans O2 St)) o1
    have o2 := OD.same (hid_only St) o2
    have R3 : Rl (upd H2 t (.tup [v1, v2])) r := R2.new ht
    have OA : Only r H (upd H2 t (.tup [v1, v2])) := Only.trans O1 (Only.trans O2 St)
    refine ⟨t, _, rfl, SqT.of upd_same, rfl, _, _, rfl, ?_⟩
    generalize upd H2 t (.tup [v1, v2]) = G0 at St o1 o2 R3 OA ⊢
    refine ⟨_, _, rfl, rfl, _, rfl, r, _, rfl, R3, by decide, by decide +kernel, fun z H3 z0 z1 R4 O3 => ⟨_, _, rfl, rfl, ?_⟩⟩
    have OB3 : Only r H H3 := Only.trans OA O3
    have o1 := OD.same (hid_only O3) o1
    have o2 := OD.same (hid_only O3) o2
    have z2 : z < 99 := z1
    have of : ∀ G : Hp, OD K G (.int (z - 50)) (.int (z - 50)) := fun G => od_int (by omega)
    have fi : isInD (.int (z - 50)) = true := by
      show (decide (-1000000000000 < z - 50) && decide (z - 50 < 1000000000000)) = true
      rw [decide_eq_true (by omega), decide_eq_true (by omega)]
      rfl
    have fi1 : isInD (.int (z - 50 - 1)) = true := by
      show (decide (-1000000000000 < z - 50 - 1) && decide (z - 50 - 1 < 1000000000000)) = true
      rw [decide_eq_true (by omega), decide_eq_true (by omega)]
      rfl
    have of1 : ∀ G : Hp, OD K G (.int (z - 50 - 1)) (.int (z - 50 - 1)) := fun G => od_int (by omega)
    refine ⟨_, rfl, _, rfl, _, _, rfl, rfl, ⟨by decide, by decide⟩, _, rfl, Nat.le_of_ble_eq_true rfl, fun l0 hl0 => ?_⟩
    refine ⟨r, _, _, rfl, R4.new hl0, .inl ⟨_, rfl, R4.ne hl0, .inl (SqL.of upd_same)⟩, Nat.succ_pos _, Nat.le_of_ble_eq_true rfl, fun v4 G hv4 R5 O5 => ?_⟩
    have Sl := Only.trans (Only.new (r := r) hl0) O5
    have OG : Only r H G := Only.trans OB3 Sl
    have o1 := OD.same (hid_only Sl) o1
    have o2 := OD.same (hid_only Sl) o2
    have iw : ∀ d : PyData, isInD d = false → ∀ lo hi, inD lo hi d = false := fun d e lo hi => by
      cases d with
      | int n =>
        show ((decide (-1000000000000 < n) && decide (n < 1000000000000)) && _) = false
        rw [show (decide (-1000000000000 < n) && decide (n < 1000000000000)) = false from e, Bool.false_and]
      | _ => rfl
    obtain ⟨d4, o4, i4⟩ : ∃ d, OD K (hid r G) v4 d ∧ inD 1 32 d = false := by
      simp only [List.mem_cons, List.not_mem_nil, or_false] at hv4
      rcases hv4 with rfl | rfl | rfl | rfl | rfl
      · exact ⟨.int 0, od_int (by decide), by decide +kernel⟩
      · exact ⟨.int (-1), od_int (by decide), by decide +kernel⟩
      · exact ⟨.int 33, od_int (by decide), by decide +kernel⟩
      · exact ⟨.int (10 ^ Int.toNat 11), od_int (by decide), by decide +kernel⟩
      · exact ⟨d1, o1, iw d1 i1 1 32⟩
    clear hv4
    have T1 := tabs_only hT hR OG
    have p1 := OD.ext hid_noT o1
    have p2 := OD.ext hid_noT o2
    have p4 := OD.ext hid_noT o4
    dsimp only [gName, tSeq, tAsg, tDrop]
    refine start_told T1 v1 (fun M E Q0 X er => ⟨_, rfl, _, rfl, v1, v2, d1, d2, rfl, (p1.ext X).dd, (p2.ext X).dd, by rw [i1]; exact er⟩) fun M1 l C1 => ?_
    refine step_told C1 (Nat.le_of_ble_eq_true rfl) v4 5 rfl (fun M E Q0 X er => ⟨_, rfl, _, rfl, _, v4, _, d4, rfl, (of _).dd, (p4.ext X).dd, by rw [fi, i4]; exact er⟩) fun M2 C2 => ?_
    refine step_told C2 (Nat.le_of_ble_eq_true rfl) v1 5 rfl (fun M E Q0 X er => ⟨_, rfl, _, rfl, _, rfl, v1, v2, v4, d1, d2, d4, rfl, (p1.ext X).dd, (p2.ext X).dd, (p4.ext X).dd, by rw [i1]; exact er⟩) fun M3 C3 => ?_
    refine step_told C3 (Nat.le_of_ble_eq_true rfl) v2 5 rfl (fun M E Q0 X er => ⟨_, rfl, _, rfl, _, rfl, _, v2, v4, _, d2, d4, rfl, (of _).dd, (p2.ext X).dd, (p4.ext X).dd, by rw [fi, i2]; exact er⟩) fun M4 C4 => ?_
    refine step_told C4 (Nat.le_of_ble_eq_true rfl) v4 5 rfl (fun M E Q0 X er => ⟨_, rfl, _, rfl, _, rfl, _, _, v4, _, _, d4, rfl, (of _).dd, (of _).dd, (p4.ext X).dd, by rw [fi, i4]; exact er⟩) fun M5 C5 => ?_
    refine step_told C5 (Nat.le_of_ble_eq_true rfl) v1 5 rfl (fun M E Q0 X er => ⟨_, rfl, _, rfl, _, rfl, _, rfl, v1, v2, v2, v4, d1, d2, d2, d4, rfl, (p1.ext X).dd, (p2.ext X).dd, (p2.ext X).dd, (p4.ext X).dd, by rw [i1]; exact er⟩) fun M6 C6 => ?_
    refine step_told C6 (Nat.le_of_ble_eq_true rfl) v2 5 rfl (fun M E Q0 X er => ⟨_, rfl, _, rfl, _, rfl, _, rfl, _, v2, v1, v4, _, d2, d1, d4, rfl, (of _).dd, (p2.ext X).dd, (p1.ext X).dd, (p4.ext X).dd, by rw [fi, i2]; exact er⟩) fun M7 C7 => ?_
    refine step_told C7 (Nat.le_of_ble_eq_true rfl) (.int (z - 50 - 1)) 5 rfl (fun M E Q0 X er => ⟨_, rfl, _, rfl, _, _, rfl, rfl, _, rfl, _, rfl, _, _, v1, v4, _, .int (z - 50 - 1), d1, d4, rfl, (of _).dd, (of1 _).dd, (p1.ext X).dd, (p4.ext X).dd, by rw [fi, fi1, show leD (.int (z - 50)) (.int (z - 50 - 1)) = false from decide_eq_false (by omega)]; exact er⟩) fun M8 C8 => ?_
    refine step_told C8 (Nat.le_of_ble_eq_true rfl) v1 5 rfl (fun M E Q0 X er => ⟨_, rfl, _, rfl, _, rfl, _, rfl, _, _, v1, v4, _, _, d1, d4, rfl, (of _).dd, (of _).dd, (p1.ext X).dd, (p4.ext X).dd, by rw [fi, show leD (.int (z - 50)) (.int (z - 50)) = true from decide_eq_true (by omega), i1]; exact er⟩) fun M9 C9 => ?_
    refine step_told C9 (Nat.le_of_ble_eq_true rfl) v4 5 rfl (fun M E Q0 X er => ⟨_, rfl, _, rfl, _, rfl, _, rfl, _, _, _, v4, _, _, _, d4, rfl, (of _).dd, (of _).dd, (of _).dd, (p4.ext X).dd, by rw [fi, show leD (.int (z - 50)) (.int (z - 50)) = true from decide_eq_true (by omega), i4]; exact er⟩) fun M10 C10 => ?_
    have OD10 : ∀ (M : Hp), ExtN (noT G) M → ∀ (i : Nat) (v : V) (d : PyData), [v1, v4, v1, v2, v4, v1, v2, .int (z - 50 - 1), v1, v4][i]? = some v → [d1, d4, d1, d2, d4, d1, d2, .int (z - 50 - 1), d1, d4][i]? = some d → OD K M v d := fun M X i v d a b => by
      have q1 := p1.ext X
      have q2 := p2.ext X
      have q4 := p4.ext X
      match i, a, b with
      | 0, a, b => cases a; cases b; exact q1
      | 1, a, b => cases a; cases b; exact q4
      | 2, a, b => cases a; cases b; exact q1
      | 3, a, b => cases a; cases b; exact q2
      | 4, a, b => cases a; cases b; exact q4
      | 5, a, b => cases a; cases b; exact q1
      | 6, a, b => cases a; cases b; exact q2
      | 7, a, b => cases a; cases b; exact of1 _
      | 8, a, b => cases a; cases b; exact q1
      | 9, a, b => cases a; cases b; exact q4
      | n + 10, a, b => cases a
    refine sing_read [(_, v1), (_, v4), (_, v1), (_, v2), (_, v4), (_, v1), (_, v2), (_, .int (z - 50 - 1)), (_, v1), (_, v4)] _ _ _ ?_ fun ps M11 S11 e11 f11 => ?_
    · intro p hp H' Q' q
      simp only [List.mem_cons, List.not_mem_nil, or_false] at hp
      rcases hp with rfl | rfl | rfl | rfl | rfl | rfl | rfl | rfl | rfl | rfl
      · exact ⟨_, rfl, q⟩
      · exact ⟨_, rfl, q⟩
      · exact ⟨_, rfl, q⟩
      · exact ⟨_, rfl, q⟩
      · exact ⟨_, rfl, q⟩
      · exact ⟨_, rfl, q⟩
      · exact ⟨_, rfl, q⟩
      · exact ⟨_, rfl, _, _, rfl, rfl, q⟩
      · exact ⟨_, rfl, q⟩
      · exact ⟨_, rfl, q⟩
    refine ⟨by rw [List.length_map, e11]; exact Nat.le_of_ble_eq_true rfl, fun l2 hl2 => ?_⟩
    have TD := sing_told e11 f11 hl2
    have X11 : ExtN (noT G) (upd M11 l2 (.lst (ps.map V.ref))) := ExtN.trans C10.ex (ext_same (Same.trans S11 (Same.new hl2)))
    have T11 : Tabs (TT2 P1 P2) (upd M11 l2 (.lst (ps.map V.ref))) := Tabs.ext C10.tb (Same.trans S11 (Same.new hl2))
    have told11 := Told.ext (ext_same (Same.trans S11 (Same.new (o := .lst (ps.map V.ref)) hl2))) C10.told
    generalize upd M11 l2 (.lst (ps.map V.ref)) = M12 at TD X11 T11 told11 ⊢
    refine ⟨_, rfl, l, _, [d1, d4, d1, d2, d4, d1, d2, .int (z - 50 - 1), d1, d4], rfl, told11, rfl, Nat.succ_pos _, Nat.le_of_ble_eq_true rfl, OD10 M12 X11, _, rfl, l2, _, [d1, d4, d1, d2, d4, d1, d2, .int (z - 50 - 1), d1, d4], rfl, TD, rfl, Nat.succ_pos _, Nat.le_of_ble_eq_true rfl, OD10 M12 X11, ?_⟩
    refine ⟨rfl, false, congrArg V.bl (by rw [decide_eq_true rfl]; rfl), iteF ?_⟩
    have R12 : Rl M12 r := rl_ext X11 R5
    have o1 := OD.ext (hid_ext X11) o1
    refine ⟨_, rfl, _, rfl, _, rfl, Nat.le_of_ble_eq_true rfl, fun l5 hl5 => ?_⟩
    refine ⟨r, _, _, rfl, R12.new hl5, .inl ⟨_, rfl, R12.ne hl5, .inl (SqL.of upd_same)⟩, Nat.succ_pos _, Nat.le_of_ble_eq_true rfl, fun v7 G2 hv7 R13 O13 => ?_⟩
    have S13 := Only.trans (Only.new (r := r) hl5) O13
    have T13 := tabs_only T11 R12 S13
    have o1 := OD.same (hid_only S13) o1
    obtain ⟨d7, o7, i7⟩ : ∃ d, OD K (hid r G2) v7 d ∧ inD 1 64 d = false := by
      simp only [List.mem_cons, List.not_mem_nil, or_false] at hv7
      rcases hv7 with rfl | rfl | rfl | rfl
      · exact ⟨.int 0, od_int (by decide), by decide +kernel⟩
      · exact ⟨.int 65, od_int (by decide), by decide +kernel⟩
      · exact ⟨.int (-2), od_int (by decide), by decide +kernel⟩
      · exact ⟨d1, o1, iw d1 i1 1 64⟩
    clear hv7
    have p7 := OD.ext hid_noT o7
    dsimp only [gName, tSeq, tAsg, tDrop, tRet]
    refine start_told T13 v7 (fun M E Q0 X er => ⟨_, rfl, ?_⟩) fun N1 m1 D1 => ?_
    · refine ⟨[(.int 3, .int 3), (v7, d7), (.int 0, .int 0)], rfl, Nat.le_of_ble_eq_true rfl, fun p hp => ?_, ?_⟩
      · simp only [List.mem_cons, List.not_mem_nil, or_false] at hp
        rcases hp with rfl | rfl | rfl
        · exact .inl (.int 3)
        · exact (p7.ext X).dd
        · exact .inl (.int 0)
      · unfold ResM
        show (match fb [(true, V.int 3), (inD 1 64 d7, v7), (inD 1 64 (.int 0), V.int 0)] with | some x => _ | none => _)
        rw [i7]
        exact er
    refine step_told D1 (Nat.le_of_ble_eq_true rfl) v7 5 rfl (fun M E Q0 X er => ⟨_, rfl, ?_⟩) fun N2 D2 => ?_
    · refine ⟨[(v7, d7)], rfl, Nat.le_of_ble_eq_true rfl, fun p hp => ?_, ?_⟩
      · obtain rfl := List.mem_singleton.mp hp
        exact (p7.ext X).dd
      · unfold ResM
        show (match fb [(inD 1 64 d7, v7)] with | some x => _ | none => _)
        rw [i7]
        exact er
    have OD2 : ∀ (M : Hp), ExtN (noT G2) M → ∀ (i : Nat) (v : V) (d : PyData), [v7, v7][i]? = some v → [d7, d7][i]? = some d → OD K M v d := fun M X i v d a b => by
      have q7 := p7.ext X
      match i, a, b with
      | 0, a, b => cases a; cases b; exact q7
      | 1, a, b => cases a; cases b; exact q7
      | n + 2, a, b => cases a
    refine ⟨_, rfl, m1, _, [d7, d7], rfl, D2.told, rfl, Nat.succ_pos _, Nat.le_of_ble_eq_true rfl, OD2 N2 D2.ex, ?_⟩
    dsimp only [tCB]
    refine tCons_read ?_
    refine sing_read [(_, v7), (_, v7)] _ _ _ ?_ fun qs N3 S3 e3 f3 => ?_
    · intro p hp H' Q' q
      simp only [List.mem_cons, List.not_mem_nil, or_false] at hp
      rcases hp with rfl | rfl
      · exact ⟨_, rfl, q⟩
      · exact ⟨_, rfl, q⟩
    refine ⟨by rw [List.length_map, e3]; exact Nat.le_of_ble_eq_true rfl, fun m2 hm2 => ?_⟩
    have TE := sing_told e3 f3 hm2
    have XF : ExtN (noT G2) (upd N3 m2 (.lst (qs.map V.ref))) := ExtN.trans D2.ex (ext_same (Same.trans S3 (Same.new hm2)))
    have TF : Tabs (TT2 P1 P2) (upd N3 m2 (.lst (qs.map V.ref))) := Tabs.ext D2.tb (Same.trans S3 (Same.new hm2))
    refine ⟨m2, _, [d7, d7], rfl, TE, rfl, Nat.succ_pos _, Nat.le_of_ble_eq_true rfl, OD2 _ XF, ?_⟩
    refine ⟨rfl, bl_t (decide_eq_true rfl) (k _ ?_ TF)⟩
    exact OnlyN.ext (OnlyN.trans (OnlyN.ext (Only.n OG) X11) (Only.n S13)) XF
end
end K04
namespace K04
open PySem L2
section
variable {P : Program} {w : World} {K : PySem.W.Frag}
    {mg : Str → Option Value} {base : Heap}
section
variable {X : Cx} {CX : CXT} {k : Nat} {f C : Addr} {fd : FuncData} {ps : List Str} {sp : Sp} {dvs : List V} {ds : List Value} {E : XK} {x m : Str} {p1 p2 pos : Pos} {e : Expr} {es : List Expr} {t : TA} {mc : Value}
/-- C.m(e, ..), m a def of the class C, handed its self -/
theorem pe_clsfn {pl : Sem Bool} (r : ClX.CRead X.K C mc) (cv : PySem.W.findCls X.K (.ref C) mc m = some (.val (.ref f))) (F : FnOk X.prog X.w X.K X.mg X.base CX k f fd ps sp) (hr : Room k X.A) (hg : Gl X x) (hm : X.mg x = some (.ref C)) (hk : PySem.W.keepIn X.K (.ref f) = true)
    (hb : Binds X.K fd ps ds) (hd : Vals dvs ds) (hx : Passes CX X E) (ha : PA X (e :: es) t) (hdb : (x == ("__debug__" : Str)) = false := by decide)
    (he : starEach (e :: es) X.env = (false, eval e X.env) :: starEach es X.env := by rfl) (hpl : (backTo pos (starEach es X.env)).any (·.1) = false := by rfl)
    (ht : eval (.Call (.Attribute (.Name x p1) m p2) (e :: es) [] pos) X.env = (do
      let ov ← eval (.Name x p1) X.env
      standAt p2.atName
      let (f, first) ← holding [ov] (getMethod ov m pl)
      callWith pos f first (backTo pos (starEach (e :: es) X.env))
          (backToKw pos (keywordEach [] X.env))) := by rfl) :
    PE X (.Call (.Attribute (.Name x p1) m p2) (e :: es) [] pos) (tCall sp dvs E t) := by
  refine ⟨fun pins s σ H Q I h => PySem.W.methodCall_KW (pl := pl) (ld_glob I hg hm ?_ hdb) ht⟩
  refine PySem.W.method_cls I.kIn r.ga (PySem.W.cls_value I.kIn r.rd cv rfl ?_)
  refine PySem.W.callWith_K (h₀ := X.base) I.ok.mod.kin hk (thn (ha.run pos pins _ σ H _ (I.tok _) h) fun us s1 ⟨vs, H1, I1, r1, q⟩ => ⟨I1.kIn, ?_⟩) he hpl
  exact run_fn F hr hb hd hx I1 r1 q
end
end
end K04
namespace K04
open PySem L2
section
variable {P : Program} {w : World} {K : PySem.W.Frag}
    {mg : Str → Option Value} {base : Heap}
/-! ### errors as values -/
/-- what the top has written of an error class that is asked about -/
structure CE (K : PySem.W.Frag) (mg : Str → Option Value) (x : Str) (C fI : Addr) (fld : Str) (R : Addr) (B : String) (rb : Bool) : Prop where
  eb : EB K mg x C fI fld
  ec : ExcC K C
  xf : XfC K C
  kr : PySem.W.kitOne K (.ref C) (.ref R) = some rb
  kt : PySem.W.kitOne K (.ref C) (.type B) = some true
structure VX (K : PySem.W.Frag) (mg : Str → Option Value) (U : UX K mg) where
  fR : Addr
  dR : FuncData
  FR : FunD K "__init__" "RoundError.__init__" (defArgs s_RoundError_init) (defBody s_RoundError_init) (defScope s_RoundError_init) [.non] [] fR dR
  bR : Binds K dR ["self", "told"] []
  b0 : ∃ ds, Vals [.non] ds ∧ Binds K dR ["self", "told"] ds
  R : Addr
  r : CE K mg "RoundError" R fR "told" R "ValueError" true
  O : Addr
  o : CE K mg "InvalidOperation" O fR "told" R "ValueError" true
  L : Addr
  l : CE K mg "InvalidLoop" L fR "told" R "ValueError" true
  H : Addr
  h : CE K mg "InvalidMachine" H fR "told" R "ValueError" true
  S : Addr
  s : CE K mg "InvalidSpans" S fR "told" R "ValueError" true
  W : Addr
  w : CE K mg "InvalidWiring" W fR "told" R "ValueError" true
  J : Addr
  j : CE K mg "InvalidKernel" J fR "told" R "ValueError" true
  A : Addr
  a : CE K mg "InvalidArgument" A fR "told" R "ValueError" true
  fP : Addr
  dP : FuncData
  FP : Fun K "__init__" "ParseError.__init__" s_ParseError_init fP dP
  bP : Binds K dP ["self", "line"] []
  P : Addr
  p : CE K mg "ParseError" P fP "line" R "ValueError" true
  pt : PySem.W.findIn K (.ref P) "told" = some none
  rd : ClX.CRead K R (.type "type")
  cv : PySem.W.findCls K (.ref R) (.type "type") "__init__" = some (.val (.ref fR))
  fU : Addr
  dU : FuncData
  FU : Fun K "__init__" "UnknownName.__init__" s_UnknownName_init fU dU
  bU : Binds K dU ["self", "wanted"] []
  Un : Addr
  u : CE K mg "UnknownName" Un fU "wanted" R "KeyError" false
  n : CE K mg "InvalidNumber" U.N U.fN "value" R "RuntimeError" false
  m : CE K mg "TooMany" U.M U.fM "limit" R "OverflowError" false
  fT : Addr
  dT : FuncData
  FT : Fun K "__init__" "NothingToUndo.__init__" s_NothingToUndo_init fT dT
  bT : Binds K dT ["self", "many"] []
  Nt : Addr
  t : CE K mg "NothingToUndo" Nt fT "many" R "IndexError" false
  fB : Addr
  dB : FuncData
  FB : Fun K "__init__" "Broken.__init__" s_Broken_init fB dB
  bB : Binds K dB ["self", "kind", "reason"] []
  Bk : Addr
  b : CE K mg "Broken" Bk fB "kind" R "ArithmeticError" false
  bn : PySem.W.findIn K (.ref Bk) "reason" = some none
  zV : mg "ValueError" = none
  zK : mg "KeyError" = none
  zR : mg "RuntimeError" = none
  zO : mg "OverflowError" = none
  zI : mg "IndexError" = none
  zA : mg "ArithmeticError" = none
theorem ok_R {U : UX K mg} (V : VX K mg U) : FnOk P w K mg base CX0 1 V.fR V.dR ["self", "told"] (sp_E "told" K) := by
  refine V.FR.ok (CX := CX0) sc_RoundError_init (fun vs H Q E h => ?_) (fun cdv A outer s H vs Q E hr h => ?_)
  · obtain ⟨a, C, v, rfl, _⟩ := h
    rfl
  · obtain ⟨a, C, v, rfl, hC, hn, ha, k⟩ := h
    exact ⟨_, pss_one (ps_osB (pv 0) (pv 1)), _, rfl, _, rfl, a, C, rfl, hC, hn, .inl ⟨ha, fun d hd nd => k d hd nd⟩⟩
theorem ok_U {U : UX K mg} (V : VX K mg U) : FnOk P w K mg base CX0 1 V.fU V.dU ["self", "wanted"] (sp_E "wanted" K) := by
  refine V.FU.ok sc_UnknownName_init (fun vs H Q E h => ?_) (fun cdv A outer s H vs Q E hr h => ?_)
  · obtain ⟨a, C, v, rfl, _⟩ := h
    rfl
  · obtain ⟨a, C, v, rfl, hC, hn, ha, k⟩ := h
    exact ⟨_, pss_one (ps_osB (pv 0) (pv 1)), _, rfl, _, rfl, a, C, rfl, hC, hn, .inl ⟨ha, fun d hd nd => k d hd nd⟩⟩
theorem ok_T {U : UX K mg} (V : VX K mg U) : FnOk P w K mg base CX0 1 V.fT V.dT ["self", "many"] (sp_E "many" K) := by
  refine V.FT.ok sc_NothingToUndo_init (fun vs H Q E h => ?_) (fun cdv A outer s H vs Q E hr h => ?_)
  · obtain ⟨a, C, v, rfl, _⟩ := h
    rfl
  · obtain ⟨a, C, v, rfl, hC, hn, ha, k⟩ := h
    exact ⟨_, pss_one (ps_osB (pv 0) (pv 1)), _, rfl, _, rfl, a, C, rfl, hC, hn, .inl ⟨ha, fun d hd nd => k d hd nd⟩⟩
def sp_B (K : PySem.W.Frag) : Sp := fun vs H Q _ => ∃ (a C : Addr) (v u : V), vs = [.ref a, v, u] ∧ OxB K C ∧ PySem.W.findIn K (.ref C) "kind" = some none ∧ PySem.W.findIn K (.ref C) "reason" = some none ∧ H a = some (exo a C none) ∧
  ∀ d H', Same H H' ∨ True → H d = none → d ≠ a → Q .non (upd (upd (upd H d (exd d [("kind", v)])) a (exo a C (some d))) d (exd d [("reason", u), ("kind", v)]))
theorem ok_B {U : UX K mg} (V : VX K mg U) : FnOk P w K mg base CX0 1 V.fB V.dB ["self", "kind", "reason"] (sp_B K) := by
  refine V.FB.ok sc_Broken_init (fun vs H Q E h => ?_) (fun cdv A outer s H vs Q E hr h => ?_)
  · obtain ⟨a, C, v, u, rfl, _⟩ := h
    rfl
  · obtain ⟨a, C, v, u, rfl, hC, hn, hn2, ha, k⟩ := h
    refine ⟨_, pss_cons (ps_osB (pv 0) (pv 1)) (pss_one (ps_osB (pv 0) (pv 2))), _, rfl, _, rfl, a, C, rfl, hC, hn, .inl ⟨ha, fun d hd nd => ?_⟩⟩
    exact ⟨_, rfl, _, rfl, a, C, rfl, hC, hn2, .inr ⟨d, _, upd_same, (upd_ne nd).trans upd_same, Nat.le_of_ble_eq_true rfl, k d H (.inr True.intro) hd nd⟩⟩
def sp_P (K : PySem.W.Frag) : Sp := fun vs H Q _ => ∃ (a C : Addr) (v : V), vs = [.ref a, v] ∧ OxB K C ∧ PySem.W.findIn K (.ref C) "told" = some none ∧ PySem.W.findIn K (.ref C) "line" = some none ∧ H a = some (exo a C none) ∧
  ∀ d, H d = none → d ≠ a → Q .non (upd (upd (upd H d (exd d [("told", v)])) a (exo a C (some d))) d (exd d [("line", v), ("told", v)]))
theorem ok_P {U : UX K mg} (V : VX K mg U) : FnOk P w K mg base CX0 2 V.fP V.dP ["self", "line"] (sp_P K) := by
  have G_R : FnOk P w K mg base CX0 1 V.fR V.dR ["self", "told"] (sp_E "told" K) := ok_R V
  refine V.FP.ok sc_ParseError_init (fun vs H Q E h => ?_) (fun cdv A outer s H vs Q E hr h => ?_)
  · obtain ⟨a, C, v, rfl, _⟩ := h
    rfl
  · obtain ⟨a, C, v, rfl, hC, hn, hn2, ha, k⟩ := h
    refine ⟨_, pss_cons (ps_expr (pe_clsfn V.rd V.cv G_R hr rfl V.r.eb.mg V.FR.kp V.bR .nil pass0 (pa_cons (pv 0) (pa_cons (pv 1) pa_nil)))) (pss_one (ps_osB (pv 0) (pv 1))), ?_⟩
    refine ⟨_, rfl, _, rfl, a, C, v, rfl, hC, hn, ha, fun d hd nd => ?_⟩
    exact ⟨_, rfl, _, rfl, a, C, rfl, hC, hn2, .inr ⟨d, _, upd_same, (upd_ne nd).trans upd_same, Nat.le_of_ble_eq_true rfl, k d hd nd⟩⟩
/-- such an error stands in H' -/
theorem er_val {K : PySem.W.Frag} {mg : Str → Option Value} {x fld : Str} {C fI : Addr} (T : EB K mg x C fI fld) {H : Hp} {v : V} {a : Addr} {Q : Hp → Prop} (na : H a = none) (k : ∀ H', Same H H' → ErrAt K H' (.ref a) C [(fld, v)] → Q H') :
    sp_E fld K (.ref a :: ([v] ++ [])) (upd H a (exo a C none)) (fun v H2 => v = .non ∧ Q H2) (fun _ _ _ => False) := by
  refine ⟨a, C, v, rfl, T.ox, T.no, upd_same, fun d hd nd => ⟨rfl, k _ (fun b o e => ?_) ⟨a, d, rfl, upd_same, (upd_ne nd).trans upd_same⟩⟩⟩
  have nba : b ≠ a := ne_of_none e na
  have nbd : b ≠ d := by
    refine ne_of_none e ?_
    rw [upd_ne nd] at hd
    exact hd
  rw [upd_ne nba, upd_ne nbd, upd_ne nba]
  exact e
theorem ErrAt.same {K : PySem.W.Frag} {H H' : Hp} {x : V} {C : Addr} {fs : List (Str × V)} (s : Same H H') (h : ErrAt K H x C fs) : ErrAt K H' x C fs := by
  obtain ⟨a, d, e, e1, e2⟩ := h
  exact ⟨a, d, e, s _ _ e1, s _ _ e2⟩
end
end K04
namespace K04
open PySem L2
section
variable {P : Program} {w : World} {K : PySem.W.Frag}
    {mg : Str → Option Value} {base : Heap}
section
variable {X : Cx} {CX : CXT} {k : Nat} {f : Addr} {fd : FuncData} {ps : List Str} {sp : Sp} {dvs : List V} {ds : List Value} {E : XK} {x : Str} {p pos : Pos} {e : Expr} {es : List Expr} {t : TA}
theorem pe_callG (F : FnG X.prog X.w X.K X.mg X.base CX k f fd ps sp) (hgd : X.A.guards = some []) (hr : Room k X.A) (hg : Gl X x) (hm : X.mg x = some (.ref f)) (hk : PySem.W.keepIn X.K (.ref f) = true) (hb : Binds X.K fd ps ds) (hd : Vals dvs ds) (hx : Passes CX X E)
    (ha : PA X (e :: es) t) (hdb : (x == ("__debug__" : Str)) = false := by decide) (he : starEach (e :: es) X.env =
        (false, eval e X.env) :: starEach es X.env := by rfl) (hpl : (backTo pos (starEach es X.env)).any (·.1) = false := by rfl) :
    PE X (.Call (.Name x p)
        (e :: es) [] pos) (tCall sp dvs E t) := by
  refine ⟨fun pins s σ H Q I h => wpAny_Call_Name_kw (ld_glob I hg hm ?_ hdb)⟩
  refine PySem.W.callWith_K (h₀ := X.base) I.ok.mod.kin hk (thn
      (ha.run pos pins s σ H _ I h) fun us s1 ⟨vs, H1, I1, r, q⟩ => ⟨I1.kIn, ?_⟩) he hpl
  have r2 : Vals (vs ++ dvs) (us ++ ds) := r.append hd
  have hl : (us ++ ds).length = ps.length := by
    rw [← r2.length]
    exact F.len _ _ _ _ q
  have run := F.run X.A X.stack s1 H1 ⟨us, []⟩ (us ++ ds) (vs ++ dvs) Q E hgd hr I1.env0 (hb s1 us I1.kIn hl) r2 q
  refine wpAny_call (codeAny_mono run fun w' s' z => ?_)
  cases w' with
  | error er => exact hx pins σ H1 s1 er s' I1 z
  | ok fl =>
    cases fl with
    | ret u => exact I1.after z
    | next => exact False.elim z
    | brk => exact False.elim z
    | cont => exact False.elim z
end
open LamX in
/-- a list of at most 63 ints is handed in, True comes out -/
def sp_lawT (K : PySem.W.Frag) (P1 P2 : Addr) : Sp := fun vs H Q _ => ∃ (a : Addr) (ns : List Int), vs = [.ref a] ∧ SqL K H a (ns.map V.int) ∧ ns.length ≤ 63 ∧ Tabs (TT2 P1 P2) H ∧ ∀ H', Q (.bl true) H'
/-- an error that is a RoundError -/
def Rnd (K : PySem.W.Frag) (R : Addr) (H : Hp) (x : V) : Prop := ∃ (C : Addr) (fs : List (Str × V)), ErrAt K H x C fs ∧ ExcC K C ∧ PySem.W.kitOne K (.ref C) (.ref R) = some true ∧ PySem.W.kitOne K (.ref C) (.type "ValueError") = some true
theorem Rnd.same {K : PySem.W.Frag} {R : Addr} {H H' : Hp} {x : V} (s : Same H H') (h : Rnd K R H x) : Rnd K R H' x := by
  obtain ⟨C, fs, e, r⟩ := h
  exact ⟨C, fs, ErrAt.same s e, r⟩
theorem CE.rnd {K : PySem.W.Frag} {mg : Str → Option Value} {x fld : Str} {C fI R : Addr} {H : Hp} {y : V} {fs : List (Str × V)} (T : CE K mg x C fI fld R "ValueError" true) (e : ErrAt K H y C fs) : Rnd K R H y := ⟨C, fs, e, T.ec, T.kr, T.kt⟩
theorem dd_ints {K : PySem.W.Frag} {H : Hp} {ns : List Int} : ∀ p ∈ ns.map (fun i => (V.int i, PyData.int i)), DD K H p.1 p.2 := fun p hp => by
  obtain ⟨i, _, rfl⟩ := List.mem_map.mp hp
  exact .inl (.int i)
theorem res_fine {N M : Addr} {H : Hp} {Q : VK} {E : XK} {ps : List (V × PyData)} (h : fb (ps.map fun p => (inD 1 64 p.2, p.1)) = none) (hl : ps.length ≤ 16) (k : ∀ (i : Int) (H' : Hp), Same H H' → Q (.int i) H') : ResM N M H Q E ps := by
  unfold ResM
  rw [h]
  exact (if_pos hl).symm ▸ k
theorem res_many {N M : Addr} {H : Hp} {Q : VK} {E : XK} {ps : List (V × PyData)} (h : fb (ps.map fun p => (inD 1 64 p.2, p.1)) = none) (hl : ¬ ps.length ≤ 16) (k : Er M "limit" H (.int 16) E) : ResM N M H Q E ps := by
  unfold ResM
  rw [h]
  exact (if_neg hl).symm ▸ k
theorem res_bad {N M : Addr} {H : Hp} {Q : VK} {E : XK} {ps : List (V × PyData)} {x : V} (h : fb (ps.map fun p => (inD 1 64 p.2, p.1)) = some x) (k : Er N "value" H x E) : ResM N M H Q E ps := by
  unfold ResM
  rw [h]
  exact k
theorem er_same2 {H : Hp} {a d : Addr} {o1 o2 o3 o4 : HO} (na : H a = none) (hd : (upd H a o1) d = none) (nd : d ≠ a) : Same H (upd (upd (upd (upd H a o1) d o2) a o3) d o4) := fun b o e => by
  have nba : b ≠ a := ne_of_none e na
  have nbd : b ≠ d := by
    refine ne_of_none e ?_
    rw [upd_ne nd] at hd
    exact hd
  rw [upd_ne nbd, upd_ne nba, upd_ne nbd, upd_ne nba]
  exact e
theorem er_valP {K : PySem.W.Frag} {mg : Str → Option Value} {x : Str} {C fI : Addr} (T : EB K mg x C fI "line") (no : PySem.W.findIn K (.ref C) "told" = some none) {H : Hp} {v : V} {a : Addr} {Q : Hp → Prop} (na : H a = none) (k : ∀ H', Same H H' → ErrAt K H' (.ref a) C [("line", v), ("told", v)] → Q H') :
    sp_P K (.ref a :: ([v] ++ [])) (upd H a (exo a C none)) (fun v H2 => v = .non ∧ Q H2) (fun _ _ _ => False) :=
  ⟨a, C, v, rfl, T.ox, no, T.no, upd_same, fun d hd nd => ⟨rfl, k _ (er_same2 na hd nd) ⟨a, d, rfl, by rw [upd_ne (Ne.symm nd), upd_same], upd_same⟩⟩⟩
theorem er_valB {K : PySem.W.Frag} {mg : Str → Option Value} {x : Str} {C fI : Addr} (T : EB K mg x C fI "kind") (no : PySem.W.findIn K (.ref C) "reason" = some none) {H : Hp} {v u : V} {a : Addr} {Q : Hp → Prop} (na : H a = none) (k : ∀ H', Same H H' → ErrAt K H' (.ref a) C [("reason", u), ("kind", v)] → Q H') :
    sp_B K (.ref a :: ([v, u] ++ [])) (upd H a (exo a C none)) (fun v H2 => v = .non ∧ Q H2) (fun _ _ _ => False) :=
  ⟨a, C, v, u, rfl, T.ox, T.no, no, upd_same, fun d H9 _ hd nd => ⟨rfl, k _ (er_same2 na hd nd) ⟨a, d, rfl, by rw [upd_ne (Ne.symm nd), upd_same], upd_same⟩⟩⟩
theorem lst_same {H H' : Hp} {l : Addr} {xs : List V} (s : Same H H') (h : H l = some (.lst xs)) : H' l = some (.lst xs) := s _ _ h
/-- all of them are RoundErrors -/
def RndL (K : PySem.W.Frag) (R : Addr) (H : Hp) (xs : List V) : Prop := ∀ x ∈ xs, Rnd K R H x
theorem RndL.nil {K : PySem.W.Frag} {R : Addr} {H : Hp} : RndL K R H [] := fun x h => by cases h
theorem RndL.snoc {K : PySem.W.Frag} {R : Addr} {H H' : Hp} {xs : List V} {x : V} (h : RndL K R H xs) (s : Same H H') (e : Rnd K R H' x) : RndL K R H' (xs ++ [x]) := fun y hy => by
  rcases List.mem_append.mp hy with hy | hy
  · exact Rnd.same s (h y hy)
  · rw [List.mem_singleton.mp hy]
    exact e
theorem RndL.same {K : PySem.W.Frag} {R : Addr} {H H' : Hp} {xs : List V} (h : RndL K R H xs) (s : Same H H') : RndL K R H' xs := fun y hy => Rnd.same s (h y hy)
open LamX in
theorem ok_law (T : T K mg) (U : UX K mg) (VV : VX K mg U) (C : KC K U.N U.M) {c1 P1 c2 P2 : Addr} (hP : P1 ≠ P2) (TB1 : TabB base mg c1 P1) (TB2 : TabB base mg c2 P2) (FC : FunC K "_law_cell_right" "_law_cell_right" s_w_cell_right T.f_w_cell_right T.d_w_cell_right c1)
    (F : FunC K "law" "law" s_law T.f_law T.d_law c2) : FnG P w K mg base CX0 9 T.f_law T.d_law ["script"] (sp_lawT K P1 P2) := by
  have G_cell : FnG P w K mg base CX0 8 T.f_w_cell_right T.d_w_cell_right ["reel"] (sp_cell K P1 P2) := ok_cell T U C hP TB1 FC
  have G_w_reel : FnOk P w K mg base CX0 1 T.f_w_reel T.d_w_reel ["script", "at"] (sp_w_reel K) := ok_w_reel T
  have G_common_multiple : FnR P w K mg base (L2.CX P w) 4 T.f_common_multiple (sp_common_multiple K U.N U.M) := ok_common_multiple T U
  have G_R : FnOk P w K mg base CX0 1 VV.fR VV.dR ["self", "told"] (sp_E "told" K) := ok_R VV
  have G_U : FnOk P w K mg base CX0 1 VV.fU VV.dU ["self", "wanted"] (sp_E "wanted" K) := ok_U VV
  have G_T : FnOk P w K mg base CX0 1 VV.fT VV.dT ["self", "many"] (sp_E "many" K) := ok_T VV
  have G_N : FnOk P w K mg base CX0 1 U.fN U.dN ["self", "value"] (sp_E "value" K) := ok_N U
  have G_M : FnOk P w K mg base CX0 1 U.fM U.dM ["self", "limit"] (sp_E "limit" K) := ok_M U
  have G_B : FnOk P w K mg base CX0 1 VV.fB VV.dB ["self", "kind", "reason"] (sp_B K) := ok_B VV
  have G_P : FnOk P w K mg base CX0 2 VV.fP VV.dP ["self", "line"] (sp_P K) := ok_P VV
  obtain ⟨ds0, hd0, hb0⟩ := VV.b0
  obtain ⟨oc, od, kV, doc, pm, an, cdw, ct, osl, ed, lk0, hcg⟩ := T.F_w_kept.ex
  have lk : K.lookup T.f_w_kept = some ⟨oc, od, .func (PySem.W.fnOf "_law_kept" "_law_kept" (defArgs s_w_kept) (defBody s_w_kept) (defScope s_w_kept) .none kV doc pm an cdw ct), osl⟩ := by rw [← ed]; exact lk0
  have bw : L2.Binds K (PySem.W.fnOf "_law_kept" "_law_kept" (defArgs s_w_kept) (defBody s_w_kept) (defScope s_w_kept) .none kV doc pm an cdw ct) ["call"] [] := by rw [← ed]; exact T.b_w_kept
  have hm2 : (P2, qL) ∈ TT2 P1 P2 := List.mem_cons_of_mem _ List.mem_cons_self
  have hu2 : ∀ p ∈ TT2 P1 P2, p.1 = P2 → p.2 = qL := fun p hp e => by
    rcases List.mem_cons.mp hp with rfl | hp
    · exact absurd e hP
    · obtain rfl := List.mem_singleton.mp hp
      rfl
  refine F.okG sc_law (fun vs H Q E h => ?_) (fun A outer s H vs Q E hg hr h => ?_)
  · obtain ⟨a, ns, rfl, _⟩ := h
    rfl
  · obtain ⟨a, ns, rfl, hS, hlen, hT, k⟩ := h
    have hr8 : Room 8 _ := hr
    have hr7 : Room 7 _ := hr.mono (by decide)
    have hr3 : Room 3 _ := hr.mono (by decide)
    have hr2 : Room 2 _ := hr.mono (by decide)
    have hr_w_reel : Room 1 _ := hr.mono (by decide)
    have hgd : (cxOf CX0 P w K mg base ["script", "at", "told", "base", "others", "kept", "one"] "law" (defScope s_law) T.f_law (.ref c2) A outer s H E).nox.A.guards = some [] := hg
    have hun : (cxOf CX0 P w K mg base ["script", "at", "told", "base", "others", "kept", "one"] "law" (defScope s_law) T.f_law (.ref c2) A outer s H E).nox.A.units + 64 < cLine := by
      have := hr.un
      show (A.deeper _).units + 64 < cLine
      omega
    refine ⟨_, (pss_cons (ps_for PassesOwn.never rfl (pi_range1 (by rfl) T.z_range (pa_cons (pe_callB (call_max2 rfl) (by rfl) T.z_max (by decide +kernel) (pa_cons pe_int (pa_cons (pe_callB (call_min2 rfl) (by rfl) T.z_min (by decide +kernel) (pa_cons pe_int (pa_cons (pe_callB call_len (by rfl) T.z_len (by decide +kernel) (pa_cons (pv 0) pa_nil)) pa_nil))) pa_nil))) pa_nil)) (pg_name (i := 1) sc_law.nd rfl (Or.inl rfl))
      (pss_one (ps_if (pt_not (pt_val (pe_callG G_cell hgd hr8 rfl T.m_w_cell_right T.F_w_cell_right.kp T.b_w_cell_right .nil pass0 (pa_cons (pe_call G_w_reel hr_w_reel rfl T.m_w_reel T.F_w_reel.kp T.b_w_reel .nil pass0 (pa_cons (pv 0) (pa_cons (pv 1) pa_nil))) pa_nil))))
      (pss_one (ps_ret pe_bl))
      pss_nil)))
      (pss_cons (ps_set (i := 2) sc_law.nd rfl (Or.inl rfl) (pe_lst (pa_cons (pe_lamcall (T := TT2 P1 P2) (TT := TTK U.N U.M) (t := fun E => (fun σ H Q => (tCons (tC (.int 1)) (tCons (tC (.int 1)) (tCons (tC (.int 1)) (tCons (tC (.int 1)) (tCons (tC (.int 1)) (tCons (tC (.int 1)) (tCons (tC (.int 1)) (tCons (tC (.int 1)) (tCons (tC (.int 2)) (tCons (tC (.int 2)) (tCons (tC (.int 2)) (tCons (tC (.int 2)) (tCons (tC (.int 2)) (tCons (tC (.int 2)) (tCons (tC (.int 2)) (tCons (tC (.int 2)) tNil)))))))))))))))) σ H fun vs H1 => sp_common_multiple K U.N U.M vs H1 Q E)) rfl T.m_w_kept T.F_w_kept.kp lk hcg bw sc_w_kept rfl (Or.inl rfl) (kept_gives U.n.mg U.m.mg C) TB2 rfl hm2 hu2 hr7 (lamS_by (by rfl)) rfl (fun _ _ _ _ _ => rfl) (fun A outer s H E f c2 hr2 => (pe_callR G_common_multiple (hr2.mono (by decide)) rfl T.m_common_multiple T.F_common_multiple.kp (passes_call (takes_of rfl rfl rfl rfl) (fun _ _ _ _ h => h)) (pa_cons pe_int (pa_cons pe_int (pa_cons pe_int (pa_cons pe_int (pa_cons pe_int (pa_cons pe_int (pa_cons pe_int (pa_cons pe_int (pa_cons pe_int (pa_cons pe_int (pa_cons pe_int (pa_cons pe_int (pa_cons pe_int (pa_cons pe_int (pa_cons pe_int (pa_cons pe_int pa_nil))))))))))))))))))) pa_nil)))
      (pss_cons (ps_expr (pe_bm PySem.F.plainAttrs_list PySem.F.slot_list_append PySem.F.type_list_append mt_append (pv 2) (pa_cons (pe_lamcall (T := TT2 P1 P2) (TT := TTK U.N U.M) (t := fun E => (fun σ H Q => (tCons (tC (.int 1)) (tCons (tC (.int 1)) (tCons (tC (.int 1)) (tCons (tC (.int 1)) (tCons (tC (.int 1)) (tCons (tC (.int 1)) (tCons (tC (.int 1)) (tCons (tC (.int 1)) (tCons (tC (.int 2)) (tCons (tC (.int 2)) (tCons (tC (.int 2)) (tCons (tC (.int 2)) (tCons (tC (.int 2)) (tCons (tC (.int 2)) (tCons (tC (.int 2)) (tCons (tC (.int 2)) (tCons (tC (.int 2)) tNil))))))))))))))))) σ H fun vs H1 => sp_common_multiple K U.N U.M vs H1 Q E)) rfl T.m_w_kept T.F_w_kept.kp lk hcg bw sc_w_kept rfl (Or.inl rfl) (kept_gives U.n.mg U.m.mg C) TB2 rfl hm2 hu2 hr7 (lamS_by (by rfl)) rfl (fun _ _ _ _ _ => rfl) (fun A outer s H E f c2 hr2 => (pe_callR G_common_multiple (hr2.mono (by decide)) rfl T.m_common_multiple T.F_common_multiple.kp (passes_call (takes_of rfl rfl rfl rfl) (fun _ _ _ _ h => h)) (pa_cons pe_int (pa_cons pe_int (pa_cons pe_int (pa_cons pe_int (pa_cons pe_int (pa_cons pe_int (pa_cons pe_int (pa_cons pe_int (pa_cons pe_int (pa_cons pe_int (pa_cons pe_int (pa_cons pe_int (pa_cons pe_int (pa_cons pe_int (pa_cons pe_int (pa_cons pe_int (pa_cons pe_int pa_nil)))))))))))))))))))) pa_nil)))
      (pss_cons (ps_expr (pe_bm PySem.F.plainAttrs_list PySem.F.slot_list_append PySem.F.type_list_append mt_append (pv 2) (pa_cons (pe_lamcall (T := TT2 P1 P2) (TT := TTK U.N U.M) (t := fun E => (fun σ H Q => (tCons (tC (.int 1)) (tCons (tC (.int 1)) (tCons (tC (.int 1)) (tCons (tC (.int 1)) (tCons (tC (.int 1)) (tCons (tC (.int 1)) (tCons (tC (.int 1)) (tCons (tC (.int 1)) (tCons (tC (.int 2)) (tCons (tC (.int 2)) (tCons (tC (.int 2)) (tCons (tC (.int 2)) (tCons (tC (.int 2)) (tCons (tC (.int 2)) (tCons (tC (.int 2)) (tCons (tC (.int 2)) (tCons (tC (.int 0)) tNil))))))))))))))))) σ H fun vs H1 => sp_common_multiple K U.N U.M vs H1 Q E)) rfl T.m_w_kept T.F_w_kept.kp lk hcg bw sc_w_kept rfl (Or.inl rfl) (kept_gives U.n.mg U.m.mg C) TB2 rfl hm2 hu2 hr7 (lamS_by (by rfl)) rfl (fun _ _ _ _ _ => rfl) (fun A outer s H E f c2 hr2 => (pe_callR G_common_multiple (hr2.mono (by decide)) rfl T.m_common_multiple T.F_common_multiple.kp (passes_call (takes_of rfl rfl rfl rfl) (fun _ _ _ _ h => h)) (pa_cons pe_int (pa_cons pe_int (pa_cons pe_int (pa_cons pe_int (pa_cons pe_int (pa_cons pe_int (pa_cons pe_int (pa_cons pe_int (pa_cons pe_int (pa_cons pe_int (pa_cons pe_int (pa_cons pe_int (pa_cons pe_int (pa_cons pe_int (pa_cons pe_int (pa_cons pe_int (pa_cons pe_int pa_nil)))))))))))))))))))) pa_nil)))
      (pss_cons (ps_if (pt_cmpR (op_neD hun) (pv 2) (pe_lst (pa_cons pe_str (pa_cons pe_str (pa_cons (pe_lst (pa_cons pe_int pa_nil)) pa_nil)))) (nomark _))
      (pss_one (ps_ret pe_bl))
      pss_nil)
      (pss_cons (ps_set (i := 3) sc_law.nd rfl (Or.inl rfl) (pe_lst (pa_cons (pe_mkv VV.o.eb.ox VV.o.eb.init VV.o.eb.ty G_R hr2 VV.bR .nil pass0 rfl VV.o.eb.mg (pa_cons pe_str pa_nil)) (pa_cons (pe_mkv0 VV.l.eb.ox VV.l.eb.init VV.l.eb.ty G_R hr2 hb0 hd0 pass0 rfl VV.l.eb.mg) (pa_cons (pe_mkv VV.h.eb.ox VV.h.eb.init VV.h.eb.ty G_R hr2 VV.bR .nil pass0 rfl VV.h.eb.mg (pa_cons (pe_tup (pa_cons pe_int pa_nil)) pa_nil)) (pa_cons (pe_mkv VV.s.eb.ox VV.s.eb.init VV.s.eb.ty G_R hr2 VV.bR .nil pass0 rfl VV.s.eb.mg (pa_cons pe_str pa_nil)) (pa_cons (pe_mkv0 VV.w.eb.ox VV.w.eb.init VV.w.eb.ty G_R hr2 hb0 hd0 pass0 rfl VV.w.eb.mg) pa_nil)))))))
      (pss_cons (ps_set (i := 3) sc_law.nd rfl (Or.inl rfl) (pe_op op_cat (pv 3) (pe_lst (pa_cons (pe_mkv VV.j.eb.ox VV.j.eb.init VV.j.eb.ty G_R hr2 VV.bR .nil pass0 rfl VV.j.eb.mg (pa_cons pe_int pa_nil)) (pa_cons (pe_mkv VV.a.eb.ox VV.a.eb.init VV.a.eb.ty G_R hr2 VV.bR .nil pass0 rfl VV.a.eb.mg (pa_cons pe_str pa_nil)) (pa_cons (pe_mkv VV.p.eb.ox VV.p.eb.init VV.p.eb.ty G_P hr3 VV.bP .nil pass0 rfl VV.p.eb.mg (pa_cons pe_int pa_nil)) (pa_cons (pe_mkv0 VV.r.eb.ox VV.r.eb.init VV.r.eb.ty G_R hr2 hb0 hd0 pass0 rfl VV.r.eb.mg) (pa_cons (pe_mkv VV.r.eb.ox VV.r.eb.init VV.r.eb.ty G_R hr2 VV.bR .nil pass0 rfl VV.r.eb.mg (pa_cons pe_str pa_nil)) pa_nil))))))))
      (pss_cons (ps_if (pt_cmpR (op_neD hun) (pe_lc (own := [("one", 6)]) (g := gName 6) rfl sc_law.nd (pi_list (pv 3)) (blkOk_by (N := ["script", "at", "told", "base", "others", "kept", "one"]) (sc := defScope s_law) (by decide +kernel)) (fun _ _ _ _ _ => (pg_name (i := 6) sc_law.nd rfl (Or.inl rfl))) (fun _ _ _ _ _ => pts_one (PW.pt (pw_or (pt_not (pt_val (pe_callB (id := "isinstance") (r := rIsErr K) call_isErr (by rfl) T.z_isinstance (by decide +kernel) (pa_cons (pv 6) (pa_cons (pe_glob (v := V.ref VV.R) rfl VV.r.eb.mg rfl) pa_nil))))) (pw_or1 (pt_not (pt_val (pe_callB (id := "isinstance") (r := rIsErr K) call_isErr (by rfl) T.z_isinstance (by decide +kernel) (pa_cons (pv 6) (pa_cons (pe_bltn (v := V.ty "ValueError") (u := Value.type "ValueError") (by rfl) VV.zV (by decide +kernel) rfl) pa_nil))))))))) (fun _ _ _ _ _ => (pv 6))) (pe_lst pa_nil) (nomark _))
      (pss_one (ps_ret pe_bl))
      pss_nil)
      (pss_cons (ps_set (i := 4) sc_law.nd rfl (Or.inl rfl) (pe_lst (pa_cons (pe_mkv VV.u.eb.ox VV.u.eb.init VV.u.eb.ty G_U hr2 VV.bU .nil pass0 rfl VV.u.eb.mg (pa_cons pe_str pa_nil)) (pa_cons (pe_mkv VV.n.eb.ox VV.n.eb.init VV.n.eb.ty G_N hr2 U.bN .nil pass0 rfl VV.n.eb.mg (pa_cons pe_int pa_nil)) (pa_cons (pe_mkv VV.m.eb.ox VV.m.eb.init VV.m.eb.ty G_M hr2 U.bM .nil pass0 rfl VV.m.eb.mg (pa_cons pe_int pa_nil)) (pa_cons (pe_mkv VV.t.eb.ox VV.t.eb.init VV.t.eb.ty G_T hr2 VV.bT .nil pass0 rfl VV.t.eb.mg (pa_cons pe_int pa_nil)) (pa_cons (pe_mkv VV.b.eb.ox VV.b.eb.init VV.b.eb.ty G_B hr2 VV.bB .nil pass0 rfl VV.b.eb.mg (pa_cons pe_str (pa_cons (pe_tup (pa_cons pe_str (pa_cons pe_str (pa_cons pe_int pa_nil)))) pa_nil))) pa_nil)))))))
      (pss_cons (ps_set (i := 2) sc_law.nd rfl (Or.inl rfl) (pe_lst (pa_cons (pe_callB (id := "isinstance") (r := rIsErr K) call_isErr (by rfl) T.z_isinstance (by decide +kernel) (pa_cons (pe_ix ix_seq (pv 4) pe_int (fun _ _ => rfl)) (pa_cons (pe_bltn (v := V.ty "KeyError") (u := Value.type "KeyError") (by rfl) VV.zK (by decide +kernel) rfl) pa_nil))) (pa_cons (pe_callB (id := "isinstance") (r := rIsErr K) call_isErr (by rfl) T.z_isinstance (by decide +kernel) (pa_cons (pe_ix ix_seq (pv 4) pe_int (fun _ _ => rfl)) (pa_cons (pe_bltn (v := V.ty "RuntimeError") (u := Value.type "RuntimeError") (by rfl) VV.zR (by decide +kernel) rfl) pa_nil))) (pa_cons (pe_callB (id := "isinstance") (r := rIsErr K) call_isErr (by rfl) T.z_isinstance (by decide +kernel) (pa_cons (pe_ix ix_seq (pv 4) pe_int (fun _ _ => rfl)) (pa_cons (pe_bltn (v := V.ty "OverflowError") (u := Value.type "OverflowError") (by rfl) VV.zO (by decide +kernel) rfl) pa_nil))) pa_nil)))))
      (pss_cons (ps_set (i := 2) sc_law.nd rfl (Or.inl rfl) (pe_op op_cat (pv 2) (pe_lst (pa_cons (pe_callB (id := "isinstance") (r := rIsErr K) call_isErr (by rfl) T.z_isinstance (by decide +kernel) (pa_cons (pe_ix ix_seq (pv 4) pe_int (fun _ _ => rfl)) (pa_cons (pe_bltn (v := V.ty "IndexError") (u := Value.type "IndexError") (by rfl) VV.zI (by decide +kernel) rfl) pa_nil))) (pa_cons (pe_callB (id := "isinstance") (r := rIsErr K) call_isErr (by rfl) T.z_isinstance (by decide +kernel) (pa_cons (pe_ix ix_seq (pv 4) pe_int (fun _ _ => rfl)) (pa_cons (pe_bltn (v := V.ty "ArithmeticError") (u := Value.type "ArithmeticError") (by rfl) VV.zA (by decide +kernel) rfl) pa_nil))) pa_nil)))))
      (pss_cons (ps_if (PW.pt (pw_or (pt_cmpR (op_neD hun) (pv 2) (pe_op op_rep (pe_lst (pa_cons pe_bl pa_nil)) pe_int) (nomark _)) (pw_or1 (pt_cmpR (op_neD hun) (pe_lc (own := [("one", 6)]) (g := gName 6) rfl sc_law.nd (pi_list (pv 4)) (blkOk_by (N := ["script", "at", "told", "base", "others", "kept", "one"]) (sc := defScope s_law) (by decide +kernel)) (fun _ _ _ _ _ => (pg_name (i := 6) sc_law.nd rfl (Or.inl rfl))) (fun _ _ _ _ _ => pts_one (pt_val (pe_callB (id := "isinstance") (r := rIsErr K) call_isErr (by rfl) T.z_isinstance (by decide +kernel) (pa_cons (pv 6) (pa_cons (pe_glob (v := V.ref VV.R) rfl VV.r.eb.mg rfl) pa_nil))))) (fun _ _ _ _ _ => (pv 6))) (pe_lst pa_nil) (nomark _)))))
      (pss_one (ps_ret pe_bl))
      pss_nil)
      (pss_cons (ps_set (i := 5) sc_law.nd rfl (Or.inl rfl) (pe_lst (pa_cons (pe_errF (pe_ix ix_seq (pv 4) pe_int (fun _ _ => rfl))) (pa_cons (pe_errF (pe_ix ix_seq (pv 4) pe_int (fun _ _ => rfl))) (pa_cons (pe_errF (pe_ix ix_seq (pv 4) pe_int (fun _ _ => rfl))) (pa_cons (pe_errF (pe_ix ix_seq (pv 4) pe_int (fun _ _ => rfl))) (pa_cons (pe_errF (pe_ix ix_seq (pv 4) pe_int (fun _ _ => rfl))) (pa_cons (pe_errF (pe_ix ix_seq (pv 4) pe_int (fun _ _ => rfl))) pa_nil))))))))
      (pss_one (ps_ret (pe_cmpR (op_eqD hun) (pe_op op_cat (pv 5) (pe_lst (pa_cons (pe_errF (pe_ix ix_seq (pv 3) pe_int (fun _ _ => rfl))) pa_nil))) (pe_lst (pa_cons pe_str (pa_cons pe_int (pa_cons pe_int (pa_cons pe_int (pa_cons pe_str (pa_cons (pe_tup (pa_cons pe_str (pa_cons pe_str (pa_cons pe_int pa_nil)))) (pa_cons pe_int pa_nil)))))))) (nomark _))))))))))))))))), ?_⟩
    refine ⟨_, rfl, _, _, rfl, .inl ⟨_, hS, rfl⟩, _, _, rfl, _, _, rfl, ?_⟩
    have hb := cells_n (ns.map V.int).length 8
    refine ⟨_, rfl, Int.le_trans (by decide) hb.2, Int.lt_of_le_of_lt hb.1 (by decide), ?_⟩
    refine for_range (fun i σ H' => ∃ v, σ = [some (.ref a), v, none, none, none, none, none] ∧ SqL K H' a (ns.map V.int) ∧ Tabs (TT2 P1 P2) H') ⟨none, rfl, hS, hT⟩ ?_ ?_
    · rintro i σ H' hi ⟨v, rfl, hS', hT'⟩
      refine ⟨_, rfl, _, rfl, a, ns, i, congrArg (fun z => [V.ref a, V.int z]) (Int.zero_add _), hS', fun p x y z hp => ?_⟩
      refine ⟨p, rfl, ⟨x, y, z, upd_same⟩, Tabs.ext hT' (Same.new hp), fun H2 O2 T2 => ⟨_, rfl, iteF ?_⟩⟩
      refine ⟨_, rfl, ?_, T2⟩
      rcases hS' with (h | ⟨u, h⟩) | h
      · exact .inl (.inl (O2 _ _ (ne_of_none h hp) ((upd_ne (ne_of_none h hp)).trans h) lst_tbl))
      · exact .inl (.inr ⟨u, O2 _ _ (ne_of_none h hp) ((upd_ne (ne_of_none h hp)).trans h) (by intro _ z; cases z)⟩)
      · exact .inr h
    · rintro σ H0 ⟨v, rfl, hS', hT'⟩
      clear hS hS' hb hT hlen
      refine ⟨hT', fun M1 eN1 TA1 => ?_⟩
      refine ⟨([1, 1, 1, 1, 1, 1, 1, 1, 2, 2, 2, 2, 2, 2, 2, 2] : List Int).map (fun i => (V.int i, PyData.int i)), rfl, Nat.le_of_ble_eq_true rfl, dd_ints, ?_⟩
      refine res_fine rfl (Nat.le_of_ble_eq_true rfl) fun _ N1 S1 => ⟨Nat.le_of_ble_eq_true rfl, fun l hl => ?_⟩
      have T1 := Tabs.ext TA1 (Same.trans S1 (Same.new (o := .lst [.str "fine"]) hl))
      have el1 : (upd N1 l (.lst [.str "fine"])) l = some (.lst [.str "fine"]) := upd_same
      generalize upd N1 l (.lst [.str "fine"]) = G1 at T1 el1 ⊢
      clear hl S1 TA1 eN1 hT'
      refine ⟨_, rfl, .inl ⟨rfl, _, SqL.of el1⟩, T1, fun M2 eN2 TA2 => ?_⟩
      refine ⟨([1, 1, 1, 1, 1, 1, 1, 1, 2, 2, 2, 2, 2, 2, 2, 2, 2] : List Int).map (fun i => (V.int i, PyData.int i)), rfl, Nat.le_of_ble_eq_true rfl, dd_ints, ?_⟩
      refine res_many rfl (by decide) fun d2 N2 S2 e2 => .inr ⟨rfl, d2, rfl, e2, ?_⟩
      have ek2 := S2 _ _ (eN2 _ _ el1 lst_tbl)
      refine ⟨l, _, _, rfl, rfl, ek2, Nat.lt_of_lt_of_le (by decide : _ < 2) (Nat.le_of_ble_eq_true rfl), ?_⟩
      have T2 := tabs_at (o := .lst [.str "fine", .str "many"]) (Tabs.ext TA2 S2) ek2 lst_tbl lst_code
      have el2 : (upd N2 l (.lst [.str "fine", .str "many"])) l = some (.lst [.str "fine", .str "many"]) := upd_same
      generalize hG2 : upd N2 l (.lst [.str "fine", .str "many"]) = G2 at T2 el2
      show _
      rw [show upd N2 l (.lst ([.str "fine"] ++ [.str "many"])) = G2 from hG2]
      clear hG2 ek2 e2 S2 TA2 eN2 T1 el1
      refine ⟨_, rfl, .inl ⟨rfl, _, SqL.of el2⟩, T2, fun M3 eN3 TA3 => ?_⟩
      refine ⟨([1, 1, 1, 1, 1, 1, 1, 1, 2, 2, 2, 2, 2, 2, 2, 2, 0] : List Int).map (fun i => (V.int i, PyData.int i)), rfl, Nat.le_of_ble_eq_true rfl, dd_ints, ?_⟩
      refine res_bad (x := .int 0) rfl fun d3 N3 S3 e3 => .inl ⟨rfl, d3, _, rfl, e3, fun p hp => ?_⟩
      have ek3 := (Same.new (o := .lst [.int 0]) hp) _ _ (S3 _ _ (eN3 _ _ el2 lst_tbl))
      have npl : p ≠ l := fun z => by
        rw [z, S3 _ _ (eN3 _ _ el2 lst_tbl)] at hp
        cases hp
      have ep3 : (upd N3 p (.lst [.int 0])) p = some (.lst [.int 0]) := upd_same
      refine ⟨l, _, _, rfl, rfl, ek3, Nat.lt_of_lt_of_le (by decide : _ < 3) (Nat.le_of_ble_eq_true rfl), ?_⟩
      have T3 := tabs_at (o := .lst [.str "fine", .str "many", .ref p]) (Tabs.ext TA3 (Same.trans S3 (Same.new hp))) ek3 lst_tbl lst_code
      have el3 : (upd (upd N3 p (.lst [.int 0])) l (.lst [.str "fine", .str "many", .ref p])) l = some (.lst [.str "fine", .str "many", .ref p]) := upd_same
      have ep4 : (upd (upd N3 p (.lst [.int 0])) l (.lst [.str "fine", .str "many", .ref p])) p = some (.lst [.int 0]) := (upd_ne npl).trans ep3
      generalize hG3 : upd (upd N3 p (.lst [.int 0])) l (.lst [.str "fine", .str "many", .ref p]) = G3 at T3 el3 ep4
      show _
      rw [show upd (upd N3 p (.lst [.int 0])) l (.lst ([.str "fine", .str "many"] ++ [.ref p])) = G3 from hG3]
      clear hG3 ek3 ep3 npl e3 S3 TA3 eN3 T2 el2 hp
      refine ⟨_, rfl, Nat.le_of_ble_eq_true rfl, fun q1 hq1 => ⟨Nat.le_of_ble_eq_true rfl, fun q2 hq2 => ?_⟩⟩
      have Sq := Same.trans (Same.new (o := .lst [.int 0]) hq1) (Same.new (o := .lst [.str "fine", .str "many", .ref q1]) hq2)
      have eq1 : (upd (upd G3 q1 (.lst [.int 0])) q2 (.lst [.str "fine", .str "many", .ref q1])) q1 = some (.lst [.int 0]) := (Same.new hq2) _ _ upd_same
      refine ⟨.list [.str "fine", .str "many", .list [.int 0]], .list [.str "fine", .str "many", .list [.int 0]], .lst (SqL.of (Sq _ _ el3)) (.cons (.str _) (.cons (.str _) (.cons (.lst (SqL.of (Sq _ _ ep4)) (.cons (.int 0) .nil)) .nil))),
        .lst (SqL.of upd_same) (.cons (.str _) (.cons (.str _) (.cons (.lst (SqL.of eq1) (.cons (.int 0) .nil)) .nil))), by decide +kernel, by decide +kernel, false, congrArg V.bl (by decide +kernel), iteF ?_⟩
      clear Sq eq1 T3 el3 ep4
      generalize upd (upd G3 q1 (.lst [.int 0])) q2 (.lst [.str "fine", .str "many", .ref q1]) = G4
      refine ⟨Nat.le_of_ble_eq_true rfl, fun a1 n1 => er_val VV.o.eb n1 fun H1 S1 e1 => ?_⟩
      refine ⟨Nat.le_of_ble_eq_true rfl, fun a2 n2 => er_val (v := .non) VV.l.eb n2 fun H2 S2 e2 => ?_⟩
      refine ⟨Nat.le_of_ble_eq_true rfl, fun t3 ht3 => ⟨Nat.le_of_ble_eq_true rfl, fun a3 n3 => er_val VV.h.eb n3 fun H3 S3 e3 => ?_⟩⟩
      refine ⟨Nat.le_of_ble_eq_true rfl, fun a4 n4 => er_val VV.s.eb n4 fun H4 S4 e4 => ?_⟩
      refine ⟨Nat.le_of_ble_eq_true rfl, fun a5 n5 => er_val (v := .non) VV.w.eb n5 fun H5 S5 e5 => ?_⟩
      have r5 := ((((RndL.nil.snoc (Same.refl _) (VV.o.rnd e1)).snoc S2 (VV.l.rnd e2)).snoc (Same.trans (Same.new (o := .tup [.int 1]) ht3) S3) (VV.h.rnd e3)).snoc S4 (VV.s.rnd e4)).snoc S5 (VV.w.rnd e5)
      clear e1 e2 e3 e4 e5 S1 S2 S3 S4 S5 n1 n2 n3 n4 n5 ht3
      refine ⟨Nat.le_of_ble_eq_true rfl, fun b1 hb1 => ?_⟩
      have r5 := r5.same (Same.new (o := .lst [.ref a1, .ref a2, .ref a3, .ref a4, .ref a5]) hb1)
      have eb1 : (upd H5 b1 (.lst [.ref a1, .ref a2, .ref a3, .ref a4, .ref a5])) b1 = some (.lst [.ref a1, .ref a2, .ref a3, .ref a4, .ref a5]) := upd_same
      generalize upd H5 b1 (.lst [.ref a1, .ref a2, .ref a3, .ref a4, .ref a5]) = G5 at r5 eb1 ⊢
      refine ⟨_, rfl, Nat.le_of_ble_eq_true rfl, fun a6 n6 => er_val VV.j.eb n6 fun H6 S6 e6 => ?_⟩
      refine ⟨Nat.le_of_ble_eq_true rfl, fun a7 n7 => er_val VV.a.eb n7 fun H7 S7 e7 => ?_⟩
      refine ⟨Nat.le_of_ble_eq_true rfl, fun a8 n8 => er_valP VV.p.eb VV.pt n8 fun H8 S8 e8 => ?_⟩
      refine ⟨Nat.le_of_ble_eq_true rfl, fun a9 n9 => er_val (v := .non) VV.r.eb n9 fun H9 S9 e9 => ?_⟩
      refine ⟨Nat.le_of_ble_eq_true rfl, fun a0 n0 => er_val VV.r.eb n0 fun H10 S10 e10 => ?_⟩
      have r10 := ((((r5.snoc S6 (VV.j.rnd e6)).snoc S7 (VV.a.rnd e7)).snoc S8 (VV.p.rnd e8)).snoc S9 (VV.r.rnd e9)).snoc S10 (VV.r.rnd e10)
      have x8 := ErrAt.same (Same.trans S9 S10) e8
      have eb2 := (Same.trans S6 (Same.trans S7 (Same.trans S8 (Same.trans S9 S10)))) _ _ eb1
      clear e6 e7 e8 e9 e10 S6 S7 S8 S9 S10 n6 n7 n8 n9 n0 r5 eb1
      refine ⟨Nat.le_of_ble_eq_true rfl, fun b2 hb2 => ?_⟩
      have Sb2 := Same.new (o := .lst [.ref a6, .ref a7, .ref a8, .ref a9, .ref a0]) hb2
      refine ⟨b1, b2, _, _, rfl, rfl, Sb2 _ _ eb2, upd_same, Nat.le_of_ble_eq_true rfl, fun b3 hb3 => ?_⟩
      have Sb3 := Same.trans Sb2 (Same.new (o := .lst [.ref a1, .ref a2, .ref a3, .ref a4, .ref a5, .ref a6, .ref a7, .ref a8, .ref a9, .ref a0]) hb3)
      have r10 := r10.same Sb3
      have x8 := ErrAt.same Sb3 x8
      have eb3 : (upd (upd H10 b2 (.lst [.ref a6, .ref a7, .ref a8, .ref a9, .ref a0])) b3 (.lst [.ref a1, .ref a2, .ref a3, .ref a4, .ref a5, .ref a6, .ref a7, .ref a8, .ref a9, .ref a0])) b3 = some (.lst [.ref a1, .ref a2, .ref a3, .ref a4, .ref a5, .ref a6, .ref a7, .ref a8, .ref a9, .ref a0]) := upd_same
      generalize hG6 : upd (upd H10 b2 (.lst [.ref a6, .ref a7, .ref a8, .ref a9, .ref a0])) b3 (.lst [.ref a1, .ref a2, .ref a3, .ref a4, .ref a5, .ref a6, .ref a7, .ref a8, .ref a9, .ref a0]) = G6 at r10 x8 eb3
      show _
      rw [show upd (upd H10 b2 (.lst [.ref a6, .ref a7, .ref a8, .ref a9, .ref a0])) b3 (.lst ([.ref a1, .ref a2, .ref a3, .ref a4, .ref a5] ++ [.ref a6, .ref a7, .ref a8, .ref a9, .ref a0])) = G6 from hG6]
      clear hG6 Sb3 Sb2 eb2 hb3 hb2
      refine ⟨_, rfl, b3, rfl, ⟨_, SqL.of eb3⟩, fun D hD => ?_⟩
      refine lc_list (K := K) (a := b3) (xs := [.ref a1, .ref a2, .ref a3, .ref a4, .ref a5, .ref a6, .ref a7, .ref a8, .ref a9, .ref a0]) (fun i H' => H' D = some (.lst []) ∧ Same G6 H') ⟨upd_same, Same.new hD⟩ (fun i H' _ ⟨_, S⟩ => S.seq (SqL.of eb3)) ?_ ?_
      · rintro i x H' hx ⟨eD, S⟩
        obtain ⟨C9, fs9, e9, q1, q2, q3⟩ := r10 x (List.mem_of_getElem? hx)
        refine ⟨rfl, ?_⟩
        refine ⟨_, rfl, x, _, _, C9, fs9, true, rfl, .own _, ErrAt.same S e9, q1, q2, _, rfl, iteF ?_⟩
        refine ⟨_, rfl, x, _, _, C9, fs9, true, rfl, .ty _, ErrAt.same S e9, q1, q3, _, rfl, ?_⟩
        exact iteF ⟨eD, S⟩
      rintro H7 ⟨eD, S7⟩
      refine ⟨Nat.le_of_ble_eq_true rfl, fun c1 hc1 => ?_⟩
      have Sc1 := Same.new (o := .lst []) hc1
      refine ⟨.list [], .list [], .lst (SqL.of (Sc1 _ _ eD)) .nil, .lst (SqL.of upd_same) .nil, by decide +kernel, by decide +kernel, false, congrArg V.bl (by decide +kernel), iteF ?_⟩
      have x8 := ErrAt.same (Same.trans S7 Sc1) x8
      have eb3 := (Same.trans S7 Sc1) _ _ eb3
      clear r10 S7 Sc1 eD hD
      generalize upd H7 c1 (.lst []) = G7 at x8 eb3 ⊢
      refine ⟨Nat.le_of_ble_eq_true rfl, fun y1 n1 => er_val VV.u.eb n1 fun H1 S1 e1 => ?_⟩
      refine ⟨Nat.le_of_ble_eq_true rfl, fun y2 n2 => er_val VV.n.eb n2 fun H2 S2 e2 => ?_⟩
      refine ⟨Nat.le_of_ble_eq_true rfl, fun y3 n3 => er_val VV.m.eb n3 fun H3 S3 e3 => ?_⟩
      refine ⟨Nat.le_of_ble_eq_true rfl, fun y4 n4 => er_val VV.t.eb n4 fun H4 S4 e4 => ?_⟩
      refine ⟨Nat.le_of_ble_eq_true rfl, fun tt ht => ⟨Nat.le_of_ble_eq_true rfl, fun y5 n5 => er_valB VV.b.eb VV.bn n5 fun H5 S5 e5 => ?_⟩⟩
      refine ⟨Nat.le_of_ble_eq_true rfl, fun lo hlo => ?_⟩
      have SL := Same.new (o := .lst [.ref y1, .ref y2, .ref y3, .ref y4, .ref y5]) hlo
      have ett := SL _ _ (S5 _ _ ((upd_same : (upd H4 tt (.tup [.str "start", .str "a", .int 1])) tt = some (.tup [.str "start", .str "a", .int 1]))))
      have St := Same.trans (Same.new (o := .tup [.str "start", .str "a", .int 1]) ht) S5
      have e1 := ErrAt.same (Same.trans S2 (Same.trans S3 (Same.trans S4 (Same.trans St SL)))) e1
      have e2 := ErrAt.same (Same.trans S3 (Same.trans S4 (Same.trans St SL))) e2
      have e3 := ErrAt.same (Same.trans S4 (Same.trans St SL)) e3
      have e4 := ErrAt.same (Same.trans St SL) e4
      have e5 := ErrAt.same SL e5
      have SA := Same.trans S1 (Same.trans S2 (Same.trans S3 (Same.trans S4 (Same.trans St SL))))
      have x8 := ErrAt.same SA x8
      have eb3 := SA _ _ eb3
      have elo : (upd H5 lo (.lst [.ref y1, .ref y2, .ref y3, .ref y4, .ref y5])) lo = some (.lst [.ref y1, .ref y2, .ref y3, .ref y4, .ref y5]) := upd_same
      clear SA SL St S1 S2 S3 S4 S5 n1 n2 n3 n4 n5 ht hlo hc1
      generalize upd H5 lo (.lst [.ref y1, .ref y2, .ref y3, .ref y4, .ref y5]) = G8 at e1 e2 e3 e4 e5 x8 eb3 elo ett ⊢
      refine ⟨_, rfl, .inl ⟨_, _, _, _, rfl, rfl, SqL.of elo, rfl, ?_⟩⟩
      refine ⟨_, _, _, _, _, true, rfl, .ty _, e1, VV.u.ec, VV.u.kt, ?_⟩
      refine ⟨_, rfl, .inl ⟨_, _, _, _, rfl, rfl, SqL.of elo, rfl, ?_⟩⟩
      refine ⟨_, _, _, _, _, true, rfl, .ty _, e2, VV.n.ec, VV.n.kt, ?_⟩
      refine ⟨_, rfl, .inl ⟨_, _, _, _, rfl, rfl, SqL.of elo, rfl, ?_⟩⟩
      refine ⟨_, _, _, _, _, true, rfl, .ty _, e3, VV.m.ec, VV.m.kt, ?_⟩
      refine ⟨Nat.le_of_ble_eq_true rfl, fun k1 hk1 => ?_⟩
      have S1 := Same.new (o := .lst [.bl true, .bl true, .bl true]) hk1
      refine ⟨_, rfl, ?_⟩
      refine ⟨_, rfl, .inl ⟨_, _, _, _, rfl, rfl, SqL.of (S1 _ _ elo), rfl, ?_⟩⟩
      refine ⟨_, _, _, _, _, true, rfl, .ty _, ErrAt.same S1 e4, VV.t.ec, VV.t.kt, ?_⟩
      refine ⟨_, rfl, .inl ⟨_, _, _, _, rfl, rfl, SqL.of (S1 _ _ elo), rfl, ?_⟩⟩
      refine ⟨_, _, _, _, _, true, rfl, .ty _, ErrAt.same S1 e5, VV.b.ec, VV.b.kt, ?_⟩
      refine ⟨Nat.le_of_ble_eq_true rfl, fun k2 hk2 => ?_⟩
      have S2 := Same.new (o := .lst [.bl true, .bl true]) hk2
      refine ⟨k1, k2, _, _, rfl, rfl, S2 _ _ upd_same, upd_same, Nat.le_of_ble_eq_true rfl, fun k3 hk3 => ?_⟩
      have S3 := Same.trans S1 (Same.trans S2 (Same.new (o := .lst ([.bl true, .bl true, .bl true] ++ [.bl true, .bl true])) hk3))
      have ek3 : (upd (upd (upd G8 k1 (.lst [.bl true, .bl true, .bl true])) k2 (.lst [.bl true, .bl true])) k3 (.lst ([.bl true, .bl true, .bl true] ++ [.bl true, .bl true]))) k3 = some (.lst [.bl true, .bl true, .bl true, .bl true, .bl true]) := upd_same
      generalize upd (upd (upd G8 k1 (.lst [.bl true, .bl true, .bl true])) k2 (.lst [.bl true, .bl true])) k3 (.lst ([.bl true, .bl true, .bl true] ++ [.bl true, .bl true])) = G9 at S3 ek3 ⊢
      clear S1 S2 hk1 hk2 hk3
      refine ⟨_, rfl, Nat.le_of_ble_eq_true rfl, fun k4 hk4 => ?_⟩
      refine ⟨_, _, _, rfl, rfl, upd_same, by decide, by decide, Nat.le_of_ble_eq_true rfl, fun k5 hk5 => ?_⟩
      have S5 := Same.trans (Same.new (o := .lst [.bl true]) hk4) (Same.new (o := .lst (List.replicate (5 : Int).toNat [V.bl true]).flatten) hk5)
      have ek5 : (upd (upd G9 k4 (.lst [.bl true])) k5 (.lst (List.replicate (5 : Int).toNat [V.bl true]).flatten)) k5 = some (.lst [.bl true, .bl true, .bl true, .bl true, .bl true]) := upd_same
      refine ⟨.list [.bool true, .bool true, .bool true, .bool true, .bool true], .list [.bool true, .bool true, .bool true, .bool true, .bool true],
        .lst (SqL.of (S5 _ _ ek3)) (.cons (.bl _) (.cons (.bl _) (.cons (.bl _) (.cons (.bl _) (.cons (.bl _) .nil))))), .lst (SqL.of ek5) (.cons (.bl _) (.cons (.bl _) (.cons (.bl _) (.cons (.bl _) (.cons (.bl _) .nil))))), by decide +kernel, by decide +kernel, false, congrArg V.bl (by decide +kernel), iteF ?_⟩
      have S6 := Same.trans S3 S5
      generalize upd (upd G9 k4 (.lst [.bl true])) k5 (.lst (List.replicate (5 : Int).toNat [V.bl true]).flatten) = GA at S6 ⊢
      clear S5 S3 ek5 ek3 hk4 hk5
      have elo := S6 _ _ elo
      have eb3 := S6 _ _ eb3
      have ett := S6 _ _ ett
      have e1 := ErrAt.same S6 e1
      have e2 := ErrAt.same S6 e2
      have e3 := ErrAt.same S6 e3
      have e4 := ErrAt.same S6 e4
      have e5 := ErrAt.same S6 e5
      have x8 := ErrAt.same S6 x8
      clear S6
      have nr : ∀ x ∈ [V.ref y1, .ref y2, .ref y3, .ref y4, .ref y5], ∃ (C : Addr) (fs : List (Str × V)), ErrAt K GA x C fs ∧ ExcC K C ∧ PySem.W.kitOne K (.ref C) (.ref VV.R) = some false := fun x hx => by
        simp only [List.mem_cons, List.not_mem_nil, or_false] at hx
        rcases hx with rfl | rfl | rfl | rfl | rfl
        · exact ⟨_, _, e1, VV.u.ec, VV.u.kr⟩
        · exact ⟨_, _, e2, VV.n.ec, VV.n.kr⟩
        · exact ⟨_, _, e3, VV.m.ec, VV.m.kr⟩
        · exact ⟨_, _, e4, VV.t.ec, VV.t.kr⟩
        · exact ⟨_, _, e5, VV.b.ec, VV.b.kr⟩
      refine ⟨_, rfl, lo, rfl, ⟨_, SqL.of elo⟩, fun D hD => ?_⟩
      refine lc_list (K := K) (a := lo) (xs := [.ref y1, .ref y2, .ref y3, .ref y4, .ref y5]) (fun i H' => H' D = some (.lst []) ∧ Same GA H') ⟨upd_same, Same.new hD⟩ (fun i H' _ ⟨_, S⟩ => S.seq (SqL.of elo)) ?_ ?_
      · rintro i x H' hx ⟨eD, S⟩
        obtain ⟨C9, fs9, e9, q1, q2⟩ := nr x (List.mem_of_getElem? hx)
        refine ⟨rfl, ?_⟩
        refine ⟨_, rfl, x, _, _, C9, fs9, false, rfl, .own _, ErrAt.same S e9, q1, q2, _, rfl, ?_⟩
        exact iteF ⟨eD, S⟩
      rintro H7 ⟨eD, S7⟩
      refine ⟨Nat.le_of_ble_eq_true rfl, fun c1 hc1 => ?_⟩
      have Sc1 := Same.new (o := .lst []) hc1
      refine ⟨.list [], .list [], .lst (SqL.of (Sc1 _ _ eD)) .nil, .lst (SqL.of upd_same) .nil, by decide +kernel, by decide +kernel, false, congrArg V.bl (by decide +kernel), iteF ?_⟩
      have S6 := Same.trans S7 Sc1
      generalize upd H7 c1 (.lst []) = GB at S6 ⊢
      have elo := S6 _ _ elo
      have eb3 := S6 _ _ eb3
      have ett := S6 _ _ ett
      have e1 := ErrAt.same S6 e1
      have e2 := ErrAt.same S6 e2
      have e3 := ErrAt.same S6 e3
      have e4 := ErrAt.same S6 e4
      have e5 := ErrAt.same S6 e5
      have x8 := ErrAt.same S6 x8
      clear S6 nr
      refine ⟨_, rfl, .inl ⟨_, _, _, _, rfl, rfl, SqL.of elo, rfl, ?_⟩⟩
      refine ⟨_, _, _, e1, VV.u.xf, VV.u.eb.no, rfl, ?_⟩
      refine ⟨_, rfl, .inl ⟨_, _, _, _, rfl, rfl, SqL.of elo, rfl, ?_⟩⟩
      refine ⟨_, _, _, e2, VV.n.xf, VV.n.eb.no, rfl, ?_⟩
      refine ⟨_, rfl, .inl ⟨_, _, _, _, rfl, rfl, SqL.of elo, rfl, ?_⟩⟩
      refine ⟨_, _, _, e3, VV.m.xf, VV.m.eb.no, rfl, ?_⟩
      refine ⟨_, rfl, .inl ⟨_, _, _, _, rfl, rfl, SqL.of elo, rfl, ?_⟩⟩
      refine ⟨_, _, _, e4, VV.t.xf, VV.t.eb.no, rfl, ?_⟩
      refine ⟨_, rfl, .inl ⟨_, _, _, _, rfl, rfl, SqL.of elo, rfl, ?_⟩⟩
      refine ⟨_, _, _, e5, VV.b.xf, VV.b.eb.no, rfl, ?_⟩
      refine ⟨_, rfl, .inl ⟨_, _, _, _, rfl, rfl, SqL.of elo, rfl, ?_⟩⟩
      refine ⟨_, _, _, e5, VV.b.xf, VV.bn, rfl, ?_⟩
      refine ⟨Nat.le_of_ble_eq_true rfl, fun w1 hw1 => ?_⟩
      have W1 := Same.new (o := .lst [.str "a", .int 3, .int 4, .int 2, .str "start", .ref tt]) hw1
      refine ⟨_, rfl, ?_⟩
      refine ⟨_, rfl, .inl ⟨_, _, _, _, rfl, rfl, SqL.of (W1 _ _ eb3), rfl, ?_⟩⟩
      refine ⟨_, _, _, ErrAt.same W1 x8, VV.p.xf, VV.p.eb.no, rfl, ?_⟩
      refine ⟨Nat.le_of_ble_eq_true rfl, fun w2 hw2 => ?_⟩
      have W2 := Same.new (o := .lst [.int 7]) hw2
      refine ⟨w1, w2, _, _, rfl, rfl, W2 _ _ upd_same, upd_same, Nat.le_of_ble_eq_true rfl, fun w3 hw3 => ?_⟩
      have W3 := Same.new (o := .lst ([.str "a", .int 3, .int 4, .int 2, .str "start", .ref tt] ++ [.int 7])) hw3
      have ew3 : (upd (upd (upd GB w1 (.lst [.str "a", .int 3, .int 4, .int 2, .str "start", .ref tt])) w2 (.lst [.int 7])) w3 (.lst ([.str "a", .int 3, .int 4, .int 2, .str "start", .ref tt] ++ [.int 7]))) w3 = some (.lst [.str "a", .int 3, .int 4, .int 2, .str "start", .ref tt, .int 7]) := upd_same
      have ew4 := W3 _ _ (W2 _ _ (W1 _ _ ett))
      generalize upd (upd (upd GB w1 (.lst [.str "a", .int 3, .int 4, .int 2, .str "start", .ref tt])) w2 (.lst [.int 7])) w3 (.lst ([.str "a", .int 3, .int 4, .int 2, .str "start", .ref tt] ++ [.int 7])) = GC at ew3 ew4 ⊢
      refine ⟨Nat.le_of_ble_eq_true rfl, fun w5 hw5 => ⟨Nat.le_of_ble_eq_true rfl, fun w6 hw6 => ?_⟩⟩
      have W6 := Same.new (o := .lst [.str "a", .int 3, .int 4, .int 2, .str "start", .ref w5, .int 7]) hw6
      have W5 := Same.trans (Same.new (o := .tup [.str "start", .str "a", .int 1]) hw5) W6
      refine ⟨.list [.str "a", .int 3, .int 4, .int 2, .str "start", .tuple [.str "start", .str "a", .int 1], .int 7], .list [.str "a", .int 3, .int 4, .int 2, .str "start", .tuple [.str "start", .str "a", .int 1], .int 7],
        .lst (SqL.of (W5 _ _ ew3)) (.cons (.str _) (.cons (.int _) (.cons (.int _) (.cons (.int _) (.cons (.str _) (.cons (.tup (SqT.of (W5 _ _ ew4)) (.cons (.str _) (.cons (.str _) (.cons (.int _) .nil)))) (.cons (.int _) .nil))))))),
        .lst (SqL.of upd_same) (.cons (.str _) (.cons (.int _) (.cons (.int _) (.cons (.int _) (.cons (.str _) (.cons (.tup (SqT.of (W6 _ _ upd_same)) (.cons (.str _) (.cons (.str _) (.cons (.int _) .nil)))) (.cons (.int _) .nil))))))), by decide +kernel, by decide +kernel, bl_to (by decide +kernel : _ = true) (k _)⟩
end
end K04
namespace K04
open PySem L2
section
variable {P : Program} {w : World} {K : PySem.W.Frag}
    {mg : Str → Option Value} {base : Heap}
/-! ### the law's call, of a promise that is kept where nothing is being told of itself -/
section
open PySem.Spec PyProof.Rows LamX
variable {P : Program} {w : World} {K : PySem.W.Frag} {mg mb : Str → Option Value} {CX : CXT} {k : Nat} {fa a : Addr} {cs : List (Addr × Addr)} {fd : FuncData} {x : Str} {sp : Sp} {s1 : Shared} {vs : List Value} {ns : List Int}
/-- the heap ahead of the call, with the script and the tables -/
structure Ahead (K : PySem.W.Frag) (mg mb : Str → Option Value) (cs : List (Addr × Addr)) (a : Addr) (vs : List Value) (s1 : Shared) : Prop where
  kin : K.In s1.heap
  glob : s1.heap.Ns mainGlobals mg
  blt : s1.heap.Ns builtinsNs mb
  boot : ∀ y : Str, y ≠ "__name__" → mb y = bootBuiltins y
  lim : s1.heap.NoLimit
  gens : s1.gens = #[]
  tab : ∀ p ∈ cs, s1.heap.get? p.2 = some { cls := .none, data := .fields #[] }
  offK : ∀ p ∈ cs, K.lookup p.2 = none
  code : ∀ p ∈ cs, PySem.W.CodeHd s1.heap p.1 p.2
  main : ∃ (bm : Addr) (ob : Obj), mg "__builtins__" = some (.ref bm) ∧ bm ≠ builtinsNs ∧ s1.heap.get? bm = some ob ∧ ob.cls = .type "module" ∧ ob.dict = some builtinsNs ∧ ob.data = .plain
  scr : s1.heap.get? a = some { cls := .type "list", data := .seq vs.toArray }
/-- what is tracked: the script at most, and the tables -/
structure Seen (K : PySem.W.Frag) (cs : List (Addr × Addr)) (a : Addr) (H : Hp) : Prop where
  tbl : ∀ p ∈ cs, H p.2 = some (.tbl #[])
  kind : ∀ b, H b = none ∨ (∃ p ∈ cs, p.2 = b) ∨ ∃ o xs, H b = some (.frz o (.lst xs))
  none_ : ∀ b, H b ≠ none → b = a ∨ ∃ p ∈ cs, p.2 = b
  scrK : H a ≠ none → K.lookup a = none
theorem Ahead.free {H : Hp} (h : Ahead K mg mb cs a vs s1) (z : Seen K cs a H) {b : Addr} {o : Obj} (e : s1.heap.get? b = some o) (n1 : ∀ us n, o.data ≠ .seq us n) (n2 : o.data ≠ .fields #[]) : H b = none := by
  cases q : H b with
  | none => rfl
  | some u =>
    rcases z.none_ b (by rw [q]; simp) with rfl | ⟨p, hp, rfl⟩
    · rw [h.scr] at e
      cases e
      exact absurd rfl (n1 _ _)
    · rw [h.tab p hp] at e
      cases e
      exact absurd rfl n2
theorem Ahead.dict {H : Hp} (h : Ahead K mg mb cs a vs s1) (z : Seen K cs a H) {b : Addr} {o : Obj} {es : Array DictEntry} {ep : Nat} (e : s1.heap.get? b = some o) (d : o.data = .dict es ep) : H b = none := by
  refine h.free z e (fun us n y => ?_) fun y => ?_
  · rw [d] at y
    cases y
  · rw [d] at y
    cases y
theorem Ahead.nsp {H : Hp} (h : Ahead K mg mb cs a vs s1) (z : Seen K cs a H) {b : Addr} {m : Str → Option Value} (y : s1.heap.Ns b m) : (hidT s1.heap H).Ns b m := by
  obtain ⟨o, es, ep, e, d, r⟩ := y
  exact ⟨o, es, ep, hidT_get e (h.dict z e d), d, r⟩
theorem Ahead.inK {H : Hp} (h : Ahead K mg mb cs a vs s1) (z : Seen K cs a H) : K.In (hidT s1.heap H) := fun b o e => by
  refine hidT_get (h.kin b o e) ?_
  cases q : H b with
  | none => rfl
  | some u =>
    rcases z.none_ b (by rw [q]; simp) with rfl | ⟨p, hp, rfl⟩
    · rw [z.scrK (by rw [q]; simp)] at e
      cases e
    · rw [h.offK p hp] at e
      cases e
theorem Ahead.mod {H : Hp} (h : Ahead K mg mb cs a vs s1) (z : Seen K cs a H) : L2.Mod K mg (hidT s1.heap H) := by
  obtain ⟨mc, h1, h2⟩ := h.lim
  exact ⟨h.inK z, h.nsp z h.glob, ⟨mb, h.nsp z h.blt, h.boot⟩, mc, h.nsp z h1, h2⟩
theorem Ahead.tabB {H : Hp} (h : Ahead K mg mb cs a vs s1) (z : Seen K cs a H) : ∀ p ∈ cs, TabB (hidT s1.heap H) mg p.1 p.2 := fun p hp => by
  have tp := h.tab p hp
  obtain ⟨oG, esG, epG, eG, dG, _⟩ := h.glob
  refine ⟨?_, ?_, fun y => ?_⟩
  · obtain ⟨o, us, f1, f2, g1, g2, inF, t1, t2, e1, r1, r2, r3, r4, r5, r6, r7, r8, r9⟩ := h.code p hp
    refine ⟨o, us, f1, f2, g1, g2, inF, t1, t2, hidT_get e1 (h.free z e1 (fun v n y => ?_) fun y => ?_), r1, r2, r3, r4, r5, r6, r7, r8, r9⟩
    · rw [r2] at y
      cases y
    · rw [r2] at y
      cases y
      simp at r3
  · obtain ⟨bm, ob, b1, b2, b3, b4, b5, b6⟩ := h.main
    refine ⟨bm, ob, b1, b2, fun y => ?_, fun y => ?_, hidT_get b3 (h.free z b3 (fun v n y => ?_) fun y => ?_), b4, b5, b6⟩
    · rw [y, eG] at b3
      cases b3
      rw [dG] at b6
      cases b6
    · rw [y, tp] at b3
      cases b3
      cases b6
    · rw [b6] at y
      cases y
    · rw [b6] at y
      cases y
  · rw [y, tp] at eG
    cases eG
    cases dG
theorem Ahead.run {H : Hp} (h : Ahead K mg mb cs a vs s1) (z : Seen K cs a H) (hok : HOk P w H s1.heap) (hr : Room k callerA) (F : ∀ base : Heap, K.In base → base.Ns mainGlobals mg → (∀ p ∈ cs, TabB base mg p.1 p.2) → FnG P w K mg base CX k fa fd [x] sp)
    (hbind : ∀ (s : Shared) (u : Value), BindsTo s fd ⟨[u], []⟩ [(x, u)]) (hsp : sp [.ref a] H (fun v _ => v = .bl true) fun _ _ _ => False) (hCX : ∀ e s', CX [] H s1 (fun _ _ _ => False) e s' → False) :
    codeAny (model P w) callerA (.call (.ref fa) ⟨[.ref a], []⟩) (fun r s' => r = .ok (.ret (.bool true)) ∧ OldK s1.heap s'.heap ∧ s'.os = s1.os ∧ AllBare s'.gens) s1 := by
  have e0 : Env0 P w K mg (hidT s1.heap H) callerA [] s1 H :=
    ⟨rfl, h.mod z, fun b o e => of_hidT e, Nat.le_of_eq (hidT_size _ _), trivial, fun b hb => absurd (show b ∈ ([] : List Addr) from hb) (by simp), hok, .of_eq h.gens⟩
  have go := (F _ (h.inK z) (h.nsp z h.glob) (h.tabB z)).run callerA [] s1 H ⟨[.ref a], []⟩ [.ref a] [.ref a] _ _ rfl hr e0 (hbind s1 (.ref a)) (.cons rfl .nil) hsp
  refine codeAny_mono go fun r s' y => ?_
  cases r with
  | error e => exact (hCX e s' y).elim
  | ok fl =>
    cases fl with
    | next => exact False.elim y
    | brk => exact False.elim y
    | cont => exact False.elim y
    | ret u =>
      obtain ⟨v, H', os, bare, un, hok', rv, q⟩ := y
      cases (show v = V.bl true from q)
      cases (show u = Value.bool true from rv)
      have there : ∀ p ∈ cs, ∃ more : Array Value, s'.heap.get? p.2 = some { cls := .none, data := .fields more } := fun p hp => by
        obtain ⟨more, q⟩ := un.tbls p.2 #[] (z.tbl p hp)
        exact ⟨_, hok' p.2 _ q⟩
      have same : ∀ b o, (¬ ∃ p ∈ cs, p.2 = b) → s1.heap.get? b = some o → s'.heap.get? b = some o := fun b o nb e => by
        rcases z.kind b with q | q | ⟨ob, xs, q⟩
        · exact un.keep b o e q (by intro y; exact absurd (show b ∈ ([] : List Addr) from y) (by simp)) (by simp)
        · exact absurd q nb
        · obtain ⟨e1, _⟩ := hok b _ q
          obtain ⟨e2, _⟩ := hok' b _ (un.frzs b ob _ q)
          rw [e] at e1
          cases e1
          exact e2
      refine ⟨rfl, ⟨fun b o e => ?_, fun b o e => ?_⟩, os, bare⟩
      · by_cases c : ∃ p ∈ cs, p.2 = b
        · obtain ⟨p, hp, rfl⟩ := c
          obtain ⟨more, hm⟩ := there p hp
          rw [h.tab p hp] at e
          cases e
          exact .inr (.inl ⟨((h.code p hp).tab (h.tab p hp)).isCodeTable, rfl, #[], more, rfl, by rw [Array.empty_append]; exact hm⟩)
        · exact .inl (same b o c e)
      · by_cases c : ∃ p ∈ cs, p.2 = b
        · obtain ⟨p, hp, rfl⟩ := c
          obtain ⟨more, hm⟩ := there p hp
          exact ⟨_, hm⟩
        · exact ⟨o, same b o c e⟩
/-- the two ways of tracking -/
theorem Ahead.call (h : Ahead K mg mb cs a vs s1) (hi : IntsAre vs ns) (hl : ns.length ≤ sizeLine) (hr : Room k callerA) (F : ∀ base : Heap, K.In base → base.Ns mainGlobals mg → (∀ p ∈ cs, TabB base mg p.1 p.2) → FnG P w K mg base CX k fa fd [x] sp)
    (hbind : ∀ (s : Shared) (u : Value), BindsTo s fd ⟨[u], []⟩ [(x, u)]) (hsp : ∀ H : Hp, (∀ p ∈ cs, H p.2 = some (.tbl #[])) → SqL K H a (ns.map V.int) → sp [.ref a] H (fun v _ => v = .bl true) fun _ _ _ => False)
    (hCX : ∀ H e s', CX [] H s1 (fun _ _ _ => False) e s' → False) :
    codeAny (model P w) callerA (.call (.ref fa) ⟨[.ref a], []⟩) (fun r s' => r = .ok (.ret (.bool true)) ∧ OldK s1.heap s'.heap ∧ s'.os = s1.os ∧ AllBare s'.gens) s1 := by
  classical
  have rv := vals_ints hi
  have off : ¬ ∃ p ∈ cs, p.2 = a := fun ⟨p, hp, e⟩ => by
    have q := h.tab p hp
    rw [e, h.scr] at q
    have q2 : Data.seq vs.toArray _ = Data.fields #[] := congrArg Obj.data (Option.some.inj q)
    cases q2
  let o : HO := .frz { cls := .type "list", data := .seq vs.toArray } (.lst (ns.map V.int))
  cases hk : K.lookup a with
  | some oa =>
    have e := h.kin a oa hk
    rw [h.scr] at e
    cases e
    let H : Hp := fun b => if ∃ p ∈ cs, p.2 = b then some (.tbl #[]) else none
    have Ht : ∀ p ∈ cs, H p.2 = some (.tbl #[]) := fun p hp => if_pos ⟨p, hp, rfl⟩
    have Hn : ∀ {b}, (¬ ∃ p ∈ cs, p.2 = b) → H b = none := fun c => if_neg c
    refine h.run (H := H) ⟨Ht, fun b => ?_, fun b y => ?_, fun y => absurd (Hn off) y⟩ (fun b u q => ?_) hr F hbind (hsp H Ht (.inr ⟨_, vs.toArray, _, hk, rfl, rfl, rfl, by rw [List.size_toArray, hi.length]; exact hl, by simpa using rv⟩)) fun e s' => hCX H e s'
    · by_cases c : ∃ p ∈ cs, p.2 = b
      · exact .inr (.inl c)
      · exact .inl (Hn c)
    · by_cases c : ∃ p ∈ cs, p.2 = b
      · exact .inr c
      · exact absurd (Hn c) y
    · by_cases c : ∃ p ∈ cs, p.2 = b
      · obtain ⟨p, hp, rfl⟩ := c
        rw [Ht p hp] at q
        cases q
        exact h.tab p hp
      · rw [Hn c] at q
        cases q
  | none =>
    let H : Hp := fun b => if b = a then some o else if ∃ p ∈ cs, p.2 = b then some (.tbl #[]) else none
    have Ha : H a = some o := if_pos rfl
    have Ht : ∀ p ∈ cs, H p.2 = some (.tbl #[]) := fun p hp => (if_neg (fun y => off ⟨p, hp, y⟩)).trans (if_pos ⟨p, hp, rfl⟩)
    have Hn : ∀ {b}, b ≠ a → (¬ ∃ p ∈ cs, p.2 = b) → H b = none := fun n c => (if_neg n).trans (if_neg c)
    refine h.run (H := H) ⟨Ht, fun b => ?_, fun b y => ?_, fun _ => hk⟩ (fun b u q => ?_) hr F hbind (hsp H Ht (.inl (.inr ⟨_, Ha⟩))) fun e s' => hCX H e s'
    · by_cases n : b = a
      · exact .inr (.inr ⟨_, _, by rw [n]; exact Ha⟩)
      · by_cases c : ∃ p ∈ cs, p.2 = b
        · exact .inr (.inl c)
        · exact .inl (Hn n c)
    · by_cases n : b = a
      · exact .inl n
      · by_cases c : ∃ p ∈ cs, p.2 = b
        · exact .inr c
        · exact absurd (Hn n c) y
    · by_cases n : b = a
      · rw [n, Ha] at q
        cases q
        rw [n]
        exact ⟨h.scr, by rw [List.length_map]; exact hl, vs, _, rv, h.scr⟩
      · by_cases c : ∃ p ∈ cs, p.2 = b
        · obtain ⟨p, hp, rfl⟩ := c
          rw [Ht p hp] at q
          cases q
          exact h.tab p hp
        · rw [Hn n c] at q
          cases q
/-- what is known of the law's promise at the head's heap -/
def LawG (l : PySem.W.OpenLaw) (w : World) (K : PySem.W.Frag) (CX : CXT) (k n : Nat) (x : Str) (mg : Str → Option Value) (fa : Addr) (h : Heap) : Prop :=
  ∃ (fd : FuncData) (cs : List (Addr × Addr)) (sp : Sp), (∀ p ∈ cs, h.get? p.2 = some { cls := .none, data := .fields #[] }) ∧
      (∀ p ∈ cs, K.lookup p.2 = none) ∧ (∀ p ∈ cs, PySem.W.CodeHd h p.1 p.2) ∧ (∀ (s : Shared) (u : Value), BindsTo s fd ⟨[u], []⟩ [(x, u)]) ∧
    (∀ (H : Hp) (a : Addr) (ns : List Int), ns.length ≤ n → (∀ p ∈ cs, H p.2 = some (.tbl #[])) → SqL K H a (ns.map V.int) → sp [.ref a] H (fun v _ => v = .bl true) fun _ _ _ => False) ∧
    ∀ base : Heap, K.In base → base.Ns mainGlobals mg → (∀ p ∈ cs, TabB base mg p.1 p.2) → FnG l.prog w K mg base CX k fa fd [x] sp
theorem walkG {l : PySem.W.OpenLaw} {n k : Nat} {q : Program} {loose : List Str} {XP : (Str → Option Value) → Heap → Prop} {YP : World → Heap → Prop} {d : DefRec} {K : Params → PySem.W.Frag} {x : Str}
    (hn : l.most = some n) (hn2 : n ≤ sizeLine) (hdf : d.params.defaults = [])
        (hr : Room k callerA) (hY : ∀ (w : World) (h : Heap), YP w h → (K w.params).In h)
    (F : ∀ (w : World) (mg : Str → Option Value) (fa : Addr) (h : Heap), YP w h → (K w.params).In h → h.Ns mainGlobals mg → mg d.name = some (.ref fa) → LawG l w (K w.params) CX0 k n x mg fa h) :
    PySem.W.WalkO q loose XP YP l.row.toRowW d []
        (fun f vs => PySem.call f vs) := by
  refine Att.attach_callB hn hdf fun w s₀ s₁ mg mb fa o pm cd doc a vs ns G Y ho hd hcd hmg hobj hints hlen hbits hg => ?_
  have KX := hY w _ Y
  obtain ⟨fd, cs, sp, hT, nT, C, hb, hsp, hF⟩ := F w mg fa _ Y KX G.T.g hmg
  exact (Ahead.mk KX G.T.g G.T.b G.T.builtins G.T.nolimit hg hT nT C G.T.bmain hobj).call hints (Nat.le_trans hlen hn2) hr hF hb (fun H hH hS => hsp H a ns hlen hH hS) fun H e s' z => z.elim
end
end
end K04
namespace K04
open PySem L2
section
variable {P : Program} {w : World} {K : PySem.W.Frag}
    {mg : Str → Option Value} {base : Heap}
theorem mk_T {K : PySem.W.Frag} {h : Heap} {mg : Str → Option Value} {c1 c2 f_is_integer f_is_between f_check_integer f_check_between f_check_interval f_slot_of f_rounded_up f_times_alive f_common_multiple f_w_reel f_w_spin f_w_pick f_w_odd f_w_kept f_w_cell_right f_law : Addr} (X : K.In h) (G : h.Ns mainGlobals mg)
    {od_is_integer an_is_integer od_is_between an_is_between od_check_integer an_check_integer od_check_between an_check_between od_check_interval an_check_interval od_slot_of an_slot_of od_rounded_up an_rounded_up od_times_alive an_times_alive od_common_multiple an_common_multiple od_w_reel an_w_reel od_w_spin an_w_spin od_w_pick an_w_pick od_w_odd an_w_odd od_w_kept an_w_kept od_w_cell_right an_w_cell_right od_law an_law : Option Addr} {sl_is_integer sl_is_between sl_check_integer sl_check_between sl_check_interval sl_slot_of sl_rounded_up sl_times_alive sl_common_multiple sl_w_reel sl_w_spin sl_w_pick sl_w_odd sl_w_kept sl_w_cell_right sl_law : Array (Option Value)} {oc_is_integer kV_is_integer dc_is_integer pm_is_integer cd_is_integer ct_is_integer oc_is_between kV_is_between dc_is_between pm_is_between cd_is_between ct_is_between oc_check_integer kV_check_integer dc_check_integer pm_check_integer cd_check_integer ct_check_integer oc_check_between kV_check_between dc_check_between pm_check_between cd_check_between ct_check_between oc_check_interval kV_check_interval dc_check_interval pm_check_interval cd_check_interval ct_check_interval oc_slot_of kV_slot_of dc_slot_of pm_slot_of cd_slot_of ct_slot_of oc_rounded_up kV_rounded_up dc_rounded_up pm_rounded_up cd_rounded_up ct_rounded_up oc_times_alive kV_times_alive dc_times_alive pm_times_alive cd_times_alive ct_times_alive oc_common_multiple kV_common_multiple dc_common_multiple pm_common_multiple cd_common_multiple ct_common_multiple oc_w_reel kV_w_reel dc_w_reel pm_w_reel cd_w_reel ct_w_reel oc_w_spin kV_w_spin dc_w_spin pm_w_spin cd_w_spin ct_w_spin oc_w_pick kV_w_pick dc_w_pick pm_w_pick cd_w_pick ct_w_pick oc_w_odd kV_w_odd dc_w_odd pm_w_odd cd_w_odd ct_w_odd oc_w_kept kV_w_kept dc_w_kept pm_w_kept cd_w_kept ct_w_kept oc_w_cell_right kV_w_cell_right dc_w_cell_right pm_w_cell_right ct_w_cell_right oc_law kV_law dc_law pm_law ct_law : Value} {t_MAX_INTERVAL t_MAX_FACTOR t_MAX_FACTORS : Tok}
    (a_is_integer : PySem.W.nsIn K mainGlobals "is_integer" = some (some (.ref f_is_integer))) (l_is_integer : K.lookup f_is_integer = some ⟨oc_is_integer, od_is_integer, .func (PySem.W.fnOf "is_integer" "is_integer" (defArgs s_is_integer) (defBody s_is_integer) (defScope s_is_integer) .none kV_is_integer dc_is_integer pm_is_integer an_is_integer cd_is_integer ct_is_integer), sl_is_integer⟩) (k_is_integer : PySem.W.codeIn K cd_is_integer "is_integer" = true) (p_is_integer : PySem.W.keepIn K (.ref f_is_integer) = true)
    (a_is_between : PySem.W.nsIn K mainGlobals "is_between" = some (some (.ref f_is_between))) (l_is_between : K.lookup f_is_between = some ⟨oc_is_between, od_is_between, .func (PySem.W.fnOf "is_between" "is_between" (defArgs s_is_between) (defBody s_is_between) (defScope s_is_between) .none kV_is_between dc_is_between pm_is_between an_is_between cd_is_between ct_is_between), sl_is_between⟩) (k_is_between : PySem.W.codeIn K cd_is_between "is_between" = true) (p_is_between : PySem.W.keepIn K (.ref f_is_between) = true)
    (a_check_integer : PySem.W.nsIn K mainGlobals "check_integer" = some (some (.ref f_check_integer))) (l_check_integer : K.lookup f_check_integer = some ⟨oc_check_integer, od_check_integer, .func (PySem.W.fnOf "check_integer" "check_integer" (defArgs s_check_integer) (defBody s_check_integer) (defScope s_check_integer) .none kV_check_integer dc_check_integer pm_check_integer an_check_integer cd_check_integer ct_check_integer), sl_check_integer⟩) (k_check_integer : PySem.W.codeIn K cd_check_integer "check_integer" = true) (p_check_integer : PySem.W.keepIn K (.ref f_check_integer) = true)
    (a_check_between : PySem.W.nsIn K mainGlobals "check_between" = some (some (.ref f_check_between))) (l_check_between : K.lookup f_check_between = some ⟨oc_check_between, od_check_between, .func (PySem.W.fnOf "check_between" "check_between" (defArgs s_check_between) (defBody s_check_between) (defScope s_check_between) .none kV_check_between dc_check_between pm_check_between an_check_between cd_check_between ct_check_between), sl_check_between⟩) (k_check_between : PySem.W.codeIn K cd_check_between "check_between" = true) (p_check_between : PySem.W.keepIn K (.ref f_check_between) = true)
    (a_check_interval : PySem.W.nsIn K mainGlobals "check_interval" = some (some (.ref f_check_interval))) (l_check_interval : K.lookup f_check_interval = some ⟨oc_check_interval, od_check_interval, .func (PySem.W.fnOf "check_interval" "check_interval" (defArgs s_check_interval) (defBody s_check_interval) (defScope s_check_interval) .none kV_check_interval dc_check_interval pm_check_interval an_check_interval cd_check_interval ct_check_interval), sl_check_interval⟩) (k_check_interval : PySem.W.codeIn K cd_check_interval "check_interval" = true) (p_check_interval : PySem.W.keepIn K (.ref f_check_interval) = true)
    (a_slot_of : PySem.W.nsIn K mainGlobals "slot_of" = some (some (.ref f_slot_of))) (l_slot_of : K.lookup f_slot_of = some ⟨oc_slot_of, od_slot_of, .func (PySem.W.fnOf "slot_of" "slot_of" (defArgs s_slot_of) (defBody s_slot_of) (defScope s_slot_of) .none kV_slot_of dc_slot_of pm_slot_of an_slot_of cd_slot_of ct_slot_of), sl_slot_of⟩) (k_slot_of : PySem.W.codeIn K cd_slot_of "slot_of" = true) (p_slot_of : PySem.W.keepIn K (.ref f_slot_of) = true)
    (a_rounded_up : PySem.W.nsIn K mainGlobals "rounded_up" = some (some (.ref f_rounded_up))) (l_rounded_up : K.lookup f_rounded_up = some ⟨oc_rounded_up, od_rounded_up, .func (PySem.W.fnOf "rounded_up" "rounded_up" (defArgs s_rounded_up) (defBody s_rounded_up) (defScope s_rounded_up) .none kV_rounded_up dc_rounded_up pm_rounded_up an_rounded_up cd_rounded_up ct_rounded_up), sl_rounded_up⟩) (k_rounded_up : PySem.W.codeIn K cd_rounded_up "rounded_up" = true) (p_rounded_up : PySem.W.keepIn K (.ref f_rounded_up) = true)
    (a_times_alive : PySem.W.nsIn K mainGlobals "times_alive" = some (some (.ref f_times_alive))) (l_times_alive : K.lookup f_times_alive = some ⟨oc_times_alive, od_times_alive, .func (PySem.W.fnOf "times_alive" "times_alive" (defArgs s_times_alive) (defBody s_times_alive) (defScope s_times_alive) .none kV_times_alive dc_times_alive pm_times_alive an_times_alive cd_times_alive ct_times_alive), sl_times_alive⟩) (k_times_alive : PySem.W.codeIn K cd_times_alive "times_alive" = true) (p_times_alive : PySem.W.keepIn K (.ref f_times_alive) = true)
    (a_common_multiple : PySem.W.nsIn K mainGlobals "common_multiple" = some (some (.ref f_common_multiple))) (l_common_multiple : K.lookup f_common_multiple = some ⟨oc_common_multiple, od_common_multiple, .func (PySem.W.fnOf "common_multiple" "common_multiple" (defArgs s_common_multiple) (defBody s_common_multiple) (defScope s_common_multiple) .none kV_common_multiple dc_common_multiple pm_common_multiple an_common_multiple cd_common_multiple ct_common_multiple), sl_common_multiple⟩) (k_common_multiple : PySem.W.codeIn K cd_common_multiple "common_multiple" = true) (p_common_multiple : PySem.W.keepIn K (.ref f_common_multiple) = true)
    (a_w_reel : PySem.W.nsIn K mainGlobals "_law_reel" = some (some (.ref f_w_reel))) (l_w_reel : K.lookup f_w_reel = some ⟨oc_w_reel, od_w_reel, .func (PySem.W.fnOf "_law_reel" "_law_reel" (defArgs s_w_reel) (defBody s_w_reel) (defScope s_w_reel) .none kV_w_reel dc_w_reel pm_w_reel an_w_reel cd_w_reel ct_w_reel), sl_w_reel⟩) (k_w_reel : PySem.W.codeIn K cd_w_reel "_law_reel" = true) (p_w_reel : PySem.W.keepIn K (.ref f_w_reel) = true)
    (a_w_spin : PySem.W.nsIn K mainGlobals "_law_spin" = some (some (.ref f_w_spin))) (l_w_spin : K.lookup f_w_spin = some ⟨oc_w_spin, od_w_spin, .func (PySem.W.fnOf "_law_spin" "_law_spin" (defArgs s_w_spin) (defBody s_w_spin) (defScope s_w_spin) .none kV_w_spin dc_w_spin pm_w_spin an_w_spin cd_w_spin ct_w_spin), sl_w_spin⟩) (k_w_spin : PySem.W.codeIn K cd_w_spin "_law_spin" = true) (p_w_spin : PySem.W.keepIn K (.ref f_w_spin) = true)
    (a_w_pick : PySem.W.nsIn K mainGlobals "_law_pick" = some (some (.ref f_w_pick))) (l_w_pick : K.lookup f_w_pick = some ⟨oc_w_pick, od_w_pick, .func (PySem.W.fnOf "_law_pick" "_law_pick" (defArgs s_w_pick) (defBody s_w_pick) (defScope s_w_pick) .none kV_w_pick dc_w_pick pm_w_pick an_w_pick cd_w_pick ct_w_pick), sl_w_pick⟩) (k_w_pick : PySem.W.codeIn K cd_w_pick "_law_pick" = true) (p_w_pick : PySem.W.keepIn K (.ref f_w_pick) = true)
    (a_w_odd : PySem.W.nsIn K mainGlobals "_law_odd" = some (some (.ref f_w_odd))) (l_w_odd : K.lookup f_w_odd = some ⟨oc_w_odd, od_w_odd, .func (PySem.W.fnOf "_law_odd" "_law_odd" (defArgs s_w_odd) (defBody s_w_odd) (defScope s_w_odd) .none kV_w_odd dc_w_odd pm_w_odd an_w_odd cd_w_odd ct_w_odd), sl_w_odd⟩) (k_w_odd : PySem.W.codeIn K cd_w_odd "_law_odd" = true) (p_w_odd : PySem.W.keepIn K (.ref f_w_odd) = true)
    (a_w_kept : PySem.W.nsIn K mainGlobals "_law_kept" = some (some (.ref f_w_kept))) (l_w_kept : K.lookup f_w_kept = some ⟨oc_w_kept, od_w_kept, .func (PySem.W.fnOf "_law_kept" "_law_kept" (defArgs s_w_kept) (defBody s_w_kept) (defScope s_w_kept) .none kV_w_kept dc_w_kept pm_w_kept an_w_kept cd_w_kept ct_w_kept), sl_w_kept⟩) (k_w_kept : PySem.W.codeIn K cd_w_kept "_law_kept" = true) (p_w_kept : PySem.W.keepIn K (.ref f_w_kept) = true)
    (a_w_cell_right : PySem.W.nsIn K mainGlobals "_law_cell_right" = some (some (.ref f_w_cell_right))) (l_w_cell_right : K.lookup f_w_cell_right = some ⟨oc_w_cell_right, od_w_cell_right, .func (PySem.W.fnOf "_law_cell_right" "_law_cell_right" (defArgs s_w_cell_right) (defBody s_w_cell_right) (defScope s_w_cell_right) .none kV_w_cell_right dc_w_cell_right pm_w_cell_right an_w_cell_right (.ref c1) ct_w_cell_right), sl_w_cell_right⟩) (k_w_cell_right : PySem.W.codeIn K (.ref c1) "_law_cell_right" = true) (p_w_cell_right : PySem.W.keepIn K (.ref f_w_cell_right) = true)
    (a_law : PySem.W.nsIn K mainGlobals "law" = some (some (.ref f_law))) (l_law : K.lookup f_law = some ⟨oc_law, od_law, .func (PySem.W.fnOf "law" "law" (defArgs s_law) (defBody s_law) (defScope s_law) .none kV_law dc_law pm_law an_law (.ref c2) ct_law), sl_law⟩) (k_law : PySem.W.codeIn K (.ref c2) "law" = true) (p_law : PySem.W.keepIn K (.ref f_law) = true)
    (e_MAX_INTERVAL : PySem.W.nsIn K mainGlobals "MAX_INTERVAL" = some (some (.int 32 t_MAX_INTERVAL)))
    (e_MAX_FACTOR : PySem.W.nsIn K mainGlobals "MAX_FACTOR" = some (some (.int 64 t_MAX_FACTOR)))
    (e_MAX_FACTORS : PySem.W.nsIn K mainGlobals "MAX_FACTORS" = some (some (.int 16 t_MAX_FACTORS)))
    (g_lcm : PySem.W.nsIn K mainGlobals "lcm" = some (some (.builtin "math.lcm")))
    (y_int : PySem.W.nsIn K mainGlobals "int" = some none)
    (y_abs : PySem.W.nsIn K mainGlobals "abs" = some none)
    (y_len : PySem.W.nsIn K mainGlobals "len" = some none)
    (y_max : PySem.W.nsIn K mainGlobals "max" = some none)
    (y_min : PySem.W.nsIn K mainGlobals "min" = some none)
    (y_range : PySem.W.nsIn K mainGlobals "range" = some none)
    (y_isinstance : PySem.W.nsIn K mainGlobals "isinstance" = some none)
    (y_repr : PySem.W.nsIn K mainGlobals "repr" = some none)
    (y_bool : PySem.W.nsIn K mainGlobals "bool" = some none)
    : ∃ T : T K mg, T.f_law = f_law ∧ T.d_law = PySem.W.fnOf "law" "law" (defArgs s_law) (defBody s_law) (defScope s_law) .none kV_law dc_law pm_law an_law (.ref c2) ct_law ∧ T.f_w_cell_right = f_w_cell_right ∧ T.d_w_cell_right = PySem.W.fnOf "_law_cell_right" "_law_cell_right" (defArgs s_w_cell_right) (defBody s_w_cell_right) (defScope s_w_cell_right) .none kV_w_cell_right dc_w_cell_right pm_w_cell_right an_w_cell_right (.ref c1) ct_w_cell_right ∧ FunC K "_law_cell_right" "_law_cell_right" s_w_cell_right f_w_cell_right (PySem.W.fnOf "_law_cell_right" "_law_cell_right" (defArgs s_w_cell_right) (defBody s_w_cell_right) (defScope s_w_cell_right) .none kV_w_cell_right dc_w_cell_right pm_w_cell_right an_w_cell_right (.ref c1) ct_w_cell_right) c1 ∧ FunC K "law" "law" s_law f_law (PySem.W.fnOf "law" "law" (defArgs s_law) (defBody s_law) (defScope s_law) .none kV_law dc_law pm_law an_law (.ref c2) ct_law) c2 := by
  have F_is_integer := fun_mk (st := s_is_integer) l_is_integer k_is_integer p_is_integer
  have b_is_integer := F_is_integer.binds (ps := ["value"]) fun _ _ _ _ _ _ us hl => match us, hl with | [_], _ => rfl
  have F_is_between := fun_mk (st := s_is_between) l_is_between k_is_between p_is_between
  have b_is_between := F_is_between.binds (ps := ["value", "low", "high"]) fun _ _ _ _ _ _ us hl => match us, hl with | [_, _, _], _ => rfl
  have F_check_integer := fun_mk (st := s_check_integer) l_check_integer k_check_integer p_check_integer
  have b_check_integer := F_check_integer.binds (ps := ["value"]) fun _ _ _ _ _ _ us hl => match us, hl with | [_], _ => rfl
  have F_check_between := fun_mk (st := s_check_between) l_check_between k_check_between p_check_between
  have b_check_between := F_check_between.binds (ps := ["value", "low", "high"]) fun _ _ _ _ _ _ us hl => match us, hl with | [_, _, _], _ => rfl
  have F_check_interval := fun_mk (st := s_check_interval) l_check_interval k_check_interval p_check_interval
  have b_check_interval := F_check_interval.binds (ps := ["value"]) fun _ _ _ _ _ _ us hl => match us, hl with | [_], _ => rfl
  have F_slot_of := fun_mk (st := s_slot_of) l_slot_of k_slot_of p_slot_of
  have b_slot_of := F_slot_of.binds (ps := ["tick", "interval"]) fun _ _ _ _ _ _ us hl => match us, hl with | [_, _], _ => rfl
  have F_rounded_up := fun_mk (st := s_rounded_up) l_rounded_up k_rounded_up p_rounded_up
  have b_rounded_up := F_rounded_up.binds (ps := ["number", "slot", "interval"]) fun _ _ _ _ _ _ us hl => match us, hl with | [_, _, _], _ => rfl
  have F_times_alive := fun_mk (st := s_times_alive) l_times_alive k_times_alive p_times_alive
  have b_times_alive := F_times_alive.binds (ps := ["begin", "end", "tick", "interval"]) fun _ _ _ _ _ _ us hl => match us, hl with | [_, _, _, _], _ => rfl
  have F_common_multiple := fun_mk (st := s_common_multiple) l_common_multiple k_common_multiple p_common_multiple
  have F_w_reel := fun_mk (st := s_w_reel) l_w_reel k_w_reel p_w_reel
  have b_w_reel := F_w_reel.binds (ps := ["script", "at"]) fun _ _ _ _ _ _ us hl => match us, hl with | [_, _], _ => rfl
  have F_w_spin := fun_mk (st := s_w_spin) l_w_spin k_w_spin p_w_spin
  have b_w_spin := F_w_spin.binds (ps := ["reel", "total"]) fun _ _ _ _ _ _ us hl => match us, hl with | [_, _], _ => rfl
  have F_w_pick := fun_mk (st := s_w_pick) l_w_pick k_w_pick p_w_pick
  have b_w_pick := F_w_pick.binds (ps := ["reel", "items"]) fun _ _ _ _ _ _ us hl => match us, hl with | [_, _], _ => rfl
  have F_w_odd := fun_mk (st := s_w_odd) l_w_odd k_w_odd p_w_odd
  have b_w_odd := F_w_odd.binds (ps := ["reel"]) fun _ _ _ _ _ _ us hl => match us, hl with | [_], _ => rfl
  have F_w_kept := fun_mk (st := s_w_kept) l_w_kept k_w_kept p_w_kept
  have b_w_kept := F_w_kept.binds (ps := ["call"]) fun _ _ _ _ _ _ us hl => match us, hl with | [_], _ => rfl
  have F_w_cell_right := fun_mk (st := s_w_cell_right) l_w_cell_right k_w_cell_right p_w_cell_right
  have b_w_cell_right := F_w_cell_right.binds (ps := ["reel"]) fun _ _ _ _ _ _ us hl => match us, hl with | [_], _ => rfl
  have F_law := fun_mk (st := s_law) l_law k_law p_law
  have b_law := F_law.binds (ps := ["script"]) fun _ _ _ _ _ _ us hl => match us, hl with | [_], _ => rfl
  exact ⟨⟨_, _, F_is_integer, PySem.W.mg_of X G a_is_integer, b_is_integer, _, _, F_is_between, PySem.W.mg_of X G a_is_between, b_is_between, _, _, F_check_integer, PySem.W.mg_of X G a_check_integer, b_check_integer, _, _, F_check_between, PySem.W.mg_of X G a_check_between, b_check_between, _, _, F_check_interval, PySem.W.mg_of X G a_check_interval, b_check_interval, _, _, F_slot_of, PySem.W.mg_of X G a_slot_of, b_slot_of, _, _, F_rounded_up, PySem.W.mg_of X G a_rounded_up, b_rounded_up, _, _, F_times_alive, PySem.W.mg_of X G a_times_alive, b_times_alive, _, _, F_common_multiple, PySem.W.mg_of X G a_common_multiple, _, _, F_w_reel, PySem.W.mg_of X G a_w_reel, b_w_reel, _, _, F_w_spin, PySem.W.mg_of X G a_w_spin, b_w_spin, _, _, F_w_pick, PySem.W.mg_of X G a_w_pick, b_w_pick, _, _, F_w_odd, PySem.W.mg_of X G a_w_odd, b_w_odd, _, _, F_w_kept, PySem.W.mg_of X G a_w_kept, b_w_kept, _, _, F_w_cell_right, PySem.W.mg_of X G a_w_cell_right, b_w_cell_right, _, _, F_law, PySem.W.mg_of X G a_law, b_law, ⟨t_MAX_INTERVAL, PySem.W.mg_of X G e_MAX_INTERVAL⟩, ⟨t_MAX_FACTOR, PySem.W.mg_of X G e_MAX_FACTOR⟩, ⟨t_MAX_FACTORS, PySem.W.mg_of X G e_MAX_FACTORS⟩, PySem.W.mg_of X G g_lcm, PySem.W.mg_none_of X G y_int, PySem.W.mg_none_of X G y_abs, PySem.W.mg_none_of X G y_len, PySem.W.mg_none_of X G y_max, PySem.W.mg_none_of X G y_min, PySem.W.mg_none_of X G y_range, PySem.W.mg_none_of X G y_isinstance, PySem.W.mg_none_of X G y_repr, PySem.W.mg_none_of X G y_bool⟩, rfl, rfl, rfl, rfl, ⟨⟨_, _, _, _, _, _, _, _, rfl, l_w_cell_right, k_w_cell_right⟩⟩, ⟨⟨_, _, _, _, _, _, _, _, rfl, l_law, k_law⟩⟩⟩
theorem exm_by {K : PySem.W.Frag} {A S : Addr} {b : Bool} (h1 : PySem.W.subIn K (.ref S) (.type "BaseException") = some true) (h2 : PySem.W.isClsIn K S = true) (h3 : PySem.W.typeIn K (.ref S) = some (.type "type")) (h4 : PySem.W.subIn K (.ref A) (.ref S) = some b) :
    PySem.W.exmOne K (.ref A) (.ref S) = some b := by
  have h5 : (PySem.W.clsIn K S).isSome = true := h2
  unfold PySem.W.exmOne PySem.W.kitCls
  rw [h1]
  dsimp only
  rw [h5, h3, h4]
  rfl
theorem mk_U {K : PySem.W.Frag} {h : Heap} {mg : Str → Option Value} (X : K.In h) (G : h.Ns mainGlobals mg)
    {fR fP fU fN fM fT fB dTR cR cO cL cH cS cW cJ cA cP cU cN cM cT cB : Addr} {nmR qR : Str} {NR : Addr} {bsR bmR subR : List Value} {snR : List Str} {abR : Bool} {colR : Option Bool} {ddR : Option Addr} {m0R m1R m2R m3R m4R : Option Value} {nmO qO : Str} {NO : Addr} {bsO bmO subO : List Value} {snO : List Str} {abO : Bool} {colO : Option Bool} {ddO : Option Addr} {m0O m1O m2O m3O m4O : Option Value} {nmL qL : Str} {NL : Addr} {bsL bmL subL : List Value} {snL : List Str} {abL : Bool} {colL : Option Bool} {ddL : Option Addr} {m0L m1L m2L m3L m4L : Option Value} {nmH qH : Str} {NH : Addr} {bsH bmH subH : List Value} {snH : List Str} {abH : Bool} {colH : Option Bool} {ddH : Option Addr} {m0H m1H m2H m3H m4H : Option Value} {nmS qS : Str} {NS : Addr} {bsS bmS subS : List Value} {snS : List Str} {abS : Bool} {colS : Option Bool} {ddS : Option Addr} {m0S m1S m2S m3S m4S : Option Value} {nmW qW : Str} {NW : Addr} {bsW bmW subW : List Value} {snW : List Str} {abW : Bool} {colW : Option Bool} {ddW : Option Addr} {m0W m1W m2W m3W m4W : Option Value} {nmJ qJ : Str} {NJ : Addr} {bsJ bmJ subJ : List Value} {snJ : List Str} {abJ : Bool} {colJ : Option Bool} {ddJ : Option Addr} {m0J m1J m2J m3J m4J : Option Value} {nmA qA : Str} {NA : Addr} {bsA bmA subA : List Value} {snA : List Str} {abA : Bool} {colA : Option Bool} {ddA : Option Addr} {m0A m1A m2A m3A m4A : Option Value} {nmP qP : Str} {NP : Addr} {bsP bmP subP : List Value} {snP : List Str} {abP : Bool} {colP : Option Bool} {ddP : Option Addr} {m0P m1P m2P m3P m4P : Option Value} {nmU qU : Str} {NU : Addr} {bsU bmU subU : List Value} {snU : List Str} {abU : Bool} {colU : Option Bool} {ddU : Option Addr} {m0U m1U m2U m3U m4U : Option Value} {nmN qN : Str} {NN : Addr} {bsN bmN subN : List Value} {snN : List Str} {abN : Bool} {colN : Option Bool} {ddN : Option Addr} {m0N m1N m2N m3N m4N : Option Value} {nmM qM : Str} {NM : Addr} {bsM bmM subM : List Value} {snM : List Str} {abM : Bool} {colM : Option Bool} {ddM : Option Addr} {m0M m1M m2M m3M m4M : Option Value} {nmT qT : Str} {NT : Addr} {bsT bmT subT : List Value} {snT : List Str} {abT : Bool} {colT : Option Bool} {ddT : Option Addr} {m0T m1T m2T m3T m4T : Option Value} {nmB qB : Str} {NB : Addr} {bsB bmB subB : List Value} {snB : List Str} {abB : Bool} {colB : Option Bool} {ddB : Option Addr} {m0B m1B m2B m3B m4B : Option Value} {ocR kVR dcR pmR cdR ctR : Value} {odR anR : Option Addr} {slR : Array (Option Value)} {ocP kVP dcP pmP cdP ctP : Value} {odP anP : Option Addr} {slP : Array (Option Value)} {ocU kVU dcU pmU cdU ctU : Value} {odU anU : Option Addr} {slU : Array (Option Value)} {ocN kVN dcN pmN cdN ctN : Value} {odN anN : Option Addr} {slN : Array (Option Value)} {ocM kVM dcM pmM cdM ctM : Value} {odM anM : Option Addr} {slM : Array (Option Value)} {ocT kVT dcT pmT cdT ctT : Value} {odT anT : Option Addr} {slT : Array (Option Value)} {ocB kVB dcB pmB cdB ctB : Value} {odB anB : Option Addr} {slB : Array (Option Value)} {ocD : Value} {odD : Option Addr} {nD : Nat} {slD : Array (Option Value)}
    (aR : PySem.W.nsIn K mainGlobals "RoundError" = some (some (.ref cR)))
    (xR : K.lookup cR = some (excClassObj nmR qR cR NR bsR bmR true snR subR abR colR ddR m0R m1R m2R m3R m4R "ValueError.__new__"))
    (hR : OXB.Chain bmR "ValueError")
    (sR : PySem.W.findIn K (.ref cR) "__setattr__" = some (some (.builtin "object.__setattr__")))
    (eR : PySem.W.subIn K (.ref cR) (.type "BaseException") = some true)
    (tR : PySem.W.typeIn K (.ref cR) = some (.type "type"))
    (kR : PySem.W.keepIn K (.ref cR) = true)
    (iR : PySem.W.findIn K (.ref cR) "__init__" = some (some (.ref fR)))
    (nR : PySem.W.findIn K (.ref cR) "told" = some none)
    (gaR : PySem.W.findIn K (.ref cR) "__getattribute__" = some (some (.builtin "BaseException.__getattribute__")))
    (ggR : PySem.W.findIn K (.ref cR) "__getattr__" = some none)
    (hdR : PySem.W.hasDictIn K cR = true)
    (caR : PySem.W.findIn K (.ref cR) "__class__" = some (some (.builtin "object.__class__")))
    (moR : PySem.W.mroIn K cR (.type "object") = some true)
    (krR : PySem.W.kitOne K (.ref cR) (.ref cR) = some true)
    (ktR : PySem.W.kitOne K (.ref cR) (.type "ValueError") = some true)
    (aO : PySem.W.nsIn K mainGlobals "InvalidOperation" = some (some (.ref cO)))
    (xO : K.lookup cO = some (excClassObj nmO qO cO NO bsO bmO true snO subO abO colO ddO m0O m1O m2O m3O m4O "ValueError.__new__"))
    (hO : OXB.Chain bmO "ValueError")
    (sO : PySem.W.findIn K (.ref cO) "__setattr__" = some (some (.builtin "object.__setattr__")))
    (eO : PySem.W.subIn K (.ref cO) (.type "BaseException") = some true)
    (tO : PySem.W.typeIn K (.ref cO) = some (.type "type"))
    (kO : PySem.W.keepIn K (.ref cO) = true)
    (iO : PySem.W.findIn K (.ref cO) "__init__" = some (some (.ref fR)))
    (nO : PySem.W.findIn K (.ref cO) "told" = some none)
    (gaO : PySem.W.findIn K (.ref cO) "__getattribute__" = some (some (.builtin "BaseException.__getattribute__")))
    (ggO : PySem.W.findIn K (.ref cO) "__getattr__" = some none)
    (hdO : PySem.W.hasDictIn K cO = true)
    (caO : PySem.W.findIn K (.ref cO) "__class__" = some (some (.builtin "object.__class__")))
    (moO : PySem.W.mroIn K cO (.type "object") = some true)
    (krO : PySem.W.kitOne K (.ref cO) (.ref cR) = some true)
    (ktO : PySem.W.kitOne K (.ref cO) (.type "ValueError") = some true)
    (aL : PySem.W.nsIn K mainGlobals "InvalidLoop" = some (some (.ref cL)))
    (xL : K.lookup cL = some (excClassObj nmL qL cL NL bsL bmL true snL subL abL colL ddL m0L m1L m2L m3L m4L "ValueError.__new__"))
    (hL : OXB.Chain bmL "ValueError")
    (sL : PySem.W.findIn K (.ref cL) "__setattr__" = some (some (.builtin "object.__setattr__")))
    (eL : PySem.W.subIn K (.ref cL) (.type "BaseException") = some true)
    (tL : PySem.W.typeIn K (.ref cL) = some (.type "type"))
    (kL : PySem.W.keepIn K (.ref cL) = true)
    (iL : PySem.W.findIn K (.ref cL) "__init__" = some (some (.ref fR)))
    (nL : PySem.W.findIn K (.ref cL) "told" = some none)
    (gaL : PySem.W.findIn K (.ref cL) "__getattribute__" = some (some (.builtin "BaseException.__getattribute__")))
    (ggL : PySem.W.findIn K (.ref cL) "__getattr__" = some none)
    (hdL : PySem.W.hasDictIn K cL = true)
    (caL : PySem.W.findIn K (.ref cL) "__class__" = some (some (.builtin "object.__class__")))
    (moL : PySem.W.mroIn K cL (.type "object") = some true)
    (krL : PySem.W.kitOne K (.ref cL) (.ref cR) = some true)
    (ktL : PySem.W.kitOne K (.ref cL) (.type "ValueError") = some true)
    (aH : PySem.W.nsIn K mainGlobals "InvalidMachine" = some (some (.ref cH)))
    (xH : K.lookup cH = some (excClassObj nmH qH cH NH bsH bmH true snH subH abH colH ddH m0H m1H m2H m3H m4H "ValueError.__new__"))
    (hH : OXB.Chain bmH "ValueError")
    (sH : PySem.W.findIn K (.ref cH) "__setattr__" = some (some (.builtin "object.__setattr__")))
    (eH : PySem.W.subIn K (.ref cH) (.type "BaseException") = some true)
    (tH : PySem.W.typeIn K (.ref cH) = some (.type "type"))
    (kH : PySem.W.keepIn K (.ref cH) = true)
    (iH : PySem.W.findIn K (.ref cH) "__init__" = some (some (.ref fR)))
    (nH : PySem.W.findIn K (.ref cH) "told" = some none)
    (gaH : PySem.W.findIn K (.ref cH) "__getattribute__" = some (some (.builtin "BaseException.__getattribute__")))
    (ggH : PySem.W.findIn K (.ref cH) "__getattr__" = some none)
    (hdH : PySem.W.hasDictIn K cH = true)
    (caH : PySem.W.findIn K (.ref cH) "__class__" = some (some (.builtin "object.__class__")))
    (moH : PySem.W.mroIn K cH (.type "object") = some true)
    (krH : PySem.W.kitOne K (.ref cH) (.ref cR) = some true)
    (ktH : PySem.W.kitOne K (.ref cH) (.type "ValueError") = some true)
    (aS : PySem.W.nsIn K mainGlobals "InvalidSpans" = some (some (.ref cS)))
    (xS : K.lookup cS = some (excClassObj nmS qS cS NS bsS bmS true snS subS abS colS ddS m0S m1S m2S m3S m4S "ValueError.__new__"))
    (hS : OXB.Chain bmS "ValueError")
    (sS : PySem.W.findIn K (.ref cS) "__setattr__" = some (some (.builtin "object.__setattr__")))
    (eS : PySem.W.subIn K (.ref cS) (.type "BaseException") = some true)
    (tS : PySem.W.typeIn K (.ref cS) = some (.type "type"))
    (kS : PySem.W.keepIn K (.ref cS) = true)
    (iS : PySem.W.findIn K (.ref cS) "__init__" = some (some (.ref fR)))
    (nS : PySem.W.findIn K (.ref cS) "told" = some none)
    (gaS : PySem.W.findIn K (.ref cS) "__getattribute__" = some (some (.builtin "BaseException.__getattribute__")))
    (ggS : PySem.W.findIn K (.ref cS) "__getattr__" = some none)
    (hdS : PySem.W.hasDictIn K cS = true)
    (caS : PySem.W.findIn K (.ref cS) "__class__" = some (some (.builtin "object.__class__")))
    (moS : PySem.W.mroIn K cS (.type "object") = some true)
    (krS : PySem.W.kitOne K (.ref cS) (.ref cR) = some true)
    (ktS : PySem.W.kitOne K (.ref cS) (.type "ValueError") = some true)
    (aW : PySem.W.nsIn K mainGlobals "InvalidWiring" = some (some (.ref cW)))
    (xW : K.lookup cW = some (excClassObj nmW qW cW NW bsW bmW true snW subW abW colW ddW m0W m1W m2W m3W m4W "ValueError.__new__"))
    (hW : OXB.Chain bmW "ValueError")
    (sW : PySem.W.findIn K (.ref cW) "__setattr__" = some (some (.builtin "object.__setattr__")))
    (eW : PySem.W.subIn K (.ref cW) (.type "BaseException") = some true)
    (tW : PySem.W.typeIn K (.ref cW) = some (.type "type"))
    (kW : PySem.W.keepIn K (.ref cW) = true)
    (iW : PySem.W.findIn K (.ref cW) "__init__" = some (some (.ref fR)))
    (nW : PySem.W.findIn K (.ref cW) "told" = some none)
    (gaW : PySem.W.findIn K (.ref cW) "__getattribute__" = some (some (.builtin "BaseException.__getattribute__")))
    (ggW : PySem.W.findIn K (.ref cW) "__getattr__" = some none)
    (hdW : PySem.W.hasDictIn K cW = true)
    (caW : PySem.W.findIn K (.ref cW) "__class__" = some (some (.builtin "object.__class__")))
    (moW : PySem.W.mroIn K cW (.type "object") = some true)
    (krW : PySem.W.kitOne K (.ref cW) (.ref cR) = some true)
    (ktW : PySem.W.kitOne K (.ref cW) (.type "ValueError") = some true)
    (aJ : PySem.W.nsIn K mainGlobals "InvalidKernel" = some (some (.ref cJ)))
    (xJ : K.lookup cJ = some (excClassObj nmJ qJ cJ NJ bsJ bmJ true snJ subJ abJ colJ ddJ m0J m1J m2J m3J m4J "ValueError.__new__"))
    (hJ : OXB.Chain bmJ "ValueError")
    (sJ : PySem.W.findIn K (.ref cJ) "__setattr__" = some (some (.builtin "object.__setattr__")))
    (eJ : PySem.W.subIn K (.ref cJ) (.type "BaseException") = some true)
    (tJ : PySem.W.typeIn K (.ref cJ) = some (.type "type"))
    (kJ : PySem.W.keepIn K (.ref cJ) = true)
    (iJ : PySem.W.findIn K (.ref cJ) "__init__" = some (some (.ref fR)))
    (nJ : PySem.W.findIn K (.ref cJ) "told" = some none)
    (gaJ : PySem.W.findIn K (.ref cJ) "__getattribute__" = some (some (.builtin "BaseException.__getattribute__")))
    (ggJ : PySem.W.findIn K (.ref cJ) "__getattr__" = some none)
    (hdJ : PySem.W.hasDictIn K cJ = true)
    (caJ : PySem.W.findIn K (.ref cJ) "__class__" = some (some (.builtin "object.__class__")))
    (moJ : PySem.W.mroIn K cJ (.type "object") = some true)
    (krJ : PySem.W.kitOne K (.ref cJ) (.ref cR) = some true)
    (ktJ : PySem.W.kitOne K (.ref cJ) (.type "ValueError") = some true)
    (aA : PySem.W.nsIn K mainGlobals "InvalidArgument" = some (some (.ref cA)))
    (xA : K.lookup cA = some (excClassObj nmA qA cA NA bsA bmA true snA subA abA colA ddA m0A m1A m2A m3A m4A "ValueError.__new__"))
    (hA : OXB.Chain bmA "ValueError")
    (sA : PySem.W.findIn K (.ref cA) "__setattr__" = some (some (.builtin "object.__setattr__")))
    (eA : PySem.W.subIn K (.ref cA) (.type "BaseException") = some true)
    (tA : PySem.W.typeIn K (.ref cA) = some (.type "type"))
    (kA : PySem.W.keepIn K (.ref cA) = true)
    (iA : PySem.W.findIn K (.ref cA) "__init__" = some (some (.ref fR)))
    (nA : PySem.W.findIn K (.ref cA) "told" = some none)
    (gaA : PySem.W.findIn K (.ref cA) "__getattribute__" = some (some (.builtin "BaseException.__getattribute__")))
    (ggA : PySem.W.findIn K (.ref cA) "__getattr__" = some none)
    (hdA : PySem.W.hasDictIn K cA = true)
    (caA : PySem.W.findIn K (.ref cA) "__class__" = some (some (.builtin "object.__class__")))
    (moA : PySem.W.mroIn K cA (.type "object") = some true)
    (krA : PySem.W.kitOne K (.ref cA) (.ref cR) = some true)
    (ktA : PySem.W.kitOne K (.ref cA) (.type "ValueError") = some true)
    (aP : PySem.W.nsIn K mainGlobals "ParseError" = some (some (.ref cP)))
    (xP : K.lookup cP = some (excClassObj nmP qP cP NP bsP bmP true snP subP abP colP ddP m0P m1P m2P m3P m4P "ValueError.__new__"))
    (hP : OXB.Chain bmP "ValueError")
    (sP : PySem.W.findIn K (.ref cP) "__setattr__" = some (some (.builtin "object.__setattr__")))
    (eP : PySem.W.subIn K (.ref cP) (.type "BaseException") = some true)
    (tP : PySem.W.typeIn K (.ref cP) = some (.type "type"))
    (kP : PySem.W.keepIn K (.ref cP) = true)
    (iP : PySem.W.findIn K (.ref cP) "__init__" = some (some (.ref fP)))
    (nP : PySem.W.findIn K (.ref cP) "line" = some none)
    (gaP : PySem.W.findIn K (.ref cP) "__getattribute__" = some (some (.builtin "BaseException.__getattribute__")))
    (ggP : PySem.W.findIn K (.ref cP) "__getattr__" = some none)
    (hdP : PySem.W.hasDictIn K cP = true)
    (caP : PySem.W.findIn K (.ref cP) "__class__" = some (some (.builtin "object.__class__")))
    (moP : PySem.W.mroIn K cP (.type "object") = some true)
    (krP : PySem.W.kitOne K (.ref cP) (.ref cR) = some true)
    (ktP : PySem.W.kitOne K (.ref cP) (.type "ValueError") = some true)
    (aU : PySem.W.nsIn K mainGlobals "UnknownName" = some (some (.ref cU)))
    (xU : K.lookup cU = some (excClassObj nmU qU cU NU bsU bmU true snU subU abU colU ddU m0U m1U m2U m3U m4U "LookupError.__new__"))
    (hU : OXB.Chain bmU "LookupError")
    (sU : PySem.W.findIn K (.ref cU) "__setattr__" = some (some (.builtin "object.__setattr__")))
    (eU : PySem.W.subIn K (.ref cU) (.type "BaseException") = some true)
    (tU : PySem.W.typeIn K (.ref cU) = some (.type "type"))
    (kU : PySem.W.keepIn K (.ref cU) = true)
    (iU : PySem.W.findIn K (.ref cU) "__init__" = some (some (.ref fU)))
    (nU : PySem.W.findIn K (.ref cU) "wanted" = some none)
    (gaU : PySem.W.findIn K (.ref cU) "__getattribute__" = some (some (.builtin "BaseException.__getattribute__")))
    (ggU : PySem.W.findIn K (.ref cU) "__getattr__" = some none)
    (hdU : PySem.W.hasDictIn K cU = true)
    (caU : PySem.W.findIn K (.ref cU) "__class__" = some (some (.builtin "object.__class__")))
    (moU : PySem.W.mroIn K cU (.type "object") = some true)
    (krU : PySem.W.kitOne K (.ref cU) (.ref cR) = some false)
    (ktU : PySem.W.kitOne K (.ref cU) (.type "KeyError") = some true)
    (aN : PySem.W.nsIn K mainGlobals "InvalidNumber" = some (some (.ref cN)))
    (xN : K.lookup cN = some (excClassObj nmN qN cN NN bsN bmN true snN subN abN colN ddN m0N m1N m2N m3N m4N "RuntimeError.__new__"))
    (hN : OXB.Chain bmN "RuntimeError")
    (sN : PySem.W.findIn K (.ref cN) "__setattr__" = some (some (.builtin "object.__setattr__")))
    (eN : PySem.W.subIn K (.ref cN) (.type "BaseException") = some true)
    (tN : PySem.W.typeIn K (.ref cN) = some (.type "type"))
    (kN : PySem.W.keepIn K (.ref cN) = true)
    (iN : PySem.W.findIn K (.ref cN) "__init__" = some (some (.ref fN)))
    (nN : PySem.W.findIn K (.ref cN) "value" = some none)
    (gaN : PySem.W.findIn K (.ref cN) "__getattribute__" = some (some (.builtin "BaseException.__getattribute__")))
    (ggN : PySem.W.findIn K (.ref cN) "__getattr__" = some none)
    (hdN : PySem.W.hasDictIn K cN = true)
    (caN : PySem.W.findIn K (.ref cN) "__class__" = some (some (.builtin "object.__class__")))
    (moN : PySem.W.mroIn K cN (.type "object") = some true)
    (krN : PySem.W.kitOne K (.ref cN) (.ref cR) = some false)
    (ktN : PySem.W.kitOne K (.ref cN) (.type "RuntimeError") = some true)
    (aM : PySem.W.nsIn K mainGlobals "TooMany" = some (some (.ref cM)))
    (xM : K.lookup cM = some (excClassObj nmM qM cM NM bsM bmM true snM subM abM colM ddM m0M m1M m2M m3M m4M "OverflowError.__new__"))
    (hM : OXB.Chain bmM "OverflowError")
    (sM : PySem.W.findIn K (.ref cM) "__setattr__" = some (some (.builtin "object.__setattr__")))
    (eM : PySem.W.subIn K (.ref cM) (.type "BaseException") = some true)
    (tM : PySem.W.typeIn K (.ref cM) = some (.type "type"))
    (kM : PySem.W.keepIn K (.ref cM) = true)
    (iM : PySem.W.findIn K (.ref cM) "__init__" = some (some (.ref fM)))
    (nM : PySem.W.findIn K (.ref cM) "limit" = some none)
    (gaM : PySem.W.findIn K (.ref cM) "__getattribute__" = some (some (.builtin "BaseException.__getattribute__")))
    (ggM : PySem.W.findIn K (.ref cM) "__getattr__" = some none)
    (hdM : PySem.W.hasDictIn K cM = true)
    (caM : PySem.W.findIn K (.ref cM) "__class__" = some (some (.builtin "object.__class__")))
    (moM : PySem.W.mroIn K cM (.type "object") = some true)
    (krM : PySem.W.kitOne K (.ref cM) (.ref cR) = some false)
    (ktM : PySem.W.kitOne K (.ref cM) (.type "OverflowError") = some true)
    (aT : PySem.W.nsIn K mainGlobals "NothingToUndo" = some (some (.ref cT)))
    (xT : K.lookup cT = some (excClassObj nmT qT cT NT bsT bmT true snT subT abT colT ddT m0T m1T m2T m3T m4T "IndexError.__new__"))
    (hT : OXB.Chain bmT "IndexError")
    (sT : PySem.W.findIn K (.ref cT) "__setattr__" = some (some (.builtin "object.__setattr__")))
    (eT : PySem.W.subIn K (.ref cT) (.type "BaseException") = some true)
    (tT : PySem.W.typeIn K (.ref cT) = some (.type "type"))
    (kT : PySem.W.keepIn K (.ref cT) = true)
    (iT : PySem.W.findIn K (.ref cT) "__init__" = some (some (.ref fT)))
    (nT : PySem.W.findIn K (.ref cT) "many" = some none)
    (gaT : PySem.W.findIn K (.ref cT) "__getattribute__" = some (some (.builtin "BaseException.__getattribute__")))
    (ggT : PySem.W.findIn K (.ref cT) "__getattr__" = some none)
    (hdT : PySem.W.hasDictIn K cT = true)
    (caT : PySem.W.findIn K (.ref cT) "__class__" = some (some (.builtin "object.__class__")))
    (moT : PySem.W.mroIn K cT (.type "object") = some true)
    (krT : PySem.W.kitOne K (.ref cT) (.ref cR) = some false)
    (ktT : PySem.W.kitOne K (.ref cT) (.type "IndexError") = some true)
    (aB : PySem.W.nsIn K mainGlobals "Broken" = some (some (.ref cB)))
    (xB : K.lookup cB = some (excClassObj nmB qB cB NB bsB bmB true snB subB abB colB ddB m0B m1B m2B m3B m4B "ArithmeticError.__new__"))
    (hB : OXB.Chain bmB "ArithmeticError")
    (sB : PySem.W.findIn K (.ref cB) "__setattr__" = some (some (.builtin "object.__setattr__")))
    (eB : PySem.W.subIn K (.ref cB) (.type "BaseException") = some true)
    (tB : PySem.W.typeIn K (.ref cB) = some (.type "type"))
    (kB : PySem.W.keepIn K (.ref cB) = true)
    (iB : PySem.W.findIn K (.ref cB) "__init__" = some (some (.ref fB)))
    (nB : PySem.W.findIn K (.ref cB) "kind" = some none)
    (gaB : PySem.W.findIn K (.ref cB) "__getattribute__" = some (some (.builtin "BaseException.__getattribute__")))
    (ggB : PySem.W.findIn K (.ref cB) "__getattr__" = some none)
    (hdB : PySem.W.hasDictIn K cB = true)
    (caB : PySem.W.findIn K (.ref cB) "__class__" = some (some (.builtin "object.__class__")))
    (moB : PySem.W.mroIn K cB (.type "object") = some true)
    (krB : PySem.W.kitOne K (.ref cB) (.ref cR) = some false)
    (ktB : PySem.W.kitOne K (.ref cB) (.type "ArithmeticError") = some true)
    (cn : PySem.W.specialIn K (.builtin "object.__class__") "__get__" = some (some (.builtin "getset_descriptor.__get__")))
    (ck : PySem.W.takesIn K (.builtin "object.__class__") = some true)
    (lR : K.lookup fR = some ⟨ocR, odR, .func (PySem.W.fnOf "__init__" "RoundError.__init__" (defArgs s_RoundError_init) (defBody s_RoundError_init) (defScope s_RoundError_init) (.ref dTR) kVR dcR pmR anR cdR ctR), slR⟩)
    (coR : PySem.W.codeIn K cdR "RoundError.__init__" = true)
    (keR : PySem.W.keepIn K (.ref fR) = true)
    (tyR : PySem.W.typeIn K (.ref fR) = some (.type "function"))
    (lP : K.lookup fP = some ⟨ocP, odP, .func (PySem.W.fnOf "__init__" "ParseError.__init__" (defArgs s_ParseError_init) (defBody s_ParseError_init) (defScope s_ParseError_init) .none kVP dcP pmP anP cdP ctP), slP⟩)
    (coP : PySem.W.codeIn K cdP "ParseError.__init__" = true)
    (keP : PySem.W.keepIn K (.ref fP) = true)
    (tyP : PySem.W.typeIn K (.ref fP) = some (.type "function"))
    (lU : K.lookup fU = some ⟨ocU, odU, .func (PySem.W.fnOf "__init__" "UnknownName.__init__" (defArgs s_UnknownName_init) (defBody s_UnknownName_init) (defScope s_UnknownName_init) .none kVU dcU pmU anU cdU ctU), slU⟩)
    (coU : PySem.W.codeIn K cdU "UnknownName.__init__" = true)
    (keU : PySem.W.keepIn K (.ref fU) = true)
    (tyU : PySem.W.typeIn K (.ref fU) = some (.type "function"))
    (lN : K.lookup fN = some ⟨ocN, odN, .func (PySem.W.fnOf "__init__" "InvalidNumber.__init__" (defArgs s_InvalidNumber_init) (defBody s_InvalidNumber_init) (defScope s_InvalidNumber_init) .none kVN dcN pmN anN cdN ctN), slN⟩)
    (coN : PySem.W.codeIn K cdN "InvalidNumber.__init__" = true)
    (keN : PySem.W.keepIn K (.ref fN) = true)
    (tyN : PySem.W.typeIn K (.ref fN) = some (.type "function"))
    (lM : K.lookup fM = some ⟨ocM, odM, .func (PySem.W.fnOf "__init__" "TooMany.__init__" (defArgs s_TooMany_init) (defBody s_TooMany_init) (defScope s_TooMany_init) .none kVM dcM pmM anM cdM ctM), slM⟩)
    (coM : PySem.W.codeIn K cdM "TooMany.__init__" = true)
    (keM : PySem.W.keepIn K (.ref fM) = true)
    (tyM : PySem.W.typeIn K (.ref fM) = some (.type "function"))
    (lT : K.lookup fT = some ⟨ocT, odT, .func (PySem.W.fnOf "__init__" "NothingToUndo.__init__" (defArgs s_NothingToUndo_init) (defBody s_NothingToUndo_init) (defScope s_NothingToUndo_init) .none kVT dcT pmT anT cdT ctT), slT⟩)
    (coT : PySem.W.codeIn K cdT "NothingToUndo.__init__" = true)
    (keT : PySem.W.keepIn K (.ref fT) = true)
    (tyT : PySem.W.typeIn K (.ref fT) = some (.type "function"))
    (lB : K.lookup fB = some ⟨ocB, odB, .func (PySem.W.fnOf "__init__" "Broken.__init__" (defArgs s_Broken_init) (defBody s_Broken_init) (defScope s_Broken_init) .none kVB dcB pmB anB cdB ctB), slB⟩)
    (coB : PySem.W.codeIn K cdB "Broken.__init__" = true)
    (keB : PySem.W.keepIn K (.ref fB) = true)
    (tyB : PySem.W.typeIn K (.ref fB) = some (.type "function"))
    (xD : K.lookup dTR = some ⟨ocD, odD, .seq #[.none] nD, slD⟩)
    (pt : PySem.W.findIn K (.ref cP) "told" = some none)
    (bn : PySem.W.findIn K (.ref cB) "reason" = some none)
    (rd : PySem.W.readsIn K cR (.type "type") = true)
    (rg : PySem.W.specialIn K (.ref cR) "__getattribute__" = some (some (.builtin "type.__getattribute__")))
    (cv : PySem.W.findCls K (.ref cR) (.type "type") "__init__" = some (.val (.ref fR)))
    (zV : PySem.W.nsIn K mainGlobals "ValueError" = some none)
    (zK : PySem.W.nsIn K mainGlobals "KeyError" = some none)
    (zR : PySem.W.nsIn K mainGlobals "RuntimeError" = some none)
    (zO : PySem.W.nsIn K mainGlobals "OverflowError" = some none)
    (zI : PySem.W.nsIn K mainGlobals "IndexError" = some none)
    (zA : PySem.W.nsIn K mainGlobals "ArithmeticError" = some none)
    (gN : PySem.W.isClsIn K cN = true)
    (gM : PySem.W.isClsIn K cM = true)
    (nn : PySem.W.subIn K (.ref cN) (.ref cN) = some true)
    (mn : PySem.W.subIn K (.ref cM) (.ref cN) = some false)
    (mm : PySem.W.subIn K (.ref cM) (.ref cM) = some true)
    : ∃ U : UX K mg, Nonempty (VX K mg U) ∧ KC K U.N U.M := by
  have FR : FunD K "__init__" "RoundError.__init__" (defArgs s_RoundError_init) (defBody s_RoundError_init) (defScope s_RoundError_init) [.non] [] fR (PySem.W.fnOf "__init__" "RoundError.__init__" (defArgs s_RoundError_init) (defBody s_RoundError_init) (defScope s_RoundError_init) (.ref dTR) kVR dcR pmR anR cdR ctR) := ⟨⟨_, _, _, _, _, _, _, _, _, _, rfl, lR, coR, .inr ⟨by simp, dTR, _, [.none], nD, rfl, xD, rfl, .cons rfl .nil⟩, .inl rfl⟩, keR⟩
  have bR : L2.Binds K (PySem.W.fnOf "__init__" "RoundError.__init__" (defArgs s_RoundError_init) (defBody s_RoundError_init) (defScope s_RoundError_init) (.ref dTR) kVR dcR pmR anR cdR ctR) ["self", "told"] [] := by
    obtain ⟨ds, v, b⟩ := FR.binds1 (ps := ["self", "told"]) 2 1 (by simp) rfl fun T kV doc pm an cdv ct us its l1 l2 => by
      match us, its, l1, l2 with
      | [_, _], [_], _, _ => exact ⟨_, rfl, rfl⟩
    cases v
    exact b
  have b0 : ∃ ds, Vals [.non] ds ∧ L2.Binds K (PySem.W.fnOf "__init__" "RoundError.__init__" (defArgs s_RoundError_init) (defBody s_RoundError_init) (defScope s_RoundError_init) (.ref dTR) kVR dcR pmR anR cdR ctR) ["self", "told"] ds :=
    FR.binds1 (ps := ["self", "told"]) 1 0 (by simp) rfl fun T kV doc pm an cdv ct us its l1 l2 => by
      match us, its, l1, l2 with
      | [_], [_], _, _ => exact ⟨_, rfl, rfl⟩
  have FP := fun_mk (st := s_ParseError_init) lP coP keP
  have bP := FP.binds (ps := ["self", "line"]) fun _ _ _ _ _ _ us hl => match us, hl with | [_, _], _ => rfl
  have FU := fun_mk (st := s_UnknownName_init) lU coU keU
  have bU := FU.binds (ps := ["self", "wanted"]) fun _ _ _ _ _ _ us hl => match us, hl with | [_, _], _ => rfl
  have FN := fun_mk (st := s_InvalidNumber_init) lN coN keN
  have bN := FN.binds (ps := ["self", "value"]) fun _ _ _ _ _ _ us hl => match us, hl with | [_, _], _ => rfl
  have FM := fun_mk (st := s_TooMany_init) lM coM keM
  have bM := FM.binds (ps := ["self", "limit"]) fun _ _ _ _ _ _ us hl => match us, hl with | [_, _], _ => rfl
  have FT := fun_mk (st := s_NothingToUndo_init) lT coT keT
  have bT := FT.binds (ps := ["self", "many"]) fun _ _ _ _ _ _ us hl => match us, hl with | [_, _], _ => rfl
  have FB := fun_mk (st := s_Broken_init) lB coB keB
  have bB := FB.binds (ps := ["self", "kind", "reason"]) fun _ _ _ _ _ _ us hl => match us, hl with | [_, _, _], _ => rfl
  let U : UX K mg := ⟨fN, _, FN, bN, cN, ⟨PySem.W.mg_of X G aN, ⟨⟨nmN, qN, NN, bsN, bmN, snN, subN, abN, colN, ddN, m0N, m1N, m2N, m3N, m4N, _, _, _, _, PySem.F.excBase_RuntimeError, hN, xN⟩, sN, eN, tN, kN⟩, iN, tyN, nN⟩, fM, _, FM, bM, cM, ⟨PySem.W.mg_of X G aM, ⟨⟨nmM, qM, NM, bsM, bmM, snM, subM, abM, colM, ddM, m0M, m1M, m2M, m3M, m4M, _, _, _, _, PySem.F.excBase_OverflowError, hM, xM⟩, sM, eM, tM, kM⟩, iM, tyM, nM⟩⟩
  refine ⟨U, ⟨⟨fR, _, FR, bR, b0, cR, ⟨⟨PySem.W.mg_of X G aR, ⟨⟨nmR, qR, NR, bsR, bmR, snR, subR, abR, colR, ddR, m0R, m1R, m2R, m3R, m4R, _, _, _, _, PySem.F.excBase_ValueError, hR, xR⟩, sR, eR, tR, kR⟩, iR, tyR, nR⟩, ⟨gaR, ggR, eR, hdR, caR, cn, ck, moR⟩, ⟨gaR, ggR, eR, hdR⟩, krR, ktR⟩, cO, ⟨⟨PySem.W.mg_of X G aO, ⟨⟨nmO, qO, NO, bsO, bmO, snO, subO, abO, colO, ddO, m0O, m1O, m2O, m3O, m4O, _, _, _, _, PySem.F.excBase_ValueError, hO, xO⟩, sO, eO, tO, kO⟩, iO, tyR, nO⟩, ⟨gaO, ggO, eO, hdO, caO, cn, ck, moO⟩, ⟨gaO, ggO, eO, hdO⟩, krO, ktO⟩, cL, ⟨⟨PySem.W.mg_of X G aL, ⟨⟨nmL, qL, NL, bsL, bmL, snL, subL, abL, colL, ddL, m0L, m1L, m2L, m3L, m4L, _, _, _, _, PySem.F.excBase_ValueError, hL, xL⟩, sL, eL, tL, kL⟩, iL, tyR, nL⟩, ⟨gaL, ggL, eL, hdL, caL, cn, ck, moL⟩, ⟨gaL, ggL, eL, hdL⟩, krL, ktL⟩, cH, ⟨⟨PySem.W.mg_of X G aH, ⟨⟨nmH, qH, NH, bsH, bmH, snH, subH, abH, colH, ddH, m0H, m1H, m2H, m3H, m4H, _, _, _, _, PySem.F.excBase_ValueError, hH, xH⟩, sH, eH, tH, kH⟩, iH, tyR, nH⟩, ⟨gaH, ggH, eH, hdH, caH, cn, ck, moH⟩, ⟨gaH, ggH, eH, hdH⟩, krH, ktH⟩, cS, ⟨⟨PySem.W.mg_of X G aS, ⟨⟨nmS, qS, NS, bsS, bmS, snS, subS, abS, colS, ddS, m0S, m1S, m2S, m3S, m4S, _, _, _, _, PySem.F.excBase_ValueError, hS, xS⟩, sS, eS, tS, kS⟩, iS, tyR, nS⟩, ⟨gaS, ggS, eS, hdS, caS, cn, ck, moS⟩, ⟨gaS, ggS, eS, hdS⟩, krS, ktS⟩, cW, ⟨⟨PySem.W.mg_of X G aW, ⟨⟨nmW, qW, NW, bsW, bmW, snW, subW, abW, colW, ddW, m0W, m1W, m2W, m3W, m4W, _, _, _, _, PySem.F.excBase_ValueError, hW, xW⟩, sW, eW, tW, kW⟩, iW, tyR, nW⟩, ⟨gaW, ggW, eW, hdW, caW, cn, ck, moW⟩, ⟨gaW, ggW, eW, hdW⟩, krW, ktW⟩, cJ, ⟨⟨PySem.W.mg_of X G aJ, ⟨⟨nmJ, qJ, NJ, bsJ, bmJ, snJ, subJ, abJ, colJ, ddJ, m0J, m1J, m2J, m3J, m4J, _, _, _, _, PySem.F.excBase_ValueError, hJ, xJ⟩, sJ, eJ, tJ, kJ⟩, iJ, tyR, nJ⟩, ⟨gaJ, ggJ, eJ, hdJ, caJ, cn, ck, moJ⟩, ⟨gaJ, ggJ, eJ, hdJ⟩, krJ, ktJ⟩, cA, ⟨⟨PySem.W.mg_of X G aA, ⟨⟨nmA, qA, NA, bsA, bmA, snA, subA, abA, colA, ddA, m0A, m1A, m2A, m3A, m4A, _, _, _, _, PySem.F.excBase_ValueError, hA, xA⟩, sA, eA, tA, kA⟩, iA, tyR, nA⟩, ⟨gaA, ggA, eA, hdA, caA, cn, ck, moA⟩, ⟨gaA, ggA, eA, hdA⟩, krA, ktA⟩, fP, _, FP, bP, cP, ⟨⟨PySem.W.mg_of X G aP, ⟨⟨nmP, qP, NP, bsP, bmP, snP, subP, abP, colP, ddP, m0P, m1P, m2P, m3P, m4P, _, _, _, _, PySem.F.excBase_ValueError, hP, xP⟩, sP, eP, tP, kP⟩, iP, tyP, nP⟩, ⟨gaP, ggP, eP, hdP, caP, cn, ck, moP⟩, ⟨gaP, ggP, eP, hdP⟩, krP, ktP⟩, pt, ⟨rd, rg⟩, cv, fU, _, FU, bU, cU, ⟨⟨PySem.W.mg_of X G aU, ⟨⟨nmU, qU, NU, bsU, bmU, snU, subU, abU, colU, ddU, m0U, m1U, m2U, m3U, m4U, _, _, _, _, PySem.F.excBase_LookupError, hU, xU⟩, sU, eU, tU, kU⟩, iU, tyU, nU⟩, ⟨gaU, ggU, eU, hdU, caU, cn, ck, moU⟩, ⟨gaU, ggU, eU, hdU⟩, krU, ktU⟩, ⟨⟨PySem.W.mg_of X G aN, ⟨⟨nmN, qN, NN, bsN, bmN, snN, subN, abN, colN, ddN, m0N, m1N, m2N, m3N, m4N, _, _, _, _, PySem.F.excBase_RuntimeError, hN, xN⟩, sN, eN, tN, kN⟩, iN, tyN, nN⟩, ⟨gaN, ggN, eN, hdN, caN, cn, ck, moN⟩, ⟨gaN, ggN, eN, hdN⟩, krN, ktN⟩, ⟨⟨PySem.W.mg_of X G aM, ⟨⟨nmM, qM, NM, bsM, bmM, snM, subM, abM, colM, ddM, m0M, m1M, m2M, m3M, m4M, _, _, _, _, PySem.F.excBase_OverflowError, hM, xM⟩, sM, eM, tM, kM⟩, iM, tyM, nM⟩, ⟨gaM, ggM, eM, hdM, caM, cn, ck, moM⟩, ⟨gaM, ggM, eM, hdM⟩, krM, ktM⟩, fT, _, FT, bT, cT, ⟨⟨PySem.W.mg_of X G aT, ⟨⟨nmT, qT, NT, bsT, bmT, snT, subT, abT, colT, ddT, m0T, m1T, m2T, m3T, m4T, _, _, _, _, PySem.F.excBase_IndexError, hT, xT⟩, sT, eT, tT, kT⟩, iT, tyT, nT⟩, ⟨gaT, ggT, eT, hdT, caT, cn, ck, moT⟩, ⟨gaT, ggT, eT, hdT⟩, krT, ktT⟩, fB, _, FB, bB, cB, ⟨⟨PySem.W.mg_of X G aB, ⟨⟨nmB, qB, NB, bsB, bmB, snB, subB, abB, colB, ddB, m0B, m1B, m2B, m3B, m4B, _, _, _, _, PySem.F.excBase_ArithmeticError, hB, xB⟩, sB, eB, tB, kB⟩, iB, tyB, nB⟩, ⟨gaB, ggB, eB, hdB, caB, cn, ck, moB⟩, ⟨gaB, ggB, eB, hdB⟩, krB, ktB⟩, bn, PySem.W.mg_none_of X G zV, PySem.W.mg_none_of X G zK, PySem.W.mg_none_of X G zR, PySem.W.mg_none_of X G zO, PySem.W.mg_none_of X G zI, PySem.W.mg_none_of X G zA⟩⟩, ?_⟩
  exact ⟨⟨gaN, ggN, eN, hdN⟩, ⟨gaM, ggM, eM, hdM⟩, nN, nM, exm_by eN gN tN nn, exm_by eN gN tN mn, exm_by eM gM tM mm⟩
open LamX in
theorem fin_law {l : PySem.W.OpenLaw} {w : World} {K : PySem.W.Frag} {h : Heap} {mg : Str → Option Value} {fa f_law f_w_cell_right : Addr} (X : K.In h) (G : h.Ns mainGlobals mg) (hfa : mg "law" = some (.ref fa)) (a_law : PySem.W.nsIn K mainGlobals "law" = some (some (.ref f_law)))
    {dl dc : FuncData} {c1 P1 c2 P2 : Addr} (tt : ∃ T : T K mg, T.f_law = f_law ∧ T.d_law = dl ∧ T.f_w_cell_right = f_w_cell_right ∧ T.d_w_cell_right = dc ∧ FunC K "_law_cell_right" "_law_cell_right" s_w_cell_right f_w_cell_right dc c1 ∧ FunC K "law" "law" s_law f_law dl c2) (uu : ∃ U : UX K mg, Nonempty (VX K mg U) ∧ KC K U.N U.M)
    {ec1 ec2 : Value} {ed1 ed2 : Option Addr} {vs1 vs2 : Array Value} {es1 es2 : Array (Option Value)} (pl1 : K.lookup c1 = some ⟨ec1, ed1, .fields vs1, es1⟩) (pl2 : K.lookup c2 = some ⟨ec2, ed2, .fields vs2, es2⟩) (pu1 : vs1[11]? = some (.ref P1)) (pu2 : vs2[11]? = some (.ref P2))
    (hd1 : PySem.W.codeHdIn K c1 P1 = true) (hd2 : PySem.W.codeHdIn K c2 P2 = true) (out1 : K.lookup P1 = none) (out2 : K.lookup P2 = none) (em1 : h.get? P1 = some { cls := .none, data := .fields #[] }) (em2 : h.get? P2 = some { cls := .none, data := .fields #[] }) (ne : P1 ≠ P2)
    (hb : ∀ (s : Shared) (u : Value), BindsTo s dl ⟨[u], []⟩ [("script", u)]) : LawG l w K CX0 9 63 "script" mg fa h := by
  have e := hfa.symm.trans (PySem.W.mg_of X G a_law)
  cases e
  obtain ⟨T, rfl, rfl, rfl, rfl, FC, FL⟩ := tt
  obtain ⟨U, ⟨VV⟩, C⟩ := uu
  refine ⟨_, [(c1, P1), (c2, P2)], sp_lawT K P1 P2, fun p hp => ?_, fun p hp => ?_, fun p hp => ?_, hb, fun H a ns hl hH hS => ?_, fun base _ _ hT => ok_law T U VV C ne (hT (c1, P1) List.mem_cons_self) (hT (c2, P2) (List.mem_cons_of_mem _ List.mem_cons_self)) FC FL⟩
  · rcases List.mem_cons.mp hp with rfl | hp
    · exact em1
    · obtain rfl := List.mem_singleton.mp hp
      exact em2
  · rcases List.mem_cons.mp hp with rfl | hp
    · exact out1
    · obtain rfl := List.mem_singleton.mp hp
      exact out2
  · rcases List.mem_cons.mp hp with rfl | hp
    · exact PySem.W.codeHd_of_K X hd1
    · obtain rfl := List.mem_singleton.mp hp
      exact PySem.W.codeHd_of_K X hd2
  · refine ⟨a, ns, rfl, hS, hl, fun p hp => ?_, fun _ => rfl⟩
    rcases List.mem_cons.mp hp with rfl | hp
    · exact TabS.nil (hH (c1, P1) List.mem_cons_self)
    · obtain rfl := List.mem_singleton.mp hp
      exact TabS.nil (hH (c2, P2) (List.mem_cons_of_mem _ List.mem_cons_self))
end
end K04
open PySem PySem.W PyProof.Rows
set_option maxRecDepth 100000 in
set_option maxHeartbeats 0 in
theorem PySem.Challenge.cw_overrounds_k04_errors_of_numbers_holds : PySem.Challenge.rw_overrounds_k04_errors_of_numbers.Holds := by
  w_on; o_law; k_head; (case hw => w_witness2)
  k_fill
  refine K04.walkG (l := PySem.Challenge.rw_overrounds_k04_errors_of_numbers) (n := 63) (k := 9) (x := "script") rfl (by decide) rfl ⟨rfl, by decide, by decide⟩ (fun w h Y => PySem.W.km_in_of Y) ?F
  case F =>
    intro w mg fa h Y KX G hmg
    have hY := PySem.W.km_tabs_of Y
    refine' K04.fin_law KX G hmg ?a_law0 ?tt ?uu ?pl1 ?pl2 ?pu1 ?pu2 ?hd1 ?hd2 ?out1 ?out2 ?em1 ?em2 ?ne ?hb
    (case a_law0 => k_is)
    case tt =>
      refine' K04.mk_T KX G ?a_is_integer ?l_is_integer ?k_is_integer ?p_is_integer ?a_is_between ?l_is_between ?k_is_between ?p_is_between ?a_check_integer ?l_check_integer ?k_check_integer ?p_check_integer ?a_check_between ?l_check_between ?k_check_between ?p_check_between ?a_check_interval ?l_check_interval ?k_check_interval ?p_check_interval ?a_slot_of ?l_slot_of ?k_slot_of ?p_slot_of ?a_rounded_up ?l_rounded_up ?k_rounded_up ?p_rounded_up ?a_times_alive ?l_times_alive ?k_times_alive ?p_times_alive ?a_common_multiple ?l_common_multiple ?k_common_multiple ?p_common_multiple ?a_w_reel ?l_w_reel ?k_w_reel ?p_w_reel ?a_w_spin ?l_w_spin ?k_w_spin ?p_w_spin ?a_w_pick ?l_w_pick ?k_w_pick ?p_w_pick ?a_w_odd ?l_w_odd ?k_w_odd ?p_w_odd ?a_w_kept ?l_w_kept ?k_w_kept ?p_w_kept ?a_w_cell_right ?l_w_cell_right ?k_w_cell_right ?p_w_cell_right ?a_law ?l_law ?k_law ?p_law ?e_MAX_INTERVAL ?e_MAX_FACTOR ?e_MAX_FACTORS ?g_lcm ?y_int ?y_abs ?y_len ?y_max ?y_min ?y_range ?y_isinstance ?y_repr ?y_bool
      (case a_is_integer => k_is)
      (case l_is_integer => k_is)
      (case k_is_integer => k_is)
      (case p_is_integer => k_is)
      (case a_is_between => k_is)
      (case l_is_between => k_is)
      (case k_is_between => k_is)
      (case p_is_between => k_is)
      (case a_check_integer => k_is)
      (case l_check_integer => k_is)
      (case k_check_integer => k_is)
      (case p_check_integer => k_is)
      (case a_check_between => k_is)
      (case l_check_between => k_is)
      (case k_check_between => k_is)
      (case p_check_between => k_is)
      (case a_check_interval => k_is)
      (case l_check_interval => k_is)
      (case k_check_interval => k_is)
      (case p_check_interval => k_is)
      (case a_slot_of => k_is)
      (case l_slot_of => k_is)
      (case k_slot_of => k_is)
      (case p_slot_of => k_is)
      (case a_rounded_up => k_is)
      (case l_rounded_up => k_is)
      (case k_rounded_up => k_is)
      (case p_rounded_up => k_is)
      (case a_times_alive => k_is)
      (case l_times_alive => k_is)
      (case k_times_alive => k_is)
      (case p_times_alive => k_is)
      (case a_common_multiple => k_is)
      (case l_common_multiple => k_is)
      (case k_common_multiple => k_is)
      (case p_common_multiple => k_is)
      (case a_w_reel => k_is)
      (case l_w_reel => k_is)
      (case k_w_reel => k_is)
      (case p_w_reel => k_is)
      (case a_w_spin => k_is)
      (case l_w_spin => k_is)
      (case k_w_spin => k_is)
      (case p_w_spin => k_is)
      (case a_w_pick => k_is)
      (case l_w_pick => k_is)
      (case k_w_pick => k_is)
      (case p_w_pick => k_is)
      (case a_w_odd => k_is)
      (case l_w_odd => k_is)
      (case k_w_odd => k_is)
      (case p_w_odd => k_is)
      (case a_w_kept => k_is)
      (case l_w_kept => k_is)
      (case k_w_kept => k_is)
      (case p_w_kept => k_is)
      (case a_w_cell_right => k_is)
      (case l_w_cell_right => k_is)
      (case k_w_cell_right => k_is)
      (case p_w_cell_right => k_is)
      (case a_law => k_is)
      (case l_law => k_is)
      (case k_law => k_is)
      (case p_law => k_is)
      (case e_MAX_INTERVAL => k_is)
      (case e_MAX_FACTOR => k_is)
      (case e_MAX_FACTORS => k_is)
      (case g_lcm => k_is)
      (case y_int => k_is)
      (case y_abs => k_is)
      (case y_len => k_is)
      (case y_max => k_is)
      (case y_min => k_is)
      (case y_range => k_is)
      (case y_isinstance => k_is)
      (case y_repr => k_is)
      (case y_bool => k_is)
    case uu =>
      refine' K04.mk_U KX G ?aR ?xR ?hR ?sR ?eR ?tR ?kR ?iR ?nR ?gaR ?ggR ?hdR ?caR ?moR ?krR ?ktR ?aO ?xO ?hO ?sO ?eO ?tO ?kO ?iO ?nO ?gaO ?ggO ?hdO ?caO ?moO ?krO ?ktO ?aL ?xL ?hL ?sL ?eL ?tL ?kL ?iL ?nL ?gaL ?ggL ?hdL ?caL ?moL ?krL ?ktL ?aH ?xH ?hH ?sH ?eH ?tH ?kH ?iH ?nH ?gaH ?ggH ?hdH ?caH ?moH ?krH ?ktH ?aS ?xS ?hS ?sS ?eS ?tS ?kS ?iS ?nS ?gaS ?ggS ?hdS ?caS ?moS ?krS ?ktS ?aW ?xW ?hW ?sW ?eW ?tW ?kW ?iW ?nW ?gaW ?ggW ?hdW ?caW ?moW ?krW ?ktW ?aJ ?xJ ?hJ ?sJ ?eJ ?tJ ?kJ ?iJ ?nJ ?gaJ ?ggJ ?hdJ ?caJ ?moJ ?krJ ?ktJ ?aA ?xA ?hA ?sA ?eA ?tA ?kA ?iA ?nA ?gaA ?ggA ?hdA ?caA ?moA ?krA ?ktA ?aP ?xP ?hP ?sP ?eP ?tP ?kP ?iP ?nP ?gaP ?ggP ?hdP ?caP ?moP ?krP ?ktP ?aU ?xU ?hU ?sU ?eU ?tU ?kU ?iU ?nU ?gaU ?ggU ?hdU ?caU ?moU ?krU ?ktU ?aN ?xN ?hN ?sN ?eN ?tN ?kN ?iN ?nN ?gaN ?ggN ?hdN ?caN ?moN ?krN ?ktN ?aM ?xM ?hM ?sM ?eM ?tM ?kM ?iM ?nM ?gaM ?ggM ?hdM ?caM ?moM ?krM ?ktM ?aT ?xT ?hT ?sT ?eT ?tT ?kT ?iT ?nT ?gaT ?ggT ?hdT ?caT ?moT ?krT ?ktT ?aB ?xB ?hB ?sB ?eB ?tB ?kB ?iB ?nB ?gaB ?ggB ?hdB ?caB ?moB ?krB ?ktB ?cn ?ck ?lR ?coR ?keR ?tyR ?lP ?coP ?keP ?tyP ?lU ?coU ?keU ?tyU ?lN ?coN ?keN ?tyN ?lM ?coM ?keM ?tyM ?lT ?coT ?keT ?tyT ?lB ?coB ?keB ?tyB ?xD ?pt ?bn ?rd ?rg ?cv ?zV ?zK ?zR ?zO ?zI ?zA ?gN ?gM ?nn ?mn ?mm
      (case aR => k_is)
      (case xR => k_is)
      (case hR => exact ⟨by decide +kernel, by decide +kernel, by decide +kernel, by decide +kernel, fun x => by first | kernel_rfl | (rw [PySem.refuseLoop_ref]; kernel_rfl)⟩)
      (case sR => k_is)
      (case eR => k_is)
      (case tR => k_is)
      (case kR => k_is)
      (case iR => k_is)
      (case nR => k_is)
      (case gaR => k_is)
      (case ggR => k_is)
      (case hdR => k_is)
      (case caR => k_is)
      (case moR => first | rfl | k_is | kit_is | kernel_rfl)
      (case krR => first | rfl | k_is | kit_is | kernel_rfl)
      (case ktR => first | rfl | k_is | kit_is | kernel_rfl)
      (case aO => k_is)
      (case xO => k_is)
      (case hO => exact ⟨by decide +kernel, by decide +kernel, by decide +kernel, by decide +kernel, fun x => by first | kernel_rfl | (rw [PySem.refuseLoop_ref]; kernel_rfl)⟩)
      (case sO => k_is)
      (case eO => k_is)
      (case tO => k_is)
      (case kO => k_is)
      (case iO => k_is)
      (case nO => k_is)
      (case gaO => k_is)
      (case ggO => k_is)
      (case hdO => k_is)
      (case caO => k_is)
      (case moO => first | rfl | k_is | kit_is | kernel_rfl)
      (case krO => first | rfl | k_is | kit_is | kernel_rfl)
      (case ktO => first | rfl | k_is | kit_is | kernel_rfl)
      (case aL => k_is)
      (case xL => k_is)
      (case hL => exact ⟨by decide +kernel, by decide +kernel, by decide +kernel, by decide +kernel, fun x => by first | kernel_rfl | (rw [PySem.refuseLoop_ref]; kernel_rfl)⟩)
      (case sL => k_is)
      (case eL => k_is)
      (case tL => k_is)
      (case kL => k_is)
      (case iL => k_is)
      (case nL => k_is)
      (case gaL => k_is)
      (case ggL => k_is)
      (case hdL => k_is)
      (case caL => k_is)
      (case moL => first | rfl | k_is | kit_is | kernel_rfl)
      (case krL => first | rfl | k_is | kit_is | kernel_rfl)
      (case ktL => first | rfl | k_is | kit_is | kernel_rfl)
      (case aH => k_is)
      (case xH => k_is)
      (case hH => exact ⟨by decide +kernel, by decide +kernel, by decide +kernel, by decide +kernel, fun x => by first | kernel_rfl | (rw [PySem.refuseLoop_ref]; kernel_rfl)⟩)
      (case sH => k_is)
      (case eH => k_is)
      (case tH => k_is)
      (case kH => k_is)
      (case iH => k_is)
      (case nH => k_is)
      (case gaH => k_is)
      (case ggH => k_is)
      (case hdH => k_is)
      (case caH => k_is)
      (case moH => first | rfl | k_is | kit_is | kernel_rfl)
      (case krH => first | rfl | k_is | kit_is | kernel_rfl)
      (case ktH => first | rfl | k_is | kit_is | kernel_rfl)
      (case aS => k_is)
      (case xS => k_is)
      (case hS => exact ⟨by decide +kernel, by decide +kernel, by decide +kernel, by decide +kernel, fun x => by first | kernel_rfl | (rw [PySem.refuseLoop_ref]; kernel_rfl)⟩)
      (case sS => k_is)
      (case eS => k_is)
      (case tS => k_is)
      (case kS => k_is)
      (case iS => k_is)
      (case nS => k_is)
      (case gaS => k_is)
      (case ggS => k_is)
      (case hdS => k_is)
      (case caS => k_is)
      (case moS => first | rfl | k_is | kit_is | kernel_rfl)
      (case krS => first | rfl | k_is | kit_is | kernel_rfl)
      (case ktS => first | rfl | k_is | kit_is | kernel_rfl)
      (case aW => k_is)
      (case xW => k_is)
      (case hW => exact ⟨by decide +kernel, by decide +kernel, by decide +kernel, by decide +kernel, fun x => by first | kernel_rfl | (rw [PySem.refuseLoop_ref]; kernel_rfl)⟩)
      (case sW => k_is)
      (case eW => k_is)
      (case tW => k_is)
      (case kW => k_is)
      (case iW => k_is)
      (case nW => k_is)
      (case gaW => k_is)
      (case ggW => k_is)
      (case hdW => k_is)
      (case caW => k_is)
      (case moW => first | rfl | k_is | kit_is | kernel_rfl)
      (case krW => first | rfl | k_is | kit_is | kernel_rfl)
      (case ktW => first | rfl | k_is | kit_is | kernel_rfl)
      (case aJ => k_is)
      (case xJ => k_is)
      (case hJ => exact ⟨by decide +kernel, by decide +kernel, by decide +kernel, by decide +kernel, fun x => by first | kernel_rfl | (rw [PySem.refuseLoop_ref]; kernel_rfl)⟩)
      (case sJ => k_is)
      (case eJ => k_is)
      (case tJ => k_is)
      (case kJ => k_is)
      (case iJ => k_is)
      (case nJ => k_is)
      (case gaJ => k_is)
      (case ggJ => k_is)
      (case hdJ => k_is)
      (case caJ => k_is)
      (case moJ => first | rfl | k_is | kit_is | kernel_rfl)
      (case krJ => first | rfl | k_is | kit_is | kernel_rfl)
      (case ktJ => first | rfl | k_is | kit_is | kernel_rfl)
      (case aA => k_is)
      (case xA => k_is)
      (case hA => exact ⟨by decide +kernel, by decide +kernel, by decide +kernel, by decide +kernel, fun x => by first | kernel_rfl | (rw [PySem.refuseLoop_ref]; kernel_rfl)⟩)
      (case sA => k_is)
      (case eA => k_is)
      (case tA => k_is)
      (case kA => k_is)
      (case iA => k_is)
      (case nA => k_is)
      (case gaA => k_is)
      (case ggA => k_is)
      (case hdA => k_is)
      (case caA => k_is)
      (case moA => first | rfl | k_is | kit_is | kernel_rfl)
      (case krA => first | rfl | k_is | kit_is | kernel_rfl)
      (case ktA => first | rfl | k_is | kit_is | kernel_rfl)
      (case aP => k_is)
      (case xP => k_is)
      (case hP => exact ⟨by decide +kernel, by decide +kernel, by decide +kernel, by decide +kernel, fun x => by first | kernel_rfl | (rw [PySem.refuseLoop_ref]; kernel_rfl)⟩)
      (case sP => k_is)
      (case eP => k_is)
      (case tP => k_is)
      (case kP => k_is)
      (case iP => k_is)
      (case nP => k_is)
      (case gaP => k_is)
      (case ggP => k_is)
      (case hdP => k_is)
      (case caP => k_is)
      (case moP => first | rfl | k_is | kit_is | kernel_rfl)
      (case krP => first | rfl | k_is | kit_is | kernel_rfl)
      (case ktP => first | rfl | k_is | kit_is | kernel_rfl)
      (case aU => k_is)
      (case xU => k_is)
      (case hU => exact ⟨by decide +kernel, by decide +kernel, by decide +kernel, by decide +kernel, fun x => by first | kernel_rfl | (rw [PySem.refuseLoop_ref]; kernel_rfl)⟩)
      (case sU => k_is)
      (case eU => k_is)
      (case tU => k_is)
      (case kU => k_is)
      (case iU => k_is)
      (case nU => k_is)
      (case gaU => k_is)
      (case ggU => k_is)
      (case hdU => k_is)
      (case caU => k_is)
      (case moU => first | rfl | k_is | kit_is | kernel_rfl)
      (case krU => first | rfl | k_is | kit_is | kernel_rfl)
      (case ktU => first | rfl | k_is | kit_is | kernel_rfl)
      (case aN => k_is)
      (case xN => k_is)
      (case hN => exact ⟨by decide +kernel, by decide +kernel, by decide +kernel, by decide +kernel, fun x => by first | kernel_rfl | (rw [PySem.refuseLoop_ref]; kernel_rfl)⟩)
      (case sN => k_is)
      (case eN => k_is)
      (case tN => k_is)
      (case kN => k_is)
      (case iN => k_is)
      (case nN => k_is)
      (case gaN => k_is)
      (case ggN => k_is)
      (case hdN => k_is)
      (case caN => k_is)
      (case moN => first | rfl | k_is | kit_is | kernel_rfl)
      (case krN => first | rfl | k_is | kit_is | kernel_rfl)
      (case ktN => first | rfl | k_is | kit_is | kernel_rfl)
      (case aM => k_is)
      (case xM => k_is)
      (case hM => exact ⟨by decide +kernel, by decide +kernel, by decide +kernel, by decide +kernel, fun x => by first | kernel_rfl | (rw [PySem.refuseLoop_ref]; kernel_rfl)⟩)
      (case sM => k_is)
      (case eM => k_is)
      (case tM => k_is)
      (case kM => k_is)
      (case iM => k_is)
      (case nM => k_is)
      (case gaM => k_is)
      (case ggM => k_is)
      (case hdM => k_is)
      (case caM => k_is)
      (case moM => first | rfl | k_is | kit_is | kernel_rfl)
      (case krM => first | rfl | k_is | kit_is | kernel_rfl)
      (case ktM => first | rfl | k_is | kit_is | kernel_rfl)
      (case aT => k_is)
      (case xT => k_is)
      (case hT => exact ⟨by decide +kernel, by decide +kernel, by decide +kernel, by decide +kernel, fun x => by first | kernel_rfl | (rw [PySem.refuseLoop_ref]; kernel_rfl)⟩)
      (case sT => k_is)
      (case eT => k_is)
      (case tT => k_is)
      (case kT => k_is)
      (case iT => k_is)
      (case nT => k_is)
      (case gaT => k_is)
      (case ggT => k_is)
      (case hdT => k_is)
      (case caT => k_is)
      (case moT => first | rfl | k_is | kit_is | kernel_rfl)
      (case krT => first | rfl | k_is | kit_is | kernel_rfl)
      (case ktT => first | rfl | k_is | kit_is | kernel_rfl)
      (case aB => k_is)
      (case xB => k_is)
      (case hB => exact ⟨by decide +kernel, by decide +kernel, by decide +kernel, by decide +kernel, fun x => by first | kernel_rfl | (rw [PySem.refuseLoop_ref]; kernel_rfl)⟩)
      (case sB => k_is)
      (case eB => k_is)
      (case tB => k_is)
      (case kB => k_is)
      (case iB => k_is)
      (case nB => k_is)
      (case gaB => k_is)
      (case ggB => k_is)
      (case hdB => k_is)
      (case caB => k_is)
      (case moB => first | rfl | k_is | kit_is | kernel_rfl)
      (case krB => first | rfl | k_is | kit_is | kernel_rfl)
      (case ktB => first | rfl | k_is | kit_is | kernel_rfl)
      (case cn => k_is)
      (case ck => k_is)
      (case lR => k_is)
      (case coR => k_is)
      (case keR => k_is)
      (case tyR => k_is)
      (case lP => k_is)
      (case coP => k_is)
      (case keP => k_is)
      (case tyP => k_is)
      (case lU => k_is)
      (case coU => k_is)
      (case keU => k_is)
      (case tyU => k_is)
      (case lN => k_is)
      (case coN => k_is)
      (case keN => k_is)
      (case tyN => k_is)
      (case lM => k_is)
      (case coM => k_is)
      (case keM => k_is)
      (case tyM => k_is)
      (case lT => k_is)
      (case coT => k_is)
      (case keT => k_is)
      (case tyT => k_is)
      (case lB => k_is)
      (case coB => k_is)
      (case keB => k_is)
      (case tyB => k_is)
      (case xD => k_is)
      (case pt => k_is)
      (case bn => k_is)
      (case rd => first | rfl | k_is | kit_is | kernel_rfl)
      (case rg => first | rfl | k_is | kit_is | kernel_rfl)
      (case cv => first | rfl | k_is | kit_is | kernel_rfl)
      (case zV => k_is)
      (case zK => k_is)
      (case zR => k_is)
      (case zO => k_is)
      (case zI => k_is)
      (case zA => k_is)
      (case gN => k_is)
      (case gM => k_is)
      (case nn => first | rfl | k_is | kit_is | kernel_rfl)
      (case mn => first | rfl | k_is | kit_is | kernel_rfl)
      (case mm => first | rfl | k_is | kit_is | kernel_rfl)
    (case pl1 => k_is)
    (case pl2 => k_is)
    (case pu1 => rfl)
    (case pu2 => rfl)
    (case hd1 => kernel_rfl)
    (case hd2 => kernel_rfl)
    (case out1 => kernel_rfl)
    (case out2 => kernel_rfl)
    (case em1 => exact hY _ (by decide))
    (case em2 => exact hY _ (by decide))
    (case ne => decide)
    (case hb => intro s u; exact .of_eq rfl)
