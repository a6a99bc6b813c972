import PyProof.Rows.All
import Wide.All
import OpenK.AllK
import Wide.FinOn
import PyProof.EqAt
import PyProof.EqKinds
import PyProof.TupleCall
import PyProof.InstNe
import KE.KOpsOwn
import PySem.Challenge.RW_surecounts_k26_question_sums
import HandS.ForMost
import HandS.Zip
import HandS.Conv
import HandS.IsInst
import HandS.Property
import HandS.OwnEq
import HandS.Star
import HandS.Evl
set_option Elab.async false
set_option linter.all false
set_option maxRecDepth 100000
set_option maxHeartbeats 2100000
namespace Ow
open PySem L2 PySem.Spec PyProof.Rows

theorem notImp {z : V} {w : Value} {Q : Value → Shared → Prop} {s : Shared} (r : RelV z w) (h : Q w s) : PySem.W.CmpBack Q w s := by
  cases z with
  | non => cases (show w = Value.none from r); exact h
  | bl b => cases (show w = Value.bool b from r); exact h
  | int i => obtain ⟨t, e⟩ := (show ∃ t, w = Value.int i t from r); cases e; exact h
  | str x => obtain ⟨t, e⟩ := (show ∃ t, w = Value.str x t from r); cases e; exact h
  | byt b => obtain ⟨t, e⟩ := (show ∃ t, w = Value.bytes b t from r); cases e; exact h
  | flt b => obtain ⟨t, e⟩ := (show ∃ t, w = Value.float b t from r); cases e; exact h
  | ref a => cases (show w = Value.ref a from r); exact h
  | ty n => cases (show w = Value.type n from r); exact h

section
variable {X : Cx} {CX : CXT} {n : Nat} {C f : Addr} {fd : FuncData} {ps : List Str} {sp : Sp} {E : XK}
/-- a def is called by the machine with values that are known -/
theorem own_call {pins : List (Addr × Obj)} {σ : L2.St} {H : Hp} {s : Shared} {vs : List V} {us : List Value} {Q : VK} {R : Value → Shared → Prop} (F : FnOk X.prog X.w X.K X.mg X.base CX n f fd ps sp) (hb : Binds X.K fd ps []) (hr : Room n X.A) (hx : Passes CX X E)
    (I : Inv X pins σ H s) (r : Vals vs us) (h : sp vs H Q E) (hR : ∀ z w H' s', Inv X pins σ H' s' → RelV z w → Q z H' → R w s') :
    wpAny (model X.prog X.w) X.A (call (.ref f) us) R X.xe s := by
  have hl := F.len _ _ _ _ h
  refine wpAny_call (codeAny_mono (F.run X.A X.stack s H ⟨us, []⟩ us vs Q E hr I.env0 (by
    have := hb s us I.kIn (by simpa [r.length] using hl)
    simpa using this) r h) fun r s' hq => ?_)
  cases r with
  | error er => exact hx pins σ H s er s' I hq
  | ok fl =>
    cases fl with
    | ret w =>
      obtain ⟨z, H', I', rz, q⟩ := I.after hq
      exact hR z w H' s' I' rz q
    | next => exact False.elim hq
    | brk => exact False.elim hq
    | cont => exact False.elim hq

/-- x op y: two instances of the class at C, the class's own def -/
def rOwnB (C : Addr) (sp : Sp) (E : XK) : R2 := fun x y H Q => ∃ a b dx dy fs gs, x = .ref a ∧ y = .ref b ∧ H a = some (.ins C dx fs) ∧ H b = some (.ins C dy gs) ∧ sp [x, y] H Q E
theorem op_own {op : Operator} (F : FnOk X.prog X.w X.K X.mg X.base CX n f fd ps sp) (hc : PySem.W.selfFirst X.K C = true) (hs : PySem.W.findIn X.K (.ref C) (PySem.dunder op.info.2) = some (some (.ref f))) (hf : PySem.W.isFn X.K (.ref f) = true)
    (hb : Binds X.K fd ps []) (hr : Room n X.A) (hx : Passes CX X E) : OpR X (binaryOp op) (rOwnB C sp E) := by
  intro pins s σ H x y v u Q I rx ry hq; obtain ⟨a, b, dx, dy, fs, gs, rfl, rfl, ha, hb', q⟩ := hq
  cases rx
  cases ry
  obtain ⟨mA, J0, _⟩ := ins_get I.hok ha; obtain ⟨mB, J1, _⟩ := ins_get I.hok hb'
  obtain ⟨od, J, _⟩ := J0.look; obtain ⟨od', J', _⟩ := J1.look
  obtain ⟨m, hF⟩ := I.fr
  refine PySem.W.binop_K hF I.ok.mod.kin J J'.type hc hs hf ?_
  exact own_call (vs := [.ref a, .ref b]) F hb hr hx I (.cons rfl (.cons rfl .nil)) q fun z w H' s' I' rz qz => notImp rz ⟨z, H', I', rz, qz⟩

/-- x op k, k an int -/
def rOwnI (C : Addr) (sp : Sp) (E : XK) : R2 := fun x y H Q => ∃ a dx fs i, x = .ref a ∧ y = .int i ∧ H a = some (.ins C dx fs) ∧ sp [x, y] H Q E
theorem op_ownI {op : Operator} {fo ro rc : Option Value} (F : FnOk X.prog X.w X.K X.mg X.base CX n f fd ps sp) (hc : PySem.W.selfFirst X.K C = true) (hs : PySem.W.findIn X.K (.ref C) (PySem.dunder op.info.2) = some (some (.ref f))) (hf : PySem.W.isFn X.K (.ref f) = true)
    (hrr : PySem.W.findIn X.K (.ref C) (PySem.dunderR op.info.2) = some rc) (hp : rc = none ∨ ∃ g : Addr, rc = some (.ref g)) (h1 : PySem.W.findIn X.K (.type "int") (PySem.dunder op.info.2) = some fo) (h2 : PySem.W.findIn X.K (.type "int") (PySem.dunderR op.info.2) = some ro)
    (hsub : PySem.W.subIn X.K (.type "int") (.ref C) = some false)
    (hb : Binds X.K fd ps []) (hr : Room n X.A) (hx : Passes CX X E) : OpR X (binaryOp op) (rOwnI C sp E) := by
  intro pins s σ H x y v u Q I rx ry hq; obtain ⟨a, dx, fs, i, rfl, rfl, ha, q⟩ := hq
  cases rx
  obtain ⟨t, rfl⟩ := ry
  obtain ⟨mA, J0, _⟩ := ins_get I.hok ha; obtain ⟨od, J, _⟩ := J0.look
  obtain ⟨m, hF⟩ := I.fr
  refine PySem.W.ksp_binT (T := "int") hF I.ok.mod.kin J rfl hc hs hf hrr hp h1 h2 hsub ?_
  exact own_call (vs := [.ref a, .int i]) F hb hr hx I (.cons rfl (.cons ⟨_, rfl⟩ .nil)) q fun z w H' s' I' rz qz => notImp rz ⟨z, H', I', rz, qz⟩

/-- -x -/
def rOwnU (C : Addr) (sp : Sp) (E : XK) : V → Hp → VK → Prop := fun x H Q => ∃ a dx fs, x = .ref a ∧ H a = some (.ins C dx fs) ∧ sp [x] H Q E
theorem un_own (F : FnOk X.prog X.w X.K X.mg X.base CX n f fd ps sp) (hs : PySem.W.findIn X.K (.ref C) "__neg__" = some (some (.ref f))) (hf : PySem.W.isFn X.K (.ref f) = true)
    (hb : Binds X.K fd ps []) (hr : Room n X.A) (hx : Passes CX X E) : UnR X (unaryOp .USub) (rOwnU C sp E) := by
  intro pins s σ H x v Q I rx hq
  obtain ⟨a, dx, fs, rfl, ha, q⟩ := hq
  cases rx
  obtain ⟨mA, J0, _⟩ := ins_get I.hok ha; obtain ⟨od, J, _⟩ := J0.look
  obtain ⟨m, hF⟩ := I.fr
  refine PySem.W.ksp_neg hF I.ok.mod.kin J hs hf ?_
  exact own_call (vs := [.ref a]) F hb hr hx I (.cons rfl .nil) q fun z w H' s' I' rz qz => ⟨z, H', I', rz, qz⟩

/-- x == y -/
theorem op_ownEq (F : FnOk X.prog X.w X.K X.mg X.base CX n f fd ps sp) (hs : PySem.W.findIn X.K (.ref C) "__eq__" = some (some (.ref f))) (hf : PySem.W.isFn X.K (.ref f) = true)
    (hb : Binds X.K fd ps []) (hr : Room n X.A) (hx : Passes CX X E) : OpR X (compareOp .Eq) (rOwnB C sp E) := by
  intro pins s σ H x y v u Q I rx ry hq; obtain ⟨a, b, dx, dy, fs, gs, rfl, rfl, ha, hb', q⟩ := hq
  cases rx
  cases ry
  obtain ⟨mA, J0, _⟩ := ins_get I.hok ha; obtain ⟨mB, J1, _⟩ := ins_get I.hok hb'
  obtain ⟨od, J, _⟩ := J0.look; obtain ⟨od', J', _⟩ := J1.look
  obtain ⟨m, hF⟩ := I.fr
  show wpAny (model X.prog X.w) X.A (richCompare .Eq _ _) (EP X pins σ Q) X.xe s
  refine PySem.W.cmp_K (op := .Eq) (tb := .ref C) hr.units0 hF I.ok.mod.kin J J'.type (by simp [PySem.W.notFirst]) hs hf ?_
  exact own_call (vs := [.ref a, .ref b]) F hb hr hx I (.cons rfl (.cons rfl .nil)) q fun z w H' s' I' rz qz => notImp rz ⟨z, H', I', rz, qz⟩
end
end Ow
namespace Ow
open PySem L2 PySem.Spec PyProof.Rows
/-- what is written of a class with its own == and no != -/
structure NeTxt (K : PySem.W.Frag) (C f : Addr) : Prop where
  ex : ∃ (nm q : Str) (N : Addr) (bs : List Value) (hdct : Bool) (sn : List Str) (sub : List Value) (ab : Bool) (col : Option Bool) (dd : Option Addr) (k0 k1 k2 k3 k5 : Option Value) (newId : String) (oc : Value) (od : Option Addr) (es : Array DictEntry) (n : Nat) (osl : Array (Option Value)) (fo : Obj),
    K.lookup C = some (excClassObj nm q C N bs [.type "object"] hdct sn sub ab col dd k0 k1 k2 k3 k5 newId) ∧ K.lookup N = some ⟨oc, od, .dict es n, osl⟩ ∧ StrKeys es ∧ nsFind es "__eq__" = some (.ref f) ∧ nsFind es "__ne__" = none ∧ K.lookup f = some fo ∧ fo.cls = .type "function"
section
variable {X : Cx} {CX : CXT} {n : Nat} {C f : Addr} {fd : FuncData} {ps : List Str} {sp : Sp} {E : XK}
theorem room_lt {A : Around} (hr : Room n A) : A.units + 1 < cLine := hu_of hr
/-- a def is called by the machine, one level in -/
theorem own_call1 {pins : List (Addr × Obj)} {σ : L2.St} {H : Hp} {s : Shared} {vs : List V} {us : List Value} {Q : VK} {R : Value → Shared → Prop} (F : FnOk X.prog X.w X.K X.mg X.base CX n f fd ps sp) (hb : Binds X.K fd ps []) (hr : Room (n + 1) X.A) (hx : Passes CX X E)
    (I : Inv X pins σ H s) (r : Vals vs us) (h : sp vs H Q E) (hR : ∀ z w H' s', Inv X pins σ H' s' → RelV z w → Q z H' → R w s') :
    wpAny (model X.prog X.w) X.A.in1 (call (.ref f) us) R X.xe s := by
  have hl := F.len _ _ _ _ h
  refine wpAny_call (codeAny_mono (F.run X.A.in1 X.stack s H ⟨us, []⟩ us vs Q E hr.in1 I.env0.in1 (by
    have := hb s us I.kIn (by simpa [r.length] using hl)
    simpa using this) r h) fun r s' hq => ?_)
  cases r with
  | error er => exact hx pins σ H s er s' I hq
  | ok fl =>
    cases fl with
    | ret w =>
      obtain ⟨z, H', I', rz, q⟩ := I.after hq
      exact hR z w H' s' I' rz q
    | next => exact False.elim hq
    | brk => exact False.elim hq
    | cont => exact False.elim hq
/-- x != y by the class's own == (which hands back a bool) -/
def rOwnNe (C : Addr) (sp : Sp) (E : XK) : R2 := fun x y H Q => ∃ a b dx dy fs gs, x = .ref a ∧ y = .ref b ∧ H a = some (.ins C dx fs) ∧ H b = some (.ins C dy gs) ∧ sp [x, y] H (fun v H1 => ∃ c, v = .bl c ∧ Q (.bl (!c)) H1) E
theorem op_ownNe (F : FnOk X.prog X.w X.K X.mg X.base CX n f fd ps sp) (N : NeTxt X.K C f) (hb : Binds X.K fd ps []) (hr : Room (n + 1) X.A) (hx : Passes CX X E) : OpR X (compareOp .NotEq) (rOwnNe C sp E) := by
  intro pins s σ H x y v u Q I rx ry hq; obtain ⟨a, b, dx, dy, fs, gs, rfl, rfl, ha, hb', q⟩ := hq
  cases rx
  cases ry
  obtain ⟨mA, J0, _⟩ := ins_get I.hok ha; obtain ⟨mB, J1, _⟩ := ins_get I.hok hb'
  obtain ⟨od, J, _⟩ := J0.look; obtain ⟨od', J', _⟩ := J1.look
  obtain ⟨nm, q1, Na, bs, hdct, sn, sub, ab, col, dd, k0, k1, k2, k3, k5, newId, oc, od2, es, n2, osl, fo, hC, hN, hk, he, hne, hf, hfc⟩ := N.ex
  have hin := I.kIn
  have own : s.heap.OwnEqNoNe a C f "object" [.type "object"] :=
    ⟨_, fo, nm, q1, Na, bs, hdct, sn, sub, ab, col, dd, k0, k1, k2, k3, k5, newId, fun x => nsFind es x, _, J.1, J.cls, hin _ _ hC, ⟨_, es, n2, hin _ _ hN, rfl, hk, fun _ => rfl⟩, he, hin _ _ hf, hfc, PySem.F.mro_object, PySem.F.cmp_object.eq.lookup, hne⟩
  have go := own_call1 (R := fun v s' => ∃ b, v = .bool b ∧ EP X pins σ Q (.bool (!b)) s') (vs := [.ref a, .ref b]) F hb hr hx I (.cons rfl (.cons rfl .nil)) q fun z w H' s' I' rz ⟨c, hz, qz⟩ => by
    subst hz
    exact ⟨c, rz, .bl (!c), H', I', rfl, qz⟩
  have jo := J'.1; have jc := J'.cls
  clear I J J' J0 J1 ha hb' q hin
  obtain ⟨hp, g, dr, tk, os⟩ := s
  exact compareOp_ne_ownEq PySem.F.cmp_object own jo jc (room_lt hr) go
end
end Ow
namespace Ev2
open PySem PySem.Spec PyProof.Rows L2 Evl Ow RZ

abbrev HP := V → Hp → Prop
def Mono (P : HP) : Prop := ∀ v H H', Evl.Ex H H' → P v H → P v H'
/-- what never changes is kept: all but lists -/
def Fx (H H' : Hp) : Prop := ∀ a o, H a = some o → (∀ xs, o ≠ .lst xs) → H' a = some o
theorem Fx.of {H H' : Hp} (e : Evl.Ex H H') : Fx H H' := fun a o h _ => e a o h
theorem Fx.refl (H : Hp) : Fx H H := fun _ _ h _ => h
theorem Fx.trans {H H1 H2 : Hp} (a : Fx H H1) (b : Fx H1 H2) : Fx H H2 := fun x o h n => b x o (a x o h n) n
theorem Fx.lst {H : Hp} {D : Addr} {xs ys : List V} (h : H D = some (.lst xs)) : Fx H (upd H D (.lst ys)) := fun a o e n => by
  by_cases ha : a = D
  · subst ha; rw [h] at e; cases e; exact absurd rfl (n xs)
  · rw [upd_ne ha]; exact e
def MonoF (P : HP) : Prop := ∀ v H H', Fx H H' → P v H → P v H'
theorem MonoF.mono {P : HP} (m : MonoF P) : Mono P := fun v H H' e p => m v H H' (Fx.of e) p
def EvP (te : TE) (σ : L2.St) (H : Hp) (P : HP) : Prop := ∀ H1, Evl.Ex H H1 → ∀ Q : VK, (∀ v H2, Evl.Ex H1 H2 → P v H2 → Q v H2) → te σ H1 Q
def EvAP (ta : TA) (σ : L2.St) (H : Hp) (P : List V → Hp → Prop) : Prop := ∀ H1, Evl.Ex H H1 → ∀ Q : List V → Hp → Prop, (∀ v H2, Evl.Ex H1 H2 → P v H2 → Q v H2) → ta σ H1 Q
def EvTP (tt : TT) (σ : L2.St) (H : Hp) (b : Bool) : Prop := EvT tt σ H b
def RP (r : R2) (x y : V) (H : Hp) (P : HP) : Prop := ∀ Q : VK, (∀ v H2, Evl.Ex H H2 → P v H2 → Q v H2) → r x y H Q
/-- a list just made whose items are so -/
def LstP (n : Nat) (P : Nat → HP) : HP := fun v H => ∃ p ys, v = .ref p ∧ H p = some (.lst ys) ∧ ys.length = n ∧ ∀ i y, ys[i]? = some y → P i y H
def TupP (n : Nat) (P : Nat → HP) : HP := fun v H => ∃ p ys, v = .ref p ∧ H p = some (.tup ys) ∧ ys.length = n ∧ ∀ i y, ys[i]? = some y → P i y H
def Is (x : V) : HP := fun v _ => v = x
theorem mono_is {x : V} : Mono (Is x) := fun _ _ _ _ h => h
theorem mono_lst {n : Nat} {P : Nat → HP} (m : ∀ i, Mono (P i)) : Mono (LstP n P) := fun v H H' e ⟨p, ys, h1, h2, h3, h4⟩ => ⟨p, ys, h1, e _ _ h2, h3, fun i y hy => m i _ _ _ e (h4 i y hy)⟩
theorem mono_tup {n : Nat} {P : Nat → HP} (m : ∀ i, Mono (P i)) : Mono (TupP n P) := fun v H H' e ⟨p, ys, h1, h2, h3, h4⟩ => ⟨p, ys, h1, e _ _ h2, h3, fun i y hy => m i _ _ _ e (h4 i y hy)⟩
section
variable {K : PySem.W.Frag} {σ : L2.St} {H H' : Hp} {ta tb te : TE} {P R S : HP} {r : R2} {v : V}
theorem EvP.mono (h : EvP te σ H P) (e : Evl.Ex H H') : EvP te σ H' P := fun H1 a Q q => h H1 (e.trans a) Q q
theorem EvP.imp (h : EvP te σ H P) (k : ∀ v H1, Evl.Ex H H1 → P v H1 → R v H1) : EvP te σ H R := fun H1 a Q q => h H1 a Q fun v H2 e p => q v H2 e (k v H2 (a.trans e) p)
theorem evp_of (h : Ev te σ H v) : EvP te σ H (Is v) := fun H1 a Q q => h H1 a Q fun H2 e => q v H2 e rfl
theorem EvP.ev (h : EvP te σ H (Is v)) : Ev te σ H v := fun H1 a Q q => h H1 a Q fun x H2 e p => by rw [show x = v from p]; exact q H2 e
theorem evp_var {i : Nat} (h : σ[i]? = some (some v)) (p : P v H) (m : Mono P) : EvP (tVar i) σ H P := fun H1 e Q q => ⟨v, h, q v H1 (Ex.refl H1) (m _ _ _ e p)⟩
theorem evp_op (ha : EvP ta σ H P) (hb : EvP tb σ H R) (m : Mono P) (hr : ∀ x y H1, Evl.Ex H H1 → P x H1 → R y H1 → RP r x y H1 S) : EvP (tOp r ta tb) σ H S := fun H1 e Q q =>
  ha H1 e _ fun x H2 e2 p => hb H2 (e.trans e2) _ fun y H3 e3 p' => hr x y H3 ((e.trans e2).trans e3) (m _ _ _ e3 p) p' Q fun z H4 e4 s => q z H4 ((e2.trans e3).trans e4) s
theorem evp_un {u : V → Hp → VK → Prop} (ha : EvP ta σ H P) (hr : ∀ x H1, Evl.Ex H H1 → P x H1 → ∀ Q : VK, (∀ v H2, Evl.Ex H1 H2 → S v H2 → Q v H2) → u x H1 Q) : EvP (tUn u ta) σ H S := fun H1 e Q q =>
  ha H1 e _ fun x H2 e2 p => hr x H2 (e.trans e2) p Q fun z H4 e4 s => q z H4 (e2.trans e4) s
theorem eap_nil : EvAP tNil σ H (fun vs _ => vs = []) := fun H1 e Q q => q [] H1 (Ex.refl H1) rfl
theorem eap_one (h : EvP te σ H P) : EvAP (tCons te tNil) σ H (fun vs H1 => ∃ x, vs = [x] ∧ P x H1) := fun H1 e Q q => h H1 e _ fun x H2 e2 p => q [x] H2 e2 ⟨x, rfl, p⟩
theorem eap_two (h : EvP te σ H P) (h2 : EvP ta σ H R) (m : Mono P) : EvAP (tCons te (tCons ta tNil)) σ H (fun vs H1 => ∃ x y, vs = [x, y] ∧ P x H1 ∧ R y H1) := fun H1 e Q q =>
  h H1 e _ fun x H2 e2 p => h2 H2 (e.trans e2) _ fun y H3 e3 p' => q [x, y] H3 (e2.trans e3) ⟨x, y, rfl, m _ _ _ e3 p, p'⟩
theorem eap_three {tc : TE} (h : EvP te σ H P) (h2 : EvP ta σ H R) (h3 : EvP tc σ H S) (m : Mono P) (m2 : Mono R) : EvAP (tCons te (tCons ta (tCons tc tNil))) σ H (fun vs H1 => ∃ x y z, vs = [x, y, z] ∧ P x H1 ∧ R y H1 ∧ S z H1) := fun H1 e Q q =>
  h H1 e _ fun x H2 e2 p => h2 H2 (e.trans e2) _ fun y H3 e3 p' => h3 H3 ((e.trans e2).trans e3) _ fun z H4 e4 p'' => q [x, y, z] H4 ((e2.trans e3).trans e4) ⟨x, y, z, rfl, m _ _ _ (e3.trans e4) p, m2 _ _ _ e4 p', p''⟩
/-- a def's promise, of such arguments -/
def SpP (sp : Sp) (A : List V → Hp → Prop) (S : HP) : Prop := ∀ vs H1, A vs H1 → ∀ Q : VK, (∀ v H2, Evl.Ex H1 H2 → S v H2 → Q v H2) → ∀ E : XK, sp vs H1 Q E
theorem evp_call {sp : Sp} {E : XK} {ta : TA} {A : List V → Hp → Prop} (h : EvAP ta σ H A) (hs : SpP sp A S) : EvP (tCall sp [] E ta) σ H S := fun H1 e Q q =>
  h H1 e _ fun vs H2 e2 a => by
    have z := hs vs H2 a Q (fun v H3 e3 s => q v H3 (e2.trans e3) s) E
    show sp (vs ++ []) H2 Q E
    rw [List.append_nil]
    exact z
theorem evp_cb {rr : List V → Hp → VK → Prop} {ta : TA} {A : List V → Hp → Prop} (h : EvAP ta σ H A) (hs : ∀ vs H1, A vs H1 → ∀ Q : VK, (∀ v H2, Evl.Ex H1 H2 → S v H2 → Q v H2) → rr vs H1 Q) : EvP (tCB rr ta) σ H S := fun H1 e Q q =>
  h H1 e _ fun vs H2 e2 a => hs vs H2 a Q fun v H3 e3 s => q v H3 (e2.trans e3) s
theorem eu_tupP {ta : TA} {A : List V → Hp → Prop} (h : EvAP ta σ H A) (hl : ∀ vs H1, A vs H1 → vs.length ≤ 100000) (m : ∀ vs H1 H2, Evl.Ex H1 H2 → A vs H1 → A vs H2) : EvP (tTup ta) σ H (fun v H1 => ∃ p vs, v = .ref p ∧ H1 p = some (.tup vs) ∧ A vs H1) := fun H1 e Q q =>
  h H1 e _ fun vs H2 e2 a => ⟨sz_of (hl vs H2 a), fun p hp => q _ _ (e2.trans (Ex.new hp)) ⟨p, vs, rfl, upd_same, m _ _ _ (Ex.new hp) a⟩⟩
/-- tuple(a new list) -/
theorem evp_tuple {n : Nat} {Pi : Nat → HP} (h : EvP te σ H (LstP n Pi)) (m : ∀ i, Mono (Pi i)) :
    EvP (tCB (fun xs H Q => ∃ p ys, xs = [.ref p] ∧ ((SqL K H p ys ∧ ∀ l, H l = none → Q (.ref l) (upd H l (.tup ys))) ∨ (SqT K H p ys ∧ Q (.ref p) H))) (tCons te tNil)) σ H (TupP n Pi) := fun H1 e Q q =>
  h H1 e _ fun v H2 e2 ⟨p, ys, hv, hp, hl, hi⟩ => by
    subst hv
    exact ⟨p, ys, rfl, .inl ⟨sq_of hp, fun l hl' => q _ _ (e2.trans (Ex.new hl')) ⟨l, ys, rfl, upd_same, hl, fun i y hy => m i _ _ _ (Ex.new hl') (hi i y hy)⟩⟩⟩

/-! ### what is walked -/
structure Turns (J : It) (n : Nat) (Pre : Hp → Prop) (item : Nat → V → Hp → Prop) : Prop where
  mono : ∀ H H', Fx H H' → Pre H → Pre H'
  go : ∀ i H, i < n → Pre H → J.go i H
  stop : ∀ H, Pre H → J.stop n H
  yld : ∀ i H x H', i < n → Pre H → J.yld i H x H' → Evl.Ex H H' ∧ item i x H'
def WiP (wi : TI) (σ : L2.St) (H : Hp) (n : Nat) (item : Nat → V → Hp → Prop) : Prop := ∀ H1, Evl.Ex H H1 → ∀ R : It → Hp → Prop, (∀ J H2 Pre, Evl.Ex H1 H2 → Turns J n Pre item → Pre H2 → R J H2) → wi σ H1 R
theorem wi_tup {tl : TE} {n : Nat} {Pi : Nat → HP} (h : EvP tl σ H (TupP n Pi)) (m : ∀ i, MonoF (Pi i)) : WiP (iTup K tl) σ H n (fun i x H => Pi i x H) := fun H1 e R k =>
  h H1 e _ fun v H2 e2 ⟨p, ys, hv, hp, hl, hi⟩ => by
    subst hv
    refine ⟨p, rfl, ⟨ys, st_of hp⟩, k _ H2 (fun H => H p = some (.tup ys) ∧ ∀ i y, ys[i]? = some y → Pi i y H) e2 ?_ ⟨hp, hi⟩⟩
    refine ⟨fun H H' e ⟨a, b⟩ => ⟨e _ _ a (fun _ z => nomatch z), fun i y hy => m i _ _ _ e (b i y hy)⟩, fun i H hlt ⟨a, _⟩ => ?_, fun H ⟨a, _⟩ => ?_, fun i H x H' hlt ⟨a, b⟩ y => ?_⟩
    · exact ⟨ys, _, st_of a, List.getElem?_eq_getElem (by omega)⟩
    · exact ⟨ys, st_of a, by omega⟩
    · obtain ⟨rfl, f⟩ := y
      have hx : ys[i]? = some x := by first | exact f ys (st_of a) | (obtain ⟨zs, z1, z2⟩ := f; exact z2)
      exact ⟨Ex.refl _, b i x hx⟩
theorem wi_rng {ta : TA} {n : Nat} (h : EvAP ta σ H (fun vs _ => vs = [.int (n : Int)])) (hn : n ≤ 100000) : WiP (iRng1 ta) σ H n (fun i x _ => x = .int (i : Int)) := fun H1 e R k =>
  h H1 e _ fun vs H2 e2 hv => by
    subst hv
    refine ⟨(n : Int), rfl, by omega, by omega, ?_⟩
    refine k _ H2 (fun _ => True) e2 ⟨fun _ _ _ _ => trivial, fun i H hlt _ => ?_, fun H _ => ?_, fun i H x H' hlt _ y => ?_⟩ trivial
    · show i < (n : Int).toNat
      simpa using hlt
    · show (n : Int).toNat ≤ n
      simp
    · obtain ⟨rfl, rfl⟩ := y
      exact ⟨Ex.refl _, by rw [Int.zero_add]⟩
theorem wi_zip {tl tr : TE} {n : Nat} {Pi Ri : Nat → HP} (h : EvP tl σ H (TupP n Pi)) (h2 : EvP tr σ H (TupP n Ri)) (m : ∀ i, MonoF (Pi i)) (m2 : ∀ i, MonoF (Ri i)) :
    WiP (iZipA K (tCons tl (tCons tr tNil))) σ H n (fun i x H => ∃ T u v, x = .ref T ∧ H T = some (.tup [u, v]) ∧ Pi i u H ∧ Ri i v H) := fun H1 e R k =>
  h H1 e _ fun v H2 e2 ⟨p, ys, hv, hp, hl, hi⟩ => h2 H2 (e.trans e2) _ fun v' H3 e3 ⟨q, zs, hv', hq, hl', hi'⟩ => by
    subst hv
    subst hv'
    refine ⟨p, q, ys, zs, rfl, .inr ⟨st_of (e3 _ _ hp), st_of hq, ?_⟩⟩
    refine k _ H3 (fun H => H p = some (.tup ys) ∧ H q = some (.tup zs) ∧ (∀ i y, ys[i]? = some y → Pi i y H) ∧ ∀ i y, zs[i]? = some y → Ri i y H) (e2.trans e3) ?_ ⟨e3 _ _ hp, hq, fun i y hy => (m i).mono _ _ _ e3 (hi i y hy), hi'⟩
    refine ⟨fun H H' e ⟨a, b, c, d⟩ => ⟨e _ _ a (fun _ z => nomatch z), e _ _ b (fun _ z => nomatch z), fun i y hy => m i _ _ _ e (c i y hy), fun i y hy => m2 i _ _ _ e (d i y hy)⟩, fun i H hlt ⟨a, b, _, _⟩ => ?_, fun H ⟨a, b, _, _⟩ => ?_, fun i H x H' hlt ⟨a, b, c, d⟩ y => ?_⟩
    · exact ⟨ys, zs, _, _, st_of a, st_of b, List.getElem?_eq_getElem (by omega), List.getElem?_eq_getElem (by omega)⟩
    · exact ⟨ys, zs, st_of a, st_of b, .inl (by omega)⟩
    · obtain ⟨T, u, w, rfl, hT, rfl, f1, f2⟩ := y
      have ex := Ex.new (o := .tup [u, w]) hT
      exact ⟨ex, T, u, w, rfl, upd_same, (m i).mono _ _ _ ex (c i u (f1 ys (st_of a))), (m2 i).mono _ _ _ ex (d i w (f2 zs (st_of b)))⟩
/-- targets -/
def GP (g : TG) (x : V) (σ0 : L2.St) (H : Hp) (S : L2.St → Hp → Prop) : Prop := ∀ Q : L2.St → Hp → Prop, (∀ σ2, S σ2 H → Q σ2 H) → g x σ0 H Q
theorem g_pair {x : V} {T : Addr} {u w : V} {σ0 : L2.St} {i j : Nat} (hx : x = .ref T) (h : H T = some (.tup [u, w])) : GP (gTup K 2 (gCons (gName i) (gCons (gName j) gNil))) x σ0 H (fun σ2 _ => σ2 = (σ0.set i (some u)).set j (some w)) := fun Q q =>
  ⟨T, [u, w], hx, st_of h, rfl, u, [w], rfl, w, [], rfl, rfl, q _ rfl⟩
/-- a comprehension without tests -/
theorem evp_lc {wi : TI} {g : TG} {vs : List Nat} {n : Nat} {item : Nat → V → Hp → Prop} {Sg : Nat → L2.St → Hp → Prop} {Pi : Nat → HP} (hw : WiP wi σ H n item) (hn : n ≤ 40000)
    (hg : ∀ i x H1, i < n → Evl.Ex H H1 → item i x H1 → GP g x (wipe σ vs) H1 (fun σ2 H2 => wipe σ2 vs = wipe σ vs ∧ Sg i σ2 H2)) (he : ∀ i σ2 H1, i < n → Evl.Ex H H1 → Sg i σ2 H1 → EvP te σ2 H1 (Pi i)) (m : ∀ i, MonoF (Pi i)) :
    EvP (tLc wi g tYes te vs) σ H (LstP n Pi) := fun H1 e Q q => hw H1 e _ fun J H2 Pre e2 T pre => fun D hD => by
  refine ⟨fun i k H3 => k = n - i ∧ i ≤ n ∧ H2 D = none ∧ Evl.Ex H2 H3 ∧ ∃ ys, H3 D = some (.lst ys) ∧ ys.length = i ∧ ∀ j y, ys[j]? = some y → Pi j y H3, ⟨n, by simp, Nat.zero_le _, hD, Ex.new hD, [], upd_same, rfl, fun j y hy => by simp at hy⟩, ?_⟩
  rintro i k H3 ⟨rfl, hi, hD', ex, ys, hys, hl, hP⟩
  have pre3 := T.mono _ _ (Fx.of ex) pre
  by_cases hlt : i < n
  · refine .inr ⟨T.go i H3 hlt pre3, fun H4 => H2 D = none ∧ Evl.Ex H2 H4 ∧ ∃ ys, H4 D = some (.lst ys) ∧ ys.length = i + 1 ∧ ∀ j y, ys[j]? = some y → Pi j y H4, fun H4 ⟨a, b, c⟩ => ⟨n - (i + 1), by omega, rfl, by omega, a, b, c⟩, fun x H4 y => ?_⟩
    obtain ⟨e4, it⟩ := T.yld i H3 x H4 hlt pre3 y
    refine hg i x H4 hlt (((e.trans e2).trans ex).trans e4) it _ fun σ2 ⟨hw2, hs⟩ => ⟨hw2, ?_⟩
    unfold tYes
    dsimp only
    rw [if_pos rfl]
    refine he i σ2 H4 hlt (((e.trans e2).trans ex).trans e4) hs H4 (Ex.refl _) _ fun z H5 e5 hz => ?_
    have hys5 := e5 _ _ (e4 _ _ hys)
    have ex5 : Evl.Ex H2 (upd H5 D (.lst (ys ++ [z]))) := Ex.mut ((ex.trans e4).trans e5) hD'
    refine ⟨ys, hys5, sz_lt (by omega), hD', ex5, ys ++ [z], upd_same, by simp [hl], fun j y hy => ?_⟩
    have key : Pi j y H5 := by
      by_cases hj : j < ys.length
      · rw [List.getElem?_append_left hj] at hy
        exact (m j).mono _ _ _ (e4.trans e5) (hP j y hy)
      · rw [List.getElem?_append_right (by omega)] at hy
        have : j - ys.length = 0 := by
          rcases Nat.eq_zero_or_pos (j - ys.length) with z0 | z0
          · exact z0
          · rw [List.getElem?_eq_none (by simp; omega)] at hy; cases hy
        rw [this] at hy
        have ej : j = i := by omega
        have ey : z = y := by simpa using hy
        rw [ej, ← ey]
        exact hz
    exact m j _ _ _ (Fx.lst hys5) key
  · have hinn : i = n := by omega
    subst hinn
    exact .inl ⟨T.stop H3 pre3, q _ H3 (e2.trans ex) ⟨D, ys, rfl, hys, hl, hP⟩⟩
end
end Ev2
namespace Ev2
open PySem PySem.Spec PyProof.Rows L2 Evl Ow RZ
/-- a state to draw from: the list at s holds the pool's list (at p) and a place -/
structure Dr (s p : Addr) (xs : List Int) (H : Hp) : Prop where
  ne : p ≠ s
  at_ : ∃ k : Nat, H s = some (.lst [.ref p, .int (k : Int)])
  pool : H p = some (.lst (xs.map V.int))
/-- all but the state is kept -/
def Gs (s : Addr) (H H' : Hp) : Prop := ∀ a o, a ≠ s → H a = some o → H' a = some o
theorem Gs.refl (s : Addr) (H : Hp) : Gs s H H := fun _ _ _ h => h
theorem Gs.trans {s : Addr} {H H1 H2 : Hp} (a : Gs s H H1) (b : Gs s H1 H2) : Gs s H H2 := fun x o n h => b x o n (a x o n h)
theorem Gs.of {s : Addr} {H H' : Hp} (e : Evl.Ex H H') : Gs s H H' := fun a o _ h => e a o h
theorem Dr.ex {s p : Addr} {xs : List Int} {H H' : Hp} (d : Dr s p xs H) (e : Evl.Ex H H') : Dr s p xs H' := ⟨d.ne, let ⟨k, h⟩ := d.at_; ⟨k, e _ _ h⟩, e _ _ d.pool⟩
theorem Gs.fx {s p : Addr} {xs : List Int} {H H' : Hp} (g : Gs s H H') (d : Dr s p xs H) : Fx H H' := fun a o h n => by
  by_cases ha : a = s
  · subst ha
    obtain ⟨k, hk⟩ := d.at_
    rw [hk] at h; cases h; exact absurd rfl (n _)
  · exact g a o ha h
def EvD (s p : Addr) (xs : List Int) (te : TE) (σ : L2.St) (H : Hp) (P : HP) : Prop := ∀ H1, Gs s H H1 → Dr s p xs H1 → ∀ Q : VK, (∀ v H2, Gs s H1 H2 → Dr s p xs H2 → P v H2 → Q v H2) → te σ H1 Q
section
variable {K : PySem.W.Frag} {σ : L2.St} {H H' : Hp} {ta tb te : TE} {P R S : HP} {r : R2} {v : V} {s p : Addr} {xs : List Int}
theorem EvD.imp (h : EvD s p xs te σ H P) (k : ∀ v H1, P v H1 → R v H1) : EvD s p xs te σ H R := fun H1 a d Q q => h H1 a d Q fun v H2 e d2 p => q v H2 e d2 (k v H2 p)
/-- a comprehension over range(n) whose items draw -/
theorem evd_lc {tn : TA} {vs : List Nat} {n j : Nat} {Pi : Nat → HP} (hw : ∀ H1, EvAP tn σ H1 (fun vs _ => vs = [.int (n : Int)])) (hn : n ≤ 40000) (hz : ∀ x, wipe ((wipe σ vs).set j (some x)) vs = wipe σ vs)
    (he : ∀ (i : Nat), i < n → EvD s p xs te ((wipe σ vs).set j (some (.int (i : Int)))) H (Pi i)) (m : ∀ i, MonoF (Pi i)) :
    EvD s p xs (tLc (iRng1 tn) (gName j) tYes te vs) σ H (LstP n Pi) := fun H1 e d Q q => hw H1 H1 (Ex.refl _) _ fun vs' H2 e2 hv => by
  subst hv
  refine ⟨(n : Int), rfl, by omega, by omega, fun D hD => ?_⟩
  have d2 := d.ex e2
  have hDs : D ≠ s := fun z => by obtain ⟨k, hk⟩ := d2.at_; rw [z, hk] at hD; cases hD
  have hDp : D ≠ p := fun z => by have := d2.pool; rw [← z, hD] at this; cases this
  refine ⟨fun i k H3 => k = n - i ∧ i ≤ n ∧ Gs s H2 H3 ∧ Dr s p xs H3 ∧ ∃ ys, H3 D = some (.lst ys) ∧ ys.length = i ∧ ∀ j y, ys[j]? = some y → Pi j y H3, ⟨n, by simp, Nat.zero_le _, Gs.of (Ex.new hD), d2.ex (Ex.new hD), [], upd_same, rfl, fun j y hy => by simp at hy⟩, ?_⟩
  rintro i k H3 ⟨rfl, hi, ex, d3, ys, hys, hl, hP⟩
  by_cases hlt : i < n
  · refine .inr ⟨by show i < (n : Int).toNat; simpa using hlt, fun H4 => Gs s H2 H4 ∧ Dr s p xs H4 ∧ ∃ ys, H4 D = some (.lst ys) ∧ ys.length = i + 1 ∧ ∀ j y, ys[j]? = some y → Pi j y H4, fun H4 ⟨a, b, c⟩ => ⟨n - (i + 1), by omega, rfl, by omega, a, b, c⟩, fun x H4 y => ?_⟩
    obtain ⟨rfl, rfl⟩ := y
    refine ⟨hz _, ?_⟩
    unfold tYes
    dsimp only
    rw [if_pos rfl]
    rw [Int.zero_add]
    refine he i hlt H4 ((e.trans (Gs.of e2)).trans ex) d3 _ fun z H5 e5 d5 hz => ?_
    have hys5 := e5 _ _ hDs hys
    refine ⟨ys, hys5, sz_lt (by omega), ?_, ?_, ys ++ [z], upd_same, by simp [hl], fun j y hy => ?_⟩
    · intro a o ha h
      have hna : a ≠ D := fun q => by rw [q, hD] at h; cases h
      rw [upd_ne hna]
      exact e5 _ _ ha (ex _ _ ha h)
    · refine ⟨d5.ne, ?_, ?_⟩
      · obtain ⟨k, hk⟩ := d5.at_
        exact ⟨k, by rw [upd_ne hDs.symm]; exact hk⟩
      · rw [upd_ne hDp.symm]; exact d5.pool
    · have key : Pi j y H5 := by
        by_cases hj : j < ys.length
        · rw [List.getElem?_append_left hj] at hy
          exact m j _ _ _ (Gs.fx e5 d3) (hP j y hy)
        · rw [List.getElem?_append_right (by omega)] at hy
          have : j - ys.length = 0 := by
            rcases Nat.eq_zero_or_pos (j - ys.length) with z0 | z0
            · exact z0
            · rw [List.getElem?_eq_none (by simp; omega)] at hy; cases hy
          rw [this] at hy
          have ej : j = i := by omega
          have ey : z = y := by simpa using hy
          rw [ej, ← ey]
          exact hz
      exact m j _ _ _ (Fx.lst hys5) key
  · have hinn : i = n := by omega
    subst hinn
    exact .inl ⟨by show (i : Int).toNat ≤ i; simp, q _ H3 ((Gs.of e2).trans ex) d3 ⟨D, ys, rfl, hys, hl, hP⟩⟩
theorem evd_tuple {n : Nat} {Pi : Nat → HP} (h : EvD s p xs te σ H (LstP n Pi)) (m : ∀ i, MonoF (Pi i)) :
    EvD s p xs (tCB (fun xs H Q => ∃ p ys, xs = [.ref p] ∧ ((SqL K H p ys ∧ ∀ l, H l = none → Q (.ref l) (upd H l (.tup ys))) ∨ (SqT K H p ys ∧ Q (.ref p) H))) (tCons te tNil)) σ H (TupP n Pi) := fun H1 e d Q q =>
  h H1 e d _ fun v H2 e2 d2 ⟨p, ys, hv, hp, hl, hi⟩ => by
    subst hv
    exact ⟨p, ys, rfl, .inl ⟨sq_of hp, fun l hl' => q _ _ (e2.trans (Gs.of (Ex.new hl'))) (d2.ex (Ex.new hl')) ⟨l, ys, rfl, upd_same, hl, fun i y hy => (m i).mono _ _ _ (Ex.new hl') (hi i y hy)⟩⟩⟩
/-- a pure reading, in a state -/
theorem evd_of (h : ∀ H1, Gs s H H1 → Dr s p xs H1 → EvP te σ H1 P) : EvD s p xs te σ H P := fun H1 e d Q q => h H1 e d H1 (Ex.refl _) Q fun v H2 e2 p => q v H2 (Gs.of e2) (d.ex e2) p

/-! ### two fors: the ints of all, one after the other -/
def acc2 (f : Nat → Nat → V) (m : Nat → Nat) : Nat → List V
  | 0 => []
  | i + 1 => acc2 f m i ++ (List.range (m i)).map (f i)
theorem evp_lc2 {wi wi1 : TI} {g g1 : TG} {vs vs1 : List Nat} {n : Nat} {mm : Nat → Nat} {item : Nat → V → Hp → Prop} {item1 : Nat → Nat → V → Hp → Prop} {Sg : Nat → L2.St → Hp → Prop} {Sg1 : Nat → Nat → L2.St → Hp → Prop} {f : Nat → Nat → V}
    (hw : WiP wi σ H n item) (hn : n ≤ 100) (hmm : ∀ i, mm i ≤ 100)
    (hg : ∀ i x H1, i < n → Evl.Ex H H1 → item i x H1 → GP g x (wipe σ vs) H1 (fun σ2 H2 => wipe σ2 vs = wipe σ vs ∧ Sg i σ2 H2))
    (hw1 : ∀ i σ2 H1, i < n → Evl.Ex H H1 → Sg i σ2 H1 → WiP wi1 σ2 H1 (mm i) (item1 i))
    (hg1 : ∀ i j σ2 x H1 H2, i < n → j < mm i → Evl.Ex H H1 → Sg i σ2 H1 → Fx H1 H2 → item1 i j x H2 → GP g1 x (wipe σ2 vs1) H2 (fun σ3 H3 => wipe σ3 vs1 = wipe σ2 vs1 ∧ Sg1 i j σ3 H3))
    (he : ∀ i j σ3 H1, i < n → j < mm i → Evl.Ex H H1 → Sg1 i j σ3 H1 → Ev te σ3 H1 (f i j)) :
    EvP (tLc2 wi g tYes wi1 g1 tYes te vs vs1) σ H (fun v H1 => ∃ p, v = .ref p ∧ H1 p = some (.lst (acc2 f mm n))) := fun H1 e Q q => hw H1 e _ fun J H2 Pre e2 T pre => fun D hD => by
  have hlen : ∀ i, i ≤ n → (acc2 f mm i).length ≤ 100 * i := by
    intro i
    induction i with
    | zero => intro _; simp [acc2]
    | succ i ih => intro h; have := ih (by omega); have := hmm i; simp [acc2]; omega
  refine ⟨fun i k H3 => k = n - i ∧ i ≤ n ∧ Evl.Ex H2 H3 ∧ H3 D = some (.lst (acc2 f mm i)), ⟨n, by simp, Nat.zero_le _, Ex.new hD, upd_same⟩, ?_⟩
  rintro i k H3 ⟨rfl, hi, ex, hys⟩
  have pre3 := T.mono _ _ (Fx.of ex) pre
  by_cases hlt : i < n
  · refine .inr ⟨T.go i H3 hlt pre3, fun H4 => Evl.Ex H2 H4 ∧ H4 D = some (.lst (acc2 f mm (i + 1))), fun H4 ⟨a, b⟩ => ⟨n - (i + 1), by omega, rfl, by omega, a, b⟩, fun x H4 y => ?_⟩
    obtain ⟨e4, it⟩ := T.yld i H3 x H4 hlt pre3 y
    have exH4 := ((e.trans e2).trans ex).trans e4
    refine hg i x H4 hlt exH4 it _ fun σ2 ⟨hw2, hs⟩ => ⟨hw2, ?_⟩
    unfold tYes
    dsimp only
    rw [if_pos rfl]
    refine hw1 i σ2 H4 hlt exH4 hs H4 (Ex.refl _) _ fun J1 H5 Pre1 e5 T1 pre1 => ?_
    have hys5 := e5 _ _ (e4 _ _ hys)
    refine ⟨fun j k H6 => k = mm i - j ∧ j ≤ mm i ∧ Evl.Ex H2 H6 ∧ Fx H5 H6 ∧ H6 D = some (.lst (acc2 f mm i ++ (List.range j).map (f i))), ⟨mm i, by simp, Nat.zero_le _, (ex.trans e4).trans e5, Fx.refl _, by simpa using hys5⟩, ?_⟩
    rintro j k H6 ⟨rfl, hj, ex6, fx6, hys6⟩
    have pre6 := T1.mono _ _ fx6 pre1
    by_cases hlt1 : j < mm i
    · refine .inr ⟨T1.go j H6 hlt1 pre6, fun H7 => Evl.Ex H2 H7 ∧ Fx H5 H7 ∧ H7 D = some (.lst (acc2 f mm i ++ (List.range (j + 1)).map (f i))), fun H7 ⟨a, b, c⟩ => ⟨mm i - (j + 1), by omega, rfl, by omega, a, b, c⟩, fun x1 H7 y1 => ?_⟩
      obtain ⟨e7, it1⟩ := T1.yld j H6 x1 H7 hlt1 pre6 y1
      have ex7 : Evl.Ex H H7 := (e.trans e2).trans (ex6.trans e7)
      refine hg1 i j σ2 x1 H4 H7 hlt hlt1 exH4 hs ((Fx.of e5).trans (fx6.trans (Fx.of e7))) it1 _ fun σ3 ⟨hw3, hs3⟩ => ⟨hw3, ?_⟩
      rw [if_pos rfl]
      refine he i j σ3 H7 hlt hlt1 ex7 hs3 H7 (Ex.refl _) _ fun H8 e8 => ?_
      have hys8 := e8 _ _ (e7 _ _ hys6)
      have hl8 := hlen i (by omega)
      have hmi := hmm i
      refine ⟨_, hys8, sz_lt (by simp; omega), Ex.mut ((ex6.trans e7).trans e8) hD, (fx6.trans (Fx.of (e7.trans e8))).trans (Fx.lst hys8), ?_⟩
      rw [upd_same, List.range_succ, List.map_append, List.append_assoc]
      rfl
    · have hjm : j = mm i := by omega
      subst hjm
      exact .inl ⟨T1.stop H6 pre6, ex6, hys6⟩
  · have hinn : i = n := by omega
    subst hinn
    exact .inl ⟨T.stop H3 pre3, q _ H3 (e2.trans ex) ⟨D, rfl, hys⟩⟩
end
end Ev2
set_option maxHeartbeats 4100000
namespace K26
open PySem PySem.Spec PyProof.Rows L2 Evl Ow RZ Ev2
abbrev rLenQ (K : PySem.W.Frag) : List V → Hp → VK → Prop := fun xs H Q => ∃ p ys, xs = [.ref p] ∧ (SqL K H p ys ∨ SqT K H p ys) ∧ Q (.int ys.length) H
abbrev rTupQ (K : PySem.W.Frag) : List V → Hp → VK → Prop := fun xs H Q => ∃ p ys, xs = [.ref p] ∧ ((SqL K H p ys ∧ ∀ l, H l = none → Q (.ref l) (upd H l (.tup ys))) ∨ (SqT K H p ys ∧ Q (.ref p) H))
def topS (i : Nat) : Stmt := PySem.Challenge.pw_surecounts_k26_question_sums.main.body.getD i (.Pass ⟨0, 0, 0, 0⟩)
/-- what the top has written of the built-in names and of the one number -/
structure Txt (mg : Str → Option Value) (tk : Tok) : Prop where
  n_isinstance : mg "isinstance" = none
  n_int : mg "int" = none
  n_bool : mg "bool" = none
  n_tuple : mg "tuple" = none
  n_len : mg "len" = none
  n_all : mg "all" = none
  n_sum : mg "sum" = none
  n_zip : mg "zip" = none
  n_range : mg "range" = none
  n_enumerate : mg "enumerate" = none
  n_max : mg "max" = none
  c_MOST_VALUES : mg "MOST_VALUES" = some (.int 8 tk)
structure Df (K : PySem.W.Frag) (mg : Str → Option Value) (x : Str) (st : Stmt) (ps : List Str) (f : Addr) (fd : FuncData) : Prop where
  F : Fun K x x st f fd
  b : Binds K fd ps []
  g : mg x = some (.ref f)
/-- a grid: m rows of n ints, by place -/
def Grid (m n : Nat) (f : Nat → Nat → Int) : HP := TupP m fun i => TupP n fun j => Is (.int (f i j))
theorem mf_is {x : V} : MonoF (Is x) := fun _ _ _ _ h => h
theorem mf_tup {n : Nat} {P : Nat → HP} (m : ∀ i, MonoF (P i)) : MonoF (TupP n P) := fun v H H' e ⟨p, ys, h1, h2, h3, h4⟩ => ⟨p, ys, h1, e _ _ h2 (fun _ z => nomatch z), h3, fun i y hy => m i _ _ _ e (h4 i y hy)⟩
theorem mf_row {n : Nat} {f : Nat → Int} : MonoF (TupP n fun j => Is (.int (f j))) := mf_tup fun _ => mf_is
theorem mf_grid {m n : Nat} {f : Nat → Nat → Int} : MonoF (Grid m n f) := mf_tup fun _ => mf_row
def Tr : HP := Is (.bl true)
section
variable {K : PySem.W.Frag} {σ : L2.St} {H : Hp} {ta tb te : TE} {P : HP}
theorem tup_get {n : Nat} {Pi : Nat → HP} {v : V} {i : Nat} (h : TupP n Pi v H) (hi : i < n) : ∃ p ys y, v = .ref p ∧ H p = some (.tup ys) ∧ ys.length = n ∧ ys[i]? = some y ∧ Pi i y H := by
  obtain ⟨p, ys, h1, h2, h3, h4⟩ := h
  exact ⟨p, ys, _, h1, h2, h3, List.getElem?_eq_getElem (by omega), h4 i _ (List.getElem?_eq_getElem (by omega))⟩
/-- a list whose items are known is known -/
theorem lst_is {n : Nat} {w : Nat → V} {v : V} (h : LstP n (fun i => Is (w i)) v H) : ∃ p, v = .ref p ∧ H p = some (.lst ((List.range n).map w)) := by
  obtain ⟨p, ys, h1, h2, h3, h4⟩ := h
  refine ⟨p, h1, ?_⟩
  rw [h2]
  have : ys = (List.range n).map w := by
    apply List.ext_getElem?
    intro i
    by_cases hi : i < n
    · rw [List.getElem?_map, List.getElem?_range hi, List.getElem?_eq_getElem (by omega)]
      exact congrArg some (h4 i _ (List.getElem?_eq_getElem (by omega)))
    · rw [List.getElem?_eq_none (by omega), List.getElem?_eq_none (by simp; omega)]
  rw [this]
theorem evp_all {n : Nat} (h : EvP te σ H (LstP n (fun _ => Tr))) : EvP (tCB (rAll K) (tCons te tNil)) σ H Tr := fun H1 e Q q => h H1 e _ fun v H2 e2 p => by
  obtain ⟨l, rfl, hl⟩ := lst_is p
  refine ⟨l, (List.range n).map (fun _ => true), rfl, ?_, ?_⟩
  · rw [List.map_map]; exact sq_of hl
  · have : ((List.range n).map (fun _ => true)).all id = true := by simp
    rw [this]
    exact q _ H2 e2 rfl
theorem evp_isi {t u : Value} {c : V} {b : Bool} (h : EvP te σ H P) (ht : ∀ x H1, P x H1 → TyX K H1 x t) (hc : ClsV c u) (e : PySem.W.kitOne K t u = some b) : EvP (tCB (rIsi K) (tCons te (tCons (tC c) tNil))) σ H (Is (.bl b)) := fun H1 e1 Q q =>
  h H1 e1 _ fun x H2 e2 p => ⟨x, c, t, u, b, rfl, hc, ht x H2 p, e, q _ H2 e2 rfl⟩
theorem evp_len {n : Nat} {Pi : Nat → HP} (h : EvP te σ H (TupP n Pi)) : EvP (tCB (rLenQ K) (tCons te tNil)) σ H (Is (.int (n : Int))) := fun H1 e Q q =>
  h H1 e _ fun v H2 e2 ⟨p, ys, h1, h2, h3, h4⟩ => ⟨p, ys, by rw [h1], .inr (st_of h2), by rw [h3]; exact q _ H2 e2 rfl⟩
theorem evp_c {v : V} : EvP (tC v) σ H (Is v) := evp_of ev_c
theorem evp_ixT {n : Nat} {Pi : Nat → HP} {i : Nat} (ha : EvP ta σ H (TupP n Pi)) (hb : EvP tb σ H (Is (.int (i : Int)))) (hi : i < n) (m : ∀ i, MonoF (Pi i)) : EvP (tOp (rIxT K) ta tb) σ H (Pi i) := fun H1 e Q q =>
  ha H1 e _ fun v H2 e2 h => hb H2 (e.trans e2) _ fun y H3 e3 hy => by
    obtain ⟨p, ys, z, rfl, hp, hl, hz, hpz⟩ := tup_get h hi
    exact ⟨p, ys, _, z, rfl, hy, st_of (e3 _ _ hp), atI_nat hz, q z H3 (e2.trans e3) ((m i).mono _ _ _ e3 hpz)⟩
/-- two ints, one operation -/
theorem evp_I0 {g : Int → Int → V} {i j : Int} (ha : EvP ta σ H (Is (.int i))) (hb : EvP tb σ H (Is (.int j))) : EvP (tOp (rI0 g) ta tb) σ H (Is (g i j)) := evp_of (ev_op ha.ev hb.ev rv_I0)
theorem evp_I {C : Int → Int → Prop} {g : Int → Int → V} {i j : Int} (ha : EvP ta σ H (Is (.int i))) (hb : EvP tb σ H (Is (.int j))) (hc : C i j) : EvP (tOp (rI C g) ta tb) σ H (Is (g i j)) := evp_of (ev_op ha.ev hb.ev (rv_I hc))
theorem evp_eq {x y : V} (ha : EvP ta σ H (Is x)) (hb : EvP tb σ H (Is y)) (hs : scal x y = true) : EvP (tOp rEq ta tb) σ H (Is (.bl (decide (x = y)))) := evp_of (ev_op ha.ev hb.ev (rv_eq hs))
theorem evp_ne {x y : V} (ha : EvP ta σ H (Is x)) (hb : EvP tb σ H (Is y)) (hs : scal x y = true) : EvP (tOp rNe ta tb) σ H (Is (.bl (!decide (x = y)))) := evp_of (ev_op ha.ev hb.ev (rv_ne hs))
theorem evp_is {x y : V} (h : EvP te σ H (Is x)) (e : x = y) : EvP te σ H (Is y) := e ▸ h
theorem evp_chain {g g' : Int → Int → V} {i j k : Int} {b b' : Bool} {tc : TE} (ha : EvP ta σ H (Is (.int i))) (hb : EvP tb σ H (Is (.int j))) (hc : EvP tc σ H (Is (.int k))) (h1 : g i j = .bl b) (h2 : g' j k = .bl b') :
    EvP (tChain (rI0 g) (rI0 g') ta tb tc) σ H (Is (.bl (b && b'))) := fun H1 e Q q =>
  ha.ev H1 e _ fun H2 e2 => hb.ev H2 (e.trans e2) _ fun H3 e3 => ⟨i, j, rfl, rfl, b, h1, by
    cases b with
    | true =>
      refine iteT ?_
      exact hc.ev H3 ((e.trans e2).trans e3) _ fun H4 e4 => ⟨j, k, rfl, rfl, by rw [h2]; exact q _ H4 ((e2.trans e3).trans e4) rfl⟩
    | false => exact iteF (q _ H3 (e2.trans e3) rfl)⟩
theorem evp_and {a b : Bool} (h1 : EvP ta σ H (Is (.bl a))) (h2 : a = true → EvP tb σ H (Is (.bl b))) : EvP (tAndV ta tb) σ H (Is (.bl (a && b))) := evp_of (ev_andV h1.ev fun h => (h2 h).ev)
theorem evp_or {a b : Bool} (h1 : EvP ta σ H (Is (.bl a))) (h2 : a = false → EvP tb σ H (Is (.bl b))) : EvP (tOrV ta tb) σ H (Is (.bl (a || b))) := evp_of (ev_orV h1.ev fun h => (h2 h).ev)
theorem evp_not {a : Bool} (h1 : EvP ta σ H (Is (.bl a))) : EvP (tNotV ta) σ H (Is (.bl (!a))) := evp_of (ev_notV h1.ev)
theorem et_bl {b : Bool} (h : EvP te σ H (Is (.bl b))) : EvT (tB te) σ H b := et_B h.ev
theorem et_tst {b : Bool} (h : EvP te σ H (Is (.bl b))) : EvT (tTest te) σ H b := et_test h.ev
theorem evp_gl {m n : Nat} {f : Nat → Nat → Int} {i : Nat} {v : V} (h : σ[i]? = some (some v)) (p : Grid m n f v H) : EvP (tVar i) σ H (Grid m n f) := evp_var h p mf_grid.mono
end
theorem g_name {i : Nat} {x : V} {σ0 : L2.St} {H : Hp} {S : L2.St → Hp → Prop} (h : S (σ0.set i (some x)) H) : GP (gName i) x σ0 H S := fun Q q => q _ h
theorem scs (N ps : List Str) (sc : Scope) (h : sc.kind = .function ∧ sc.isCoroutine = false ∧ sc.isGenerator = false) (h1 : (decide N.Nodup) = true) (h2 : N.take ps.length = ps) (h3 : (ps.all fun x => sc.names.lookup x == some .local || sc.names.lookup x == some .cell) = true) (h4 : (sc.names.all fun y => y.2 != .free) = true) : FnScope N ps sc := by
  refine ⟨h.1, h.2.1, h.2.2, of_decide_eq_true h1, h2, fun x hx => ?_, fun y hy e => ?_⟩
  · have := List.all_eq_true.mp h3 x hx
    simpa using this
  · have := List.all_eq_true.mp h4 y hy
    rw [e] at this
    simp at this
abbrev s_is_whole : Stmt := topS 9
abbrev N_is_whole : List Str := ["value"]
theorem sc_is_whole : FnScope N_is_whole ["value"] (defScope s_is_whole) := ⟨rfl, rfl, rfl, by decide +kernel, rfl, by decide +kernel, by decide +kernel⟩
abbrev s_is_below : Stmt := topS 11
abbrev N_is_below : List Str := ["size", "value"]
theorem sc_is_below : FnScope N_is_below ["size", "value"] (defScope s_is_below) := ⟨rfl, rfl, rfl, by decide +kernel, rfl, by decide +kernel, by decide +kernel⟩
abbrev s_check_below : Stmt := topS 12
abbrev N_check_below : List Str := ["size", "value"]
theorem sc_check_below : FnScope N_check_below ["size", "value"] (defScope s_check_below) := ⟨rfl, rfl, rfl, by decide +kernel, rfl, by decide +kernel, by decide +kernel⟩
abbrev s_is_line : Stmt := topS 14
abbrev N_is_line : List Str := ["value", "entry"]
theorem sc_is_line : FnScope N_is_line ["value"] (defScope s_is_line) := ⟨rfl, rfl, rfl, by decide +kernel, rfl, by decide +kernel, by decide +kernel⟩
abbrev s_is_grid : Stmt := topS 15
abbrev N_is_grid : List Str := ["value", "line"]
theorem sc_is_grid : FnScope N_is_grid ["value"] (defScope s_is_grid) := ⟨rfl, rfl, rfl, by decide +kernel, rfl, by decide +kernel, by decide +kernel⟩
abbrev s_grid_sum : Stmt := topS 16
abbrev N_grid_sum : List Str := ["one", "other", "line", "row", "a", "b"]
theorem sc_grid_sum : FnScope N_grid_sum ["one", "other"] (defScope s_grid_sum) := ⟨rfl, rfl, rfl, by decide +kernel, rfl, by decide +kernel, by decide +kernel⟩
abbrev s_grid_product : Stmt := topS 17
abbrev N_grid_product : List Str := ["one", "other", "line", "row", "a", "b"]
theorem sc_grid_product : FnScope N_grid_product ["one", "other"] (defScope s_grid_product) := ⟨rfl, rfl, rfl, by decide +kernel, rfl, by decide +kernel, by decide +kernel⟩
abbrev s_grid_times : Stmt := topS 18
abbrev N_grid_times : List Str := ["grid", "factor", "line", "entry"]
theorem sc_grid_times : FnScope N_grid_times ["grid", "factor"] (defScope s_grid_times) := ⟨rfl, rfl, rfl, by decide +kernel, rfl, by decide +kernel, by decide +kernel⟩
abbrev s_is_counts : Stmt := topS 20
abbrev N_is_counts : List Str := ["value", "line", "entry"]
theorem sc_is_counts : FnScope N_is_counts ["value"] (defScope s_is_counts) := ⟨rfl, rfl, rfl, by decide +kernel, rfl, by decide +kernel, by decide +kernel⟩

section
variable {P : Program} {w : World} {K : PySem.W.Frag} {mg : Str → Option Value} {base : Heap} {tk : Tok}
def spWhole : Sp := fun vs H Q _ => ∃ i : Int, vs = [.int i] ∧ ∀ v H2, Evl.Ex H H2 → Tr v H2 → Q v H2
theorem ok_whole {f : Addr} {fd : FuncData} {k : Nat} (T : Txt mg tk) (D : Df K mg "is_whole" s_is_whole ["value"] f fd) : FnOk P w K mg base CX0 (k + 1) f fd ["value"] spWhole := by
  refine D.F.ok sc_is_whole (fun vs H Q E h => ?_) (fun cdv A outer s H vs Q E hr h => ?_)
  · obtain ⟨i, rfl, _⟩ := h
    rfl
  · obtain ⟨i, rfl, q⟩ := h
    have nd := sc_is_whole.nd
    refine ⟨_, (pss_one (ps_ret (pe_and (pe_callB (r := rIsi K) call_isi (by rfl) T.n_isinstance PyProof.Rows.boot_isinstance (pa_cons (pv 0) (pa_cons (pe_bltn (v := .ty "int") (by rfl) T.n_int PyProof.Rows.boot_int rfl) pa_nil))) (pe_one (pe_not (pe_callB (r := rIsi K) call_isi (by rfl) T.n_isinstance PyProof.Rows.boot_isinstance (pa_cons (pv 0) (pa_cons (pe_bltn (v := .ty "bool") (by rfl) T.n_bool PyProof.Rows.boot_bool rfl) pa_nil)))))))), ?_⟩
    have h0 : EvP (tVar 0) (start N_is_whole [.int i]) H (Is (.int i)) := evp_var rfl rfl mono_is
    exact evp_and (evp_isi (t := .type "int") (b := true) h0 (fun x H1 p => by rw [show x = .int i from p]; exact .base (.int i)) (.ty "int") (kit_ty (by decide +kernel)))
      (fun _ => evp_not (evp_isi (t := .type "int") (b := false) h0 (fun x H1 p => by rw [show x = .int i from p]; exact .base (.int i)) (.ty "bool") (kit_ty (by decide +kernel)))) H (Ex.refl H) _ q
end
end K26
namespace K26
open PySem PySem.Spec PyProof.Rows L2 Evl Ow RZ Ev2
section
variable {P : Program} {w : World} {K : PySem.W.Frag} {mg : Str → Option Value} {base : Heap} {tk : Tok} {k : Nat}
def spBelow : Sp := fun vs H Q _ => ∃ n i : Int, vs = [.int n, .int i] ∧ (0 ≤ i ∧ i < n) ∧ ∀ v H2, Evl.Ex H H2 → Tr v H2 → Q v H2
def spCheckBelow : Sp := fun vs H Q _ => ∃ n i : Int, vs = [.int n, .int i] ∧ (0 ≤ i ∧ i < n) ∧ ∀ v H2, Evl.Ex H H2 → v = .non → Q v H2
theorem ok_below {f f1 : Addr} {fd fd1 : FuncData} (D_is_whole : Df K mg "is_whole" s_is_whole ["value"] f1 fd1) (G_is_whole : FnOk P w K mg base CX0 (k + 1) f1 fd1 ["value"] spWhole) (T : Txt mg tk) (D : Df K mg "is_below" s_is_below ["size", "value"] f fd) :
    FnOk P w K mg base CX0 (k + 2) f fd ["size", "value"] spBelow := by
  refine D.F.ok sc_is_below (fun vs H Q E h => ?_) (fun cdv A outer s H vs Q E hr h => ?_)
  · obtain ⟨n, i, rfl, _⟩ := h
    rfl
  · obtain ⟨n, i, rfl, ⟨hi, hj⟩, q⟩ := h
    have nd := sc_is_below.nd
    refine ⟨_, (pss_one (ps_ret (pe_and (pe_call G_is_whole (hr.mono (by omega)) (by rfl) D_is_whole.g D_is_whole.F.kp D_is_whole.b .nil pass0 (pa_cons (pv 1) pa_nil)) (pe_one (pe_chain op_le op_lt pe_int (pv 1) (pv 0)))))), ?_⟩
    have h1 : EvP (tVar 1) (start N_is_below [.int n, .int i]) H (Is (.int i)) := evp_var rfl rfl mono_is
    have h0 : EvP (tVar 0) (start N_is_below [.int n, .int i]) H (Is (.int n)) := evp_var rfl rfl mono_is
    have hc : EvP _ (start N_is_below [.int n, .int i]) H (Is (.bl (true && true))) := evp_chain (g := fun i j => .bl (decide (i ≤ j))) (g' := fun i j => .bl (decide (i < j))) (evp_c (v := .int 0)) h1 h0 (by rw [decide_eq_true hi]) (by rw [decide_eq_true hj])
    exact evp_and (a := true) (evp_call (eap_one h1) fun vs H1 ⟨x, e, hx⟩ Q q E => ⟨i, by rw [e, show x = .int i from hx], q⟩) (fun _ => hc) H (Ex.refl H) _ q
theorem ok_check_below {f f1 : Addr} {fd fd1 : FuncData} (D_is_below : Df K mg "is_below" s_is_below ["size", "value"] f1 fd1) (G_is_below : FnOk P w K mg base CX0 (k + 2) f1 fd1 ["size", "value"] spBelow) (T : Txt mg tk) (D : Df K mg "check_below" s_check_below ["size", "value"] f fd) :
    FnOk P w K mg base CX0 (k + 3) f fd ["size", "value"] spCheckBelow := by
  refine D.F.ok sc_check_below (fun vs H Q E h => ?_) (fun cdv A outer s H vs Q E hr h => ?_)
  · obtain ⟨n, i, rfl, _⟩ := h
    rfl
  · obtain ⟨n, i, rfl, hi, q⟩ := h
    have nd := sc_check_below.nd
    refine ⟨_, (pss_one (ps_if (pt_not (pt_val (pe_call G_is_below (hr.mono (by omega)) (by rfl) D_is_below.g D_is_below.F.kp D_is_below.b .nil pass0 (pa_cons (pv 0) (pa_cons (pv 1) pa_nil))))) (pss_one ps_never) pss_nil)), ?_⟩
    have h1 : EvP (tVar 1) (start N_check_below [.int n, .int i]) H (Is (.int i)) := evp_var rfl rfl mono_is
    have h0 : EvP (tVar 0) (start N_check_below [.int n, .int i]) H (Is (.int n)) := evp_var rfl rfl mono_is
    have hc : EvP _ (start N_check_below [.int n, .int i]) H (Is (.bl true)) := evp_call (sp := spBelow) (E := fun _ _ _ => False) (eap_two h0 h1 mono_is) fun vs H1 ⟨x, y, e, hx, hy⟩ Q q E => ⟨n, i, by rw [e, show x = .int n from hx, show y = .int i from hy], hi, q⟩
    exact s_when (D := { nx := fun _ H' => Q .non H', rt := Q }) (et_not (et_bl hc)) (fun z => nomatch z) (fun _ H1 e1 => q _ H1 e1 rfl)
/-- a row of ints -/
def spLine : Sp := fun vs H Q _ => ∃ (v : V) (n : Nat) (f : Nat → Int), vs = [v] ∧ TupP n (fun j => Is (.int (f j))) v H ∧ (1 ≤ n ∧ n ≤ 8) ∧ ∀ v H2, Evl.Ex H H2 → Tr v H2 → Q v H2
theorem ty_tup {n : Nat} {Pi : Nat → HP} {x : V} {H1 : Hp} (p : TupP n Pi x H1) : TyX K H1 x (.type "tuple") := by
  obtain ⟨p, ys, rfl, hp, _⟩ := p
  exact .base (.tup hp)
theorem ok_line {f f1 : Addr} {fd fd1 : FuncData} (D_is_whole : Df K mg "is_whole" s_is_whole ["value"] f1 fd1) (G_is_whole : FnOk P w K mg base CX0 (k + 1) f1 fd1 ["value"] spWhole) (T : Txt mg tk) (D : Df K mg "is_line" s_is_line ["value"] f fd) :
    FnOk P w K mg base CX0 (k + 2) f fd ["value"] spLine := by
  refine D.F.ok sc_is_line (fun vs H Q E h => ?_) (fun cdv A outer s H vs Q E hr h => ?_)
  · obtain ⟨v, n, g, rfl, _⟩ := h
    rfl
  · obtain ⟨v, n, g, rfl, hv, ⟨hn1, hn8⟩, q⟩ := h
    have nd := sc_is_line.nd
    refine ⟨_, (pss_cons (ps_if (PW.pt (pw_or (pt_not (pt_val (pe_callB (r := rIsi K) call_isi (by rfl) T.n_isinstance PyProof.Rows.boot_isinstance (pa_cons (pv 0) (pa_cons (pe_bltn (v := .ty "tuple") (by rfl) T.n_tuple PyProof.Rows.boot_tuple rfl) pa_nil))))) (pw_or1 (pt_not (pt_chain op_le op_le pe_int (pe_callB (r := rLenQ K) call_len_seq (by rfl) T.n_len PySem.boot_len (pa_cons (pv 0) pa_nil)) (pe_glob (v := .int 8) rfl T.c_MOST_VALUES ⟨_, rfl⟩)))))) (pss_one (ps_ret pe_bl)) pss_nil) (pss_one (ps_ret (pe_callB (r := rAll K) (cr_all rfl) (by rfl) T.n_all PyProof.Rows.boot_all (pa_cons (pe_lc (wi := iTup K _) (g := gName 1) (own := [("entry", 1)]) (by rfl) nd (pi_tup (pv 0)) (blkOk_by (by kernel_rfl)) (fun _ _ _ _ _ => (pg_name (i := 1) nd rfl (Or.inl rfl))) (fun _ _ _ _ _ => pts_nil) (fun _ _ _ _ _ => (pe_call G_is_whole (hr.mono (by omega)) (by rfl) D_is_whole.g D_is_whole.F.kp D_is_whole.b .nil pass0 (pa_cons (pv 1) pa_nil)))) pa_nil))))), ?_⟩
    have h0 : EvP (tVar 0) (start N_is_line [v]) H (TupP n (fun j => Is (.int (g j)))) := evp_var rfl hv mf_row.mono
    have hi : EvP _ (start N_is_line [v]) H (Is (.bl true)) := evp_isi (K := K) (t := .type "tuple") (b := true) h0 (fun x H1 p => ty_tup p) (.ty "tuple") (kit_ty (by decide +kernel))
    have hc : EvP _ (start N_is_line [v]) H (Is (.bl (true && true))) := evp_chain (g := fun i j => .bl (decide (i ≤ j))) (g' := fun i j => .bl (decide (i ≤ j))) (evp_c (v := .int 1)) (evp_len (K := K) h0) (evp_c (v := .int 8)) (by rw [decide_eq_true (by omega)]) (by rw [decide_eq_true (by omega)])
    refine q_when (b := false) (et_or (a := false) (b := false) (et_not (et_bl hi)) fun _ => et_not (et_tst hc)) (fun z => nomatch z) fun _ H1 e1 => ?_
    refine evp_all (n := n) (evp_lc (vs := [1]) (Sg := fun i σ2 H2 => σ2[1]? = some (some (.int (g i)))) (wi_tup (h0.mono e1) fun _ => mf_is) (by omega) (fun i x H2 hlt e2 it => g_name ⟨rfl, by cases (show x = .int (g i) from it); rfl⟩) (fun i σ2 H2 hlt e2 hs => ?_) fun _ => mf_is) H1 (Ex.refl _) _ fun v H2 e2 p => q v H2 (e1.trans e2) p
    exact evp_call (eap_one (evp_var hs rfl mono_is)) fun vs H1 ⟨x, e, hx⟩ Q q E => ⟨g i, by rw [e, show x = .int (g i) from hx], q⟩
def spGrid : Sp := fun vs H Q _ => ∃ (v : V) (m n : Nat) (f : Nat → Nat → Int), vs = [v] ∧ Grid m n f v H ∧ (1 ≤ m ∧ m ≤ 8) ∧ (1 ≤ n ∧ n ≤ 8) ∧ ∀ v H2, Evl.Ex H H2 → Tr v H2 → Q v H2
theorem ok_grid {f f1 : Addr} {fd fd1 : FuncData} (D_is_line : Df K mg "is_line" s_is_line ["value"] f1 fd1) (G_is_line : FnOk P w K mg base CX0 (k + 2) f1 fd1 ["value"] spLine) (T : Txt mg tk) (D : Df K mg "is_grid" s_is_grid ["value"] f fd) :
    FnOk P w K mg base CX0 (k + 3) f fd ["value"] spGrid := by
  refine D.F.ok sc_is_grid (fun vs H Q E h => ?_) (fun cdv A outer s H vs Q E hr h => ?_)
  · obtain ⟨v, m, n, g, rfl, _⟩ := h
    rfl
  · obtain ⟨v, m, n, g, rfl, hv, ⟨hm1, hm8⟩, hn, q⟩ := h
    have nd := sc_is_grid.nd
    refine ⟨_, (pss_cons (ps_if (PW.pt (pw_or (pt_not (pt_val (pe_callB (r := rIsi K) call_isi (by rfl) T.n_isinstance PyProof.Rows.boot_isinstance (pa_cons (pv 0) (pa_cons (pe_bltn (v := .ty "tuple") (by rfl) T.n_tuple PyProof.Rows.boot_tuple rfl) pa_nil))))) (pw_or1 (pt_not (pt_chain op_le op_le pe_int (pe_callB (r := rLenQ K) call_len_seq (by rfl) T.n_len PySem.boot_len (pa_cons (pv 0) pa_nil)) (pe_glob (v := .int 8) rfl T.c_MOST_VALUES ⟨_, rfl⟩)))))) (pss_one (ps_ret pe_bl)) pss_nil) (pss_cons (ps_if (pt_not (pt_val (pe_callB (r := rAll K) (cr_all rfl) (by rfl) T.n_all PyProof.Rows.boot_all (pa_cons (pe_lc (wi := iTup K _) (g := gName 1) (own := [("line", 1)]) (by rfl) nd (pi_tup (pv 0)) (blkOk_by (by kernel_rfl)) (fun _ _ _ _ _ => (pg_name (i := 1) nd rfl (Or.inl rfl))) (fun _ _ _ _ _ => pts_nil) (fun _ _ _ _ _ => (pe_call G_is_line (hr.mono (by omega)) (by rfl) D_is_line.g D_is_line.F.kp D_is_line.b .nil pass0 (pa_cons (pv 1) pa_nil)))) pa_nil)))) (pss_one (ps_ret pe_bl)) pss_nil) (pss_one (ps_ret (pe_callB (r := rAll K) (cr_all rfl) (by rfl) T.n_all PyProof.Rows.boot_all (pa_cons (pe_lc (wi := iTup K _) (g := gName 1) (own := [("line", 1)]) (by rfl) nd (pi_tup (pv 0)) (blkOk_by (by kernel_rfl)) (fun _ _ _ _ _ => (pg_name (i := 1) nd rfl (Or.inl rfl))) (fun _ _ _ _ _ => pts_nil) (fun _ _ _ _ _ => (pe_cmpR op_eq (pe_callB (r := rLenQ K) call_len_seq (by rfl) T.n_len PySem.boot_len (pa_cons (pv 1) pa_nil)) (pe_callB (r := rLenQ K) call_len_seq (by rfl) T.n_len PySem.boot_len (pa_cons (pe_ix (r := rIxT K) ix_tup (pv 0) pe_int (fun _ _ => rfl)) pa_nil)) (nomark _)))) pa_nil)))))), ?_⟩
    have h0 : EvP (tVar 0) (start N_is_grid [v]) H (Grid m n g) := evp_var rfl hv mf_grid.mono
    have hi : EvP _ (start N_is_grid [v]) H (Is (.bl true)) := evp_isi (K := K) (t := .type "tuple") (b := true) h0 (fun x H1 p => ty_tup p) (.ty "tuple") (kit_ty (by decide +kernel))
    have hc : EvP _ (start N_is_grid [v]) H (Is (.bl (true && true))) := evp_chain (g := fun i j => .bl (decide (i ≤ j))) (g' := fun i j => .bl (decide (i ≤ j))) (evp_c (v := .int 1)) (evp_len (K := K) h0) (evp_c (v := .int 8)) (by rw [decide_eq_true (by omega)]) (by rw [decide_eq_true (by omega)])
    refine q_when (b := false) (et_or (a := false) (b := false) (et_not (et_bl hi)) fun _ => et_not (et_tst hc)) (fun z => nomatch z) fun _ H1 e1 => ?_
    have ha : EvP _ (start N_is_grid [v]) H1 Tr := evp_all (K := K) (n := m) (evp_lc (vs := [1]) (g := gName 1) (Sg := fun i σ2 H2 => ∃ x, σ2[1]? = some (some x) ∧ TupP n (fun j => Is (.int (g i j))) x H2) (wi_tup (K := K) (h0.mono e1) fun _ => mf_row) (by omega) (fun i x H2 hlt e2 it => g_name ⟨rfl, x, rfl, it⟩)
      (fun i σ2 H2 hlt e2 ⟨x, hs, hx⟩ => evp_call (sp := spLine) (E := fun _ _ _ => False) (eap_one (evp_var hs hx mf_row.mono)) fun vs H1 ⟨x, e, hx⟩ Q q E => ⟨x, n, g i, e, hx, hn, q⟩) fun _ => mf_is)
    refine q_when (b := false) (et_not (et_bl ha)) (fun z => nomatch z) fun _ H2 e2 => ?_
    refine evp_all (n := m) (evp_lc (vs := [1]) (Sg := fun i σ2 H3 => ∃ x, σ2[1]? = some (some x) ∧ TupP n (fun j => Is (.int (g i j))) x H3 ∧ σ2[0]? = some (some v) ∧ Grid m n g v H3) (wi_tup (h0.mono (e1.trans e2)) fun _ => mf_row) (by omega) (fun i x H3 hlt e3 it => g_name ⟨rfl, x, rfl, it, rfl, mf_grid.mono _ _ _ ((e1.trans e2).trans e3) hv⟩)
      (fun i σ2 H3 hlt e3 ⟨x, hs, hx, hs0, hv3⟩ => ?_) fun _ => mf_is) H2 (Ex.refl _) _ fun v H3 e3 p => q v H3 ((e1.trans e2).trans e3) p
    refine evp_is (evp_eq (evp_len (K := K) (evp_var hs hx mf_row.mono)) (evp_len (K := K) (evp_ixT (K := K) (i := 0) (evp_var hs0 hv3 mf_grid.mono) evp_c (by omega) fun _ => mf_row)) rfl) ?_
    rw [decide_eq_true rfl]
end
end K26
namespace K26
open PySem PySem.Spec PyProof.Rows L2 Evl Ow RZ Ev2
theorem g_pair' {K : PySem.W.Frag} {x : V} {T : Addr} {u w : V} {σ0 : L2.St} {H : Hp} {i j : Nat} {S : L2.St → Hp → Prop} (hx : x = .ref T) (h : H T = some (.tup [u, w])) (hS : S ((σ0.set i (some u)).set j (some w)) H) : GP (gTup K 2 (gCons (gName i) (gCons (gName j) gNil))) x σ0 H S := fun Q q =>
  ⟨T, [u, w], hx, st_of h, rfl, u, [w], rfl, w, [], rfl, rfl, q _ hS⟩
def Bd (i : Int) : Prop := -(2 ^ 64) < i ∧ i < 2 ^ 64
/-- the ints of a grid, one after the other -/
def flat (f : Nat → Nat → Int) (n : Nat) : Nat → List Int
  | 0 => []
  | i + 1 => flat f n i ++ (List.range n).map (f i)
theorem acc2_flat (f : Nat → Nat → Int) (n : Nat) : ∀ m, acc2 (fun i j => .int (f i j)) (fun _ => n) m = (flat f n m).map V.int
  | 0 => rfl
  | m + 1 => by simp [acc2, flat, acc2_flat f n m, List.map_map, Function.comp_def]
theorem acc2_true (n : Nat) : ∀ m, ∃ bs : List Bool, acc2 (fun _ _ => V.bl true) (fun _ => n) m = bs.map V.bl ∧ bs.all id = true
  | 0 => ⟨[], rfl, rfl⟩
  | m + 1 => by
    obtain ⟨bs, h1, h2⟩ := acc2_true n m
    exact ⟨bs ++ (List.range n).map (fun _ => true), by simp [acc2, h1, List.map_map, Function.comp_def], by rw [List.all_append, h2]; simp⟩
section
variable {P : Program} {w : World} {K : PySem.W.Frag} {mg : Str → Option Value} {base : Heap} {tk : Tok} {k : Nat}
theorem evp_all2 {σ : L2.St} {H : Hp} {te : TE} {n m : Nat} (h : EvP te σ H (fun v H1 => ∃ p, v = .ref p ∧ H1 p = some (.lst (acc2 (fun _ _ => V.bl true) (fun _ => n) m)))) : EvP (tCB (rAll K) (tCons te tNil)) σ H Tr := fun H1 e1 Q q => h H1 e1 _ fun v H2 e2 ⟨p, hv, hp⟩ => by
  obtain ⟨bs, hb1, hb2⟩ := acc2_true n m
  rw [hb1] at hp
  exact ⟨p, bs, by rw [hv], sq_of hp, by rw [hb2]; exact q _ H2 e2 rfl⟩
def spGSum : Sp := fun vs H Q _ => ∃ (a b : V) (m n : Nat) (f g : Nat → Nat → Int), vs = [a, b] ∧ Grid m n f a H ∧ Grid m n g b H ∧ (m ≤ 8 ∧ n ≤ 8) ∧ ∀ v H2, Evl.Ex H H2 → Grid m n (fun i j => f i j + g i j) v H2 → Q v H2
theorem ok_gsum {fa : Addr} {fd : FuncData} (T : Txt mg tk) (D : Df K mg "grid_sum" s_grid_sum ["one", "other"] fa fd) :
    FnOk P w K mg base CX0 (k + 1) fa fd ["one", "other"] spGSum := by
  refine D.F.ok sc_grid_sum (fun vs H Q E h => ?_) (fun cdv A outer s H vs Q E hr h => ?_)
  · obtain ⟨a, b, m, n, f, g, rfl, _⟩ := h
    rfl
  · obtain ⟨a, b, m, n, f, g, rfl, hf, hg, ⟨hm, hn⟩, q⟩ := h
    have nd := sc_grid_sum.nd
    refine ⟨_, (pss_one (ps_ret (pe_callTy (r := rTupQ K) call_tuple_of (by rfl) T.n_tuple PyProof.Rows.boot_tuple (pa_cons (pe_lc (wi := iZipA K _) (g := gTup K 2 (gCons (gName 2) (gCons (gName 3) gNil))) (own := [("line", 2), ("row", 3)]) (by rfl) nd (pi_zipA (by rfl) T.n_zip (pa_cons (pv 0) (pa_cons (pv 1) pa_nil))) (blkOk_by (by kernel_rfl)) (fun _ _ _ _ _ => (pg_tup rfl (pgs_cons (pg_name (i := 2) nd rfl (Or.inl rfl)) (pgs_cons (pg_name (i := 3) nd rfl (Or.inl rfl)) pgs_nil)))) (fun _ _ _ _ _ => pts_nil) (fun _ _ _ _ _ => (pe_callTy (r := rTupQ K) call_tuple_of (by rfl) T.n_tuple PyProof.Rows.boot_tuple (pa_cons (pe_lc (wi := iZipA K _) (g := gTup K 2 (gCons (gName 4) (gCons (gName 5) gNil))) (own := [("a", 4), ("b", 5)]) (by rfl) nd (pi_zipA (by rfl) T.n_zip (pa_cons (pv 2) (pa_cons (pv 3) pa_nil))) (blkOk_by (by kernel_rfl)) (fun _ _ _ _ _ => (pg_tup rfl (pgs_cons (pg_name (i := 4) nd rfl (Or.inl rfl)) (pgs_cons (pg_name (i := 5) nd rfl (Or.inl rfl)) pgs_nil)))) (fun _ _ _ _ _ => pts_nil) (fun _ _ _ _ _ => (pe_op op_add (pv 4) (pv 5)))) pa_nil)))) pa_nil)))), ?_⟩
    have h0 : EvP (tVar 0) (start N_grid_sum [a, b]) H (Grid m n f) := evp_var rfl hf mf_grid.mono
    have h1 : EvP (tVar 1) (start N_grid_sum [a, b]) H (Grid m n g) := evp_var rfl hg mf_grid.mono
    refine evp_tuple (K := K) (Pi := fun i => TupP n fun j => Is (.int (f i j + g i j))) (evp_lc (n := m) (vs := [2, 3]) (Sg := fun i σ2 H2 => ∃ u w, σ2 = [some a, some b, some u, some w, none, none] ∧ TupP n (fun j => Is (.int (f i j))) u H2 ∧ TupP n (fun j => Is (.int (g i j))) w H2)
      (wi_zip (K := K) h0 h1 (fun _ => mf_row) fun _ => mf_row) (by omega) (fun i x H2 hlt e2 ⟨T, u, w, hx, hT, hu, hw⟩ => g_pair' hx hT ⟨rfl, u, w, rfl, hu, hw⟩) (fun i σ2 H2 hlt e2 ⟨u, w, hs, hu, hw⟩ => ?_) fun _ => mf_row) (fun _ => mf_row.mono) H (Ex.refl H) _ q
    subst hs
    refine evp_tuple (K := K) (evp_lc (n := n) (vs := [4, 5]) (Sg := fun j σ2 H2 => σ2[4]? = some (some (.int (f i j))) ∧ σ2[5]? = some (some (.int (g i j)))) (wi_zip (K := K) (evp_var rfl hu mf_row.mono) (evp_var rfl hw mf_row.mono) (fun _ => mf_is) fun _ => mf_is) (by omega)
      (fun j x H3 hlt e3 ⟨T, u, w, hx, hT, hu, hw⟩ => g_pair' hx hT ⟨rfl, by cases (show u = _ from hu); rfl, by cases (show w = _ from hw); rfl⟩) (fun j σ3 H3 hlt e3 ⟨hs1, hs2⟩ => ?_) fun _ => mf_is) fun _ => mono_is
    exact evp_I0 (g := fun i j => .int (i + j)) (evp_var hs1 rfl mono_is) (evp_var hs2 rfl mono_is)
def spGTimes : Sp := fun vs H Q _ => ∃ (a : V) (c : Int) (m n : Nat) (f : Nat → Nat → Int), vs = [a, .int c] ∧ Grid m n f a H ∧ (m ≤ 8 ∧ n ≤ 8) ∧ ((∀ i j, Bd (f i j)) ∨ Bd c) ∧ ∀ v H2, Evl.Ex H H2 → Grid m n (fun i j => f i j * c) v H2 → Q v H2
theorem ok_gtimes {fa : Addr} {fd : FuncData} (T : Txt mg tk) (D : Df K mg "grid_times" s_grid_times ["grid", "factor"] fa fd) :
    FnOk P w K mg base CX0 (k + 1) fa fd ["grid", "factor"] spGTimes := by
  refine D.F.ok sc_grid_times (fun vs H Q E h => ?_) (fun cdv A outer s H vs Q E hr h => ?_)
  · obtain ⟨a, c, m, n, f, rfl, _⟩ := h
    rfl
  · obtain ⟨a, c, m, n, f, rfl, hf, ⟨hm, hn⟩, hb, q⟩ := h
    have nd := sc_grid_times.nd
    refine ⟨_, (pss_one (ps_ret (pe_callTy (r := rTupQ K) call_tuple_of (by rfl) T.n_tuple PyProof.Rows.boot_tuple (pa_cons (pe_lc (wi := iTup K _) (g := gName 2) (own := [("line", 2)]) (by rfl) nd (pi_tup (pv 0)) (blkOk_by (by kernel_rfl)) (fun _ _ _ _ _ => (pg_name (i := 2) nd rfl (Or.inl rfl))) (fun _ _ _ _ _ => pts_nil) (fun _ _ _ _ _ => (pe_callTy (r := rTupQ K) call_tuple_of (by rfl) T.n_tuple PyProof.Rows.boot_tuple (pa_cons (pe_lc (wi := iTup K _) (g := gName 3) (own := [("entry", 3)]) (by rfl) nd (pi_tup (pv 2)) (blkOk_by (by kernel_rfl)) (fun _ _ _ _ _ => (pg_name (i := 3) nd rfl (Or.inl rfl))) (fun _ _ _ _ _ => pts_nil) (fun _ _ _ _ _ => (pe_op op_mul (pv 3) (pv 1)))) pa_nil)))) pa_nil)))), ?_⟩
    have h0 : EvP (tVar 0) (start N_grid_times [a, .int c]) H (Grid m n f) := evp_var rfl hf mf_grid.mono
    refine evp_tuple (K := K) (Pi := fun i => TupP n fun j => Is (.int (f i j * c))) (evp_lc (n := m) (vs := [2]) (Sg := fun i σ2 H2 => ∃ u, σ2 = [some a, some (.int c), some u, none] ∧ TupP n (fun j => Is (.int (f i j))) u H2)
      (wi_tup (K := K) h0 (fun _ => mf_row)) (by omega) (fun i x H2 hlt e2 hx => g_name ⟨rfl, x, rfl, hx⟩) (fun i σ2 H2 hlt e2 ⟨u, hs, hu⟩ => ?_) fun _ => mf_row) (fun _ => mf_row.mono) H (Ex.refl H) _ q
    subst hs
    refine evp_tuple (K := K) (evp_lc (n := n) (vs := [3]) (Sg := fun j σ2 H2 => σ2[3]? = some (some (.int (f i j))) ∧ σ2[1]? = some (some (.int c))) (wi_tup (K := K) (evp_var rfl hu mf_row.mono) (fun _ => mf_is)) (by omega)
      (fun j x H3 hlt e3 hx => g_name ⟨rfl, by cases (show x = _ from hx); rfl, rfl⟩) (fun j σ3 H3 hlt e3 ⟨hs1, hs2⟩ => ?_) fun _ => mf_is) fun _ => mono_is
    exact evp_I (C := CMul) (g := fun i j => .int (i * j)) (evp_var hs1 rfl mono_is) (evp_var hs2 rfl mono_is) (hb.elim (fun h => .inl (h i j)) .inr)
def spGProd : Sp := fun vs H Q _ => ∃ (a b : V) (m n : Nat) (f g : Nat → Nat → Int), vs = [a, b] ∧ Grid m n f a H ∧ Grid m n g b H ∧ (m ≤ 8 ∧ n ≤ 8) ∧ (∀ i j, Bd (g i j)) ∧
  ∀ v H2, Evl.Ex H H2 → (∃ p, v = .ref p ∧ H2 p = some (.lst ((flat (fun i j => f i j * g i j) n m).map V.int))) → Q v H2
theorem ok_gprod {fa : Addr} {fd : FuncData} (T : Txt mg tk) (D : Df K mg "grid_product" s_grid_product ["one", "other"] fa fd) :
    FnOk P w K mg base CX0 (k + 1) fa fd ["one", "other"] spGProd := by
  refine D.F.ok sc_grid_product (fun vs H Q E h => ?_) (fun cdv A outer s H vs Q E hr h => ?_)
  · obtain ⟨a, b, m, n, f, g, rfl, _⟩ := h
    rfl
  · obtain ⟨a, b, m, n, f, g, rfl, hf, hg, ⟨hm, hn⟩, hb, q⟩ := h
    have nd := sc_grid_product.nd
    refine ⟨_, (pss_one (ps_ret (pe_lc2 (wi := iZipA K _) (g := gTup K 2 (gCons (gName 2) (gCons (gName 3) gNil))) (wi1 := iZipA K _) (g1 := gTup K 2 (gCons (gName 4) (gCons (gName 5) gNil))) (own := [("line", 2), ("row", 3), ("a", 4), ("b", 5)]) (vs1 := [4, 5]) (by rfl) nd (pi_zipA (by rfl) T.n_zip (pa_cons (pv 0) (pa_cons (pv 1) pa_nil))) (blkOk_by (by kernel_rfl)) (by decide) (fun _ _ _ _ _ => (pg_tup rfl (pgs_cons (pg_name (i := 2) nd rfl (Or.inl rfl)) (pgs_cons (pg_name (i := 3) nd rfl (Or.inl rfl)) pgs_nil)))) (fun _ _ _ _ _ => pts_nil) (fun _ _ _ _ _ => (pi_zipA (by rfl) T.n_zip (pa_cons (pv 2) (pa_cons (pv 3) pa_nil)))) (fun _ _ _ _ _ => (pg_tup rfl (pgs_cons (pg_name (i := 4) nd rfl (Or.inl rfl)) (pgs_cons (pg_name (i := 5) nd rfl (Or.inl rfl)) pgs_nil)))) (fun _ _ _ _ _ => pts_nil) (fun _ _ _ _ _ => (pe_op op_mul (pv 4) (pv 5)))))), ?_⟩
    have h0 : EvP (tVar 0) (start N_grid_product [a, b]) H (Grid m n f) := evp_var rfl hf mf_grid.mono
    have h1 : EvP (tVar 1) (start N_grid_product [a, b]) H (Grid m n g) := evp_var rfl hg mf_grid.mono
    refine evp_lc2 (n := m) (mm := fun _ => n) (vs := [2, 3, 4, 5]) (vs1 := [4, 5]) (f := fun i j => .int (f i j * g i j)) (Sg := fun i σ2 H2 => ∃ u w, σ2 = [some a, some b, some u, some w, none, none] ∧ TupP n (fun j => Is (.int (f i j))) u H2 ∧ TupP n (fun j => Is (.int (g i j))) w H2)
      (Sg1 := fun i j σ2 H2 => σ2[4]? = some (some (.int (f i j))) ∧ σ2[5]? = some (some (.int (g i j))))
      (wi_zip (K := K) h0 h1 (fun _ => mf_row) fun _ => mf_row) (by omega) (fun _ => by omega) (fun i x H2 hlt e2 ⟨T, u, w, hx, hT, hu, hw⟩ => g_pair' hx hT ⟨rfl, u, w, rfl, hu, hw⟩)
      (fun i σ2 H2 hlt e2 ⟨u, w, hs, hu, hw⟩ => wi_zip (K := K) (evp_var (by rw [hs]; rfl) hu mf_row.mono) (evp_var (by rw [hs]; rfl) hw mf_row.mono) (fun _ => mf_is) fun _ => mf_is)
      (fun i j σ2 x H2 H3 hlt hlt2 e2 ⟨u0, w0, hs, _, _⟩ fx ⟨T, u, w, hx, hT, hu, hw⟩ => g_pair' hx hT (by subst hs; exact ⟨rfl, by cases (show u = _ from hu); rfl, by cases (show w = _ from hw); rfl⟩))
      (fun i j σ3 H3 hlt hlt2 e3 ⟨hs1, hs2⟩ => (evp_I (C := CMul) (g := fun i j => .int (i * j)) (evp_var hs1 rfl mono_is) (evp_var hs2 rfl mono_is) (.inr (hb i j))).ev) H (Ex.refl H) _ fun v H2 e2 ⟨p, hv, hp⟩ => q v H2 e2 ⟨p, hv, ?_⟩
    rw [hp, acc2_flat]
def spCounts : Sp := fun vs H Q _ => ∃ (v : V) (m n : Nat) (f : Nat → Nat → Int), vs = [v] ∧ Grid m n f v H ∧ (1 ≤ m ∧ m ≤ 8) ∧ (1 ≤ n ∧ n ≤ 8) ∧ (∀ i j, 0 ≤ f i j) ∧ ∀ v H2, Evl.Ex H H2 → Tr v H2 → Q v H2
theorem ok_counts {fa f1 : Addr} {fd fd1 : FuncData} (D_is_grid : Df K mg "is_grid" s_is_grid ["value"] f1 fd1) (G_is_grid : FnOk P w K mg base CX0 (k + 3) f1 fd1 ["value"] spGrid) (T : Txt mg tk) (D : Df K mg "is_counts" s_is_counts ["value"] fa fd) :
    FnOk P w K mg base CX0 (k + 4) fa fd ["value"] spCounts := by
  refine D.F.ok sc_is_counts (fun vs H Q E h => ?_) (fun cdv A outer s H vs Q E hr h => ?_)
  · obtain ⟨v, m, n, g, rfl, _⟩ := h
    rfl
  · obtain ⟨v, m, n, g, rfl, hv, hm, hn, hpos, q⟩ := h
    have nd := sc_is_counts.nd
    refine ⟨_, (pss_one (ps_ret (pe_and (pe_call G_is_grid (hr.mono (by omega)) (by rfl) D_is_grid.g D_is_grid.F.kp D_is_grid.b .nil pass0 (pa_cons (pv 0) pa_nil)) (pe_one (pe_callB (r := rAll K) (cr_all rfl) (by rfl) T.n_all PyProof.Rows.boot_all (pa_cons (pe_lc2 (wi := iTup K _) (g := gName 1) (wi1 := iTup K _) (g1 := gName 2) (own := [("line", 1), ("entry", 2)]) (vs1 := [2]) (by rfl) nd (pi_tup (pv 0)) (blkOk_by (by kernel_rfl)) (by decide) (fun _ _ _ _ _ => (pg_name (i := 1) nd rfl (Or.inl rfl))) (fun _ _ _ _ _ => pts_nil) (fun _ _ _ _ _ => (pi_tup (pv 1))) (fun _ _ _ _ _ => (pg_name (i := 2) nd rfl (Or.inl rfl))) (fun _ _ _ _ _ => pts_nil) (fun _ _ _ _ _ => (pe_cmpR op_ge (pv 2) pe_int (nomark _)))) pa_nil)))))), ?_⟩
    have h0 : EvP (tVar 0) (start N_is_counts [v]) H (Grid m n g) := evp_var rfl hv mf_grid.mono
    refine evp_and (a := true) (b := true) (evp_call (eap_one h0) fun vs H1 ⟨x, e, hx⟩ Q q E => ⟨x, m, n, g, e, hx, hm, hn, q⟩) (fun _ => ?_) H (Ex.refl H) _ q
    have hl := evp_lc2 (te := tOp (rI0 fun i j => .bl (decide (j ≤ i))) (tVar 2) (tC (.int 0))) (σ := start N_is_counts [v]) (H := H) (wi := iTup K (tVar 0)) (wi1 := iTup K (tVar 1)) (g := gName 1) (g1 := gName 2) (n := m) (mm := fun _ => n) (vs := [1, 2]) (vs1 := [2]) (f := fun i j => .bl true) (Sg := fun i σ2 H2 => ∃ u, σ2 = [some v, some u, none] ∧ TupP n (fun j => Is (.int (g i j))) u H2)
      (Sg1 := fun i j σ2 H2 => σ2[2]? = some (some (.int (g i j))))
      (wi_tup (K := K) h0 (fun _ => mf_row)) (by omega) (fun _ => by omega) (fun i x H2 hlt e2 hx => g_name ⟨rfl, x, rfl, hx⟩)
      (fun i σ2 H2 hlt e2 ⟨u, hs, hu⟩ => wi_tup (K := K) (evp_var (by rw [hs]; rfl) hu mf_row.mono) (fun _ => mf_is))
      (fun i j σ2 x H2 H3 hlt hlt2 e2 ⟨u0, hs, _⟩ fx hx => g_name (by subst hs; exact ⟨rfl, by cases (show x = _ from hx); rfl⟩))
      (fun i j σ3 H3 hlt hlt2 e3 hs1 => (evp_is (evp_I0 (g := fun i j => .bl (decide (j ≤ i))) (evp_var hs1 rfl mono_is) (evp_c (v := .int 0))) (by rw [decide_eq_true (hpos i j)])).ev)
    exact evp_all2 (K := K) hl
end
end K26
namespace K26
open PySem PySem.Spec PyProof.Rows L2 Evl Ow RZ Ev2
abbrev s_law_numbers : Stmt := topS 29
abbrev N_law_numbers : List Str := ["_law_cell", "_law_salt", "_law_sizes", "_law_whole", "_law_left", "_law_result", "_law_k", "_law_one"]
theorem sc_law_numbers : FnScope N_law_numbers ["_law_cell", "_law_salt", "_law_sizes"] (defScope s_law_numbers) := ⟨rfl, rfl, rfl, by decide +kernel, rfl, by decide +kernel, by decide +kernel⟩
abbrev s_law_draw : Stmt := topS 30
abbrev N_law_draw : List Str := ["_law_state", "_law_many", "_law_at"]
theorem sc_law_draw : FnScope N_law_draw ["_law_state", "_law_many"] (defScope s_law_draw) := ⟨rfl, rfl, rfl, by decide +kernel, rfl, by decide +kernel, by decide +kernel⟩
abbrev s_law_pool : Stmt := topS 31
abbrev N_law_pool : List Str := ["_law_cell", "_law_salt", "_law_many"]
theorem sc_law_pool : FnScope N_law_pool ["_law_cell", "_law_salt", "_law_many"] (defScope s_law_pool) := ⟨rfl, rfl, rfl, by decide +kernel, rfl, by decide +kernel, by decide +kernel⟩
abbrev s_law_counts : Stmt := topS 32
abbrev N_law_counts : List Str := ["_law_state", "_law_left", "_law_right", "_law_most", "_law_one", "_law_other"]
theorem sc_law_counts : FnScope N_law_counts ["_law_state", "_law_left", "_law_right", "_law_most"] (defScope s_law_counts) := ⟨rfl, rfl, rfl, by decide +kernel, rfl, by decide +kernel, by decide +kernel⟩
abbrev s_law_weights : Stmt := topS 33
abbrev N_law_weights : List Str := ["_law_state", "_law_left", "_law_right", "_law_one", "_law_other"]
theorem sc_law_weights : FnScope N_law_weights ["_law_state", "_law_left", "_law_right"] (defScope s_law_weights) := ⟨rfl, rfl, rfl, by decide +kernel, rfl, by decide +kernel, by decide +kernel⟩

/-- an int with c -/
def BI (c : Int → Prop) : HP := fun v _ => ∃ i, v = .int i ∧ c i
theorem mf_bi {c : Int → Prop} : MonoF (BI c) := fun _ _ _ _ h => h
section
variable {K : PySem.W.Frag} {σ : L2.St} {H : Hp} {ta tb te : TE} {P : HP} {tz : TS} {D : Ends}
theorem q_asgP {i : Nat} (h : EvP te σ H P) (k : ∀ v H1, Evl.Ex H H1 → P v H1 → tz D (σ.set i (some v)) H1) : tSeq (tAsg te (gName i)) tz D σ H := h H (Ex.refl H) _ fun v H1 e p => k v H1 e p
theorem q_appP {l : Addr} {xs : List V} (hl : H l = some (.lst xs)) (ha : Ev ta σ H (.ref l)) (h : EvP te σ H P) (hz : xs.length < 100000) (k : ∀ v H1, Evl.Ex H H1 → P v H1 → tz D σ (upd H1 l (.lst (xs ++ [v])))) :
    tSeq (tDrop (tBM K "list" rAppend ta (tCons te tNil))) tz D σ H := ha H (Ex.refl H) _ fun H1 e1 =>
  ⟨Or.inl ⟨rfl, xs, sq_of (e1 l _ hl)⟩, h H1 e1 _ fun v H2 e2 p => ⟨l, xs, v, rfl, rfl, e2 l _ (e1 l _ hl), sz_lt hz, k v H2 (e1.trans e2) p⟩⟩
theorem s_appP {l : Addr} {xs : List V} (hl : H l = some (.lst xs)) (ha : Ev ta σ H (.ref l)) (h : EvP te σ H P) (hz : xs.length < 100000) (k : ∀ v H1, Evl.Ex H H1 → P v H1 → D.nx σ (upd H1 l (.lst (xs ++ [v])))) :
    tDrop (tBM K "list" rAppend ta (tCons te tNil)) D σ H := ha H (Ex.refl H) _ fun H1 e1 =>
  ⟨Or.inl ⟨rfl, xs, sq_of (e1 l _ hl)⟩, h H1 e1 _ fun v H2 e2 p => ⟨l, xs, v, rfl, rfl, e2 l _ (e1 l _ hl), sz_lt hz, k v H2 (e1.trans e2) p⟩⟩
theorem evp_bI {C : Int → Int → Prop} {g : Int → Int → Int} {c d e : Int → Prop} (ha : EvP ta σ H (BI c)) (hb : EvP tb σ H (BI d)) (h : ∀ i j, c i → d j → C i j ∧ e (g i j)) : EvP (tOp (rI C fun i j => .int (g i j)) ta tb) σ H (BI e) :=
  evp_op ha hb mf_bi.mono fun x y H1 _ ⟨i, hx, hc⟩ ⟨j, hy, hd⟩ Q q => ⟨i, j, hx, hy, (h i j hc hd).1, q _ H1 (Ex.refl H1) ⟨_, rfl, (h i j hc hd).2⟩⟩
theorem evp_b0 {g : Int → Int → Int} {c d e : Int → Prop} (ha : EvP ta σ H (BI c)) (hb : EvP tb σ H (BI d)) (h : ∀ i j, c i → d j → e (g i j)) : EvP (tOp (rI0 fun i j => .int (g i j)) ta tb) σ H (BI e) :=
  evp_op ha hb mf_bi.mono fun x y H1 _ ⟨i, hx, hc⟩ ⟨j, hy, hd⟩ Q q => ⟨i, j, hx, hy, q _ H1 (Ex.refl H1) ⟨_, rfl, h i j hc hd⟩⟩
theorem evp_bi {i : Int} {c : Int → Prop} (h : EvP te σ H (Is (.int i))) (hc : c i) : EvP te σ H (BI c) := h.imp fun v H1 _ p => ⟨i, p, hc⟩
theorem evp_bv {n : Nat} {i : Int} {c : Int → Prop} (h : σ[n]? = some (some (.int i))) (hc : c i) : EvP (tVar n) σ H (BI c) := evp_bi (evp_var h rfl mono_is) hc
theorem evp_bc {i : Int} {c : Int → Prop} (hc : c i) : EvP (tC (.int i)) σ H (BI c) := evp_bi evp_c hc
theorem evp_ixL {p : Addr} {xs : List V} {i : Nat} {v : V} (ha : EvP ta σ H (Is (.ref p))) (hp : SqL K H p xs) (hb : EvP tb σ H (Is (.int (i : Int)))) (hv : xs[i]? = some v) : EvP (tOp (rIxL K) ta tb) σ H (Is v) := evp_of (ev_op ha.ev hb.ev (rv_ixL hp (atI_nat hv)))
end
section
variable {P : Program} {w : World} {K : PySem.W.Frag} {mg : Str → Option Value} {base : Heap} {tk : Tok} {k : Nat}
def spNum : Sp := fun vs H Q _ => ∃ (c s : Int) (a : Addr) (zs : List Int), vs = [.int c, .int s, .ref a] ∧ H a = some (.lst (zs.map V.int)) ∧ (∀ z ∈ zs, 1 ≤ z ∧ z ≤ 1000) ∧ zs.length ≤ 1000 ∧ (0 ≤ s ∧ s ≤ 100000) ∧
  ∀ (p : Addr) (xs : List Int) (H2 : Hp), Evl.Ex H H2 → H p = none → H2 p = some (.lst (xs.map V.int)) → Q (.ref p) H2
theorem fm {a b : Int} (h : 0 < b) : b ≠ 0 ∧ (0 ≤ a.fmod b ∧ a.fmod b < b) := ⟨by omega, Int.fmod_nonneg_of_pos a h, Int.fmod_lt_of_pos a h⟩
theorem ok_num {fa : Addr} {fd : FuncData} (T : Txt mg tk) (D : Df K mg "_law_numbers" s_law_numbers ["_law_cell", "_law_salt", "_law_sizes"] fa fd) :
    FnOk P w K mg base CX0 (k + 1) fa fd ["_law_cell", "_law_salt", "_law_sizes"] spNum := by
  refine D.F.ok sc_law_numbers (fun vs H Q E h => ?_) (fun cdv A outer s H vs Q E hr h => ?_)
  · obtain ⟨c, s, a, zs, rfl, _⟩ := h
    rfl
  · obtain ⟨c, t, a, zs, rfl, ha, hz, hzl, ht, q⟩ := h
    have nd := sc_law_numbers.nd
    refine ⟨_, (pss_cons (ps_set (i := 3) nd rfl (Or.inl rfl) (pe_callB (call_max2 rfl) (by rfl) T.n_max PyProof.Rows.boot_max (pa_cons (pv 0) (pa_cons (pe_op op_sub (pe_un un_neg pe_int) (pv 0)) pa_nil)))) (pss_cons (ps_set (i := 4) nd rfl (Or.inl rfl) (pv 3)) (pss_cons (ps_set (i := 5) nd rfl (Or.inl rfl) (pe_lst pa_nil)) (pss_cons (ps_for PassesOwn.never rfl (pi_range1 (by rfl) T.n_range (pa_cons (pe_callB (r := rLenQ K) call_len_seq (by rfl) T.n_len PySem.boot_len (pa_cons (pv 2) pa_nil)) pa_nil)) (pg_name (i := 6) nd rfl (Or.inl rfl)) (pss_one (ps_if (PW.pt (pw_and (pt_cmpR op_ge (pv 3) (pe_op op_pow pe_int pe_int) (nomark _)) (pw_and1 (pt_cmpR op_gt (pv 4) pe_int (nomark _))))) (pss_cons (ps_expr (pe_bm PySem.F.plainAttrs_list PySem.F.slot_list_append PySem.F.type_list_append mt_append (pv 5) (pa_cons (pe_op op_modN (pv 4) (pe_ix (r := rIxL K) ix_list (pv 2) (pv 6) (fun _ _ => rfl))) pa_nil))) (pss_one (ps_set (i := 4) nd rfl (Or.inl rfl) (pe_op op_fdivN (pv 4) (pe_ix (r := rIxL K) ix_list (pv 2) (pv 6) (fun _ _ => rfl)))))) (pss_cons (ps_set (i := 7) nd rfl (Or.inl rfl) (pe_op op_modN (pe_op op_pow (pe_op op_add (pe_op op_add (pe_op op_modN (pv 3) pe_int) (pe_op op_mul pe_int (pv 1))) pe_int) pe_int) pe_int)) (pss_cons (ps_set (i := 7) nd rfl (Or.inl rfl) (pe_op op_modN (pe_op op_mul (pe_op op_add (pv 7) (pe_op op_mul pe_int (pe_op op_add (pv 6) pe_int))) (pe_op op_add (pv 6) pe_int)) pe_int)) (pss_cons (ps_set (i := 7) nd rfl (Or.inl rfl) (pe_op op_modN (pe_op op_mul (pe_op op_modN (pe_op op_pow (pv 7) pe_int) pe_int) pe_int) pe_int)) (pss_one (ps_expr (pe_bm PySem.F.plainAttrs_list PySem.F.slot_list_append PySem.F.type_list_append mt_append (pv 5) (pa_cons (pe_op op_modN (pe_op op_fdivN (pv 7) pe_int) (pe_ix (r := rIxL K) ix_list (pv 2) (pv 6) (fun _ _ => rfl))) pa_nil)))))))))) (pss_one (ps_ret (pv 5))))))), ?_⟩
    refine q_asgP (P := BI fun _ => True) (fun H1 e1 Q q => ?_) fun v1 H1 e1 ⟨W, hW, _⟩ => ?_
    · exact ⟨_, rfl, 1, rfl, _, rfl, -1, c, rfl, rfl, c, _, rfl, q _ H1 (Ex.refl _) ⟨_, rfl, trivial⟩⟩
    subst hW
    refine q_asgP (P := Is (.int W)) (evp_var rfl rfl mono_is) fun v2 H2 e2 hv2 => ?_
    subst hv2
    refine q_asgL (el_lst ea_nil (by decide)) fun p H3 hp e3 h3 => ?_
    have hpH : H p = none := fresh_back (e1.trans e2) hp
    have ex3 : Evl.Ex H H3 := (e1.trans e2).trans e3
    have key : ∀ (i : Nat) (σ' : L2.St) (H' : Hp), True := fun _ _ _ => trivial
    refine q_forR1 (n := (zs.length : Int)) (ea_cons (EvP.ev (te := tCB (rLenQ K) (tCons (tVar 2) tNil)) fun H4 e4 Q q => ⟨_, rfl, a, _, rfl, .inl (sq_of ((ex3.trans e4) _ _ ha)), by rw [List.length_map]; exact q _ H4 (Ex.refl _) rfl⟩) ea_nil) (by omega)
      (fun i σ' H' => ∃ (L : Int) (xs : List Int) (k1 k2 : Option V), σ' = [some (.int c), some (.int t), some (.ref a), some (.int W), some (.int L), some (.ref p), k1, k2] ∧ xs.length = i ∧ Evl.Ex H H' ∧ H' p = some (.lst (xs.map V.int)))
      (fun H4 e4 => ⟨W, [], none, none, rfl, rfl, ex3.trans e4, e4 _ _ h3⟩) (fun i σ' H' hi ⟨L, xs, k1, k2, hs, hl, ex', hp'⟩ => ?_) (fun σ' H' ⟨L, xs, k1, k2, hs, hl, ex', hp'⟩ => ?_)
    · subst hs
      have hzi : (zs.map V.int)[i]? = some (.int (zs[i]'(by omega))) := by rw [List.getElem?_map, List.getElem?_eq_getElem (by omega)]; rfl
      have hzb := hz (zs[i]'(by omega)) (List.getElem_mem _)
      generalize zs[i]'(by omega) = z at hzi hzb
      have step : ∀ (σ2 : L2.St) (H5 : Hp) (e : Evl.Ex H' H5), σ2[2]? = some (some (.ref a)) → σ2[6]? = some (some (.int (i : Int))) → EvP (tOp (rIxL K) (tVar 2) (tVar 6)) σ2 H5 (BI fun x => 1 ≤ x ∧ x ≤ 1000) := fun σ2 H5 e h2 h6 =>
        evp_bi (evp_ixL (evp_var h2 rfl mono_is) (sq_of ((ex'.trans e) _ _ ha)) (evp_var h6 rfl mono_is) hzi) hzb
      have fin : ∀ (v : V) (H5 : Hp) (L' : Int) (k2' : Option V), Evl.Ex H' H5 → (∃ x, v = .int x ∧ True) → (fun i σ' H' => ∃ (L : Int) (xs : List Int) (k1 k2 : Option V), σ' = [some (.int c), some (.int t), some (.ref a), some (.int W), some (.int L), some (.ref p), k1, k2] ∧ xs.length = i ∧ Evl.Ex H H' ∧ H' p = some (.lst (xs.map V.int))) (i + 1)
          [some (.int c), some (.int t), some (.ref a), some (.int W), some (.int L'), some (.ref p), some (.int (i : Int)), k2'] (upd H5 p (.lst (xs.map V.int ++ [v]))) := fun v H5 L' k2' e ⟨x, hx, _⟩ => by
        subst hx
        refine ⟨L', xs ++ [x], some (.int (i : Int)), k2', rfl, by simp [hl], Ex.mut (ex'.trans e) hpH, ?_⟩
        rw [upd_same, List.map_append]; rfl
      have hW : EvP (tVar 3) [some (.int c), some (.int t), some (.ref a), some (.int W), some (.int L), some (.ref p), some (.int (i : Int)), k2] H' (Is (.int W)) := evp_var rfl rfl mono_is
      have hpw : EvP (tOp (rI CPow fun i j => .int (i ^ j.toNat)) (tC (.int 10)) (tC (.int 18))) [some (.int c), some (.int t), some (.ref a), some (.int W), some (.int L), some (.ref p), some (.int (i : Int)), k2] H' (Is (.int (10 ^ (18 : Int).toNat))) := evp_I evp_c evp_c ⟨by decide, by decide, by decide⟩
      refine s_if (et_and (et_tst (evp_I0 (g := fun i j => .bl (decide (j ≤ i))) hW hpw)) fun _ => et_tst (evp_I0 (g := fun i j => .bl (decide (j < i))) (evp_var (v := .int L) rfl rfl mono_is) evp_c)) (fun _ H5 e5 => ?_) (fun _ H5 e5 => ?_)
      · refine q_appP (P := BI fun _ => True) (e5 _ _ hp') (ev_var rfl) (evp_bI (c := fun _ => True) (e := fun _ => True) (evp_bv rfl trivial) (step _ H5 e5 rfl rfl) fun i j _ hj => ⟨by omega, trivial⟩) (by simp; omega) fun v H6 e6 hv => ?_
        have st6 : EvP (tOp (rIxL K) (tVar 2) (tVar 6)) [some (.int c), some (.int t), some (.ref a), some (.int W), some (.int L), some (.ref p), some (.int (i : Int)), k2] (upd H6 p (.lst (xs.map V.int ++ [v]))) (BI fun x => 1 ≤ x ∧ x ≤ 1000) :=
          evp_bi (evp_ixL (evp_var rfl rfl mono_is) (sq_of ((Ex.mut ((ex'.trans e5).trans e6) hpH) _ _ ha)) (evp_var rfl rfl mono_is) hzi) hzb
        have hdv := evp_bI (C := CDivN) (g := fun i j => i.fdiv j) (c := fun _ => True) (e := fun _ => True) (evp_bv (n := 4) (i := L) rfl trivial) st6 fun i j _ hj => ⟨⟨by omega, by omega⟩, trivial⟩
        refine hdv _ (Ex.refl _) _ fun v7 H7 e7 ⟨x7, hx7, _⟩ => ?_
        subst hx7
        obtain ⟨x, hx, _⟩ := hv
        subst hx
        refine ⟨x7, xs ++ [x], some (.int (i : Int)), k2, rfl, by simp [hl], (Ex.mut ((ex'.trans e5).trans e6) hpH).trans e7, ?_⟩
        rw [e7 _ _ upd_same, List.map_append]; rfl
      · have hone : ∀ (k2' : Option V) (H6 : Hp), EvP (tVar 3) [some (.int c), some (.int t), some (.ref a), some (.int W), some (.int L), some (.ref p), some (.int (i : Int)), k2'] H6 (BI fun _ => True) := fun k2' H6 => evp_bv rfl trivial
        refine q_asgP (P := BI fun x => 0 ≤ x ∧ x < 2147483647) (evp_bI (c := fun _ => True) (d := fun x => x = 2147483647) (evp_bI (c := fun x => 0 ≤ x ∧ x < 10 ^ 18) (d := fun x => x = 3) (e := fun _ => True) (evp_b0 (c := fun x => 0 ≤ x ∧ x < 10 ^ 17) (d := fun x => x = 1) (evp_b0 (c := fun x => 0 ≤ x ∧ x < 2147483629) (d := fun x => 0 ≤ x ∧ x ≤ 791900000)
          (evp_bI (d := fun x => x = 2147483629) (hone k2 H5) (evp_bc rfl) fun i j _ hj => by subst hj; exact fm (by decide)) (evp_bI (c := fun x => x = 7919) (d := fun x => x = t) (evp_bc rfl) (evp_bv rfl rfl) fun i j hi hj => by subst hi; subst hj; exact ⟨.inl ⟨by decide, by decide⟩, by omega⟩)
          fun i j hi hj => by omega) (evp_bc rfl) fun i j hi hj => by omega) (evp_bc rfl) fun i j hi hj => ⟨⟨by omega, by omega, by omega⟩, trivial⟩) (evp_bc rfl) fun i j _ hj => by subst hj; exact fm (by decide)) fun v6 H6 e6 ⟨x6, hx6, hb6⟩ => ?_
        subst hx6
        refine q_asgP (P := BI fun x => 0 ≤ x ∧ x < 2147483629) (evp_bI (c := fun _ => True) (d := fun x => x = 2147483629) (evp_bI (c := fun _ => True) (d := fun x => 0 ≤ x ∧ x ≤ 2000) (e := fun _ => True) (evp_b0 (c := fun _ => True) (d := fun _ => True) (e := fun _ => True) (evp_bv rfl trivial)
          (evp_bI (c := fun x => x = 104729) (d := fun _ => True) (evp_bc rfl) (evp_b0 (c := fun _ => True) (d := fun _ => True) (evp_bv rfl trivial) (evp_bc trivial) fun _ _ _ _ => trivial) fun i j hi hj => by subst hi; exact ⟨.inl ⟨by decide, by decide⟩, trivial⟩) fun _ _ _ _ => trivial)
          (evp_b0 (c := fun x => x = (i : Int)) (d := fun x => x = 3) (evp_bv rfl rfl) (evp_bc rfl) fun i j hi hj => by omega) fun i j _ hj => ⟨.inr ⟨by omega, by omega⟩, trivial⟩) (evp_bc rfl) fun i j _ hj => by subst hj; exact fm (by decide)) fun v7 H7 e7 ⟨x7, hx7, hb7⟩ => ?_
        subst hx7
        refine q_asgP (P := BI fun x => 0 ≤ x ∧ x < 2147483629) (evp_bI (c := fun _ => True) (d := fun x => x = 2147483629) (evp_bI (c := fun x => 0 ≤ x ∧ x < 2147483647) (d := fun x => x = 48271) (e := fun _ => True) (evp_bI (c := fun _ => True) (d := fun x => x = 2147483647) (evp_bI (c := fun x => 0 ≤ x ∧ x < 2147483629) (d := fun x => x = 5) (e := fun _ => True)
          (evp_bv rfl hb7) (evp_bc rfl) fun i j hi hj => ⟨⟨by omega, by omega, by omega⟩, trivial⟩) (evp_bc rfl) fun i j _ hj => by subst hj; exact fm (by decide)) (evp_bc rfl) fun i j hi hj => ⟨.inl ⟨by omega, by omega⟩, trivial⟩) (evp_bc rfl) fun i j _ hj => by subst hj; exact fm (by decide)) fun v8 H8 e8 ⟨x8, hx8, hb8⟩ => ?_
        subst hx8
        refine s_appP (P := BI fun _ => True) (((e5.trans e6).trans (e7.trans e8)) _ _ hp') (ev_var rfl) (evp_bI (c := fun _ => True) (evp_bI (C := CDivN) (g := fun i j => i.fdiv j) (c := fun _ => True) (d := fun x => x = 16) (e := fun _ => True) (evp_bv rfl trivial) (evp_bc rfl) fun i j _ hj => by subst hj; exact ⟨⟨by decide, by decide⟩, trivial⟩)
          (step _ H8 ((e5.trans e6).trans (e7.trans e8)) rfl rfl) fun i j _ hj => ⟨by omega, trivial⟩) (by simp; omega) fun v9 H9 e9 hv9 => ?_
        exact fin v9 H9 L _ (((e5.trans e6).trans (e7.trans e8)).trans e9) hv9
    · subst hs
      exact ⟨_, rfl, q p xs H' ex' hpH hp'⟩
end
end K26
namespace K26
open PySem PySem.Spec PyProof.Rows L2 Evl Ow RZ Ev2
section
variable {P : Program} {w : World} {K : PySem.W.Frag} {mg : Str → Option Value} {base : Heap} {tk : Tok} {k : Nat}
theorem evp_if {σ : L2.St} {H : Hp} {t : TT} {ta tb : TE} {b : Bool} {P : HP} (h : EvT t σ H b) (h1 : b = true → EvP ta σ H P) (h2 : b = false → EvP tb σ H P) : EvP (tIf t ta tb) σ H P := fun H1 e Q q => h H1 e _ fun H2 e2 => by
  cases b with
  | true => exact iteT (h1 rfl H2 (e.trans e2) _ fun v H3 e3 p => q v H3 (e2.trans e3) p)
  | false => exact iteF (h2 rfl H2 (e.trans e2) _ fun v H3 e3 p => q v H3 (e2.trans e3) p)
abbrev rInt1 : List V → Hp → VK → Prop := fun xs H Q => (∃ i, xs = [.int i] ∧ Q (.int i) H) ∨ ∃ k, xs = [.bl k] ∧ Q (.int (if k = true then 1 else 0)) H
theorem evp_int1 {σ : L2.St} {H : Hp} {te : TE} {i : Int} (h : EvP te σ H (Is (.int i))) : EvP (tCB rInt1 (tCons te tNil)) σ H (Is (.int i)) := evp_cb (eap_one h) fun vs H1 ⟨x, e, hx⟩ Q q => .inl ⟨i, by rw [e, show x = .int i from hx], q _ H1 (Ex.refl _) rfl⟩
def spDraw : Sp := fun vs H Q _ => ∃ (s p : Addr) (xs : List Int) (m : Int), vs = [.ref s, .int m] ∧ Dr s p xs H ∧ 1 ≤ m ∧ ∀ v H2, Gs s H H2 → Dr s p xs H2 → BI (fun r => 0 ≤ r ∧ r < m) v H2 → Q v H2
theorem ok_draw {fa : Addr} {fd : FuncData} (T : Txt mg tk) (D : Df K mg "_law_draw" s_law_draw ["_law_state", "_law_many"] fa fd) :
    FnOk P w K mg base CX0 (k + 1) fa fd ["_law_state", "_law_many"] spDraw := by
  refine D.F.ok sc_law_draw (fun vs H Q E h => ?_) (fun cdv A outer s H vs Q E hr h => ?_)
  · obtain ⟨s, p, xs, m, rfl, _⟩ := h
    rfl
  · obtain ⟨s, p, xs, m, rfl, d, hm, q⟩ := h
    have nd := sc_law_draw.nd
    refine ⟨_, (pss_cons (ps_set (i := 2) nd rfl (Or.inl rfl) (pe_ix (r := rIxL K) ix_list (pv 0) pe_int (fun _ _ => rfl))) (pss_cons (ps_asg (pe_op op_add (pv 2) pe_int) (pg_sub (pv 0) pe_int set_list)) (pss_one (ps_ret (pe_ifExp (pt_cmpR op_lt (pv 2) (pe_callB (r := rLenQ K) call_len_seq (by rfl) T.n_len PySem.boot_len (pa_cons (pe_ix (r := rIxL K) ix_list (pv 0) pe_int (fun _ _ => rfl)) pa_nil)) (nomark _)) (pe_op op_modN (pe_callTy call_int1 (by rfl) T.n_int PyProof.Rows.boot_int (pa_cons (pe_ix (r := rIxL K) ix_list (pe_ix (r := rIxL K) ix_list (pv 0) pe_int (fun _ _ => rfl)) (pv 2) (fun _ _ => rfl)) pa_nil)) (pv 1)) pe_int))))), ?_⟩
    obtain ⟨n, hn⟩ := d.at_
    refine q_asgP (evp_ixL (i := 1) (v := .int (n : Int)) (evp_var rfl rfl mono_is) (sq_of hn) evp_c rfl) fun v1 H1 e1 hv1 => ?_
    subst hv1
    refine q_setL (j := 1) (e1 _ _ hn) (EvP.ev (evp_I0 (g := fun i j => .int (i + j)) (evp_var (v := .int (n : Int)) rfl rfl mono_is) evp_c)) (ev_var rfl) ev_c (by simp) fun H2 e2 => ?_
    have d2 := d.ex (e1.trans e2)
    have hset : ([V.ref p, .int (n : Int)].set 1 (.int ((n : Int) + 1))) = [V.ref p, .int ((n + 1 : Nat) : Int)] := rfl
    rw [hset]
    have d3 : Dr s p xs (upd H2 s (.lst [V.ref p, .int ((n + 1 : Nat) : Int)])) := ⟨d.ne, ⟨n + 1, upd_same⟩, by rw [upd_ne d.ne]; exact d2.pool⟩
    have g3 : Gs s H (upd H2 s (.lst [V.ref p, .int ((n + 1 : Nat) : Int)])) := fun a o ha h => by rw [upd_ne ha]; exact (e1.trans e2) _ _ h
    generalize upd H2 s (.lst [V.ref p, .int ((n + 1 : Nat) : Int)]) = H3 at d3 g3
    obtain ⟨n3, hn3⟩ := d3.at_
    have hp : EvP (tOp (rIxL K) (tVar 0) (tC (.int 0))) [some (.ref s), some (.int m), some (.int (n : Int))] H3 (fun v H => v = .ref p ∧ H p = some (.lst (xs.map V.int))) :=
      (evp_ixL (i := 0) (v := .ref p) (evp_var rfl rfl mono_is) (sq_of hn3) evp_c rfl).imp fun v H4 e4 hv => ⟨hv, e4 _ _ d3.pool⟩
    have hlen : EvP (tCB (rLenQ K) (tCons (tOp (rIxL K) (tVar 0) (tC (.int 0))) tNil)) [some (.ref s), some (.int m), some (.int (n : Int))] H3 (Is (.int (xs.length : Int))) := evp_cb (eap_one hp) fun vs H4 ⟨x, e, hx, hpl⟩ Q q =>
      ⟨p, _, by rw [e, hx], .inl (sq_of hpl), by rw [List.length_map]; exact q _ H4 (Ex.refl _) rfl⟩
    have hat : EvP (tVar 2) [some (.ref s), some (.int m), some (.int (n : Int))] H3 (Is (.int (n : Int))) := evp_var rfl rfl mono_is
    refine evp_if (b := decide ((n : Int) < (xs.length : Int))) (P := BI fun r => 0 ≤ r ∧ r < m) (et_tst (evp_I0 (g := fun i j => .bl (decide (i < j))) hat hlen)) (fun hb => ?_) (fun _ => evp_bc (by omega)) H3 (Ex.refl H3) _ fun v H4 e4 hv => q v H4 (g3.trans (Gs.of e4)) (d3.ex e4) hv
    have hlt : n < xs.length := by have := of_decide_eq_true hb; omega
    have hx : (xs.map V.int)[n]? = some (.int xs[n]) := by rw [List.getElem?_map, List.getElem?_eq_getElem hlt]; rfl
    refine evp_bI (c := fun _ => True) (d := fun x => x = m) (evp_bi (evp_int1 (i := xs[n]) (evp_op hp hat (fun v H H' e h => ⟨h.1, e _ _ h.2⟩) fun x y H4 e4 ⟨h1, h2⟩ hy Q q => ⟨p, _, (n : Int), _, h1, hy, sq_of h2, atI_nat hx, q _ H4 (Ex.refl _) rfl⟩)) trivial) (evp_bv rfl rfl) fun i j _ hj => by subst hj; exact fm (by omega)
end
end K26
namespace K26
open PySem PySem.Spec PyProof.Rows L2 Evl Ow RZ Ev2
def toI : V → Int
  | .int i => i
  | _ => 0
/-- ints found, by place -/
theorem row_of {c : Int → Prop} {n : Nat} {v : V} {H : Hp} (h0 : c 0) (h : TupP n (fun _ => BI c) v H) : ∃ f : Nat → Int, TupP n (fun j => Is (.int (f j))) v H ∧ ∀ j, c (f j) := by
  obtain ⟨p, ys, hv, hp, hl, hy⟩ := h
  refine ⟨fun j => toI (ys.getD j .non), ⟨p, ys, hv, hp, hl, fun j y hj => ?_⟩, fun j => ?_⟩
  · obtain ⟨i, e, hc⟩ := hy j y hj
    show y = .int (toI (ys.getD j .non))
    rw [List.getD_eq_getElem?_getD, hj]
    simp [e, toI]
  · show c (toI (ys.getD j .non))
    by_cases hj : j < ys.length
    · obtain ⟨i, e, hc⟩ := hy j _ (List.getElem?_eq_getElem hj)
      rw [List.getD_eq_getElem?_getD, List.getElem?_eq_getElem hj, e]
      exact hc
    · rw [List.getD_eq_getElem?_getD, List.getElem?_eq_none (by omega)]
      exact h0
theorem grid_of {c : Int → Prop} {m n : Nat} {v : V} {H : Hp} (h0 : c 0) (h : TupP m (fun _ => TupP n fun _ => BI c) v H) : ∃ f : Nat → Nat → Int, Grid m n f v H ∧ ∀ i j, c (f i j) := by
  obtain ⟨p, ys, hv, hp, hl, hy⟩ := h
  have hr : ∀ i, ∃ f : Nat → Int, (∀ y, ys[i]? = some y → TupP n (fun j => Is (.int (f j))) y H) ∧ ∀ j, c (f j) := fun i => by
    by_cases hi : i < ys.length
    · obtain ⟨f, h1, h2⟩ := row_of h0 (hy i _ (List.getElem?_eq_getElem hi))
      refine ⟨f, fun y e => ?_, h2⟩
      rw [List.getElem?_eq_getElem hi] at e
      cases e
      exact h1
    · exact ⟨fun _ => 0, ⟨fun y e => (by rw [List.getElem?_eq_none (by omega)] at e; cases e), fun _ => h0⟩⟩
  refine ⟨fun i => Classical.choose (hr i), ⟨p, ys, hv, hp, hl, fun i y e => (Classical.choose_spec (hr i)).1 y e⟩, fun i j => (Classical.choose_spec (hr i)).2 j⟩
theorem _root_.Ev2.EvAP.one' {ta : TA} {σ : L2.St} {H : Hp} {v : V} (h : EvAP ta σ H (fun vs H1 => ∃ x, vs = [x] ∧ Is v x H1)) : EvAP ta σ H (fun vs _ => vs = [v]) := fun H1 e Q q => h H1 e Q fun vs H2 e2 ⟨x, hv, hx⟩ => q vs H2 e2 (by rw [hv, show x = v from hx])
section
variable {P : Program} {w : World} {K : PySem.W.Frag} {mg : Str → Option Value} {base : Heap} {tk : Tok} {k : Nat}
def spPool : Sp := fun vs H Q _ => ∃ (c s m : Int), vs = [.int c, .int s, .int m] ∧ (0 ≤ s ∧ s ≤ 100000) ∧ (0 ≤ m ∧ m ≤ 1000) ∧ ∀ (a : Addr) (H2 : Hp), Evl.Ex H H2 → H a = none → (∃ p xs, Dr a p xs H2) → Q (.ref a) H2
theorem rep_flat (m : Nat) : (List.replicate m [V.int 420]).flatten = (List.replicate m (420 : Int)).map V.int := by
  induction m with
  | zero => rfl
  | succ m ih => rw [List.replicate_succ, List.flatten_cons, ih]; rfl
theorem ok_pool {fa f1 : Addr} {fd fd1 : FuncData} (D__law_numbers : Df K mg "_law_numbers" s_law_numbers ["_law_cell", "_law_salt", "_law_sizes"] f1 fd1) (G__law_numbers : FnOk P w K mg base CX0 (k + 1) f1 fd1 ["_law_cell", "_law_salt", "_law_sizes"] spNum) (T : Txt mg tk)
    (D : Df K mg "_law_pool" s_law_pool ["_law_cell", "_law_salt", "_law_many"] fa fd) : FnOk P w K mg base CX0 (k + 2) fa fd ["_law_cell", "_law_salt", "_law_many"] spPool := by
  refine D.F.ok sc_law_pool (fun vs H Q E h => ?_) (fun cdv A outer s H vs Q E hr h => ?_)
  · obtain ⟨c, s, m, rfl, _⟩ := h
    rfl
  · obtain ⟨c, t, m, rfl, ht, ⟨hm0, hm1⟩, q⟩ := h
    have nd := sc_law_pool.nd
    refine ⟨_, (pss_one (ps_ret (pe_lst (pa_cons (pe_call G__law_numbers (hr.mono (by omega)) (by rfl) D__law_numbers.g D__law_numbers.F.kp D__law_numbers.b .nil pass0 (pa_cons (pv 0) (pa_cons (pv 1) (pa_cons (pe_op op_rep (pe_lst (pa_cons pe_int pa_nil)) (pv 2)) pa_nil)))) (pa_cons pe_int pa_nil))))), ?_⟩
    refine ⟨_, rfl, _, rfl, by decide, fun l hl => ⟨_, rfl, l, m, [.int 420], rfl, rfl, upd_same, by omega, by omega, sz_of (by simp; omega), fun b hb => ?_⟩⟩
    rw [rep_flat]
    have e1 : Evl.Ex H (upd H l (.lst [.int 420])) := Ex.new hl
    have e2 : Evl.Ex H (upd (upd H l (.lst [.int 420])) b (.lst ((List.replicate m.toNat (420 : Int)).map V.int))) := e1.trans (Ex.new hb)
    refine ⟨c, t, b, List.replicate m.toNat 420, rfl, upd_same, fun z hz => by rw [(List.mem_replicate.mp hz).2]; decide, by simp; omega, ht, fun p xs H2 e3 hp hxs => ?_⟩
    refine ⟨by show 2 ≤ sizeLine; decide, fun a ha => ?_⟩
    have e4 := e2.trans e3
    refine q a _ (e4.trans (Ex.new ha)) (fresh_back e4 ha) ⟨p, xs, fun z => ?_, ⟨0, upd_same⟩, ?_⟩
    · rw [← z, hxs] at ha; cases ha
    · rw [upd_ne (fun z => by rw [← z, hxs] at ha; cases ha)]; exact hxs
def spGC : Sp := fun vs H Q _ => ∃ (s p : Addr) (xs : List Int) (l r : Nat) (m : Int), vs = [.ref s, .int (l : Int), .int (r : Int), .int m] ∧ Dr s p xs H ∧ (l ≤ 8 ∧ r ≤ 8) ∧ 0 ≤ m ∧
  ∀ v H2, Gs s H H2 → Dr s p xs H2 → (∃ f, Grid l r f v H2 ∧ ∀ i j, 0 ≤ f i j ∧ f i j ≤ m) → Q v H2
def spGW : Sp := fun vs H Q _ => ∃ (s p : Addr) (xs : List Int) (l r : Nat), vs = [.ref s, .int (l : Int), .int (r : Int)] ∧ Dr s p xs H ∧ (l ≤ 8 ∧ r ≤ 8) ∧
  ∀ v H2, Gs s H H2 → Dr s p xs H2 → (∃ f, Grid l r f v H2 ∧ ∀ i j, -3 ≤ f i j ∧ f i j ≤ 5) → Q v H2
theorem evd_draw {σ : L2.St} {H : Hp} {ta : TE} {s p : Addr} {xs : List Int} {m : Int} {E : XK} (hs : σ[0]? = some (some (.ref s))) (ha : ∀ H1, EvP ta σ H1 (Is (.int m))) (hm : 1 ≤ m) : EvD s p xs (tCall spDraw [] E (tCons (tVar 0) (tCons ta tNil))) σ H (BI fun r => 0 ≤ r ∧ r < m) := fun H1 e d Q q =>
  eap_two (P := Is (.ref s)) (evp_var hs rfl mono_is) (ha H1) mono_is H1 (Ex.refl _) _ fun vs H2 e2 ⟨x, y, hv, hx, hy⟩ => ⟨s, p, xs, m, by rw [hv, show x = .ref s from hx, show y = .int m from hy]; rfl, d.ex e2, hm, fun v H3 g3 d3 h3 => q v H3 ((Gs.of e2).trans g3) d3 h3⟩
theorem ok_gc {fa f1 : Addr} {fd fd1 : FuncData} (D__law_draw : Df K mg "_law_draw" s_law_draw ["_law_state", "_law_many"] f1 fd1) (G__law_draw : FnOk P w K mg base CX0 (k + 1) f1 fd1 ["_law_state", "_law_many"] spDraw) (T : Txt mg tk)
    (D : Df K mg "_law_counts" s_law_counts ["_law_state", "_law_left", "_law_right", "_law_most"] fa fd) : FnOk P w K mg base CX0 (k + 2) fa fd ["_law_state", "_law_left", "_law_right", "_law_most"] spGC := by
  refine D.F.ok sc_law_counts (fun vs H Q E h => ?_) (fun cdv A outer s H vs Q E hr h => ?_)
  · obtain ⟨s, p, xs, l, r, m, rfl, _⟩ := h
    rfl
  · obtain ⟨s, p, xs, l, r, m, rfl, d, ⟨hl, hr8⟩, hm, q⟩ := h
    have nd := sc_law_counts.nd
    refine ⟨_, (pss_one (ps_ret (pe_callTy (r := rTupQ K) call_tuple_of (by rfl) T.n_tuple PyProof.Rows.boot_tuple (pa_cons (pe_lc (wi := iRng1 _) (g := gName 4) (own := [("_law_one", 4)]) (by rfl) nd (pi_range1 (by rfl) T.n_range (pa_cons (pv 1) pa_nil)) (blkOk_by (by kernel_rfl)) (fun _ _ _ _ _ => (pg_name (i := 4) nd rfl (Or.inl rfl))) (fun _ _ _ _ _ => pts_nil) (fun _ _ _ _ _ => (pe_callTy (r := rTupQ K) call_tuple_of (by rfl) T.n_tuple PyProof.Rows.boot_tuple (pa_cons (pe_lc (wi := iRng1 _) (g := gName 5) (own := [("_law_other", 5)]) (by rfl) nd (pi_range1 (by rfl) T.n_range (pa_cons (pv 2) pa_nil)) (blkOk_by (by kernel_rfl)) (fun _ _ _ _ _ => (pg_name (i := 5) nd rfl (Or.inl rfl))) (fun _ _ _ _ _ => pts_nil) (fun _ _ _ _ _ => (pe_call G__law_draw (hr.mono (by omega)) (by rfl) D__law_draw.g D__law_draw.F.kp D__law_draw.b .nil pass0 (pa_cons (pv 0) (pa_cons (pe_op op_add (pv 3) pe_int) pa_nil))))) pa_nil)))) pa_nil)))), ?_⟩
    refine evd_tuple (K := K) (n := l) (Pi := fun _ => TupP r fun _ => BI fun x => 0 ≤ x ∧ x < m + 1) (H := H) (evd_lc (j := 4) (vs := [4]) (fun H1 => (eap_one (evp_var (v := .int (l : Int)) rfl rfl mono_is)).one') (by omega) (fun _ => rfl) (fun i hi => ?_) fun _ => mf_tup fun _ => mf_bi) (fun _ => mf_tup fun _ => mf_bi) H (Gs.refl _ _) d _ fun v H2 g2 d2 hv => ?_
    · refine evd_tuple (K := K) (evd_lc (j := 5) (vs := [5]) (fun H1 => (eap_one (evp_var (v := .int (r : Int)) rfl rfl mono_is)).one') (by omega) (fun _ => rfl) (fun j hj => ?_) fun _ => mf_bi) (fun _ => mf_bi)
      exact evd_draw rfl (fun H1 => evp_I0 (g := fun i j => .int (i + j)) (evp_var (v := .int m) rfl rfl mono_is) evp_c) (by omega)
    · obtain ⟨f, h1, h2⟩ := grid_of (c := fun x => 0 ≤ x ∧ x < m + 1) (by omega) hv
      exact q v H2 g2 d2 ⟨f, h1, fun i j => by have := h2 i j; omega⟩
theorem ok_gw {fa f1 : Addr} {fd fd1 : FuncData} (D__law_draw : Df K mg "_law_draw" s_law_draw ["_law_state", "_law_many"] f1 fd1) (G__law_draw : FnOk P w K mg base CX0 (k + 1) f1 fd1 ["_law_state", "_law_many"] spDraw) (T : Txt mg tk)
    (D : Df K mg "_law_weights" s_law_weights ["_law_state", "_law_left", "_law_right"] fa fd) : FnOk P w K mg base CX0 (k + 2) fa fd ["_law_state", "_law_left", "_law_right"] spGW := by
  refine D.F.ok sc_law_weights (fun vs H Q E h => ?_) (fun cdv A outer s H vs Q E hr h => ?_)
  · obtain ⟨s, p, xs, l, r, rfl, _⟩ := h
    rfl
  · obtain ⟨s, p, xs, l, r, rfl, d, ⟨hl, hr8⟩, q⟩ := h
    have nd := sc_law_weights.nd
    refine ⟨_, (pss_one (ps_ret (pe_callTy (r := rTupQ K) call_tuple_of (by rfl) T.n_tuple PyProof.Rows.boot_tuple (pa_cons (pe_lc (wi := iRng1 _) (g := gName 3) (own := [("_law_one", 3)]) (by rfl) nd (pi_range1 (by rfl) T.n_range (pa_cons (pv 1) pa_nil)) (blkOk_by (by kernel_rfl)) (fun _ _ _ _ _ => (pg_name (i := 3) nd rfl (Or.inl rfl))) (fun _ _ _ _ _ => pts_nil) (fun _ _ _ _ _ => (pe_callTy (r := rTupQ K) call_tuple_of (by rfl) T.n_tuple PyProof.Rows.boot_tuple (pa_cons (pe_lc (wi := iRng1 _) (g := gName 4) (own := [("_law_other", 4)]) (by rfl) nd (pi_range1 (by rfl) T.n_range (pa_cons (pv 2) pa_nil)) (blkOk_by (by kernel_rfl)) (fun _ _ _ _ _ => (pg_name (i := 4) nd rfl (Or.inl rfl))) (fun _ _ _ _ _ => pts_nil) (fun _ _ _ _ _ => (pe_op op_sub (pe_call G__law_draw (hr.mono (by omega)) (by rfl) D__law_draw.g D__law_draw.F.kp D__law_draw.b .nil pass0 (pa_cons (pv 0) (pa_cons pe_int pa_nil))) pe_int))) pa_nil)))) pa_nil)))), ?_⟩
    refine evd_tuple (K := K) (n := l) (Pi := fun _ => TupP r fun _ => BI fun x => -3 ≤ x ∧ x ≤ 5) (H := H) (evd_lc (j := 3) (vs := [3]) (fun H1 => (eap_one (evp_var (v := .int (l : Int)) rfl rfl mono_is)).one') (by omega) (fun _ => rfl) (fun i hi => ?_) fun _ => mf_tup fun _ => mf_bi) (fun _ => mf_tup fun _ => mf_bi) H (Gs.refl _ _) d _ fun v H2 g2 d2 hv => ?_
    · refine evd_tuple (K := K) (evd_lc (j := 4) (vs := [4]) (fun H1 => (eap_one (evp_var (v := .int (r : Int)) rfl rfl mono_is)).one') (by omega) (fun _ => rfl) (fun j hj => ?_) fun _ => mf_bi) (fun _ => mf_bi)
      exact fun H1 e d Q q => evd_draw (H := H1) rfl (fun H1 => evp_c (v := .int 9)) (by decide) H1 (Gs.refl _ _) d _ fun v H2 g2 d2 ⟨x, hx, hb⟩ => ⟨x, 3, hx, rfl, q _ H2 g2 d2 ⟨x - 3, rfl, by omega⟩⟩
    · obtain ⟨f, h1, h2⟩ := grid_of (c := fun x => -3 ≤ x ∧ x ≤ 5) (by omega) hv
      exact q v H2 g2 d2 ⟨f, h1, fun i j => by have := h2 i j; omega⟩
end
end K26
namespace K26
open PySem PySem.Spec PyProof.Rows L2 Evl Ow RZ Ev2 StX
abbrev s_is_table : Stmt := topS 22
abbrev N_is_table : List Str := ["left", "right", "value"]
theorem sc_is_table : FnScope N_is_table ["left", "right", "value"] (defScope s_is_table) := ⟨rfl, rfl, rfl, by decide +kernel, rfl, by decide +kernel, by decide +kernel⟩
abbrev s_check_table : Stmt := topS 23
abbrev N_check_table : List Str := ["left", "right", "value"]
theorem sc_check_table : FnScope N_check_table ["left", "right", "value"] (defScope s_check_table) := ⟨rfl, rfl, rfl, by decide +kernel, rfl, by decide +kernel, by decide +kernel⟩
abbrev s_check_question : Stmt := topS 26
abbrev N_check_question : List Str := ["left", "right", "value"]
theorem sc_check_question : FnScope N_check_question ["left", "right", "value"] (defScope s_check_question) := ⟨rfl, rfl, rfl, by decide +kernel, rfl, by decide +kernel, by decide +kernel⟩
abbrev s_Table_init : Stmt := inClass (topS 24) 0
abbrev N_Table_init : List Str := ["self", "counts"]
theorem sc_Table_init : FnScope N_Table_init ["self", "counts"] (defScope s_Table_init) := ⟨rfl, rfl, rfl, by decide +kernel, rfl, by decide +kernel, by decide +kernel⟩
abbrev s_Table_counts : Stmt := inClass (topS 24) 2
abbrev N_Table_counts : List Str := ["self"]
theorem sc_Table_counts : FnScope N_Table_counts ["self"] (defScope s_Table_counts) := ⟨rfl, rfl, rfl, by decide +kernel, rfl, by decide +kernel, by decide +kernel⟩
abbrev s_Table_left : Stmt := inClass (topS 24) 3
abbrev N_Table_left : List Str := ["self"]
theorem sc_Table_left : FnScope N_Table_left ["self"] (defScope s_Table_left) := ⟨rfl, rfl, rfl, by decide +kernel, rfl, by decide +kernel, by decide +kernel⟩
abbrev s_Table_right : Stmt := inClass (topS 24) 4
abbrev N_Table_right : List Str := ["self"]
theorem sc_Table_right : FnScope N_Table_right ["self"] (defScope s_Table_right) := ⟨rfl, rfl, rfl, by decide +kernel, rfl, by decide +kernel, by decide +kernel⟩
abbrev s_Question_init : Stmt := inClass (topS 27) 0
abbrev N_Question_init : List Str := ["self", "weights"]
theorem sc_Question_init : FnScope N_Question_init ["self", "weights"] (defScope s_Question_init) := ⟨rfl, rfl, rfl, by decide +kernel, rfl, by decide +kernel, by decide +kernel⟩
abbrev s_Question_weights : Stmt := inClass (topS 27) 3
abbrev N_Question_weights : List Str := ["self"]
theorem sc_Question_weights : FnScope N_Question_weights ["self"] (defScope s_Question_weights) := ⟨rfl, rfl, rfl, by decide +kernel, rfl, by decide +kernel, by decide +kernel⟩
abbrev s_Question_left : Stmt := inClass (topS 27) 4
abbrev N_Question_left : List Str := ["self"]
theorem sc_Question_left : FnScope N_Question_left ["self"] (defScope s_Question_left) := ⟨rfl, rfl, rfl, by decide +kernel, rfl, by decide +kernel, by decide +kernel⟩
abbrev s_Question_right : Stmt := inClass (topS 27) 5
abbrev N_Question_right : List Str := ["self"]
theorem sc_Question_right : FnScope N_Question_right ["self"] (defScope s_Question_right) := ⟨rfl, rfl, rfl, by decide +kernel, rfl, by decide +kernel, by decide +kernel⟩
abbrev s_Question_weight : Stmt := inClass (topS 27) 6
abbrev N_Question_weight : List Str := ["self", "left", "right"]
theorem sc_Question_weight : FnScope N_Question_weight ["self", "left", "right"] (defScope s_Question_weight) := ⟨rfl, rfl, rfl, by decide +kernel, rfl, by decide +kernel, by decide +kernel⟩
abbrev s_Question_call : Stmt := inClass (topS 27) 8
abbrev N_Question_call : List Str := ["self", "table"]
theorem sc_Question_call : FnScope N_Question_call ["self", "table"] (defScope s_Question_call) := ⟨rfl, rfl, rfl, by decide +kernel, rfl, by decide +kernel, by decide +kernel⟩
abbrev s_Question_add : Stmt := inClass (topS 27) 9
abbrev N_Question_add : List Str := ["self", "other"]
theorem sc_Question_add : FnScope N_Question_add ["self", "other"] (defScope s_Question_add) := ⟨rfl, rfl, rfl, by decide +kernel, rfl, by decide +kernel, by decide +kernel⟩
abbrev s_Question_sub : Stmt := inClass (topS 27) 10
abbrev N_Question_sub : List Str := ["self", "other"]
theorem sc_Question_sub : FnScope N_Question_sub ["self", "other"] (defScope s_Question_sub) := ⟨rfl, rfl, rfl, by decide +kernel, rfl, by decide +kernel, by decide +kernel⟩
abbrev s_Question_mul : Stmt := inClass (topS 27) 11
abbrev N_Question_mul : List Str := ["self", "other"]
theorem sc_Question_mul : FnScope N_Question_mul ["self", "other"] (defScope s_Question_mul) := ⟨rfl, rfl, rfl, by decide +kernel, rfl, by decide +kernel, by decide +kernel⟩
abbrev s_Question_neg : Stmt := inClass (topS 27) 12
abbrev N_Question_neg : List Str := ["self"]
theorem sc_Question_neg : FnScope N_Question_neg ["self"] (defScope s_Question_neg) := ⟨rfl, rfl, rfl, by decide +kernel, rfl, by decide +kernel, by decide +kernel⟩
abbrev s_Question_eq : Stmt := inClass (topS 27) 13
abbrev N_Question_eq : List Str := ["self", "other"]
theorem sc_Question_eq : FnScope N_Question_eq ["self", "other"] (defScope s_Question_eq) := ⟨rfl, rfl, rfl, by decide +kernel, rfl, by decide +kernel, by decide +kernel⟩

/-- what the top has written of a class whose instances hold one field -/
structure Kl (K : PySem.W.Frag) (mg : Str → Option Value) (x : Str) (C fI : Addr) (fld : Str) : Prop where
  cl : Cls K C
  nF : NoAttr K C fld
  gC : mg x = some (.ref C)
  mkc : Mk K C fI
  ha : PySem.W.findIn K (.ref C) "__class__" = some (some (.builtin "object.__class__"))
  hn : PySem.W.specialIn K (.builtin "object.__class__") "__get__" = some (some (.builtin "getset_descriptor.__get__"))
  htk : PySem.W.takesIn K (.builtin "object.__class__") = some true
  hm : PySem.W.mroIn K C (.type "object") = some true
/-- a method -/
structure Mf (K : PySem.W.Frag) (x qual : Str) (st : Stmt) (ps : List Str) (f : Addr) (fd : FuncData) : Prop where
  F : Fun K x qual st f fd
  b : Binds K fd ps []
/-- a property -/
structure Pf (K : PySem.W.Frag) (C : Addr) (x qual : Str) (st : Stmt) (p f : Addr) (fd : FuncData) : Prop where
  F : Fun K x qual st f fd
  b : Binds K fd ["self"] []
  hp : PropOf K C x p f
def Ins (C : Addr) (fld : Str) (m n : Nat) (f : Nat → Nat → Int) : HP := fun v H => ∃ a dx p, v = .ref a ∧ H a = some (.ins C dx [(fld, p)]) ∧ Grid m n f p H
theorem mf_ins {C : Addr} {fld : Str} {m n : Nat} {f : Nat → Nat → Int} : MonoF (Ins C fld m n f) := fun v H H' e ⟨a, dx, p, h1, h2, h3⟩ => ⟨a, dx, p, h1, e _ _ h2 (fun _ z => nomatch z), mf_grid _ _ _ e h3⟩
section
variable {K : PySem.W.Frag} {σ : L2.St} {H : Hp} {ta tb te : TE} {P S : HP} {C fI : Addr} {fld x : Str} {mg : Str → Option Value} {m n : Nat} {f : Nat → Nat → Int}
theorem look1 {p : V} : List.lookup fld [(fld, p)] = some p := by simp [List.lookup]
theorem evp_fld (B : Kl K mg x C fI fld) (h : EvP te σ H (Ins C fld m n f)) : EvP (tFld K te fld) σ H (Grid m n f) := fun H1 e Q q => h H1 e _ fun v H2 e2 ⟨a, dx, p, h1, h2, h3⟩ => ⟨a, C, dx, _, p, h1, h2, B.cl, B.nF, look1, q p H2 e2 h3⟩
theorem evp_prop {sp : Sp} {E : XK} (h : EvP te σ H (Ins C fld m n f)) (hs : SpP sp (fun vs H1 => ∃ v, vs = [v] ∧ Ins C fld m n f v H1) S) : EvP (tProp C sp [] E te) σ H S := fun H1 e Q q => h H1 e _ fun v H2 e2 ⟨a, dx, p, h1, h2, h3⟩ =>
  ⟨a, dx, _, h1, h2, hs _ H2 ⟨_, rfl, a, dx, p, rfl, h2, h3⟩ Q (fun v H3 e3 s => q v H3 (e2.trans e3) s) E⟩
theorem kit_me {K : PySem.W.Frag} {C : Addr} : PySem.W.kitOne K (.ref C) (.ref C) = some true := by
  unfold PySem.W.kitOne
  rw [if_pos (by simp)]
theorem ty_ins (B : Kl K mg x C fI fld) {v : V} (h : Ins C fld m n f v H) : TyX K H v (.ref C) := by
  obtain ⟨a, dx, p, rfl, h2, _⟩ := h
  exact .base (.ins h2 B.cl B.ha B.hn B.htk B.hm)
theorem evp_isiO (B : Kl K mg x C fI fld) (h : EvP te σ H (Ins C fld m n f)) : EvP (tCB (rIsi K) (tCons te (tCons (tC (.ref C)) tNil))) σ H (Is (.bl true)) := evp_isi (t := .ref C) (b := true) h (fun _ _ p => ty_ins B p) (.own C) kit_me
end
def dimOk (m n : Nat) : Prop := (1 ≤ m ∧ m ≤ 8) ∧ (1 ≤ n ∧ n ≤ 8)
def spInit (C : Addr) (fld : Str) (ok : (Nat → Nat → Int) → Prop) : Sp := fun vs H Q _ => ∃ (a dx : Addr) (v : V) (m n : Nat) (f : Nat → Nat → Int), vs = [.ref a, v] ∧ H a = some (.ins C dx []) ∧ Grid m n f v H ∧ dimOk m n ∧ ok f ∧
  ∀ H2, Evl.Ex (fun b => if b = a then none else H b) H2 → H2 a = some (.ins C dx [(fld, v)]) → Q .non H2
def spGet (C : Addr) (fld : Str) : Sp := fun vs H Q _ => ∃ (v : V) (m n : Nat) (f : Nat → Nat → Int), vs = [v] ∧ Ins C fld m n f v H ∧ ∀ w H2, Evl.Ex H H2 → Grid m n f w H2 → Q w H2
def spLeft (C : Addr) (fld : Str) : Sp := fun vs H Q _ => ∃ (v : V) (m n : Nat) (f : Nat → Nat → Int), vs = [v] ∧ Ins C fld m n f v H ∧ ∀ w H2, Evl.Ex H H2 → w = .int (m : Int) → Q w H2
def spRight (C : Addr) (fld : Str) : Sp := fun vs H Q _ => ∃ (v : V) (m n : Nat) (f : Nat → Nat → Int), vs = [v] ∧ Ins C fld m n f v H ∧ 1 ≤ m ∧ ∀ w H2, Evl.Ex H H2 → w = .int (n : Int) → Q w H2
section
variable {P : Program} {w : World} {K : PySem.W.Frag} {mg : Str → Option Value} {base : Heap} {tk : Tok} {k : Nat} {C fI p g f1 : Addr} {fd fd1 : FuncData}
theorem ok_Table_counts (BB : Kl K mg "Table" C fI "_counts") (T : Txt mg tk) (PP : Pf K C "counts" "Table.counts" s_Table_counts p g fd) : FnOk P w K mg base CX0 (k + 1) g fd ["self"] (spGet C "_counts") := by
  refine PP.F.ok sc_Table_counts (fun vs H Q E h => ?_) (fun cdv A outer s H vs Q E hr h => ?_)
  · obtain ⟨v, m, n, f, rfl, _⟩ := h
    rfl
  · obtain ⟨v, m, n, f, rfl, hv, q⟩ := h
    refine ⟨_, (pss_one (ps_ret (pe_fld (pv 0) rfl))), ?_⟩
    have h0 : EvP (tVar 0) (start N_Table_counts [v]) H (Ins C "_counts" m n f) := evp_var rfl hv mf_ins.mono
    exact evp_fld BB h0 H (Ex.refl H) _ q
theorem ok_Table_left (BB : Kl K mg "Table" C fI "_counts") (T : Txt mg tk) (PP : Pf K C "left" "Table.left" s_Table_left p g fd) : FnOk P w K mg base CX0 (k + 1) g fd ["self"] (spLeft C "_counts") := by
  refine PP.F.ok sc_Table_left (fun vs H Q E h => ?_) (fun cdv A outer s H vs Q E hr h => ?_)
  · obtain ⟨v, m, n, f, rfl, _⟩ := h
    rfl
  · obtain ⟨v, m, n, f, rfl, hv, q⟩ := h
    refine ⟨_, (pss_one (ps_ret (pe_callB (r := rLenQ K) call_len_seq (by rfl) T.n_len PySem.boot_len (pa_cons (pe_fld (pv 0) rfl) pa_nil)))), ?_⟩
    have h0 : EvP (tVar 0) (start N_Table_left [v]) H (Ins C "_counts" m n f) := evp_var rfl hv mf_ins.mono
    exact evp_len (K := K) (evp_fld BB h0) H (Ex.refl H) _ q
theorem ok_Table_right (BB : Kl K mg "Table" C fI "_counts") (T : Txt mg tk) (PP : Pf K C "right" "Table.right" s_Table_right p g fd) : FnOk P w K mg base CX0 (k + 1) g fd ["self"] (spRight C "_counts") := by
  refine PP.F.ok sc_Table_right (fun vs H Q E h => ?_) (fun cdv A outer s H vs Q E hr h => ?_)
  · obtain ⟨v, m, n, f, rfl, _⟩ := h
    rfl
  · obtain ⟨v, m, n, f, rfl, hv, hm, q⟩ := h
    refine ⟨_, (pss_one (ps_ret (pe_callB (r := rLenQ K) call_len_seq (by rfl) T.n_len PySem.boot_len (pa_cons (pe_ix (r := rIxT K) ix_tup (pe_fld (pv 0) rfl) pe_int (fun _ _ => rfl)) pa_nil)))), ?_⟩
    have h0 : EvP (tVar 0) (start N_Table_right [v]) H (Ins C "_counts" m n f) := evp_var rfl hv mf_ins.mono
    exact evp_len (K := K) (evp_ixT (K := K) (i := 0) (evp_fld BB h0) evp_c (by omega) fun _ => mf_row) H (Ex.refl H) _ q
theorem ok_Question_weights (BB : Kl K mg "Question" C fI "_weights") (T : Txt mg tk) (PP : Pf K C "weights" "Question.weights" s_Question_weights p g fd) : FnOk P w K mg base CX0 (k + 1) g fd ["self"] (spGet C "_weights") := by
  refine PP.F.ok sc_Question_weights (fun vs H Q E h => ?_) (fun cdv A outer s H vs Q E hr h => ?_)
  · obtain ⟨v, m, n, f, rfl, _⟩ := h
    rfl
  · obtain ⟨v, m, n, f, rfl, hv, q⟩ := h
    refine ⟨_, (pss_one (ps_ret (pe_fld (pv 0) rfl))), ?_⟩
    have h0 : EvP (tVar 0) (start N_Question_weights [v]) H (Ins C "_weights" m n f) := evp_var rfl hv mf_ins.mono
    exact evp_fld BB h0 H (Ex.refl H) _ q
theorem ok_Question_left (BB : Kl K mg "Question" C fI "_weights") (T : Txt mg tk) (PP : Pf K C "left" "Question.left" s_Question_left p g fd) : FnOk P w K mg base CX0 (k + 1) g fd ["self"] (spLeft C "_weights") := by
  refine PP.F.ok sc_Question_left (fun vs H Q E h => ?_) (fun cdv A outer s H vs Q E hr h => ?_)
  · obtain ⟨v, m, n, f, rfl, _⟩ := h
    rfl
  · obtain ⟨v, m, n, f, rfl, hv, q⟩ := h
    refine ⟨_, (pss_one (ps_ret (pe_callB (r := rLenQ K) call_len_seq (by rfl) T.n_len PySem.boot_len (pa_cons (pe_fld (pv 0) rfl) pa_nil)))), ?_⟩
    have h0 : EvP (tVar 0) (start N_Question_left [v]) H (Ins C "_weights" m n f) := evp_var rfl hv mf_ins.mono
    exact evp_len (K := K) (evp_fld BB h0) H (Ex.refl H) _ q
theorem ok_Question_right (BB : Kl K mg "Question" C fI "_weights") (T : Txt mg tk) (PP : Pf K C "right" "Question.right" s_Question_right p g fd) : FnOk P w K mg base CX0 (k + 1) g fd ["self"] (spRight C "_weights") := by
  refine PP.F.ok sc_Question_right (fun vs H Q E h => ?_) (fun cdv A outer s H vs Q E hr h => ?_)
  · obtain ⟨v, m, n, f, rfl, _⟩ := h
    rfl
  · obtain ⟨v, m, n, f, rfl, hv, hm, q⟩ := h
    refine ⟨_, (pss_one (ps_ret (pe_callB (r := rLenQ K) call_len_seq (by rfl) T.n_len PySem.boot_len (pa_cons (pe_ix (r := rIxT K) ix_tup (pe_fld (pv 0) rfl) pe_int (fun _ _ => rfl)) pa_nil)))), ?_⟩
    have h0 : EvP (tVar 0) (start N_Question_right [v]) H (Ins C "_weights" m n f) := evp_var rfl hv mf_ins.mono
    exact evp_len (K := K) (evp_ixT (K := K) (i := 0) (evp_fld BB h0) evp_c (by omega) fun _ => mf_row) H (Ex.refl H) _ q
theorem ok_Table_init (BB : Kl K mg "Table" C fI "_counts") (T : Txt mg tk) (D_is_counts : Df K mg "is_counts" s_is_counts ["value"] f1 fd1) (G_is_counts : FnOk P w K mg base CX0 (k + 4) f1 fd1 ["value"] spCounts) (M : Mf K "__init__" "Table.__init__" s_Table_init ["self", "counts"] fI fd) :
    FnOk P w K mg base CX0 (k + 5) fI fd ["self", "counts"] (spInit C "_counts" (fun f => ∀ i j, 0 ≤ f i j)) := by
  refine M.F.ok sc_Table_init (fun vs H Q E h => ?_) (fun cdv A outer s H vs Q E hr h => ?_)
  · obtain ⟨a, dx, v, m, n, f, rfl, _⟩ := h
    rfl
  · obtain ⟨a, dx, v, m, n, f, rfl, ha, hv, ⟨hm, hn⟩, hok, q⟩ := h
    refine ⟨_, (pss_cons (ps_if (pt_not (pt_val (pe_call G_is_counts (hr.mono (by omega)) (by rfl) D_is_counts.g D_is_counts.F.kp D_is_counts.b .nil pass0 (pa_cons (pv 1) pa_nil)))) (pss_one ps_never) pss_nil) (pss_one (ps_fld (pv 0) (pv 1) rfl))), ?_⟩
    have h1 : EvP (tVar 1) (start N_Table_init [.ref a, v]) H (Grid m n f) := evp_var rfl hv mf_grid.mono
    have hc : EvP _ (start N_Table_init [.ref a, v]) H (Is (.bl true)) := evp_call (sp := spCounts) (E := fun _ _ _ => False) (eap_one h1) fun vs H1 ⟨x, e, hx⟩ Q q E => ⟨x, m, n, f, e, hx, hm, hn, hok, q⟩
    refine q_when (b := false) (et_not (et_bl hc)) (fun z => nomatch z) fun _ H1 e1 => ?_
    refine ⟨v, rfl, .ref a, rfl, a, C, dx, [], rfl, e1 _ _ ha, BB.cl, BB.nF, (by show 0 < 1000; decide), q _ (fun b o hb => ?_) upd_same⟩
    dsimp only at hb
    by_cases hba : b = a
    · rw [if_pos hba] at hb; cases hb
    · rw [if_neg hba] at hb; rw [upd_ne hba]; exact e1 _ _ hb
theorem ok_Question_init (BB : Kl K mg "Question" C fI "_weights") (T : Txt mg tk) (D_is_grid : Df K mg "is_grid" s_is_grid ["value"] f1 fd1) (G_is_grid : FnOk P w K mg base CX0 (k + 4) f1 fd1 ["value"] spGrid) (M : Mf K "__init__" "Question.__init__" s_Question_init ["self", "weights"] fI fd) :
    FnOk P w K mg base CX0 (k + 5) fI fd ["self", "weights"] (spInit C "_weights" (fun _ => True)) := by
  refine M.F.ok sc_Question_init (fun vs H Q E h => ?_) (fun cdv A outer s H vs Q E hr h => ?_)
  · obtain ⟨a, dx, v, m, n, f, rfl, _⟩ := h
    rfl
  · obtain ⟨a, dx, v, m, n, f, rfl, ha, hv, ⟨hm, hn⟩, hok, q⟩ := h
    refine ⟨_, (pss_cons (ps_if (pt_not (pt_val (pe_call G_is_grid (hr.mono (by omega)) (by rfl) D_is_grid.g D_is_grid.F.kp D_is_grid.b .nil pass0 (pa_cons (pv 1) pa_nil)))) (pss_one ps_never) pss_nil) (pss_one (ps_fld (pv 0) (pv 1) rfl))), ?_⟩
    have h1 : EvP (tVar 1) (start N_Question_init [.ref a, v]) H (Grid m n f) := evp_var rfl hv mf_grid.mono
    have hc : EvP _ (start N_Question_init [.ref a, v]) H (Is (.bl true)) := evp_call (sp := spGrid) (E := fun _ _ _ => False) (eap_one h1) fun vs H1 ⟨x, e, hx⟩ Q q E => ⟨x, m, n, f, e, hx, hm, hn, q⟩
    refine q_when (b := false) (et_not (et_bl hc)) (fun z => nomatch z) fun _ H1 e1 => ?_
    refine ⟨v, rfl, .ref a, rfl, a, C, dx, [], rfl, e1 _ _ ha, BB.cl, BB.nF, (by show 0 < 1000; decide), q _ (fun b o hb => ?_) upd_same⟩
    dsimp only at hb
    by_cases hba : b = a
    · rw [if_pos hba] at hb; cases hb
    · rw [if_neg hba] at hb; rw [upd_ne hba]; exact e1 _ _ hb
end
end K26
namespace K26
open PySem PySem.Spec PyProof.Rows L2 Evl Ow RZ Ev2 StX
/-- where each def stands -/
structure Ad where
  f_is_whole : Addr
  d_is_whole : FuncData
  f_is_below : Addr
  d_is_below : FuncData
  f_check_below : Addr
  d_check_below : FuncData
  f_is_line : Addr
  d_is_line : FuncData
  f_is_grid : Addr
  d_is_grid : FuncData
  f_grid_sum : Addr
  d_grid_sum : FuncData
  f_grid_product : Addr
  d_grid_product : FuncData
  f_grid_times : Addr
  d_grid_times : FuncData
  f_is_counts : Addr
  d_is_counts : FuncData
  f_is_table : Addr
  d_is_table : FuncData
  f_check_table : Addr
  d_check_table : FuncData
  f_check_question : Addr
  d_check_question : FuncData
  f_law_numbers : Addr
  d_law_numbers : FuncData
  f_law_draw : Addr
  d_law_draw : FuncData
  f_law_pool : Addr
  d_law_pool : FuncData
  f_law_counts : Addr
  d_law_counts : FuncData
  f_law_weights : Addr
  d_law_weights : FuncData
  p_Table_counts : Addr
  f_Table_counts : Addr
  d_Table_counts : FuncData
  p_Table_left : Addr
  f_Table_left : Addr
  d_Table_left : FuncData
  p_Table_right : Addr
  f_Table_right : Addr
  d_Table_right : FuncData
  p_Question_weights : Addr
  f_Question_weights : Addr
  d_Question_weights : FuncData
  p_Question_left : Addr
  f_Question_left : Addr
  d_Question_left : FuncData
  p_Question_right : Addr
  f_Question_right : Addr
  d_Question_right : FuncData
  f_Table_init : Addr
  d_Table_init : FuncData
  f_Question_init : Addr
  d_Question_init : FuncData
  f_Question_weight : Addr
  d_Question_weight : FuncData
  f_Question_call : Addr
  d_Question_call : FuncData
  f_Question_add : Addr
  d_Question_add : FuncData
  f_Question_sub : Addr
  d_Question_sub : FuncData
  f_Question_mul : Addr
  d_Question_mul : FuncData
  f_Question_neg : Addr
  d_Question_neg : FuncData
  f_Question_eq : Addr
  d_Question_eq : FuncData
  cT : Addr
  cQ : Addr
  cf : Option Value
  ci : Option Value
  cr : Option Value
/-- what the top has written -/
structure Tx (K : PySem.W.Frag) (mg : Str → Option Value) (tk : Tok) (a : Ad) : Prop where
  T : Txt mg tk
  BTable : Kl K mg "Table" a.cT a.f_Table_init "_counts"
  BQuestion : Kl K mg "Question" a.cQ a.f_Question_init "_weights"
  D_is_whole : Df K mg "is_whole" s_is_whole ["value"] a.f_is_whole a.d_is_whole
  D_is_below : Df K mg "is_below" s_is_below ["size", "value"] a.f_is_below a.d_is_below
  D_check_below : Df K mg "check_below" s_check_below ["size", "value"] a.f_check_below a.d_check_below
  D_is_line : Df K mg "is_line" s_is_line ["value"] a.f_is_line a.d_is_line
  D_is_grid : Df K mg "is_grid" s_is_grid ["value"] a.f_is_grid a.d_is_grid
  D_grid_sum : Df K mg "grid_sum" s_grid_sum ["one", "other"] a.f_grid_sum a.d_grid_sum
  D_grid_product : Df K mg "grid_product" s_grid_product ["one", "other"] a.f_grid_product a.d_grid_product
  D_grid_times : Df K mg "grid_times" s_grid_times ["grid", "factor"] a.f_grid_times a.d_grid_times
  D_is_counts : Df K mg "is_counts" s_is_counts ["value"] a.f_is_counts a.d_is_counts
  D_is_table : Df K mg "is_table" s_is_table ["left", "right", "value"] a.f_is_table a.d_is_table
  D_check_table : Df K mg "check_table" s_check_table ["left", "right", "value"] a.f_check_table a.d_check_table
  D_check_question : Df K mg "check_question" s_check_question ["left", "right", "value"] a.f_check_question a.d_check_question
  D__law_numbers : Df K mg "_law_numbers" s_law_numbers ["_law_cell", "_law_salt", "_law_sizes"] a.f_law_numbers a.d_law_numbers
  D__law_draw : Df K mg "_law_draw" s_law_draw ["_law_state", "_law_many"] a.f_law_draw a.d_law_draw
  D__law_pool : Df K mg "_law_pool" s_law_pool ["_law_cell", "_law_salt", "_law_many"] a.f_law_pool a.d_law_pool
  D__law_counts : Df K mg "_law_counts" s_law_counts ["_law_state", "_law_left", "_law_right", "_law_most"] a.f_law_counts a.d_law_counts
  D__law_weights : Df K mg "_law_weights" s_law_weights ["_law_state", "_law_left", "_law_right"] a.f_law_weights a.d_law_weights
  P_Table_counts : Pf K a.cT "counts" "Table.counts" s_Table_counts a.p_Table_counts a.f_Table_counts a.d_Table_counts
  P_Table_left : Pf K a.cT "left" "Table.left" s_Table_left a.p_Table_left a.f_Table_left a.d_Table_left
  P_Table_right : Pf K a.cT "right" "Table.right" s_Table_right a.p_Table_right a.f_Table_right a.d_Table_right
  P_Question_weights : Pf K a.cQ "weights" "Question.weights" s_Question_weights a.p_Question_weights a.f_Question_weights a.d_Question_weights
  P_Question_left : Pf K a.cQ "left" "Question.left" s_Question_left a.p_Question_left a.f_Question_left a.d_Question_left
  P_Question_right : Pf K a.cQ "right" "Question.right" s_Question_right a.p_Question_right a.f_Question_right a.d_Question_right
  M_Table_init : Mf K "__init__" "Table.__init__" s_Table_init ["self", "counts"] a.f_Table_init a.d_Table_init
  M_Question_init : Mf K "__init__" "Question.__init__" s_Question_init ["self", "weights"] a.f_Question_init a.d_Question_init
  M_Question_weight : Mf K "weight" "Question.weight" s_Question_weight ["self", "left", "right"] a.f_Question_weight a.d_Question_weight
  M_Question_call : Mf K "__call__" "Question.__call__" s_Question_call ["self", "table"] a.f_Question_call a.d_Question_call
  M_Question_add : Mf K "__add__" "Question.__add__" s_Question_add ["self", "other"] a.f_Question_add a.d_Question_add
  M_Question_sub : Mf K "__sub__" "Question.__sub__" s_Question_sub ["self", "other"] a.f_Question_sub a.d_Question_sub
  M_Question_mul : Mf K "__mul__" "Question.__mul__" s_Question_mul ["self", "other"] a.f_Question_mul a.d_Question_mul
  M_Question_neg : Mf K "__neg__" "Question.__neg__" s_Question_neg ["self"] a.f_Question_neg a.d_Question_neg
  M_Question_eq : Mf K "__eq__" "Question.__eq__" s_Question_eq ["self", "other"] a.f_Question_eq a.d_Question_eq
  first : PySem.W.selfFirst K a.cQ = true
  i_add : PySem.W.findIn K (.ref a.cQ) "__add__" = some (some (.ref a.f_Question_add))
  n_add : PySem.W.isFn K (.ref a.f_Question_add) = true
  i_sub : PySem.W.findIn K (.ref a.cQ) "__sub__" = some (some (.ref a.f_Question_sub))
  n_sub : PySem.W.isFn K (.ref a.f_Question_sub) = true
  i_mul : PySem.W.findIn K (.ref a.cQ) "__mul__" = some (some (.ref a.f_Question_mul))
  n_mul : PySem.W.isFn K (.ref a.f_Question_mul) = true
  i_neg : PySem.W.findIn K (.ref a.cQ) "__neg__" = some (some (.ref a.f_Question_neg))
  n_neg : PySem.W.isFn K (.ref a.f_Question_neg) = true
  i_eq : PySem.W.findIn K (.ref a.cQ) "__eq__" = some (some (.ref a.f_Question_eq))
  n_eq : PySem.W.isFn K (.ref a.f_Question_eq) = true
  rm : PySem.W.findIn K (.ref a.cQ) "__rmul__" = some none
  im : PySem.W.findIn K (.type "int") "__mul__" = some a.ci
  ir : PySem.W.findIn K (.type "int") "__rmul__" = some a.cr
  su : PySem.W.subIn K (.type "int") (.ref a.cQ) = some false
  ne : NeTxt K a.cQ a.f_Question_eq
  co : CallO K a.cQ a.f_Question_call
  mw : Meth K a.cQ "weight" a.f_Question_weight
section
variable {P : Program} {w : World} {K : PySem.W.Frag} {mg : Str → Option Value} {base : Heap} {tk : Tok} {a : Ad}
theorem G_is_whole (h : Tx K mg tk a) : FnOk P w K mg base CX0 1 a.f_is_whole a.d_is_whole ["value"] spWhole := ok_whole (k := 0) h.T h.D_is_whole
theorem G_is_below (h : Tx K mg tk a) : FnOk P w K mg base CX0 2 a.f_is_below a.d_is_below ["size", "value"] spBelow := ok_below (k := 0) h.D_is_whole (G_is_whole h) h.T h.D_is_below
theorem G_check_below (h : Tx K mg tk a) : FnOk P w K mg base CX0 3 a.f_check_below a.d_check_below ["size", "value"] spCheckBelow := ok_check_below (k := 0) h.D_is_below (G_is_below h) h.T h.D_check_below
theorem G_is_line (h : Tx K mg tk a) : FnOk P w K mg base CX0 2 a.f_is_line a.d_is_line ["value"] spLine := ok_line (k := 0) h.D_is_whole (G_is_whole h) h.T h.D_is_line
theorem G_is_grid (h : Tx K mg tk a) : FnOk P w K mg base CX0 3 a.f_is_grid a.d_is_grid ["value"] spGrid := ok_grid (k := 0) h.D_is_line (G_is_line h) h.T h.D_is_grid
theorem G_grid_sum (h : Tx K mg tk a) : FnOk P w K mg base CX0 1 a.f_grid_sum a.d_grid_sum ["one", "other"] spGSum := ok_gsum (k := 0) h.T h.D_grid_sum
theorem G_grid_product (h : Tx K mg tk a) : FnOk P w K mg base CX0 1 a.f_grid_product a.d_grid_product ["one", "other"] spGProd := ok_gprod (k := 0) h.T h.D_grid_product
theorem G_grid_times (h : Tx K mg tk a) : FnOk P w K mg base CX0 1 a.f_grid_times a.d_grid_times ["grid", "factor"] spGTimes := ok_gtimes (k := 0) h.T h.D_grid_times
theorem G_is_counts (h : Tx K mg tk a) : FnOk P w K mg base CX0 4 a.f_is_counts a.d_is_counts ["value"] spCounts := ok_counts (k := 0) h.D_is_grid (G_is_grid h) h.T h.D_is_counts
theorem G_Table_counts (h : Tx K mg tk a) : FnOk P w K mg base CX0 1 a.f_Table_counts a.d_Table_counts ["self"] (spGet a.cT "_counts") := ok_Table_counts (k := 0) h.BTable h.T h.P_Table_counts
theorem G_Table_left (h : Tx K mg tk a) : FnOk P w K mg base CX0 1 a.f_Table_left a.d_Table_left ["self"] (spLeft a.cT "_counts") := ok_Table_left (k := 0) h.BTable h.T h.P_Table_left
theorem G_Table_right (h : Tx K mg tk a) : FnOk P w K mg base CX0 1 a.f_Table_right a.d_Table_right ["self"] (spRight a.cT "_counts") := ok_Table_right (k := 0) h.BTable h.T h.P_Table_right
theorem G_Question_weights (h : Tx K mg tk a) : FnOk P w K mg base CX0 1 a.f_Question_weights a.d_Question_weights ["self"] (spGet a.cQ "_weights") := ok_Question_weights (k := 0) h.BQuestion h.T h.P_Question_weights
theorem G_Question_left (h : Tx K mg tk a) : FnOk P w K mg base CX0 1 a.f_Question_left a.d_Question_left ["self"] (spLeft a.cQ "_weights") := ok_Question_left (k := 0) h.BQuestion h.T h.P_Question_left
theorem G_Question_right (h : Tx K mg tk a) : FnOk P w K mg base CX0 1 a.f_Question_right a.d_Question_right ["self"] (spRight a.cQ "_weights") := ok_Question_right (k := 0) h.BQuestion h.T h.P_Question_right
theorem G_Table_init (h : Tx K mg tk a) : FnOk P w K mg base CX0 5 a.f_Table_init a.d_Table_init ["self", "counts"] (spInit a.cT "_counts" fun f => ∀ i j, 0 ≤ f i j) := ok_Table_init (k := 0) h.BTable h.T h.D_is_counts (G_is_counts h) h.M_Table_init
theorem G_Question_init (h : Tx K mg tk a) : FnOk P w K mg base CX0 5 a.f_Question_init a.d_Question_init ["self", "weights"] (spInit a.cQ "_weights" fun _ => True) := ok_Question_init (k := 0) h.BQuestion h.T h.D_is_grid ((G_is_grid h).mono (by decide)) h.M_Question_init
theorem G__law_numbers (h : Tx K mg tk a) : FnOk P w K mg base CX0 1 a.f_law_numbers a.d_law_numbers ["_law_cell", "_law_salt", "_law_sizes"] spNum := ok_num (k := 0) h.T h.D__law_numbers
theorem G__law_draw (h : Tx K mg tk a) : FnOk P w K mg base CX0 1 a.f_law_draw a.d_law_draw ["_law_state", "_law_many"] spDraw := ok_draw (k := 0) h.T h.D__law_draw
theorem G__law_pool (h : Tx K mg tk a) : FnOk P w K mg base CX0 2 a.f_law_pool a.d_law_pool ["_law_cell", "_law_salt", "_law_many"] spPool := ok_pool (k := 0) h.D__law_numbers (G__law_numbers h) h.T h.D__law_pool
theorem G__law_counts (h : Tx K mg tk a) : FnOk P w K mg base CX0 2 a.f_law_counts a.d_law_counts ["_law_state", "_law_left", "_law_right", "_law_most"] spGC := ok_gc (k := 0) h.D__law_draw (G__law_draw h) h.T h.D__law_counts
theorem G__law_weights (h : Tx K mg tk a) : FnOk P w K mg base CX0 2 a.f_law_weights a.d_law_weights ["_law_state", "_law_left", "_law_right"] spGW := ok_gw (k := 0) h.D__law_draw (G__law_draw h) h.T h.D__law_weights

def spOfT (C : Addr) (fld : Str) (z : V) : Sp := fun vs H Q _ => ∃ (v : V) (m n : Nat) (f : Nat → Nat → Int), vs = [.int (m : Int), .int (n : Int), v] ∧ Ins C fld m n f v H ∧ 1 ≤ m ∧ ∀ w H2, Evl.Ex H H2 → w = z → Q w H2
theorem sp_one {C : Addr} {fld : Str} {m n : Nat} {f : Nat → Nat → Int} {S : HP} {sp : Sp} (hs : ∀ v H1, Ins C fld m n f v H1 → ∀ Q : VK, (∀ v H2, Evl.Ex H1 H2 → S v H2 → Q v H2) → ∀ E : XK, sp [v] H1 Q E) : SpP sp (fun vs H1 => ∃ v, vs = [v] ∧ Ins C fld m n f v H1) S := fun vs H1 ⟨v, e, hv⟩ Q q E => by
  rw [e]; exact hs v H1 hv Q q E
theorem ev_left {σ : L2.St} {H : Hp} {te : TE} {C : Addr} {fld : Str} {m n : Nat} {f : Nat → Nat → Int} {E : XK} (h : EvP te σ H (Ins C fld m n f)) : EvP (tProp C (spLeft C fld) [] E te) σ H (Is (.int (m : Int))) := evp_prop h (sp_one fun v H1 hv Q q E => ⟨v, m, n, f, rfl, hv, q⟩)
theorem ev_right {σ : L2.St} {H : Hp} {te : TE} {C : Addr} {fld : Str} {m n : Nat} {f : Nat → Nat → Int} {E : XK} (h : EvP te σ H (Ins C fld m n f)) (hm : 1 ≤ m) : EvP (tProp C (spRight C fld) [] E te) σ H (Is (.int (n : Int))) := evp_prop h (sp_one fun v H1 hv Q q E => ⟨v, m, n, f, rfl, hv, hm, q⟩)
theorem ev_get {σ : L2.St} {H : Hp} {te : TE} {C : Addr} {fld : Str} {m n : Nat} {f : Nat → Nat → Int} {E : XK} (h : EvP te σ H (Ins C fld m n f)) : EvP (tProp C (spGet C fld) [] E te) σ H (Grid m n f) := evp_prop h (sp_one fun v H1 hv Q q E => ⟨v, m, n, f, rfl, hv, q⟩)
theorem G_is_table (h : Tx K mg tk a) : FnOk P w K mg base CX0 5 a.f_is_table a.d_is_table ["left", "right", "value"] (spOfT a.cT "_counts" (.bl true)) := by
  refine h.D_is_table.F.ok sc_is_table (fun vs H Q E hh => ?_) (fun cdv A outer s H vs Q E hr hh => ?_)
  · obtain ⟨v, m, n, f, rfl, _⟩ := hh
    rfl
  · obtain ⟨v, m, n, f, rfl, hv, hm, q⟩ := hh
    refine ⟨_, (pss_one (ps_ret (pe_and (pe_callB (r := rIsi K) call_isi (by rfl) h.T.n_isinstance PyProof.Rows.boot_isinstance (pa_cons (pv 2) (pa_cons (pe_glob (v := .ref a.cT) rfl h.BTable.gC rfl) pa_nil))) (pe_and (pe_cmpR op_eq (pe_prop (pv 2) h.BTable.cl h.P_Table_left.hp (G_Table_left h) (hr.mono (by omega)) h.P_Table_left.b .nil pass0 rfl) (pv 0) (nomark _)) (pe_one (pe_cmpR op_eq (pe_prop (pv 2) h.BTable.cl h.P_Table_right.hp (G_Table_right h) (hr.mono (by omega)) h.P_Table_right.b .nil pass0 rfl) (pv 1) (nomark _))))))), ?_⟩
    have h0 : EvP (tVar 0) (start N_is_table [.int (m : Int), .int (n : Int), v]) H (Is (.int (m : Int))) := evp_var rfl rfl mono_is
    have h1 : EvP (tVar 1) (start N_is_table [.int (m : Int), .int (n : Int), v]) H (Is (.int (n : Int))) := evp_var rfl rfl mono_is
    have h2 : EvP (tVar 2) (start N_is_table [.int (m : Int), .int (n : Int), v]) H (Ins a.cT "_counts" m n f) := evp_var rfl hv mf_ins.mono
    refine evp_and (a := true) (b := true) (evp_isiO h.BTable h2) (fun _ => evp_and (a := true) (b := true) (evp_is (evp_eq (ev_left h2) h0 rfl) (by rw [decide_eq_true rfl])) fun _ => evp_is (evp_eq (ev_right h2 hm) h1 rfl) (by rw [decide_eq_true rfl])) H (Ex.refl H) _ fun v H2 e2 hv => q v H2 e2 hv
theorem G_check_table (h : Tx K mg tk a) : FnOk P w K mg base CX0 6 a.f_check_table a.d_check_table ["left", "right", "value"] (spOfT a.cT "_counts" .non) := by
  refine h.D_check_table.F.ok sc_check_table (fun vs H Q E hh => ?_) (fun cdv A outer s H vs Q E hr hh => ?_)
  · obtain ⟨v, m, n, f, rfl, _⟩ := hh
    rfl
  · obtain ⟨v, m, n, f, rfl, hv, hm, q⟩ := hh
    refine ⟨_, (pss_one (ps_if (pt_not (pt_val (pe_call (G_is_table h) (hr.mono (by omega)) (by rfl) h.D_is_table.g h.D_is_table.F.kp h.D_is_table.b .nil pass0 (pa_cons (pv 0) (pa_cons (pv 1) (pa_cons (pv 2) pa_nil)))))) (pss_one ps_never) pss_nil)), ?_⟩
    have h0 : EvP (tVar 0) (start N_check_table [.int (m : Int), .int (n : Int), v]) H (Is (.int (m : Int))) := evp_var rfl rfl mono_is
    have h1 : EvP (tVar 1) (start N_check_table [.int (m : Int), .int (n : Int), v]) H (Is (.int (n : Int))) := evp_var rfl rfl mono_is
    have h2 : EvP (tVar 2) (start N_check_table [.int (m : Int), .int (n : Int), v]) H (Ins a.cT "_counts" m n f) := evp_var rfl hv mf_ins.mono
    have hc : EvP _ (start N_check_table [.int (m : Int), .int (n : Int), v]) H (Is (.bl true)) := evp_call (sp := spOfT a.cT "_counts" (.bl true)) (E := fun _ _ _ => False) (eap_three h0 h1 h2 mono_is mono_is) fun vs H1 ⟨x, y, z, e, hx, hy, hz⟩ Q q E => ⟨z, m, n, f, by rw [e, show x = _ from hx, show y = _ from hy], hz, hm, q⟩
    exact s_when (D := { nx := fun _ H' => Q .non H', rt := Q }) (et_not (et_bl hc)) (fun z => nomatch z) (fun _ H1 e1 => q _ H1 e1 rfl)
theorem G_check_question (h : Tx K mg tk a) : FnOk P w K mg base CX0 6 a.f_check_question a.d_check_question ["left", "right", "value"] (spOfT a.cQ "_weights" .non) := by
  refine h.D_check_question.F.ok sc_check_question (fun vs H Q E hh => ?_) (fun cdv A outer s H vs Q E hr hh => ?_)
  · obtain ⟨v, m, n, f, rfl, _⟩ := hh
    rfl
  · obtain ⟨v, m, n, f, rfl, hv, hm, q⟩ := hh
    refine ⟨_, (pss_one (ps_if (PW.pt (pw_or (pt_not (pt_val (pe_callB (r := rIsi K) call_isi (by rfl) h.T.n_isinstance PyProof.Rows.boot_isinstance (pa_cons (pv 2) (pa_cons (pe_glob (v := .ref a.cQ) rfl h.BQuestion.gC rfl) pa_nil))))) (pw_or (pt_cmpR op_ne (pe_prop (pv 2) h.BQuestion.cl h.P_Question_left.hp (G_Question_left h) (hr.mono (by omega)) h.P_Question_left.b .nil pass0 rfl) (pv 0) (nomark _)) (pw_or1 (pt_cmpR op_ne (pe_prop (pv 2) h.BQuestion.cl h.P_Question_right.hp (G_Question_right h) (hr.mono (by omega)) h.P_Question_right.b .nil pass0 rfl) (pv 1) (nomark _)))))) (pss_one ps_never) pss_nil)), ?_⟩
    have h0 : EvP (tVar 0) (start N_check_question [.int (m : Int), .int (n : Int), v]) H (Is (.int (m : Int))) := evp_var rfl rfl mono_is
    have h1 : EvP (tVar 1) (start N_check_question [.int (m : Int), .int (n : Int), v]) H (Is (.int (n : Int))) := evp_var rfl rfl mono_is
    have h2 : EvP (tVar 2) (start N_check_question [.int (m : Int), .int (n : Int), v]) H (Ins a.cQ "_weights" m n f) := evp_var rfl hv mf_ins.mono
    exact s_when (b := false) (D := { nx := fun _ H' => Q .non H', rt := Q }) (et_or (a := false) (b := false) (et_not (et_bl (evp_isiO h.BQuestion h2))) fun _ => et_or (a := false) (b := false) (et_tst (evp_is (evp_ne (ev_left h2) h0 rfl) (by rw [decide_eq_true rfl]; rfl))) fun _ => et_tst (evp_is (evp_ne (ev_right h2 hm) h1 rfl) (by rw [decide_eq_true rfl]; rfl))) (fun z => nomatch z) (fun _ H1 e1 => q _ H1 e1 rfl)
end
end K26
namespace K26
open PySem PySem.Spec PyProof.Rows L2 Evl Ow RZ Ev2 StX
/-- the data of a grid -/
def dat (m n : Nat) (f : Nat → Nat → Int) : PyData := .tuple ((List.range m).map fun i => .tuple ((List.range n).map fun j => .int (f i j)))
theorem dpAll_of {K : PySem.W.Frag} {H : Hp} : ∀ {ys : List V} {ds : List PyData}, ys.length = ds.length → (∀ (i : Nat) y d, ys[i]? = some y → ds[i]? = some d → Dp K H y d) → DpAll K H ys ds
  | [], [], _, _ => .nil
  | y :: ys, d :: ds, hl, h => .cons (h 0 y d rfl rfl) (dpAll_of (by simpa using hl) fun i y' d' h1 h2 => h (i + 1) y' d' h1 h2)
  | [], _ :: _, hl, _ => by simp at hl
  | _ :: _, [], hl, _ => by simp at hl
theorem dp_tup {K : PySem.W.Frag} {H : Hp} {n : Nat} {Pi : Nat → HP} {d : Nat → PyData} {v : V} (h : TupP n Pi v H) (hd : ∀ i x, i < n → Pi i x H → Dp K H x (d i)) : Dp K H v (.tuple ((List.range n).map d)) := by
  obtain ⟨p, ys, rfl, hp, hl, hy⟩ := h
  refine .tup (st_of hp) (dpAll_of (by simp [hl]) fun i y d' h1 h2 => ?_)
  have hi : i < n := by have := (List.getElem?_eq_some_iff.mp h1).1; omega
  rw [List.getElem?_map, List.getElem?_range hi] at h2
  cases h2
  exact hd i y hi (hy i y h1)
theorem dp_grid {K : PySem.W.Frag} {H : Hp} {m n : Nat} {f : Nat → Nat → Int} {v : V} (h : Grid m n f v H) : Dp K H v (dat m n f) :=
  dp_tup h fun i x _ hx => dp_tup hx fun j y _ hy => by rw [show y = .int (f i j) from hy]; exact .int _
theorem lay_all {α : Type} (d : α → PyData) (h : ∀ x, (d x).canLay0 = true) : ∀ xs : List α, PyData.canLayAll0 (xs.map d) = true
  | [] => rfl
  | x :: xs => by simp [PyData.canLayAll0, h x, lay_all d h xs]
theorem dep_all {α : Type} (d : α → PyData) (c : Nat) (h : ∀ x, (d x).depth ≤ c) : ∀ xs : List α, PyData.depthAll (xs.map d) ≤ c
  | [] => by simp [PyData.depthAll]
  | x :: xs => by simp only [List.map_cons, PyData.depthAll]; exact Nat.max_le.mpr ⟨h x, dep_all d c h xs⟩
theorem shaped_dat (m n : Nat) (f : Nat → Nat → Int) : SeqAt.shaped (dat m n f) = true := by
  unfold SeqAt.shaped dat
  have h1 : ∀ i, PyData.canLay0 (.tuple ((List.range n).map fun j => .int (f i j))) = true := fun i => by
    simp only [PyData.canLay0]; exact lay_all _ (fun _ => rfl) _
  have h2 : ∀ i, PyData.depth (.tuple ((List.range n).map fun j => PyData.int (f i j))) ≤ 3 := fun i => by
    simp only [PyData.depth]; have := dep_all (fun j => PyData.int (f i j)) 1 (fun _ => by simp [PyData.depth]) (List.range n); omega
  simp only [PyData.canLay0, Bool.and_eq_true, decide_eq_true_eq]
  refine ⟨lay_all _ h1 _, ?_⟩
  simp only [PyData.depth]
  have := dep_all _ 3 h2 (List.range m)
  omega
theorem evp_make {σ : L2.St} {H : Hp} {ta : TA} {C : Addr} {fld : Str} {ok : (Nat → Nat → Int) → Prop} {m n : Nat} {f : Nat → Nat → Int} {E : XK} (h : EvAP ta σ H (fun vs H1 => ∃ x, vs = [x] ∧ Grid m n f x H1)) (hd : dimOk m n) (hok : ok f) : EvP (tMake C (spInit C fld ok) [] E ta) σ H (Ins C fld m n f) := fun H1 e Q q =>
  h H1 e _ fun vs H2 e2 ⟨v, hv, hg⟩ x dx hx hdx hne => by
    subst hv
    have e3 : Evl.Ex H2 (upd (upd H2 dx (.own x)) x (.ins C dx [])) := (Ex.new hdx).trans (Ex.new (by rw [upd_ne hne.symm]; exact hx))
    refine ⟨x, dx, v, m, n, f, rfl, upd_same, mf_grid.mono _ _ _ e3 hg, hd, hok, fun H4 e4 h4 => ⟨rfl, ?_⟩⟩
    have e5 : Evl.Ex H2 H4 := fun b o hb => e4 b o (by
      have hbx : b ≠ x := fun z => by rw [z, hx] at hb; cases hb
      dsimp only
      rw [if_neg hbx, upd_ne hbx, upd_ne (fun z => by rw [z, hdx] at hb; cases hb)]
      exact hb)
    exact q _ H4 (e2.trans e5) ⟨x, dx, v, rfl, h4, mf_grid.mono _ _ _ e5 hg⟩
def spBin (C : Addr) (g : (Nat → Nat → Int) → (Nat → Nat → Int) → Nat → Nat → Int) : Sp := fun vs H Q _ => ∃ (x y : V) (m n : Nat) (f1 f2 : Nat → Nat → Int), vs = [x, y] ∧ Ins C "_weights" m n f1 x H ∧ Ins C "_weights" m n f2 y H ∧ dimOk m n ∧ ∀ v H2, Evl.Ex H H2 → Ins C "_weights" m n (g f1 f2) v H2 → Q v H2
def spMulI (C : Addr) : Sp := fun vs H Q _ => ∃ (x : V) (c : Int) (m n : Nat) (f1 : Nat → Nat → Int), vs = [x, .int c] ∧ Ins C "_weights" m n f1 x H ∧ dimOk m n ∧ (∀ i j, Bd (f1 i j)) ∧ ∀ v H2, Evl.Ex H H2 → Ins C "_weights" m n (fun i j => f1 i j * c) v H2 → Q v H2
def spNegU (C : Addr) : Sp := fun vs H Q _ => ∃ (x : V) (m n : Nat) (f1 : Nat → Nat → Int), vs = [x] ∧ Ins C "_weights" m n f1 x H ∧ dimOk m n ∧ ∀ v H2, Evl.Ex H H2 → Ins C "_weights" m n (fun i j => f1 i j * -1) v H2 → Q v H2
def spEqQ (C : Addr) : Sp := fun vs H Q _ => ∃ (x y : V) (m n : Nat) (f1 f2 : Nat → Nat → Int), vs = [x, y] ∧ Ins C "_weights" m n f1 x H ∧ Ins C "_weights" m n f2 y H ∧ ∀ v H2, Evl.Ex H H2 → v = .bl (PyData.eqv (dat m n f1) (dat m n f2)) → Q v H2
def spCallQ (C D : Addr) : Sp := fun vs H Q _ => ∃ (x y : V) (m n : Nat) (f1 f2 : Nat → Nat → Int), vs = [x, y] ∧ Ins C "_weights" m n f1 x H ∧ Ins D "_counts" m n f2 y H ∧ dimOk m n ∧ (∀ i j, Bd (f2 i j)) ∧ ∀ v H2, Evl.Ex H H2 → v = .int (flat (fun i j => f1 i j * f2 i j) n m).sum → Q v H2
def spWeight (C : Addr) : Sp := fun vs H Q _ => ∃ (x : V) (i j m n : Nat) (f1 : Nat → Nat → Int), vs = [x, .int (i : Int), .int (j : Int)] ∧ Ins C "_weights" m n f1 x H ∧ (i < m ∧ j < n) ∧ ∀ v H2, Evl.Ex H H2 → v = .int (f1 i j) → Q v H2
section
variable {P : Program} {w : World} {K : PySem.W.Frag} {mg : Str → Option Value} {base : Heap} {tk : Tok} {a : Ad}
theorem G_Question_add (h : Tx K mg tk a) : FnOk P w K mg base CX0 11 a.f_Question_add a.d_Question_add ["self", "other"] (spBin a.cQ fun f g i j => f i j + g i j) := by
  refine h.M_Question_add.F.ok sc_Question_add (fun vs H Q E hh => ?_) (fun cdv A outer s H vs Q E hr hh => ?_)
  · obtain ⟨x, y, m, n, f, g, rfl, _⟩ := hh
    rfl
  · obtain ⟨x, y, m, n, f, g, rfl, hx, hy, hd, q⟩ := hh
    refine ⟨_, (pss_cons (ps_expr (pe_call (G_check_question h) (hr.mono (by omega)) (by rfl) h.D_check_question.g h.D_check_question.F.kp h.D_check_question.b .nil pass0 (pa_cons (pe_prop (pv 0) h.BQuestion.cl h.P_Question_left.hp (G_Question_left h) (hr.mono (by omega)) h.P_Question_left.b .nil pass0 rfl) (pa_cons (pe_prop (pv 0) h.BQuestion.cl h.P_Question_right.hp (G_Question_right h) (hr.mono (by omega)) h.P_Question_right.b .nil pass0 rfl) (pa_cons (pv 1) pa_nil))))) (pss_one (ps_ret (pe_make h.BQuestion.mkc (G_Question_init h) (hr.mono (by omega)) (by rfl) h.BQuestion.gC h.M_Question_init.b .nil pass0 (pa_cons (pe_call (G_grid_sum h) (hr.mono (by omega)) (by rfl) h.D_grid_sum.g h.D_grid_sum.F.kp h.D_grid_sum.b .nil pass0 (pa_cons (pe_fld (pv 0) rfl) (pa_cons (pe_prop (pv 1) h.BQuestion.cl h.P_Question_weights.hp (G_Question_weights h) (hr.mono (by omega)) h.P_Question_weights.b .nil pass0 rfl) pa_nil))) pa_nil))))), ?_⟩
    have h0 : EvP (tVar 0) (start N_Question_add [x, y]) H (Ins a.cQ "_weights" m n f) := evp_var rfl hx mf_ins.mono
    have h1 : EvP (tVar 1) (start N_Question_add [x, y]) H (Ins a.cQ "_weights" m n g) := evp_var rfl hy mf_ins.mono
    refine q_drop (EvP.ev (evp_call (sp := spOfT a.cQ "_weights" .non) (E := fun _ _ _ => False) (S := Is .non) (eap_three (ev_left h0) (ev_right h0 hd.1.1) h1 mono_is mono_is) fun vs H1 ⟨x, y, z, e, hx, hy, hz⟩ Q q E => ⟨z, m, n, g, by rw [e, show x = _ from hx, show y = _ from hy], hz, hd.1.1, q⟩)) fun H1 e1 => ?_
    replace h0 := h0.mono e1
    replace h1 := h1.mono e1
    refine evp_make (m := m) (n := n) (eap_one (evp_call (sp := spGSum) (S := Grid m n fun i j => f i j + (g) i j) (eap_two (evp_fld h.BQuestion h0) (ev_get h1) mf_grid.mono) fun vs H1 ⟨x, y, e, hx, hy⟩ Q q E => ⟨x, y, m, n, f, _, e, hx, hy, ⟨hd.1.2, hd.2.2⟩, q⟩)) hd trivial H1 (Ex.refl _) _ fun v H2 e2 hv => q v H2 (e1.trans e2) hv
theorem G_Question_sub (h : Tx K mg tk a) : FnOk P w K mg base CX0 11 a.f_Question_sub a.d_Question_sub ["self", "other"] (spBin a.cQ fun f g i j => f i j + g i j * -1) := by
  refine h.M_Question_sub.F.ok sc_Question_sub (fun vs H Q E hh => ?_) (fun cdv A outer s H vs Q E hr hh => ?_)
  · obtain ⟨x, y, m, n, f, g, rfl, _⟩ := hh
    rfl
  · obtain ⟨x, y, m, n, f, g, rfl, hx, hy, hd, q⟩ := hh
    refine ⟨_, (pss_cons (ps_expr (pe_call (G_check_question h) (hr.mono (by omega)) (by rfl) h.D_check_question.g h.D_check_question.F.kp h.D_check_question.b .nil pass0 (pa_cons (pe_prop (pv 0) h.BQuestion.cl h.P_Question_left.hp (G_Question_left h) (hr.mono (by omega)) h.P_Question_left.b .nil pass0 rfl) (pa_cons (pe_prop (pv 0) h.BQuestion.cl h.P_Question_right.hp (G_Question_right h) (hr.mono (by omega)) h.P_Question_right.b .nil pass0 rfl) (pa_cons (pv 1) pa_nil))))) (pss_one (ps_ret (pe_make h.BQuestion.mkc (G_Question_init h) (hr.mono (by omega)) (by rfl) h.BQuestion.gC h.M_Question_init.b .nil pass0 (pa_cons (pe_call (G_grid_sum h) (hr.mono (by omega)) (by rfl) h.D_grid_sum.g h.D_grid_sum.F.kp h.D_grid_sum.b .nil pass0 (pa_cons (pe_fld (pv 0) rfl) (pa_cons (pe_call (G_grid_times h) (hr.mono (by omega)) (by rfl) h.D_grid_times.g h.D_grid_times.F.kp h.D_grid_times.b .nil pass0 (pa_cons (pe_prop (pv 1) h.BQuestion.cl h.P_Question_weights.hp (G_Question_weights h) (hr.mono (by omega)) h.P_Question_weights.b .nil pass0 rfl) (pa_cons (pe_un un_neg pe_int) pa_nil))) pa_nil))) pa_nil))))), ?_⟩
    have h0 : EvP (tVar 0) (start N_Question_sub [x, y]) H (Ins a.cQ "_weights" m n f) := evp_var rfl hx mf_ins.mono
    have h1 : EvP (tVar 1) (start N_Question_sub [x, y]) H (Ins a.cQ "_weights" m n g) := evp_var rfl hy mf_ins.mono
    refine q_drop (EvP.ev (evp_call (sp := spOfT a.cQ "_weights" .non) (E := fun _ _ _ => False) (S := Is .non) (eap_three (ev_left h0) (ev_right h0 hd.1.1) h1 mono_is mono_is) fun vs H1 ⟨x, y, z, e, hx, hy, hz⟩ Q q E => ⟨z, m, n, g, by rw [e, show x = _ from hx, show y = _ from hy], hz, hd.1.1, q⟩)) fun H1 e1 => ?_
    replace h0 := h0.mono e1
    replace h1 := h1.mono e1
    refine evp_make (m := m) (n := n) (eap_one (evp_call (sp := spGSum) (S := Grid m n fun i j => f i j + (fun i j => g i j * -1) i j) (eap_two (evp_fld h.BQuestion h0) ((evp_call (sp := spGTimes) (S := Grid m n fun i j => g i j * -1) (eap_two (R := Is (.int (-1))) (ev_get h1) (fun H2 e2 Q q => ⟨1, rfl, q _ H2 (Ex.refl _) rfl⟩) mf_grid.mono) fun vs H1 ⟨x, y, e, hx, hy⟩ Q q E => ⟨x, -1, m, n, g, by rw [e, show y = _ from hy], hx, ⟨hd.1.2, hd.2.2⟩, .inr ⟨by decide, by decide⟩, q⟩)) mf_grid.mono) fun vs H1 ⟨x, y, e, hx, hy⟩ Q q E => ⟨x, y, m, n, f, _, e, hx, hy, ⟨hd.1.2, hd.2.2⟩, q⟩)) hd trivial H1 (Ex.refl _) _ fun v H2 e2 hv => q v H2 (e1.trans e2) hv
theorem G_Question_mul (h : Tx K mg tk a) : FnOk P w K mg base CX0 11 a.f_Question_mul a.d_Question_mul ["self", "other"] (spMulI a.cQ) := by
  refine h.M_Question_mul.F.ok sc_Question_mul (fun vs H Q E hh => ?_) (fun cdv A outer s H vs Q E hr hh => ?_)
  · obtain ⟨x, c, m, n, f, rfl, _⟩ := hh
    rfl
  · obtain ⟨x, c, m, n, f, rfl, hx, hd, hb, q⟩ := hh
    refine ⟨_, (pss_cons (ps_if (pt_not (pt_val (pe_call (G_is_whole h) (hr.mono (by omega)) (by rfl) h.D_is_whole.g h.D_is_whole.F.kp h.D_is_whole.b .nil pass0 (pa_cons (pv 1) pa_nil)))) (pss_one ps_never) pss_nil) (pss_one (ps_ret (pe_make h.BQuestion.mkc (G_Question_init h) (hr.mono (by omega)) (by rfl) h.BQuestion.gC h.M_Question_init.b .nil pass0 (pa_cons (pe_call (G_grid_times h) (hr.mono (by omega)) (by rfl) h.D_grid_times.g h.D_grid_times.F.kp h.D_grid_times.b .nil pass0 (pa_cons (pe_fld (pv 0) rfl) (pa_cons (pv 1) pa_nil))) pa_nil))))), ?_⟩
    have h0 : EvP (tVar 0) (start N_Question_mul [x, .int c]) H (Ins a.cQ "_weights" m n f) := evp_var rfl hx mf_ins.mono
    have h1 : EvP (tVar 1) (start N_Question_mul [x, .int c]) H (Is (.int c)) := evp_var rfl rfl mono_is
    have hc : EvP _ (start N_Question_mul [x, .int c]) H (Is (.bl true)) := evp_call (sp := spWhole) (E := fun _ _ _ => False) (eap_one h1) fun vs H1 ⟨x, e, hx⟩ Q q E => ⟨c, by rw [e, show x = .int c from hx], q⟩
    refine q_when (b := false) (et_not (et_bl hc)) (fun z => nomatch z) fun _ H1 e1 => ?_
    refine evp_make (m := m) (n := n) (eap_one (evp_call (sp := spGTimes) (S := Grid m n fun i j => f i j * c) (eap_two (evp_fld h.BQuestion (h0.mono e1)) (h1.mono e1) mf_grid.mono) fun vs H1 ⟨x, y, e, hx, hy⟩ Q q E => ⟨x, c, m, n, f, by rw [e, show y = _ from hy], hx, ⟨hd.1.2, hd.2.2⟩, .inl hb, q⟩)) hd trivial H1 (Ex.refl _) _ fun v H2 e2 hv => q v H2 (e1.trans e2) hv
theorem G_Question_neg (h : Tx K mg tk a) : FnOk P w K mg base CX0 11 a.f_Question_neg a.d_Question_neg ["self"] (spNegU a.cQ) := by
  refine h.M_Question_neg.F.ok sc_Question_neg (fun vs H Q E hh => ?_) (fun cdv A outer s H vs Q E hr hh => ?_)
  · obtain ⟨x, m, n, f, rfl, _⟩ := hh
    rfl
  · obtain ⟨x, m, n, f, rfl, hx, hd, q⟩ := hh
    refine ⟨_, (pss_one (ps_ret (pe_make h.BQuestion.mkc (G_Question_init h) (hr.mono (by omega)) (by rfl) h.BQuestion.gC h.M_Question_init.b .nil pass0 (pa_cons (pe_call (G_grid_times h) (hr.mono (by omega)) (by rfl) h.D_grid_times.g h.D_grid_times.F.kp h.D_grid_times.b .nil pass0 (pa_cons (pe_fld (pv 0) rfl) (pa_cons (pe_un un_neg pe_int) pa_nil))) pa_nil)))), ?_⟩
    have h0 : EvP (tVar 0) (start N_Question_neg [x]) H (Ins a.cQ "_weights" m n f) := evp_var rfl hx mf_ins.mono
    refine evp_make (m := m) (n := n) (eap_one (evp_call (sp := spGTimes) (S := Grid m n fun i j => f i j * -1) (eap_two (R := Is (.int (-1))) (evp_fld h.BQuestion h0) (fun H2 e2 Q q => ⟨1, rfl, q _ H2 (Ex.refl _) rfl⟩) mf_grid.mono) fun vs H1 ⟨x, y, e, hx, hy⟩ Q q E => ⟨x, -1, m, n, f, by rw [e, show y = _ from hy], hx, ⟨hd.1.2, hd.2.2⟩, .inr ⟨by decide, by decide⟩, q⟩)) hd trivial H (Ex.refl _) _ q
theorem evp_eqD {σ : L2.St} {H : Hp} {ta tb : TE} {m n : Nat} {f g : Nat → Nat → Int} (ha : EvP ta σ H (Grid m n f)) (hb : EvP tb σ H (Grid m n g)) : EvP (tOp (rEqD K) ta tb) σ H (Is (.bl (PyData.eqv (dat m n f) (dat m n g)))) := evp_op ha hb mf_grid.mono fun x y H1 _ hx hy Q q => ⟨_, _, dp_grid hx, dp_grid hy, shaped_dat _ _ _, shaped_dat _ _ _, q _ H1 (Ex.refl _) rfl⟩
theorem evp_neD {σ : L2.St} {H : Hp} {ta tb : TE} {m n : Nat} {f g : Nat → Nat → Int} (ha : EvP ta σ H (Grid m n f)) (hb : EvP tb σ H (Grid m n g)) : EvP (tOp (rNeD K) ta tb) σ H (Is (.bl (!PyData.eqv (dat m n f) (dat m n g)))) := evp_op ha hb mf_grid.mono fun x y H1 _ hx hy Q q => ⟨_, _, dp_grid hx, dp_grid hy, shaped_dat _ _ _, shaped_dat _ _ _, q _ H1 (Ex.refl _) rfl⟩
theorem G_Question_eq (h : Tx K mg tk a) : FnOk P w K mg base CX0 11 a.f_Question_eq a.d_Question_eq ["self", "other"] (spEqQ a.cQ) := by
  refine h.M_Question_eq.F.ok sc_Question_eq (fun vs H Q E hh => ?_) (fun cdv A outer s H vs Q E hr hh => ?_)
  · obtain ⟨x, y, m, n, f, g, rfl, _⟩ := hh
    rfl
  · obtain ⟨x, y, m, n, f, g, rfl, hx, hy, q⟩ := hh
    refine ⟨_, (pss_one (ps_ret (pe_and (pe_callB (r := rIsi K) call_isi (by rfl) h.T.n_isinstance PyProof.Rows.boot_isinstance (pa_cons (pv 1) (pa_cons (pe_glob (v := .ref a.cQ) rfl h.BQuestion.gC rfl) pa_nil))) (pe_one (pe_cmpR (r := rEqD K) (op_eqD hr.units) (pe_fld (pv 0) rfl) (pe_fld (pv 1) rfl) (nomark _)))))), ?_⟩
    have h0 : EvP (tVar 0) (start N_Question_eq [x, y]) H (Ins a.cQ "_weights" m n f) := evp_var rfl hx mf_ins.mono
    have h1 : EvP (tVar 1) (start N_Question_eq [x, y]) H (Ins a.cQ "_weights" m n g) := evp_var rfl hy mf_ins.mono
    exact evp_and (a := true) (evp_isiO h.BQuestion h1) (fun _ => evp_eqD (evp_fld h.BQuestion h0) (evp_fld h.BQuestion h1)) H (Ex.refl _) _ q
theorem G_Question_call (h : Tx K mg tk a) : FnOk P w K mg base CX0 11 a.f_Question_call a.d_Question_call ["self", "table"] (spCallQ a.cQ a.cT) := by
  refine h.M_Question_call.F.ok sc_Question_call (fun vs H Q E hh => ?_) (fun cdv A outer s H vs Q E hr hh => ?_)
  · obtain ⟨x, y, m, n, f, g, rfl, _⟩ := hh
    rfl
  · obtain ⟨x, y, m, n, f, g, rfl, hx, hy, hd, hb, q⟩ := hh
    refine ⟨_, (pss_cons (ps_expr (pe_call (G_check_table h) (hr.mono (by omega)) (by rfl) h.D_check_table.g h.D_check_table.F.kp h.D_check_table.b .nil pass0 (pa_cons (pe_prop (pv 0) h.BQuestion.cl h.P_Question_left.hp (G_Question_left h) (hr.mono (by omega)) h.P_Question_left.b .nil pass0 rfl) (pa_cons (pe_prop (pv 0) h.BQuestion.cl h.P_Question_right.hp (G_Question_right h) (hr.mono (by omega)) h.P_Question_right.b .nil pass0 rfl) (pa_cons (pv 1) pa_nil))))) (pss_one (ps_ret (pe_callB (r := rSum K) (cr_sum rfl) (by rfl) h.T.n_sum PyProof.Rows.boot_sum (pa_cons (pe_call (G_grid_product h) (hr.mono (by omega)) (by rfl) h.D_grid_product.g h.D_grid_product.F.kp h.D_grid_product.b .nil pass0 (pa_cons (pe_fld (pv 0) rfl) (pa_cons (pe_prop (pv 1) h.BTable.cl h.P_Table_counts.hp (G_Table_counts h) (hr.mono (by omega)) h.P_Table_counts.b .nil pass0 rfl) pa_nil))) pa_nil))))), ?_⟩
    have h0 : EvP (tVar 0) (start N_Question_call [x, y]) H (Ins a.cQ "_weights" m n f) := evp_var rfl hx mf_ins.mono
    have h1 : EvP (tVar 1) (start N_Question_call [x, y]) H (Ins a.cT "_counts" m n g) := evp_var rfl hy mf_ins.mono
    refine q_drop (EvP.ev (evp_call (sp := spOfT a.cT "_counts" .non) (E := fun _ _ _ => False) (S := Is .non) (eap_three (ev_left h0) (ev_right h0 hd.1.1) h1 mono_is mono_is) fun vs H1 ⟨x, y, z, e, hx, hy, hz⟩ Q q E => ⟨z, m, n, g, by rw [e, show x = _ from hx, show y = _ from hy], hz, hd.1.1, q⟩)) fun H1 e1 => ?_
    replace h0 := h0.mono e1
    replace h1 := h1.mono e1
    refine evp_cb (S := Is (.int (flat (fun i j => f i j * g i j) n m).sum)) (eap_one (evp_call (sp := spGProd) (S := fun v H2 => ∃ p, v = .ref p ∧ H2 p = some (.lst ((flat (fun i j => f i j * g i j) n m).map V.int))) (eap_two (evp_fld h.BQuestion h0) (ev_get h1) mf_grid.mono) fun vs H1 ⟨x, y, e, hx, hy⟩ Q q E => ⟨x, y, m, n, f, g, e, hx, hy, ⟨hd.1.2, hd.2.2⟩, hb, q⟩))
      (fun vs H2 ⟨x, e, p, hx, hp⟩ Q q => ⟨p, _, by rw [e, hx], sq_of hp, q _ H2 (Ex.refl _) rfl⟩) H1 (Ex.refl _) _ fun v H2 e2 hv => q v H2 (e1.trans e2) hv
theorem G_Question_weight (h : Tx K mg tk a) : FnOk P w K mg base CX0 11 a.f_Question_weight a.d_Question_weight ["self", "left", "right"] (spWeight a.cQ) := by
  refine h.M_Question_weight.F.ok sc_Question_weight (fun vs H Q E hh => ?_) (fun cdv A outer s H vs Q E hr hh => ?_)
  · obtain ⟨x, i, j, m, n, f, rfl, _⟩ := hh
    rfl
  · obtain ⟨x, i, j, m, n, f, rfl, hx, ⟨hi, hj⟩, q⟩ := hh
    refine ⟨_, (pss_cons (ps_expr (pe_call (G_check_below h) (hr.mono (by omega)) (by rfl) h.D_check_below.g h.D_check_below.F.kp h.D_check_below.b .nil pass0 (pa_cons (pe_prop (pv 0) h.BQuestion.cl h.P_Question_left.hp (G_Question_left h) (hr.mono (by omega)) h.P_Question_left.b .nil pass0 rfl) (pa_cons (pv 1) pa_nil)))) (pss_cons (ps_expr (pe_call (G_check_below h) (hr.mono (by omega)) (by rfl) h.D_check_below.g h.D_check_below.F.kp h.D_check_below.b .nil pass0 (pa_cons (pe_prop (pv 0) h.BQuestion.cl h.P_Question_right.hp (G_Question_right h) (hr.mono (by omega)) h.P_Question_right.b .nil pass0 rfl) (pa_cons (pv 2) pa_nil)))) (pss_one (ps_ret (pe_ix (r := rIxT K) ix_tup (pe_ix (r := rIxT K) ix_tup (pe_fld (pv 0) rfl) (pv 1) (fun _ _ => rfl)) (pv 2) (fun _ _ => rfl)))))), ?_⟩
    have h0 : EvP (tVar 0) (start N_Question_weight [x, .int (i : Int), .int (j : Int)]) H (Ins a.cQ "_weights" m n f) := evp_var rfl hx mf_ins.mono
    have h1 : EvP (tVar 1) (start N_Question_weight [x, .int (i : Int), .int (j : Int)]) H (Is (.int (i : Int))) := evp_var rfl rfl mono_is
    have h2 : EvP (tVar 2) (start N_Question_weight [x, .int (i : Int), .int (j : Int)]) H (Is (.int (j : Int))) := evp_var rfl rfl mono_is
    refine q_drop (EvP.ev (evp_call (sp := spCheckBelow) (E := fun _ _ _ => False) (S := Is .non) (eap_two (ev_left h0) h1 mono_is) fun vs H1 ⟨x, y, e, hx, hy⟩ Q q E => ⟨m, i, by rw [e, show x = _ from hx, show y = _ from hy], by omega, q⟩)) fun H1 e1 => ?_
    refine q_drop (EvP.ev (evp_call (sp := spCheckBelow) (E := fun _ _ _ => False) (S := Is .non) (eap_two (ev_right (h0.mono e1) (by omega)) (h2.mono e1) mono_is) fun vs H1 ⟨x, y, e, hx, hy⟩ Q q E => ⟨n, j, by rw [e, show x = _ from hx, show y = _ from hy], by omega, q⟩)) fun H2 e2 => ?_
    have e12 := e1.trans e2
    exact evp_ixT (K := K) (i := j) (evp_ixT (K := K) (i := i) (evp_fld h.BQuestion (h0.mono e12)) (h1.mono e12) hi fun _ => mf_row) (h2.mono e12) hj (fun _ => mf_is) H2 (Ex.refl _) _ fun v H3 e3 hv => q v H3 (e12.trans e3) hv
end
end K26
namespace K26
open PySem PySem.Spec PyProof.Rows L2 Evl Ow RZ Ev2 StX
abbrev s_law : Stmt := topS 34
abbrev N_law : List Str := ["_law_script", "_law_k", "_law_cell", "_law_state", "_law_turn", "_law_many", "_law_table", "_law_left", "_law_right", "_law_one", "_law_two", "_law_first", "_law_second"]
theorem sc_law : FnScope N_law ["_law_script"] (defScope s_law) := ⟨rfl, rfl, rfl, by decide +kernel, rfl, by decide +kernel, by decide +kernel⟩
abbrev gd_add : (Nat → Nat → Int) → (Nat → Nat → Int) → Nat → Nat → Int := fun f g i j => f i j + g i j
abbrev gd_sub : (Nat → Nat → Int) → (Nat → Nat → Int) → Nat → Nat → Int := fun f g i j => f i j + g i j * -1
/-! ### sums -/
theorem sum_map_add (f g : Nat → Int) : ∀ l : List Nat, (l.map fun j => f j + g j).sum = (l.map f).sum + (l.map g).sum
  | [] => rfl
  | x :: l => by simp only [List.map_cons, List.sum_cons, sum_map_add f g l]; omega
theorem sum_map_mul (f : Nat → Int) (c : Int) : ∀ l : List Nat, (l.map fun j => f j * c).sum = (l.map f).sum * c
  | [] => by simp
  | x :: l => by simp only [List.map_cons, List.sum_cons, sum_map_mul f c l, Int.add_mul]
theorem flat_add (F G : Nat → Nat → Int) (n : Nat) : ∀ m, (flat (fun i j => F i j + G i j) n m).sum = (flat F n m).sum + (flat G n m).sum
  | 0 => rfl
  | m + 1 => by simp only [flat, List.sum_append, sum_map_add, flat_add F G n m]; omega
theorem flat_mul (F : Nat → Nat → Int) (c : Int) (n : Nat) : ∀ m, (flat (fun i j => F i j * c) n m).sum = (flat F n m).sum * c
  | 0 => by simp [flat]
  | m + 1 => by simp only [flat, List.sum_append, sum_map_mul, flat_mul F c n m, Int.add_mul]
theorem map_bd (f : Nat → Int) (h : ∀ j, -25 ≤ f j ∧ f j ≤ 25) : ∀ l : List Nat, -25 * (l.length : Int) ≤ (l.map f).sum ∧ (l.map f).sum ≤ 25 * (l.length : Int)
  | [] => by simp
  | x :: l => by have := map_bd f h l; have := h x; simp only [List.map_cons, List.sum_cons, List.length_cons]; omega
theorem flat_bd (F : Nat → Nat → Int) (h : ∀ i j, -25 ≤ F i j ∧ F i j ≤ 25) (n : Nat) (hn : n ≤ 8) : ∀ m : Nat, -200 * (m : Int) ≤ (flat F n m).sum ∧ (flat F n m).sum ≤ 200 * (m : Int)
  | 0 => by simp [flat]
  | m + 1 => by have := flat_bd F h n hn m; have := map_bd (F m) (h m) (List.range n); simp only [flat, List.sum_append, List.length_range] at *; omega
theorem prod_add (f g t : Nat → Nat → Int) (n m : Nat) : (flat (fun i j => (f i j + g i j) * t i j) n m).sum = (flat (fun i j => f i j * t i j) n m).sum + (flat (fun i j => g i j * t i j) n m).sum := by
  rw [← flat_add]; congr 2; funext i j; exact Int.add_mul ..
theorem prod_mul (f t : Nat → Nat → Int) (c : Int) (n m : Nat) : (flat (fun i j => f i j * c * t i j) n m).sum = (flat (fun i j => f i j * t i j) n m).sum * c := by
  rw [← flat_mul]; congr 2; funext i j; exact Int.mul_right_comm ..
theorem eqv_of {m n : Nat} {f g : Nat → Nat → Int} (h : ∀ i j, f i j = g i j) : PyData.eqv (dat m n f) (dat m n g) = true := by
  have e : f = g := funext fun i => funext fun j => h i j
  rw [e]
  exact SeqAt.eqv_refl _ (SeqAt.canLay_of_shaped (shaped_dat m n g))
section
variable {K : PySem.W.Frag} {σ : L2.St} {H : Hp} {ta tb te tf : TE} {P1 P2 : HP} {C Dc : Addr} {m n : Nat} {f g t : Nat → Nat → Int} {E : XK} {s p : Addr} {xs : List Int}
theorem e_bin {gd : (Nat → Nat → Int) → (Nat → Nat → Int) → Nat → Nat → Int} (hd : dimOk m n) (ha : EvP ta σ H (Ins C "_weights" m n f)) (hb : EvP tb σ H (Ins C "_weights" m n g)) : EvP (tOp (rOwnB C (spBin C gd) E) ta tb) σ H (Ins C "_weights" m n (gd f g)) := evp_op ha hb mf_ins.mono fun x y H1 _ ⟨a, dx, v, hx, hp, hv⟩ ⟨b, dy, u, hy, hq, hu⟩ Q q =>
  ⟨a, b, dx, dy, _, _, hx, hy, hp, hq, x, y, m, n, f, g, rfl, ⟨a, dx, v, hx, hp, hv⟩, ⟨b, dy, u, hy, hq, hu⟩, hd, q⟩
theorem e_mul {c : Int} (hd : dimOk m n) (hb : ∀ i j, Bd (f i j)) (ha : EvP ta σ H (Ins C "_weights" m n f)) (hc : EvP tb σ H (Is (.int c))) : EvP (tOp (rOwnI C (spMulI C) E) ta tb) σ H (Ins C "_weights" m n (fun i j => f i j * c)) := evp_op ha hc mf_ins.mono fun x y H1 _ ⟨a, dx, v, hx, hp, hv⟩ hy Q q =>
  ⟨a, dx, _, c, hx, hy, hp, x, c, m, n, f, by rw [show y = .int c from hy], ⟨a, dx, v, hx, hp, hv⟩, hd, hb, q⟩
theorem e_neg (hd : dimOk m n) (ha : EvP ta σ H (Ins C "_weights" m n f)) : EvP (tUn (rOwnU C (spNegU C) E) ta) σ H (Ins C "_weights" m n (fun i j => f i j * -1)) := evp_un ha fun x H1 _ ⟨a, dx, v, hx, hp, hv⟩ Q q => ⟨a, dx, _, hx, hp, x, m, n, f, rfl, ⟨a, dx, v, hx, hp, hv⟩, hd, q⟩
theorem e_eq (ha : EvP ta σ H (Ins C "_weights" m n f)) (hb : EvP tb σ H (Ins C "_weights" m n g)) : EvP (tOp (rOwnB C (spEqQ C) E) ta tb) σ H (Is (.bl (PyData.eqv (dat m n f) (dat m n g)))) := evp_op ha hb mf_ins.mono fun x y H1 _ ⟨a, dx, v, hx, hp, hv⟩ ⟨b, dy, u, hy, hq, hu⟩ Q q =>
  ⟨a, b, dx, dy, _, _, hx, hy, hp, hq, x, y, m, n, f, g, rfl, ⟨a, dx, v, hx, hp, hv⟩, ⟨b, dy, u, hy, hq, hu⟩, q⟩
theorem e_ne (ha : EvP ta σ H (Ins C "_weights" m n f)) (hb : EvP tb σ H (Ins C "_weights" m n g)) : EvP (tOp (rOwnNe C (spEqQ C) E) ta tb) σ H (Is (.bl (!PyData.eqv (dat m n f) (dat m n g)))) := evp_op ha hb mf_ins.mono fun x y H1 _ ⟨a, dx, v, hx, hp, hv⟩ ⟨b, dy, u, hy, hq, hu⟩ Q q =>
  ⟨a, b, dx, dy, _, _, hx, hy, hp, hq, x, y, m, n, f, g, rfl, ⟨a, dx, v, hx, hp, hv⟩, ⟨b, dy, u, hy, hq, hu⟩, fun v H2 e2 hv => ⟨_, hv, q _ H2 e2 rfl⟩⟩
theorem e_ne0 (ha : EvP ta σ H (Ins C "_weights" m n f)) (hb : EvP tb σ H (Ins C "_weights" m n g)) (h : ∀ i j, f i j = g i j) : EvT (tTest (tOp (rOwnNe C (spEqQ C) E) ta tb)) σ H false := et_tst (evp_is (e_ne ha hb) (by rw [eqv_of h]; rfl))
theorem e_call {X : Cx} (hd : dimOk m n) (hb : ∀ i j, Bd (t i j)) (ha : EvP tf σ H (Ins C "_weights" m n f)) (ht : EvP te σ H (Ins Dc "_counts" m n t)) : EvP (tCallO X C (fun vs H Q E => spCallQ C Dc (vs ++ []) H Q E) E tf (tCons te tNil)) σ H (Is (.int (flat (fun i j => f i j * t i j) n m).sum)) := fun H1 e Q q =>
  ha H1 e _ fun x H2 e2 ⟨a, dx, v, hx, hp, hv⟩ => ⟨a, hx, ht H2 (e.trans e2) _ fun y H3 e3 hy => ⟨.inr ⟨dx, _, e3 _ _ hp⟩, x, y, m, n, f, t, by rw [hx]; rfl, mf_ins.mono _ _ _ e3 ⟨a, dx, v, hx, hp, hv⟩, hy, hd, hb, fun w H4 e4 hw => q w H4 ((e2.trans e3).trans e4) hw⟩⟩
theorem e_int_ne {i j : Int} (ha : EvP ta σ H (Is (.int i))) (hb : EvP tb σ H (Is (.int j))) (h : i = j) : EvT (tTest (tOp rNe ta tb)) σ H false := et_tst (evp_is (evp_ne ha hb rfl) (by rw [h, decide_eq_true rfl]; rfl))
theorem e_grid_ne (ha : EvP ta σ H (Grid m n f)) (hb : EvP tb σ H (Grid m n f)) : EvT (tTest (tOp (rNeD K) ta tb)) σ H false := et_tst (evp_is (evp_neD ha hb) (by rw [eqv_of fun _ _ => rfl]; rfl))
theorem look0 {v : V} : List.lookup ("weight" : Str) [(("_weights" : Str), v)] = none := by
  simp only [List.lookup, show (("weight" : Str) == ("_weights" : Str)) = false from by decide]
theorem e_weight {i j : Nat} (ha : EvP tf σ H (Ins C "_weights" m n f)) (h1 : EvP ta σ H (Is (.int (i : Int)))) (h2 : EvP tb σ H (Is (.int (j : Int)))) (hi : i < m) (hj : j < n) : EvP (tMeth C "weight" (spWeight C) [] E tf (tCons ta (tCons tb tNil))) σ H (Is (.int (f i j))) := fun H1 e Q q =>
  ha H1 e _ fun x H2 e2 ⟨a, dx, v, hx, hp, hv⟩ => ⟨a, dx, _, hx, hp, look0, eap_two h1 h2 mono_is H2 (e.trans e2) _ fun vs H3 e3 ⟨y, z, hvs, hy, hz⟩ => ⟨x, i, j, m, n, f, by rw [hvs, show y = _ from hy, show z = _ from hz]; rfl, mf_ins.mono _ _ _ e3 ⟨a, dx, v, hx, hp, hv⟩, ⟨hi, hj⟩, fun w H4 e4 hw => q w H4 ((e2.trans e3).trans e4) hw⟩⟩
theorem evp_last {n : Nat} {Pi : Nat → HP} (ha : EvP ta σ H (TupP n Pi)) (hn : 1 ≤ n) (mi : ∀ i, MonoF (Pi i)) : EvP (tOp (rIxT K) ta (tUn (rU fun i => .int (-i)) (tC (.int 1)))) σ H (Pi (n - 1)) := fun H1 e Q q =>
  ha H1 e _ fun v H2 e2 h => ⟨1, rfl, by
    obtain ⟨p, ys, z, rfl, hp, hl, hz, hpz⟩ := tup_get h (show n - 1 < n by omega)
    refine ⟨p, ys, -1, z, rfl, rfl, st_of hp, ?_, q z H2 e2 hpz⟩
    unfold atI ixN
    rw [if_neg (by decide), if_pos (by omega)]
    simp only [Option.bind_some]
    rw [show ((-1 : Int) + (ys.length : Int)).toNat = n - 1 by omega]
    exact hz⟩
/-- two readings that draw -/
theorem pairD {i j : Nat} {D : Ends} (h1 : EvD s p xs ta σ H P1) (h2 : EvD s p xs tb σ H P2) (m1 : MonoF P1) (d : Dr s p xs H) (k : ∀ v w H', Gs s H H' → Dr s p xs H' → P1 v H' → P2 w H' → D.nx ((σ.set i (some v)).set j (some w)) H') : tPar i j (tCons ta (tCons tb tNil)) D σ H :=
  h1 H (Gs.refl _ _) d _ fun v H1 g1 d1 p1 => h2 H1 g1 d1 _ fun w H2 g2 d2 p2 => ⟨v, w, rfl, k v w H2 (g1.trans g2) d2 (m1 _ _ _ (Gs.fx g2 d1) p1) p2⟩
theorem drawD {i : Nat} {M : Int} (hs : σ[i]? = some (some (.ref s))) (ha : ∀ H1, EvP ta σ H1 (Is (.int M))) (hm : 1 ≤ M) : EvD s p xs (tCall spDraw [] E (tCons (tVar i) (tCons ta tNil))) σ H (BI fun r => 0 ≤ r ∧ r < M) := fun H1 e d Q q =>
  eap_two (P := Is (.ref s)) (evp_var hs rfl mono_is) (ha H1) mono_is H1 (Ex.refl _) _ fun vs H2 e2 ⟨x, y, hv, hx, hy⟩ => ⟨s, p, xs, M, by rw [hv, show x = .ref s from hx, show y = .int M from hy]; rfl, d.ex e2, hm, fun v H3 g3 d3 h3 => q v H3 ((Gs.of e2).trans g3) d3 h3⟩
theorem make_go {fld : Str} {ok : (Nat → Nat → Int) → Prop} {v : V} (hg : Grid m n f v H) (hd : dimOk m n) (hok : ok f) (Q : VK) (q : ∀ w H3, Evl.Ex H H3 → Ins C fld m n f w H3 → Q w H3) : ∀ x dx, H x = none → H dx = none → dx ≠ x → spInit C fld ok (.ref x :: ([v] ++ [])) (upd (upd H dx (.own x)) x (.ins C dx [])) (fun v H2 => v = .non ∧ Q (.ref x) H2) E :=
  evp_make (ta := fun _ H Q => Q [v] H) (σ := []) (H := H) (fun H1 e Q q => q [v] H1 (Ex.refl _) ⟨v, rfl, mf_grid.mono _ _ _ e hg⟩) hd hok H (Ex.refl _) Q q
end
theorem for_enum {K : PySem.W.Frag} {a : Addr} {xs : List V} {g : TG} {tb : TS} {D : Ends} {σ : L2.St} {H : Hp} (Pv : Nat → L2.St → Hp → Prop) (h0 : Pv 0 σ H) (hl : ∀ i σ H, Pv i σ H → SqL K H a xs)
    (hs : ∀ (i : Nat) (x : V) (T : Addr) (σ : L2.St) (H : Hp), xs[i]? = some x → Pv i σ H → H T = none → g (.ref T) σ (upd H T (.tup [.int (i : Nat), x])) fun σ2 H2 => tb { D with nx := Pv (i + 1), ct := Pv (i + 1), bk := D.nx } σ2 H2) (hd : ∀ σ H, Pv xs.length σ H → D.nx σ H) :
    ∃ W : Nat → Nat → L2.St → Hp → Prop, (∃ m, W 0 m σ H) ∧ ∀ i m σ H, W i m σ H → ((Ite K a).stop i H ∧ D.nx σ H) ∨ ((Ite K a).go i H ∧ ∃ N : L2.St → Hp → Prop, (∀ σ' H', N σ' H' → ∃ m', m' < m ∧ W (i + 1) m' σ' H') ∧ ∀ v H', (Ite K a).yld i H v H' → g v σ H' fun σ2 H2 => tb { D with nx := N, ct := N, bk := D.nx } σ2 H2) := by
  refine ⟨fun i m σ H => m = xs.length - i ∧ i ≤ xs.length ∧ Pv i σ H, ⟨xs.length, rfl, Nat.zero_le _, h0⟩, ?_⟩
  rintro i m σ H ⟨rfl, hi, pv⟩
  have ql := hl i σ H pv
  by_cases hlt : i < xs.length
  · refine .inr ⟨⟨xs, xs[i], ql, List.getElem?_eq_getElem hlt⟩, Pv (i + 1), fun σ' H' p' => ⟨xs.length - (i + 1), by omega, rfl, hlt, p'⟩, fun v H' y => ?_⟩
    obtain ⟨T, x, rfl, hT, rfl, f1⟩ := y
    exact hs i x T σ H (f1 xs ql) pv hT
  · have e : i = xs.length := by omega
    subst e
    exact .inl ⟨⟨xs, ql, Nat.le_refl _⟩, hd σ H pv⟩
end K26
set_option maxHeartbeats 8100000
namespace K26
open PySem PySem.Spec PyProof.Rows L2 Evl Ow RZ Ev2 StX
def spLaw (K : PySem.W.Frag) : Sp := fun vs H Q _ => ∃ (a0 : Addr) (ns : List Int), vs = [.ref a0] ∧ SqL K H a0 (ns.map V.int) ∧ ns.length ≤ 63 ∧ ∀ H', Q (.bl true) H'
theorem dpAll_ints {K : PySem.W.Frag} {H : Hp} : ∀ ns : List Int, DpAll K H (ns.map V.int) (ns.map PyData.int)
  | [] => .nil
  | n :: ns => .cons (.int n) (dpAll_ints ns)
theorem shaped_ints (ns : List Int) : SeqAt.shaped (.list (ns.map PyData.int)) = true := by
  unfold SeqAt.shaped
  simp only [PyData.canLay0, Bool.and_eq_true, decide_eq_true_eq]
  refine ⟨lay_all _ (fun _ => rfl) _, ?_⟩
  simp only [PyData.depth]
  have := dep_all PyData.int 1 (fun _ => by simp [PyData.depth]) ns
  omega
theorem prod_sub (f g t : Nat → Nat → Int) (n m : Nat) : (flat (fun i j => gd_sub f g i j * t i j) n m).sum = (flat (fun i j => f i j * t i j) n m).sum - (flat (fun i j => g i j * t i j) n m).sum := by
  have h1 := prod_add f (fun i j => g i j * -1) t n m
  have h2 := prod_mul g t (-1) n m
  show (flat (fun i j => (f i j + g i j * -1) * t i j) n m).sum = _
  rw [h1, h2]; omega
theorem prod_bd {x y : Int} (hx : -3 ≤ x ∧ x ≤ 5) (hy : 0 ≤ y ∧ y ≤ 5) : -25 ≤ x * y ∧ x * y ≤ 25 := by
  have hy' : y = 0 ∨ y = 1 ∨ y = 2 ∨ y = 3 ∨ y = 4 ∨ y = 5 := by omega
  rcases hy' with e | e | e | e | e | e <;> subst e <;> omega
theorem make_ex {H : Hp} {x dx C : Addr} (hx : H x = none) (hdx : H dx = none) (hne : dx ≠ x) : Evl.Ex H (upd (upd H dx (.own x)) x (.ins C dx [])) := (Ex.new hdx).trans (Ex.new (by rw [upd_ne hne.symm]; exact hx))
theorem make_post {H H4 : Hp} {x dx C : Addr} {fld : Str} {v : V} {m n : Nat} {f : Nat → Nat → Int} (hx : H x = none) (hdx : H dx = none) (hg : Grid m n f v H) (e4 : Evl.Ex (fun b => if b = x then none else (upd (upd H dx (.own x)) x (.ins C dx [])) b) H4) (h4 : H4 x = some (.ins C dx [(fld, v)])) : Evl.Ex H H4 ∧ Ins C fld m n f (.ref x) H4 := by
  have e5 : Evl.Ex H H4 := fun b o hb => e4 b o (by
    have hbx : b ≠ x := fun z => by rw [z, hx] at hb; cases hb
    dsimp only
    rw [if_neg hbx, upd_ne hbx, upd_ne (fun z => by rw [z, hdx] at hb; cases hb)]
    exact hb)
  exact ⟨e5, x, dx, v, rfl, h4, mf_grid.mono _ _ _ e5 hg⟩
def Sz : HP := fun v _ => ∃ m : Nat, v = .int (m : Int) ∧ 1 ≤ m ∧ m ≤ 4
def Wt (m n : Nat) : HP := fun v H => ∃ f, Grid m n f v H ∧ ∀ i j, -3 ≤ f i j ∧ f i j ≤ 5
theorem mf_wt {m n : Nat} : MonoF (Wt m n) := fun v H H' e ⟨f, h, b⟩ => ⟨f, mf_grid _ _ _ e h, b⟩
section
variable {K : PySem.W.Frag} {σ : L2.St} {H : Hp} {s p : Addr} {xs : List Int} {E : XK} {i i1 i2 m n : Nat} {te : TE}
theorem e_negI {x : Int} (h : EvP te σ H (Is (.int x))) : EvP (tUn (rU fun i => .int (-i)) te) σ H (Is (.int (-x))) := evp_of (ev_un h.ev ru_neg)
theorem sizeD (hs : σ[i]? = some (some (.ref s))) : EvD s p xs (tOp (rI0 fun i j => .int (i + j)) (tC (.int 1)) (tCall spDraw [] E (tCons (tVar i) (tCons (tC (.int 4)) tNil)))) σ H Sz := fun H1 e d Q q =>
  drawD (H := H1) hs (fun _ => evp_c) (by decide) H1 (Gs.refl _ _) d _ fun v H2 g2 d2 ⟨r, hv, hr⟩ => ⟨1, r, rfl, hv, q _ H2 g2 d2 ⟨(1 + r).toNat, by rw [show (((1 + r).toNat : Nat) : Int) = 1 + r by omega], by omega, by omega⟩⟩
theorem weightsD (hs : σ[i]? = some (some (.ref s))) (h1 : σ[i1]? = some (some (.int (m : Int)))) (h2 : σ[i2]? = some (some (.int (n : Int)))) (hd : m ≤ 8 ∧ n ≤ 8) : EvD s p xs (tCall spGW [] E (tCons (tVar i) (tCons (tVar i1) (tCons (tVar i2) tNil)))) σ H (Wt m n) := fun H1 e d Q q =>
  ⟨_, hs, _, h1, _, h2, s, p, xs, m, n, rfl, d, hd, fun v H2 g2 d2 hv => q v H2 g2 d2 hv⟩
theorem countsD (hs : σ[i]? = some (some (.ref s))) (h1 : σ[i1]? = some (some (.int (m : Int)))) (h2 : σ[i2]? = some (some (.int (n : Int)))) (hd : m ≤ 8 ∧ n ≤ 8) : EvD s p xs (tCall spGC [] E (tCons (tVar i) (tCons (tVar i1) (tCons (tVar i2) (tCons (tC (.int 5)) tNil))))) σ H (fun v H => ∃ f, Grid m n f v H ∧ ∀ i j, 0 ≤ f i j ∧ f i j ≤ 5) := fun H1 e d Q q =>
  ⟨_, hs, _, h1, _, h2, s, p, xs, m, n, 5, rfl, d, hd, by decide, fun v H2 g2 d2 hv => q v H2 g2 d2 hv⟩
theorem manyD (hs : σ[i]? = some (some (.ref s))) : EvD s p xs (tOp (rIxL K) (tLst (tCons (tOp (rI0 fun i j => .int (i - j)) (tCall spDraw [] E (tCons (tVar i) (tCons (tC (.int 9)) tNil))) (tC (.int 4))) (tCons (tOp (rI CPow fun i j => .int (i ^ j.toNat)) (tC (.int 10)) (tC (.int 30))) tNil))) (tCall spDraw [] E (tCons (tVar i) (tCons (tC (.int 2)) tNil)))) σ H (BI fun _ => True) := fun H1 e d Q q =>
  drawD (H := H1) hs (fun _ => evp_c) (by decide) H1 (Gs.refl _ _) d _ fun v H2 g2 d2 ⟨r, hv, hr⟩ => ⟨r, 4, hv, rfl, 10, 30, rfl, rfl, ⟨by decide, by decide, by decide⟩, by show 2 ≤ sizeLine; decide, fun b hb => by
    have d3 := d2.ex (Ex.new (o := .lst [.int (r - 4), .int (10 ^ (30 : Int).toNat)]) hb)
    have hbs : b ≠ s := fun z => by obtain ⟨k, hk⟩ := d2.at_; rw [z, hk] at hb; cases hb
    refine drawD (M := 2) (H := upd H2 b (.lst [.int (r - 4), .int (10 ^ (30 : Int).toNat)])) hs (fun _ => evp_c) (by decide) _ (Gs.refl _ _) d3 _ fun v2 H3 g3 d4 ⟨r2, hv2, hr2⟩ => ?_
    have hr2' : r2 = 0 ∨ r2 = 1 := by omega
    rcases hr2' with rfl | rfl
    · exact ⟨b, _, 0, _, rfl, hv2, sq_of (g3 _ _ hbs upd_same), rfl, q _ H3 ((g2.trans (Gs.of (Ex.new hb))).trans g3) d4 ⟨_, rfl, trivial⟩⟩
    · exact ⟨b, _, 1, _, rfl, hv2, sq_of (g3 _ _ hbs upd_same), rfl, q _ H3 ((g2.trans (Gs.of (Ex.new hb))).trans g3) d4 ⟨_, rfl, trivial⟩⟩⟩
end
section
variable {P : Program} {w : World} {K : PySem.W.Frag} {mg : Str → Option Value} {base : Heap} {tk : Tok} {a : Ad}
theorem ok_law {fa : Addr} {fd : FuncData} (h : Tx K mg tk a) (D : Df K mg "law" s_law ["_law_script"] fa fd) : FnOk P w K mg base CX0 21 fa fd ["_law_script"] (spLaw K) := by
  refine D.F.ok sc_law (fun vs H Q E hh => ?_) (fun cdv A outer s H vs Q E hr hh => ?_)
  · obtain ⟨a0, ns, rfl, _⟩ := hh
    rfl
  · obtain ⟨a0, ns, rfl, hS, hlen, q⟩ := hh
    have nd := sc_law.nd
    refine ⟨_, (pss_cons (ps_for PassesOwn.never rfl (pi_enum (by rfl) h.T.n_enumerate (pa_cons (pe_op op_cat (pe_slice sl_list (pv 0) po_none (po_some pe_int)) (pe_op op_rep (pe_lst (pa_cons pe_int pa_nil)) (pe_callTy call_int1 (by rfl) h.T.n_int PyProof.Rows.boot_int (pa_cons (pe_cmpR (r := rEqD K) (op_eqD hr.units) (pv 0) (pe_lst pa_nil) (nomark _)) pa_nil)))) pa_nil)) (pg_tup rfl (pgs_cons (pg_name (i := 1) nd rfl (Or.inl rfl)) (pgs_cons (pg_name (i := 2) nd rfl (Or.inl rfl)) pgs_nil))) (pss_cons (ps_set (i := 3) nd rfl (Or.inl rfl) (pe_call (G__law_pool h) (hr.mono (by omega)) (by rfl) h.D__law_pool.g h.D__law_pool.F.kp h.D__law_pool.b .nil pass0 (pa_cons (pv 2) (pa_cons (pe_op op_add pe_int (pv 1)) (pa_cons pe_int pa_nil))))) (pss_one (ps_for PassesOwn.never rfl (pi_range1 (by rfl) h.T.n_range (pa_cons pe_int pa_nil)) (pg_name (i := 4) nd rfl (Or.inl rfl)) (pss_cons (ps_par (i := 7) (j := 8) (by rfl) nd rfl rfl (by decide) rfl rfl (pa_cons (pe_op op_add pe_int (pe_call (G__law_draw h) (hr.mono (by omega)) (by rfl) h.D__law_draw.g h.D__law_draw.F.kp h.D__law_draw.b .nil pass0 (pa_cons (pv 3) (pa_cons pe_int pa_nil)))) (pa_cons (pe_op op_add pe_int (pe_call (G__law_draw h) (hr.mono (by omega)) (by rfl) h.D__law_draw.g h.D__law_draw.F.kp h.D__law_draw.b .nil pass0 (pa_cons (pv 3) (pa_cons pe_int pa_nil)))) pa_nil)) (by rfl)) (pss_cons (ps_par (i := 9) (j := 10) (by rfl) nd rfl rfl (by decide) rfl rfl (pa_cons (pe_call (G__law_weights h) (hr.mono (by omega)) (by rfl) h.D__law_weights.g h.D__law_weights.F.kp h.D__law_weights.b .nil pass0 (pa_cons (pv 3) (pa_cons (pv 7) (pa_cons (pv 8) pa_nil)))) (pa_cons (pe_call (G__law_weights h) (hr.mono (by omega)) (by rfl) h.D__law_weights.g h.D__law_weights.F.kp h.D__law_weights.b .nil pass0 (pa_cons (pv 3) (pa_cons (pv 7) (pa_cons (pv 8) pa_nil)))) pa_nil)) (by rfl)) (pss_cons (ps_set (i := 5) nd rfl (Or.inl rfl) (pe_ix (r := rIxL K) ix_list (pe_lst (pa_cons (pe_op op_sub (pe_call (G__law_draw h) (hr.mono (by omega)) (by rfl) h.D__law_draw.g h.D__law_draw.F.kp h.D__law_draw.b .nil pass0 (pa_cons (pv 3) (pa_cons pe_int pa_nil))) pe_int) (pa_cons (pe_op op_pow pe_int pe_int) pa_nil))) (pe_call (G__law_draw h) (hr.mono (by omega)) (by rfl) h.D__law_draw.g h.D__law_draw.F.kp h.D__law_draw.b .nil pass0 (pa_cons (pv 3) (pa_cons pe_int pa_nil))) (fun _ _ => rfl))) (pss_cons (ps_set (i := 6) nd rfl (Or.inl rfl) (pe_make h.BTable.mkc (G_Table_init h) (hr.mono (by omega)) (by rfl) h.BTable.gC h.M_Table_init.b .nil pass0 (pa_cons (pe_call (G__law_counts h) (hr.mono (by omega)) (by rfl) h.D__law_counts.g h.D__law_counts.F.kp h.D__law_counts.b .nil pass0 (pa_cons (pv 3) (pa_cons (pv 7) (pa_cons (pv 8) (pa_cons pe_int pa_nil))))) pa_nil))) (pss_cons (ps_par (i := 11) (j := 12) (by rfl) nd rfl rfl (by decide) rfl rfl (pa_cons (pe_make h.BQuestion.mkc (G_Question_init h) (hr.mono (by omega)) (by rfl) h.BQuestion.gC h.M_Question_init.b .nil pass0 (pa_cons (pv 9) pa_nil)) (pa_cons (pe_make h.BQuestion.mkc (G_Question_init h) (hr.mono (by omega)) (by rfl) h.BQuestion.gC h.M_Question_init.b .nil pass0 (pa_cons (pv 10) pa_nil)) pa_nil)) (by rfl)) (pss_cons (ps_if (pt_cmpR op_ne (pe_callO (pe_op (r := rOwnB a.cQ (spBin a.cQ gd_add) E0) (op_own (op := .Add) (G_Question_add h) h.first h.i_add h.n_add h.M_Question_add.b (hr.mono (by omega)) pass0) (pv 11) (pv 12)) h.co ((G_Question_call h).raw h.M_Question_call.b .nil) (hr.mono (by omega)) pass0 (pa_cons (pv 6) pa_nil)) (pe_op op_add (pe_callO (pv 11) h.co ((G_Question_call h).raw h.M_Question_call.b .nil) (hr.mono (by omega)) pass0 (pa_cons (pv 6) pa_nil)) (pe_callO (pv 12) h.co ((G_Question_call h).raw h.M_Question_call.b .nil) (hr.mono (by omega)) pass0 (pa_cons (pv 6) pa_nil))) (nomark _)) (pss_one (ps_ret pe_bl)) pss_nil) (pss_cons (ps_if (PW.pt (pw_or (pt_cmpR op_ne (pe_callO (pe_op (r := rOwnB a.cQ (spBin a.cQ gd_sub) E0) (op_own (op := .Sub) (G_Question_sub h) h.first h.i_sub h.n_sub h.M_Question_sub.b (hr.mono (by omega)) pass0) (pv 11) (pv 12)) h.co ((G_Question_call h).raw h.M_Question_call.b .nil) (hr.mono (by omega)) pass0 (pa_cons (pv 6) pa_nil)) (pe_op op_sub (pe_callO (pv 11) h.co ((G_Question_call h).raw h.M_Question_call.b .nil) (hr.mono (by omega)) pass0 (pa_cons (pv 6) pa_nil)) (pe_callO (pv 12) h.co ((G_Question_call h).raw h.M_Question_call.b .nil) (hr.mono (by omega)) pass0 (pa_cons (pv 6) pa_nil))) (nomark _)) (pw_or1 (pt_cmpR op_ne (pe_callO (pe_un (r := rOwnU a.cQ (spNegU a.cQ) E0) (un_own (G_Question_neg h) h.i_neg h.n_neg h.M_Question_neg.b (hr.mono (by omega)) pass0) (pv 11)) h.co ((G_Question_call h).raw h.M_Question_call.b .nil) (hr.mono (by omega)) pass0 (pa_cons (pv 6) pa_nil)) (pe_un un_neg (pe_callO (pv 11) h.co ((G_Question_call h).raw h.M_Question_call.b .nil) (hr.mono (by omega)) pass0 (pa_cons (pv 6) pa_nil))) (nomark _))))) (pss_one (ps_ret pe_bl)) pss_nil) (pss_cons (ps_if (PW.pt (pw_or (pt_cmpR op_ne (pe_callO (pe_op (r := rOwnI a.cQ (spMulI a.cQ) E0) (op_ownI (op := .Mult) (G_Question_mul h) h.first h.i_mul h.n_mul h.rm (.inl rfl) h.im h.ir h.su h.M_Question_mul.b (hr.mono (by omega)) pass0) (pv 11) (pv 5)) h.co ((G_Question_call h).raw h.M_Question_call.b .nil) (hr.mono (by omega)) pass0 (pa_cons (pv 6) pa_nil)) (pe_op op_mul (pv 5) (pe_callO (pv 11) h.co ((G_Question_call h).raw h.M_Question_call.b .nil) (hr.mono (by omega)) pass0 (pa_cons (pv 6) pa_nil))) (nomark _)) (pw_or1 (pt_cmpR (r := rOwnNe a.cQ (spEqQ a.cQ) E0) (op_ownNe (G_Question_eq h) h.ne h.M_Question_eq.b (hr.mono (by omega)) pass0) (pe_op (r := rOwnB a.cQ (spBin a.cQ gd_add) E0) (op_own (op := .Add) (G_Question_add h) h.first h.i_add h.n_add h.M_Question_add.b (hr.mono (by omega)) pass0) (pv 11) (pv 12)) (pe_op (r := rOwnB a.cQ (spBin a.cQ gd_add) E0) (op_own (op := .Add) (G_Question_add h) h.first h.i_add h.n_add h.M_Question_add.b (hr.mono (by omega)) pass0) (pv 12) (pv 11)) (nomark _))))) (pss_one (ps_ret pe_bl)) pss_nil) (pss_cons (ps_if (PW.pt (pw_or (pt_cmpR (r := rOwnNe a.cQ (spEqQ a.cQ) E0) (op_ownNe (G_Question_eq h) h.ne h.M_Question_eq.b (hr.mono (by omega)) pass0) (pe_op (r := rOwnB a.cQ (spBin a.cQ gd_sub) E0) (op_own (op := .Sub) (G_Question_sub h) h.first h.i_sub h.n_sub h.M_Question_sub.b (hr.mono (by omega)) pass0) (pv 11) (pv 12)) (pe_op (r := rOwnB a.cQ (spBin a.cQ gd_add) E0) (op_own (op := .Add) (G_Question_add h) h.first h.i_add h.n_add h.M_Question_add.b (hr.mono (by omega)) pass0) (pv 11) (pe_un (r := rOwnU a.cQ (spNegU a.cQ) E0) (un_own (G_Question_neg h) h.i_neg h.n_neg h.M_Question_neg.b (hr.mono (by omega)) pass0) (pv 12))) (nomark _)) (pw_or (pt_cmpR (r := rOwnNe a.cQ (spEqQ a.cQ) E0) (op_ownNe (G_Question_eq h) h.ne h.M_Question_eq.b (hr.mono (by omega)) pass0) (pe_op (r := rOwnB a.cQ (spBin a.cQ gd_sub) E0) (op_own (op := .Sub) (G_Question_sub h) h.first h.i_sub h.n_sub h.M_Question_sub.b (hr.mono (by omega)) pass0) (pv 11) (pv 11)) (pe_op (r := rOwnI a.cQ (spMulI a.cQ) E0) (op_ownI (op := .Mult) (G_Question_mul h) h.first h.i_mul h.n_mul h.rm (.inl rfl) h.im h.ir h.su h.M_Question_mul.b (hr.mono (by omega)) pass0) (pv 11) pe_int) (nomark _)) (pw_or1 (pt_cmpR (r := rOwnNe a.cQ (spEqQ a.cQ) E0) (op_ownNe (G_Question_eq h) h.ne h.M_Question_eq.b (hr.mono (by omega)) pass0) (pe_un (r := rOwnU a.cQ (spNegU a.cQ) E0) (un_own (G_Question_neg h) h.i_neg h.n_neg h.M_Question_neg.b (hr.mono (by omega)) pass0) (pe_un (r := rOwnU a.cQ (spNegU a.cQ) E0) (un_own (G_Question_neg h) h.i_neg h.n_neg h.M_Question_neg.b (hr.mono (by omega)) pass0) (pv 11))) (pv 11) (nomark _)))))) (pss_one (ps_ret pe_bl)) pss_nil) (pss_cons (ps_if (PW.pt (pw_or (pt_cmpR op_ne (pe_meth (pe_op (r := rOwnB a.cQ (spBin a.cQ gd_add) E0) (op_own (op := .Add) (G_Question_add h) h.first h.i_add h.n_add h.M_Question_add.b (hr.mono (by omega)) pass0) (pv 11) (pv 12)) h.BQuestion.cl h.mw (G_Question_weight h) (hr.mono (by omega)) h.M_Question_weight.b .nil pass0 (pa_cons (pe_op op_sub (pv 7) pe_int) (pa_cons pe_int pa_nil))) (pe_op op_add (pe_ix (r := rIxT K) ix_tup (pe_ix (r := rIxT K) ix_tup (pv 9) (pe_un un_neg pe_int) (fun _ _ => rfl)) pe_int (fun _ _ => rfl)) (pe_ix (r := rIxT K) ix_tup (pe_ix (r := rIxT K) ix_tup (pv 10) (pe_un un_neg pe_int) (fun _ _ => rfl)) pe_int (fun _ _ => rfl))) (nomark _)) (pw_or1 (pt_cmpR (r := rNeD K) (op_neD hr.units) (pe_prop (pv 11) h.BQuestion.cl h.P_Question_weights.hp (G_Question_weights h) (hr.mono (by omega)) h.P_Question_weights.b .nil pass0 rfl) (pv 9) (nomark _))))) (pss_one (ps_ret pe_bl)) pss_nil) (pss_one (ps_if (PW.pt (pw_or (pt_cmpR (r := rNeD K) (op_neD hr.units) (pe_prop (pv 12) h.BQuestion.cl h.P_Question_weights.hp (G_Question_weights h) (hr.mono (by omega)) h.P_Question_weights.b .nil pass0 rfl) (pv 10) (nomark _)) (pw_or (pt_cmpR op_ne (pe_cmpR (r := rOwnB a.cQ (spEqQ a.cQ) E0) (op_ownEq (G_Question_eq h) h.i_eq h.n_eq h.M_Question_eq.b (hr.mono (by omega)) pass0) (pv 11) (pv 12) (nomark _)) (pe_cmpR (r := rEqD K) (op_eqD hr.units) (pv 9) (pv 10) (nomark _)) (nomark _)) (pw_or1 (pt_cmpR (r := rOwnNe a.cQ (spEqQ a.cQ) E0) (op_ownNe (G_Question_eq h) h.ne h.M_Question_eq.b (hr.mono (by omega)) pass0) (pe_op (r := rOwnB a.cQ (spBin a.cQ gd_sub) E0) (op_own (op := .Sub) (G_Question_sub h) h.first h.i_sub h.n_sub h.M_Question_sub.b (hr.mono (by omega)) pass0) (pe_op (r := rOwnB a.cQ (spBin a.cQ gd_add) E0) (op_own (op := .Add) (G_Question_add h) h.first h.i_add h.n_add h.M_Question_add.b (hr.mono (by omega)) pass0) (pv 11) (pv 12)) (pv 12)) (pv 11) (nomark _)))))) (pss_one (ps_ret pe_bl)) pss_nil)))))))))))))))) (pss_one (ps_ret pe_bl))), ?_⟩
    -- the list that is walked
    refine ⟨.ref a0, rfl, 6, rfl, a0, _, rfl, hS, fun p1 hp1 => ?_⟩
    have e1 : Evl.Ex H (upd H p1 (.lst (cutV (ns.map V.int) none (some 6)))) := Ex.new hp1
    have l1 : (upd H p1 (.lst (cutV (ns.map V.int) none (some 6)))) p1 = some (.lst (cutV (ns.map V.int) none (some 6))) := upd_same
    generalize upd H p1 (.lst (cutV (ns.map V.int) none (some 6))) = H1 at e1 l1
    refine ⟨by decide, fun p2 hp2 => ?_⟩
    have e2 : Evl.Ex H1 (upd H1 p2 (.lst [.int 7])) := Ex.new hp2
    have l2 : (upd H1 p2 (.lst [.int 7])) p2 = some (.lst [.int 7]) := upd_same
    generalize upd H1 p2 (.lst [.int 7]) = H2 at e2 l2
    refine ⟨.ref a0, rfl, by decide, fun p3 hp3 => ?_⟩
    have e3 : Evl.Ex H2 (upd H2 p3 (.lst [])) := Ex.new hp3
    have l3 : (upd H2 p3 (.lst [])) p3 = some (.lst []) := upd_same
    generalize upd H2 p3 (.lst []) = H3 at e3 l3
    refine ⟨.list (ns.map PyData.int), .list [], .lst (ex_l ((e1.trans e2).trans e3) hS) (dpAll_ints ns), .lst (sq_of l3) .nil, shaped_ints ns, rfl, ?_⟩
    generalize PyData.eqv (.list (ns.map PyData.int)) (.list []) = bb
    refine .inr ⟨bb, rfl, p2, _, [.int 7], rfl, rfl, e3 _ _ l2, by cases bb <;> decide, by cases bb <;> decide, by cases bb <;> decide, fun p4 hp4 => ?_⟩
    have l4 : (upd H3 p4 (.lst (List.replicate (Int.toNat (if bb = true then 1 else 0)) [V.int 7]).flatten)) p4 = some (.lst (List.replicate (Int.toNat (if bb = true then 1 else 0)) [V.int 7]).flatten) := upd_same
    have e4 : Evl.Ex H3 (upd H3 p4 (.lst (List.replicate (Int.toNat (if bb = true then 1 else 0)) [V.int 7]).flatten)) := Ex.new hp4
    have hz4 : ∀ x ∈ (List.replicate (Int.toNat (if bb = true then 1 else 0)) [V.int 7]).flatten, ∃ c : Int, x = .int c := fun x hx => by
      cases bb <;> simp at hx; exact ⟨7, hx⟩
    have hl4 : (List.replicate (Int.toNat (if bb = true then 1 else 0)) [V.int 7]).flatten.length ≤ 1 := by cases bb <;> decide
    generalize (List.replicate (Int.toNat (if bb = true then 1 else 0)) [V.int 7]).flatten = zs4 at l4 e4 hz4 hl4
    generalize upd H3 p4 (.lst zs4) = H4 at l4 e4
    have hz1 : ∀ x ∈ cutV (ns.map V.int) none (some 6), ∃ c : Int, x = .int c := fun x hx => by
      have := List.mem_of_mem_drop (List.mem_of_mem_take hx)
      obtain ⟨c, _, e⟩ := List.mem_map.mp this
      exact ⟨c, e.symm⟩
    have hl1 : (cutV (ns.map V.int) none (some 6)).length ≤ 63 := by
      unfold cutV
      simp only [List.length_take, List.length_drop, List.length_map]
      omega
    generalize cutV (ns.map V.int) none (some 6) = zs1 at hz1 hl1 l1
    refine ⟨p1, p4, zs1, zs4, rfl, rfl, ((e2.trans e3).trans e4) _ _ l1, l4, sz_of (by omega), fun p5 hp5 => ?_⟩
    have l5 : (upd H4 p5 (.lst (zs1 ++ zs4))) p5 = some (.lst (zs1 ++ zs4)) := upd_same
    have hz5 : ∀ x ∈ zs1 ++ zs4, ∃ c : Int, x = .int c := fun x hx => (List.mem_append.mp hx).elim (hz1 x) (hz4 x)
    have hl5 : (zs1 ++ zs4).length ≤ 64 := by rw [List.length_append]; omega
    generalize zs1 ++ zs4 = zs at l5 hz5 hl5
    generalize upd H4 p5 (.lst zs) = H5 at l5
    refine ⟨p5, zs, rfl, sq_of l5, ?_⟩
    refine for_enum (fun i σ H' => ∃ s1 s2 s3 s4 s5 s6 s7 s8 s9 s10 s11 s12, σ = [some (.ref a0), s1, s2, s3, s4, s5, s6, s7, s8, s9, s10, s11, s12] ∧ H' p5 = some (.lst zs)) ⟨_, _, _, _, _, _, _, _, _, _, _, _, rfl, l5⟩ (fun i σ H' ⟨_, _, _, _, _, _, _, _, _, _, _, _, _, hl⟩ => sq_of hl) (fun i x T σ H' hx ⟨s1, s2, s3, s4, s5, s6, s7, s8, s9, s10, s11, s12, hs, hl⟩ hT => ?_) (fun σ H' _ => q H')
    obtain ⟨c, rfl⟩ := hz5 x (List.mem_of_getElem? hx)
    subst hs
    have hi : i < 64 := by have := (List.getElem?_eq_some_iff.mp hx).1; omega
    have hTl : (upd H' T (.tup [.int (i : Int), .int c])) p5 = some (.lst zs) := Ex.new hT _ _ hl
    have hTT : (upd H' T (.tup [.int (i : Int), .int c])) T = some (.tup [.int (i : Int), .int c]) := upd_same
    generalize upd H' T (.tup [.int (i : Int), .int c]) = H6 at hTl hTT
    refine ⟨T, _, rfl, st_of hTT, rfl, _, _, rfl, _, _, rfl, rfl, ?_⟩
    -- the state
    refine ⟨_, rfl, _, rfl, 2600, (i : Int), rfl, rfl, c, 2600 + (i : Int), 260, rfl, ⟨by omega, by omega⟩, by decide, fun s H7 e7 hs0 ⟨p, xs, d7⟩ => ?_⟩
    have hps : p5 ≠ s := fun z => by rw [← z, hTl] at hs0; cases hs0
    refine s_forR1 (n := 5) (ea_cons ev_c ea_nil) (by decide) (fun j σ H' => ∃ s4 s5 s6 s7 s8 s9 s10 s11 s12, σ = [some (.ref a0), some (.int (i : Int)), some (.int c), some (.ref s), s4, s5, s6, s7, s8, s9, s10, s11, s12] ∧ Dr s p xs H' ∧ H' p5 = some (.lst zs))
      (fun H8 e8 => ⟨_, _, _, _, _, _, _, _, _, rfl, d7.ex e8, (e7.trans e8) _ _ hTl⟩) (fun j σ H' hj ⟨s4, s5, s6, s7, s8, s9, s10, s11, s12, hs, d, hl⟩ => ?_) (fun σ H' ⟨s4, s5, s6, s7, s8, s9, s10, s11, s12, hs, d, hl⟩ => ⟨_, _, _, _, _, _, _, _, _, _, _, _, hs, hl⟩)
    subst hs
    clear hT hTT hx e7 d7
    refine pairD (P1 := Sz) (P2 := Sz) (sizeD (i := 3) rfl) (sizeD (i := 3) rfl) (fun _ _ _ _ z => z) d fun v7 v8 H8 g8 d8 ⟨m, hv7, hm⟩ ⟨n, hv8, hn⟩ => ?_
    subst hv7
    subst hv8
    have hdim : dimOk m n := ⟨⟨hm.1, by omega⟩, ⟨hn.1, by omega⟩⟩
    refine pairD (P1 := Wt m n) (P2 := Wt m n) (weightsD (i := 3) (i1 := 7) (i2 := 8) rfl rfl rfl ⟨by omega, by omega⟩) (weightsD (i := 3) (i1 := 7) (i2 := 8) rfl rfl rfl ⟨by omega, by omega⟩) mf_wt d8 fun v9 v10 H9 g9 d9 ⟨f, hf, bf⟩ ⟨g, hg, bg⟩ => ?_
    refine manyD (i := 3) rfl H9 (Gs.refl _ _) d9 _ fun v5 H10 g10 d10 ⟨c5, hv5, _⟩ => ?_
    subst hv5
    replace hf := mf_grid _ _ _ (Gs.fx g10 d9) hf
    replace hg := mf_grid _ _ _ (Gs.fx g10 d9) hg
    refine countsD (i := 3) (i1 := 7) (i2 := 8) rfl rfl rfl ⟨by omega, by omega⟩ H10 (Gs.refl _ _) d10 _ fun v6 H11 g11 d11 ⟨t, ht, bt⟩ => ?_
    replace hf := mf_grid _ _ _ (Gs.fx g11 d10) hf
    replace hg := mf_grid _ _ _ (Gs.fx g11 d10) hg
    refine fun x dx hx1 hx2 hx3 => ⟨x, dx, v6, m, n, t, rfl, upd_same, mf_grid.mono _ _ _ (make_ex hx1 hx2 hx3) ht, hdim, fun i j => (bt i j).1, fun H12 e12' h12 => ⟨rfl, ?_⟩⟩
    obtain ⟨e12, ht'⟩ := make_post (C := a.cT) (fld := "_counts") hx1 hx2 ht e12' h12
    clear hx3 e12' h12
    replace hf := mf_grid.mono _ _ _ e12 hf
    replace hg := mf_grid.mono _ _ _ e12 hg
    have hbt : ∀ i j, Bd (t i j) := fun i j => by have := bt i j; exact ⟨by omega, by omega⟩
    have hbf : ∀ i j, Bd (f i j) := fun i j => by have := bf i j; exact ⟨by omega, by omega⟩
    refine pairD (P1 := Ins a.cQ "_weights" m n f) (P2 := Ins a.cQ "_weights" m n g) (evd_of fun H1 g1 d1 => evp_make (eap_one (evp_var rfl (mf_grid _ _ _ (Gs.fx g1 (d11.ex e12)) hf) mf_grid.mono)) hdim trivial) (evd_of fun H1 g1 d1 => evp_make (eap_one (evp_var rfl (mf_grid _ _ _ (Gs.fx g1 (d11.ex e12)) hg) mf_grid.mono)) hdim trivial) mf_ins (d11.ex e12) fun v11 v12 H13 g13 d13 h11 h12 => ?_
    replace hf := mf_grid _ _ _ (Gs.fx g13 (d11.ex e12)) hf
    replace hg := mf_grid _ _ _ (Gs.fx g13 (d11.ex e12)) hg
    replace ht' := mf_ins _ _ _ (Gs.fx g13 (d11.ex e12)) ht'
    have gall : Gs s H' H13 := (((g8.trans g9).trans (g10.trans g11)).trans (Gs.of e12)).trans g13
    have hl13 := gall _ _ hps hl
    clear g8 g9 g10 g11 e12 g13 d8 d9 d10 d11 ht gall hl d
    simp only [List.set_cons_zero, List.set_cons_succ] at *
    generalize hσ : [some (V.ref a0), some (V.int (i : Int)), some (V.int c), some (V.ref s), some (V.int (j : Int)), some (V.int c5), some (V.ref x), some (V.int (m : Int)), some (V.int (n : Int)), some v9, some v10, some v11, some v12] = σ
    have q5 : EvP (tVar 5) σ H13 (Is (.int c5)) := evp_var (by rw [← hσ]; rfl) rfl mono_is
    have q6 : EvP (tVar 6) σ H13 (Ins a.cT "_counts" m n t) := evp_var (by rw [← hσ]; rfl) ht' mf_ins.mono
    have q7 : EvP (tVar 7) σ H13 (Is (.int (m : Int))) := evp_var (by rw [← hσ]; rfl) rfl mono_is
    have q9 : EvP (tVar 9) σ H13 (Grid m n f) := evp_var (by rw [← hσ]; rfl) hf mf_grid.mono
    have q10 : EvP (tVar 10) σ H13 (Grid m n g) := evp_var (by rw [← hσ]; rfl) hg mf_grid.mono
    have q11 : EvP (tVar 11) σ H13 (Ins a.cQ "_weights" m n f) := evp_var (by rw [← hσ]; rfl) h11 mf_ins.mono
    have q12 : EvP (tVar 12) σ H13 (Ins a.cQ "_weights" m n g) := evp_var (by rw [← hσ]; rfl) h12 mf_ins.mono
    have b1 : -1600 ≤ (flat (fun i j => f i j * t i j) n m).sum ∧ (flat (fun i j => f i j * t i j) n m).sum ≤ 1600 := by
      have := flat_bd (fun i j => f i j * t i j) (fun i j => prod_bd (bf i j) (bt i j)) n (by omega) m
      omega
    -- 1
    refine q_when (b := false) (e_int_ne (e_call hdim hbt (e_bin hdim q11 q12) q6) (evp_I0 (g := fun i j => .int (i + j)) (e_call hdim hbt q11 q6) (e_call hdim hbt q12 q6)) (prod_add f g t n m)) (fun z => nomatch z) fun _ H14 e14 => ?_
    -- 2
    refine q_when (b := false) (et_or (a := false) (b := false) (e_int_ne (e_call hdim hbt (e_bin hdim (q11.mono e14) (q12.mono e14)) (q6.mono e14)) (evp_I0 (g := fun i j => .int (i - j)) (e_call hdim hbt (q11.mono e14) (q6.mono e14)) (e_call hdim hbt (q12.mono e14) (q6.mono e14))) (prod_sub f g t n m))
      fun _ => e_int_ne (e_call hdim hbt (e_neg hdim (q11.mono e14)) (q6.mono e14)) (e_negI (e_call hdim hbt (q11.mono e14) (q6.mono e14))) (by rw [prod_mul]; omega)) (fun z => nomatch z) fun _ H15 e15' => ?_
    have e15 := e14.trans e15'
    -- 3
    refine q_when (b := false) (et_or (a := false) (b := false) (e_int_ne (e_call hdim hbt (e_mul hdim hbf (q11.mono e15) (q5.mono e15)) (q6.mono e15)) (evp_I (C := CMul) (g := fun i j => .int (i * j)) (q5.mono e15) (e_call hdim hbt (q11.mono e15) (q6.mono e15)) (.inr ⟨by omega, by omega⟩)) (by rw [prod_mul]; exact Int.mul_comm ..))
      fun _ => e_ne0 (e_bin hdim (q11.mono e15) (q12.mono e15)) (e_bin hdim (q12.mono e15) (q11.mono e15)) fun i j => Int.add_comm ..) (fun z => nomatch z) fun _ H16 e16' => ?_
    have e16 := e15.trans e16'
    -- 4
    refine q_when (b := false) (et_or (a := false) (b := false) (e_ne0 (e_bin hdim (q11.mono e16) (q12.mono e16)) (e_bin hdim (q11.mono e16) (e_neg hdim (q12.mono e16))) fun i j => rfl) fun _ => et_or (a := false) (b := false) (e_ne0 (e_bin hdim (q11.mono e16) (q11.mono e16)) (e_mul hdim hbf (q11.mono e16) (evp_c (v := .int 0))) fun i j => by show f i j + f i j * -1 = f i j * 0; omega)
      fun _ => e_ne0 (e_neg hdim (e_neg hdim (q11.mono e16))) (q11.mono e16) fun i j => by show f i j * -1 * -1 = f i j; omega) (fun z => nomatch z) fun _ H17 e17' => ?_
    have e17 := e16.trans e17'
    -- 5
    refine q_when (b := false) (et_or (a := false) (b := false) (e_int_ne (e_weight (i := m - 1) (j := 0) (e_bin hdim (q11.mono e17) (q12.mono e17)) (evp_is (evp_I0 (g := fun i j => .int (i - j)) (q7.mono e17) (evp_c (v := .int 1))) (by rw [show ((m - 1 : Nat) : Int) = (m : Int) - 1 by omega])) (evp_c (v := .int ((0 : Nat) : Int))) (by omega) (by omega))
      (evp_I0 (g := fun i j => .int (i + j)) (evp_ixT (i := 0) (evp_last (q9.mono e17) hm.1 fun _ => mf_row) evp_c (by omega) fun _ => mf_is) (evp_ixT (i := 0) (evp_last (q10.mono e17) hm.1 fun _ => mf_row) evp_c (by omega) fun _ => mf_is)) rfl) fun _ => e_grid_ne (ev_get (q11.mono e17)) (q9.mono e17)) (fun z => nomatch z) fun _ H18 e18' => ?_
    have e18 := e17.trans e18'
    -- 6
    refine s_when (b := false) (et_or (a := false) (b := false) (e_grid_ne (ev_get (q12.mono e18)) (q10.mono e18)) fun _ => et_or (a := false) (b := false) (et_tst (evp_is (evp_ne (e_eq (q11.mono e18) (q12.mono e18)) (evp_eqD (q9.mono e18) (q10.mono e18)) rfl) (by rw [decide_eq_true rfl]; rfl)))
      fun _ => e_ne0 (e_bin hdim (e_bin hdim (q11.mono e18) (q12.mono e18)) (q12.mono e18)) (q11.mono e18) fun i j => by show f i j + g i j + g i j * -1 = f i j; omega) (fun z => nomatch z) fun _ H19 e19' => ?_
    have e19 := e18.trans e19'
    exact ⟨_, _, _, _, _, _, _, _, _, hσ.symm, d13.ex e19, e19 _ _ hl13⟩
end
end K26
namespace K26
open PySem PySem.Spec PyProof.Rows L2 Evl Ow RZ Ev2 StX
def strKeysB (es : Array DictEntry) : Bool := es.toList.all fun e => match e.key with | .str _ _ => true | _ => false
theorem strKeys_of {es : Array DictEntry} (h : strKeysB es = true) : StrKeys es := fun e he => by
  have := List.all_eq_true.mp h e (Array.mem_toList_iff.mpr he)
  cases hk : e.key <;> rw [hk] at this <;> first | exact ⟨_, _, rfl⟩ | cases this
theorem nsFind_of {K : PySem.W.Frag} {N : Addr} {oc : Value} {od : Option Addr} {es : Array DictEntry} {n : Nat} {sl : Array (Option Value)} {x : Str} {r : Option Value} (hl : K.lookup N = some ⟨oc, od, .dict es n, sl⟩) (e : PySem.W.nsIn K N x = some r) : nsFind es x = r := by
  obtain ⟨l⟩ := es
  unfold PySem.W.nsIn at e
  rw [hl] at e
  unfold nsFind findBy
  dsimp only at e ⊢
  rw [List.find?_toArray]
  split at e
  · rename_i e' h'; rw [h']; exact Option.some.inj e
  · rename_i h'
    rw [h']
    split at e
    · cases e
    · exact Option.some.inj e
theorem all_mk {l : PySem.W.OpenLaw} {w : World} {K : PySem.W.Frag} {h : Heap} {mg : Str → Option Value} {fa : Addr} (X : K.In h) (G : h.Ns mainGlobals mg) (hfa : mg "law" = some (.ref fa))
    {CT CQ NQ : Addr}
    {tk : Tok}
    {f_is_whole : Addr} {od_is_whole an_is_whole : Option Addr} {sl_is_whole : Array (Option Value)} {oc_is_whole kV_is_whole dc_is_whole pm_is_whole cd_is_whole ct_is_whole : Value}
    {f_is_below : Addr} {od_is_below an_is_below : Option Addr} {sl_is_below : Array (Option Value)} {oc_is_below kV_is_below dc_is_below pm_is_below cd_is_below ct_is_below : Value}
    {f_check_below : Addr} {od_check_below an_check_below : Option Addr} {sl_check_below : Array (Option Value)} {oc_check_below kV_check_below dc_check_below pm_check_below cd_check_below ct_check_below : Value}
    {f_is_line : Addr} {od_is_line an_is_line : Option Addr} {sl_is_line : Array (Option Value)} {oc_is_line kV_is_line dc_is_line pm_is_line cd_is_line ct_is_line : Value}
    {f_is_grid : Addr} {od_is_grid an_is_grid : Option Addr} {sl_is_grid : Array (Option Value)} {oc_is_grid kV_is_grid dc_is_grid pm_is_grid cd_is_grid ct_is_grid : Value}
    {f_grid_sum : Addr} {od_grid_sum an_grid_sum : Option Addr} {sl_grid_sum : Array (Option Value)} {oc_grid_sum kV_grid_sum dc_grid_sum pm_grid_sum cd_grid_sum ct_grid_sum : Value}
    {f_grid_product : Addr} {od_grid_product an_grid_product : Option Addr} {sl_grid_product : Array (Option Value)} {oc_grid_product kV_grid_product dc_grid_product pm_grid_product cd_grid_product ct_grid_product : Value}
    {f_grid_times : Addr} {od_grid_times an_grid_times : Option Addr} {sl_grid_times : Array (Option Value)} {oc_grid_times kV_grid_times dc_grid_times pm_grid_times cd_grid_times ct_grid_times : Value}
    {f_is_counts : Addr} {od_is_counts an_is_counts : Option Addr} {sl_is_counts : Array (Option Value)} {oc_is_counts kV_is_counts dc_is_counts pm_is_counts cd_is_counts ct_is_counts : Value}
    {f_is_table : Addr} {od_is_table an_is_table : Option Addr} {sl_is_table : Array (Option Value)} {oc_is_table kV_is_table dc_is_table pm_is_table cd_is_table ct_is_table : Value}
    {f_check_table : Addr} {od_check_table an_check_table : Option Addr} {sl_check_table : Array (Option Value)} {oc_check_table kV_check_table dc_check_table pm_check_table cd_check_table ct_check_table : Value}
    {f_check_question : Addr} {od_check_question an_check_question : Option Addr} {sl_check_question : Array (Option Value)} {oc_check_question kV_check_question dc_check_question pm_check_question cd_check_question ct_check_question : Value}
    {f_law_numbers : Addr} {od_law_numbers an_law_numbers : Option Addr} {sl_law_numbers : Array (Option Value)} {oc_law_numbers kV_law_numbers dc_law_numbers pm_law_numbers cd_law_numbers ct_law_numbers : Value}
    {f_law_draw : Addr} {od_law_draw an_law_draw : Option Addr} {sl_law_draw : Array (Option Value)} {oc_law_draw kV_law_draw dc_law_draw pm_law_draw cd_law_draw ct_law_draw : Value}
    {f_law_pool : Addr} {od_law_pool an_law_pool : Option Addr} {sl_law_pool : Array (Option Value)} {oc_law_pool kV_law_pool dc_law_pool pm_law_pool cd_law_pool ct_law_pool : Value}
    {f_law_counts : Addr} {od_law_counts an_law_counts : Option Addr} {sl_law_counts : Array (Option Value)} {oc_law_counts kV_law_counts dc_law_counts pm_law_counts cd_law_counts ct_law_counts : Value}
    {f_law_weights : Addr} {od_law_weights an_law_weights : Option Addr} {sl_law_weights : Array (Option Value)} {oc_law_weights kV_law_weights dc_law_weights pm_law_weights cd_law_weights ct_law_weights : Value}
    {f_Table_counts : Addr} {od_Table_counts an_Table_counts : Option Addr} {sl_Table_counts : Array (Option Value)} {oc_Table_counts kV_Table_counts dc_Table_counts pm_Table_counts cd_Table_counts ct_Table_counts : Value}
    {p_Table_counts : Addr} {r_Table_counts : List Value}
    {f_Table_left : Addr} {od_Table_left an_Table_left : Option Addr} {sl_Table_left : Array (Option Value)} {oc_Table_left kV_Table_left dc_Table_left pm_Table_left cd_Table_left ct_Table_left : Value}
    {p_Table_left : Addr} {r_Table_left : List Value}
    {f_Table_right : Addr} {od_Table_right an_Table_right : Option Addr} {sl_Table_right : Array (Option Value)} {oc_Table_right kV_Table_right dc_Table_right pm_Table_right cd_Table_right ct_Table_right : Value}
    {p_Table_right : Addr} {r_Table_right : List Value}
    {f_Question_weights : Addr} {od_Question_weights an_Question_weights : Option Addr} {sl_Question_weights : Array (Option Value)} {oc_Question_weights kV_Question_weights dc_Question_weights pm_Question_weights cd_Question_weights ct_Question_weights : Value}
    {p_Question_weights : Addr} {r_Question_weights : List Value}
    {f_Question_left : Addr} {od_Question_left an_Question_left : Option Addr} {sl_Question_left : Array (Option Value)} {oc_Question_left kV_Question_left dc_Question_left pm_Question_left cd_Question_left ct_Question_left : Value}
    {p_Question_left : Addr} {r_Question_left : List Value}
    {f_Question_right : Addr} {od_Question_right an_Question_right : Option Addr} {sl_Question_right : Array (Option Value)} {oc_Question_right kV_Question_right dc_Question_right pm_Question_right cd_Question_right ct_Question_right : Value}
    {p_Question_right : Addr} {r_Question_right : List Value}
    {f_Table_init : Addr} {od_Table_init an_Table_init : Option Addr} {sl_Table_init : Array (Option Value)} {oc_Table_init kV_Table_init dc_Table_init pm_Table_init cd_Table_init ct_Table_init : Value}
    {f_Question_init : Addr} {od_Question_init an_Question_init : Option Addr} {sl_Question_init : Array (Option Value)} {oc_Question_init kV_Question_init dc_Question_init pm_Question_init cd_Question_init ct_Question_init : Value}
    {f_Question_weight : Addr} {od_Question_weight an_Question_weight : Option Addr} {sl_Question_weight : Array (Option Value)} {oc_Question_weight kV_Question_weight dc_Question_weight pm_Question_weight cd_Question_weight ct_Question_weight : Value}
    {f_Question_call : Addr} {od_Question_call an_Question_call : Option Addr} {sl_Question_call : Array (Option Value)} {oc_Question_call kV_Question_call dc_Question_call pm_Question_call cd_Question_call ct_Question_call : Value}
    {f_Question_add : Addr} {od_Question_add an_Question_add : Option Addr} {sl_Question_add : Array (Option Value)} {oc_Question_add kV_Question_add dc_Question_add pm_Question_add cd_Question_add ct_Question_add : Value}
    {f_Question_sub : Addr} {od_Question_sub an_Question_sub : Option Addr} {sl_Question_sub : Array (Option Value)} {oc_Question_sub kV_Question_sub dc_Question_sub pm_Question_sub cd_Question_sub ct_Question_sub : Value}
    {f_Question_mul : Addr} {od_Question_mul an_Question_mul : Option Addr} {sl_Question_mul : Array (Option Value)} {oc_Question_mul kV_Question_mul dc_Question_mul pm_Question_mul cd_Question_mul ct_Question_mul : Value}
    {f_Question_neg : Addr} {od_Question_neg an_Question_neg : Option Addr} {sl_Question_neg : Array (Option Value)} {oc_Question_neg kV_Question_neg dc_Question_neg pm_Question_neg cd_Question_neg ct_Question_neg : Value}
    {f_Question_eq : Addr} {od_Question_eq an_Question_eq : Option Addr} {sl_Question_eq : Array (Option Value)} {oc_Question_eq kV_Question_eq dc_Question_eq pm_Question_eq cd_Question_eq ct_Question_eq : Value}
    {f_law : Addr} {od_law an_law : Option Addr} {sl_law : Array (Option Value)} {oc_law kV_law dc_law pm_law cd_law ct_law : Value}
    {ci cr : Option Value}
    {nmQ qQ : Str} {nw : String} {bsQ subQ : List Value} {hdcQ abQ : Bool} {snQ : List Str} {colQ : Option Bool} {ddQ : Option Addr} {k0 k1 k2 k3 k5 : Option Value} {ocN : Value} {odN : Option Addr} {es : Array DictEntry} {nN : Nat} {slN : Array (Option Value)}
    (aT : PySem.W.nsIn K mainGlobals "Table" = some (some (.ref CT)))
    (aQ : PySem.W.nsIn K mainGlobals "Question" = some (some (.ref CQ)))
    (z_isinstance : PySem.W.nsIn K mainGlobals "isinstance" = some none)
    (z_int : PySem.W.nsIn K mainGlobals "int" = some none)
    (z_bool : PySem.W.nsIn K mainGlobals "bool" = some none)
    (z_tuple : PySem.W.nsIn K mainGlobals "tuple" = some none)
    (z_len : PySem.W.nsIn K mainGlobals "len" = some none)
    (z_all : PySem.W.nsIn K mainGlobals "all" = some none)
    (z_sum : PySem.W.nsIn K mainGlobals "sum" = some none)
    (z_zip : PySem.W.nsIn K mainGlobals "zip" = some none)
    (z_range : PySem.W.nsIn K mainGlobals "range" = some none)
    (z_enumerate : PySem.W.nsIn K mainGlobals "enumerate" = some none)
    (z_max : PySem.W.nsIn K mainGlobals "max" = some none)
    (z_MV : PySem.W.nsIn K mainGlobals "MOST_VALUES" = some (some (.int 8 tk)))
    (a_is_whole : PySem.W.nsIn K mainGlobals "is_whole" = some (some (.ref f_is_whole)))
    (l_is_whole : K.lookup f_is_whole = some ⟨oc_is_whole, od_is_whole, .func (PySem.W.fnOf "is_whole" "is_whole" (defArgs s_is_whole) (defBody s_is_whole) (defScope s_is_whole) .none kV_is_whole dc_is_whole pm_is_whole an_is_whole cd_is_whole ct_is_whole), sl_is_whole⟩)
    (c_is_whole : PySem.W.codeIn K cd_is_whole "is_whole" = true)
    (k_is_whole : PySem.W.keepIn K (.ref f_is_whole) = true)
    (a_is_below : PySem.W.nsIn K mainGlobals "is_below" = some (some (.ref f_is_below)))
    (l_is_below : K.lookup f_is_below = some ⟨oc_is_below, od_is_below, .func (PySem.W.fnOf "is_below" "is_below" (defArgs s_is_below) (defBody s_is_below) (defScope s_is_below) .none kV_is_below dc_is_below pm_is_below an_is_below cd_is_below ct_is_below), sl_is_below⟩)
    (c_is_below : PySem.W.codeIn K cd_is_below "is_below" = true)
    (k_is_below : PySem.W.keepIn K (.ref f_is_below) = true)
    (a_check_below : PySem.W.nsIn K mainGlobals "check_below" = some (some (.ref f_check_below)))
    (l_check_below : K.lookup f_check_below = some ⟨oc_check_below, od_check_below, .func (PySem.W.fnOf "check_below" "check_below" (defArgs s_check_below) (defBody s_check_below) (defScope s_check_below) .none kV_check_below dc_check_below pm_check_below an_check_below cd_check_below ct_check_below), sl_check_below⟩)
    (c_check_below : PySem.W.codeIn K cd_check_below "check_below" = true)
    (k_check_below : PySem.W.keepIn K (.ref f_check_below) = true)
    (a_is_line : PySem.W.nsIn K mainGlobals "is_line" = some (some (.ref f_is_line)))
    (l_is_line : K.lookup f_is_line = some ⟨oc_is_line, od_is_line, .func (PySem.W.fnOf "is_line" "is_line" (defArgs s_is_line) (defBody s_is_line) (defScope s_is_line) .none kV_is_line dc_is_line pm_is_line an_is_line cd_is_line ct_is_line), sl_is_line⟩)
    (c_is_line : PySem.W.codeIn K cd_is_line "is_line" = true)
    (k_is_line : PySem.W.keepIn K (.ref f_is_line) = true)
    (a_is_grid : PySem.W.nsIn K mainGlobals "is_grid" = some (some (.ref f_is_grid)))
    (l_is_grid : K.lookup f_is_grid = some ⟨oc_is_grid, od_is_grid, .func (PySem.W.fnOf "is_grid" "is_grid" (defArgs s_is_grid) (defBody s_is_grid) (defScope s_is_grid) .none kV_is_grid dc_is_grid pm_is_grid an_is_grid cd_is_grid ct_is_grid), sl_is_grid⟩)
    (c_is_grid : PySem.W.codeIn K cd_is_grid "is_grid" = true)
    (k_is_grid : PySem.W.keepIn K (.ref f_is_grid) = true)
    (a_grid_sum : PySem.W.nsIn K mainGlobals "grid_sum" = some (some (.ref f_grid_sum)))
    (l_grid_sum : K.lookup f_grid_sum = some ⟨oc_grid_sum, od_grid_sum, .func (PySem.W.fnOf "grid_sum" "grid_sum" (defArgs s_grid_sum) (defBody s_grid_sum) (defScope s_grid_sum) .none kV_grid_sum dc_grid_sum pm_grid_sum an_grid_sum cd_grid_sum ct_grid_sum), sl_grid_sum⟩)
    (c_grid_sum : PySem.W.codeIn K cd_grid_sum "grid_sum" = true)
    (k_grid_sum : PySem.W.keepIn K (.ref f_grid_sum) = true)
    (a_grid_product : PySem.W.nsIn K mainGlobals "grid_product" = some (some (.ref f_grid_product)))
    (l_grid_product : K.lookup f_grid_product = some ⟨oc_grid_product, od_grid_product, .func (PySem.W.fnOf "grid_product" "grid_product" (defArgs s_grid_product) (defBody s_grid_product) (defScope s_grid_product) .none kV_grid_product dc_grid_product pm_grid_product an_grid_product cd_grid_product ct_grid_product), sl_grid_product⟩)
    (c_grid_product : PySem.W.codeIn K cd_grid_product "grid_product" = true)
    (k_grid_product : PySem.W.keepIn K (.ref f_grid_product) = true)
    (a_grid_times : PySem.W.nsIn K mainGlobals "grid_times" = some (some (.ref f_grid_times)))
    (l_grid_times : K.lookup f_grid_times = some ⟨oc_grid_times, od_grid_times, .func (PySem.W.fnOf "grid_times" "grid_times" (defArgs s_grid_times) (defBody s_grid_times) (defScope s_grid_times) .none kV_grid_times dc_grid_times pm_grid_times an_grid_times cd_grid_times ct_grid_times), sl_grid_times⟩)
    (c_grid_times : PySem.W.codeIn K cd_grid_times "grid_times" = true)
    (k_grid_times : PySem.W.keepIn K (.ref f_grid_times) = true)
    (a_is_counts : PySem.W.nsIn K mainGlobals "is_counts" = some (some (.ref f_is_counts)))
    (l_is_counts : K.lookup f_is_counts = some ⟨oc_is_counts, od_is_counts, .func (PySem.W.fnOf "is_counts" "is_counts" (defArgs s_is_counts) (defBody s_is_counts) (defScope s_is_counts) .none kV_is_counts dc_is_counts pm_is_counts an_is_counts cd_is_counts ct_is_counts), sl_is_counts⟩)
    (c_is_counts : PySem.W.codeIn K cd_is_counts "is_counts" = true)
    (k_is_counts : PySem.W.keepIn K (.ref f_is_counts) = true)
    (a_is_table : PySem.W.nsIn K mainGlobals "is_table" = some (some (.ref f_is_table)))
    (l_is_table : K.lookup f_is_table = some ⟨oc_is_table, od_is_table, .func (PySem.W.fnOf "is_table" "is_table" (defArgs s_is_table) (defBody s_is_table) (defScope s_is_table) .none kV_is_table dc_is_table pm_is_table an_is_table cd_is_table ct_is_table), sl_is_table⟩)
    (c_is_table : PySem.W.codeIn K cd_is_table "is_table" = true)
    (k_is_table : PySem.W.keepIn K (.ref f_is_table) = true)
    (a_check_table : PySem.W.nsIn K mainGlobals "check_table" = some (some (.ref f_check_table)))
    (l_check_table : K.lookup f_check_table = some ⟨oc_check_table, od_check_table, .func (PySem.W.fnOf "check_table" "check_table" (defArgs s_check_table) (defBody s_check_table) (defScope s_check_table) .none kV_check_table dc_check_table pm_check_table an_check_table cd_check_table ct_check_table), sl_check_table⟩)
    (c_check_table : PySem.W.codeIn K cd_check_table "check_table" = true)
    (k_check_table : PySem.W.keepIn K (.ref f_check_table) = true)
    (a_check_question : PySem.W.nsIn K mainGlobals "check_question" = some (some (.ref f_check_question)))
    (l_check_question : K.lookup f_check_question = some ⟨oc_check_question, od_check_question, .func (PySem.W.fnOf "check_question" "check_question" (defArgs s_check_question) (defBody s_check_question) (defScope s_check_question) .none kV_check_question dc_check_question pm_check_question an_check_question cd_check_question ct_check_question), sl_check_question⟩)
    (c_check_question : PySem.W.codeIn K cd_check_question "check_question" = true)
    (k_check_question : PySem.W.keepIn K (.ref f_check_question) = true)
    (a_law_numbers : PySem.W.nsIn K mainGlobals "_law_numbers" = some (some (.ref f_law_numbers)))
    (l_law_numbers : K.lookup f_law_numbers = some ⟨oc_law_numbers, od_law_numbers, .func (PySem.W.fnOf "_law_numbers" "_law_numbers" (defArgs s_law_numbers) (defBody s_law_numbers) (defScope s_law_numbers) .none kV_law_numbers dc_law_numbers pm_law_numbers an_law_numbers cd_law_numbers ct_law_numbers), sl_law_numbers⟩)
    (c_law_numbers : PySem.W.codeIn K cd_law_numbers "_law_numbers" = true)
    (k_law_numbers : PySem.W.keepIn K (.ref f_law_numbers) = true)
    (a_law_draw : PySem.W.nsIn K mainGlobals "_law_draw" = some (some (.ref f_law_draw)))
    (l_law_draw : K.lookup f_law_draw = some ⟨oc_law_draw, od_law_draw, .func (PySem.W.fnOf "_law_draw" "_law_draw" (defArgs s_law_draw) (defBody s_law_draw) (defScope s_law_draw) .none kV_law_draw dc_law_draw pm_law_draw an_law_draw cd_law_draw ct_law_draw), sl_law_draw⟩)
    (c_law_draw : PySem.W.codeIn K cd_law_draw "_law_draw" = true)
    (k_law_draw : PySem.W.keepIn K (.ref f_law_draw) = true)
    (a_law_pool : PySem.W.nsIn K mainGlobals "_law_pool" = some (some (.ref f_law_pool)))
    (l_law_pool : K.lookup f_law_pool = some ⟨oc_law_pool, od_law_pool, .func (PySem.W.fnOf "_law_pool" "_law_pool" (defArgs s_law_pool) (defBody s_law_pool) (defScope s_law_pool) .none kV_law_pool dc_law_pool pm_law_pool an_law_pool cd_law_pool ct_law_pool), sl_law_pool⟩)
    (c_law_pool : PySem.W.codeIn K cd_law_pool "_law_pool" = true)
    (k_law_pool : PySem.W.keepIn K (.ref f_law_pool) = true)
    (a_law_counts : PySem.W.nsIn K mainGlobals "_law_counts" = some (some (.ref f_law_counts)))
    (l_law_counts : K.lookup f_law_counts = some ⟨oc_law_counts, od_law_counts, .func (PySem.W.fnOf "_law_counts" "_law_counts" (defArgs s_law_counts) (defBody s_law_counts) (defScope s_law_counts) .none kV_law_counts dc_law_counts pm_law_counts an_law_counts cd_law_counts ct_law_counts), sl_law_counts⟩)
    (c_law_counts : PySem.W.codeIn K cd_law_counts "_law_counts" = true)
    (k_law_counts : PySem.W.keepIn K (.ref f_law_counts) = true)
    (a_law_weights : PySem.W.nsIn K mainGlobals "_law_weights" = some (some (.ref f_law_weights)))
    (l_law_weights : K.lookup f_law_weights = some ⟨oc_law_weights, od_law_weights, .func (PySem.W.fnOf "_law_weights" "_law_weights" (defArgs s_law_weights) (defBody s_law_weights) (defScope s_law_weights) .none kV_law_weights dc_law_weights pm_law_weights an_law_weights cd_law_weights ct_law_weights), sl_law_weights⟩)
    (c_law_weights : PySem.W.codeIn K cd_law_weights "_law_weights" = true)
    (k_law_weights : PySem.W.keepIn K (.ref f_law_weights) = true)
    (a_Table_counts : PySem.W.findIn K (.ref CT) "counts" = some (some (.ref p_Table_counts)))
    (r1_Table_counts : PySem.W.recIn K p_Table_counts "property" = some (.ref f_Table_counts :: r_Table_counts))
    (g_Table_counts : PySem.W.specialIn K (.ref p_Table_counts) "__get__" = some (some (.builtin "property.__get__")))
    (t_Table_counts : PySem.W.takesIn K (.ref p_Table_counts) = some true)
    (l_Table_counts : K.lookup f_Table_counts = some ⟨oc_Table_counts, od_Table_counts, .func (PySem.W.fnOf "counts" "Table.counts" (defArgs s_Table_counts) (defBody s_Table_counts) (defScope s_Table_counts) .none kV_Table_counts dc_Table_counts pm_Table_counts an_Table_counts cd_Table_counts ct_Table_counts), sl_Table_counts⟩)
    (c_Table_counts : PySem.W.codeIn K cd_Table_counts "Table.counts" = true)
    (k_Table_counts : PySem.W.keepIn K (.ref f_Table_counts) = true)
    (a_Table_left : PySem.W.findIn K (.ref CT) "left" = some (some (.ref p_Table_left)))
    (r1_Table_left : PySem.W.recIn K p_Table_left "property" = some (.ref f_Table_left :: r_Table_left))
    (g_Table_left : PySem.W.specialIn K (.ref p_Table_left) "__get__" = some (some (.builtin "property.__get__")))
    (t_Table_left : PySem.W.takesIn K (.ref p_Table_left) = some true)
    (l_Table_left : K.lookup f_Table_left = some ⟨oc_Table_left, od_Table_left, .func (PySem.W.fnOf "left" "Table.left" (defArgs s_Table_left) (defBody s_Table_left) (defScope s_Table_left) .none kV_Table_left dc_Table_left pm_Table_left an_Table_left cd_Table_left ct_Table_left), sl_Table_left⟩)
    (c_Table_left : PySem.W.codeIn K cd_Table_left "Table.left" = true)
    (k_Table_left : PySem.W.keepIn K (.ref f_Table_left) = true)
    (a_Table_right : PySem.W.findIn K (.ref CT) "right" = some (some (.ref p_Table_right)))
    (r1_Table_right : PySem.W.recIn K p_Table_right "property" = some (.ref f_Table_right :: r_Table_right))
    (g_Table_right : PySem.W.specialIn K (.ref p_Table_right) "__get__" = some (some (.builtin "property.__get__")))
    (t_Table_right : PySem.W.takesIn K (.ref p_Table_right) = some true)
    (l_Table_right : K.lookup f_Table_right = some ⟨oc_Table_right, od_Table_right, .func (PySem.W.fnOf "right" "Table.right" (defArgs s_Table_right) (defBody s_Table_right) (defScope s_Table_right) .none kV_Table_right dc_Table_right pm_Table_right an_Table_right cd_Table_right ct_Table_right), sl_Table_right⟩)
    (c_Table_right : PySem.W.codeIn K cd_Table_right "Table.right" = true)
    (k_Table_right : PySem.W.keepIn K (.ref f_Table_right) = true)
    (a_Question_weights : PySem.W.findIn K (.ref CQ) "weights" = some (some (.ref p_Question_weights)))
    (r1_Question_weights : PySem.W.recIn K p_Question_weights "property" = some (.ref f_Question_weights :: r_Question_weights))
    (g_Question_weights : PySem.W.specialIn K (.ref p_Question_weights) "__get__" = some (some (.builtin "property.__get__")))
    (t_Question_weights : PySem.W.takesIn K (.ref p_Question_weights) = some true)
    (l_Question_weights : K.lookup f_Question_weights = some ⟨oc_Question_weights, od_Question_weights, .func (PySem.W.fnOf "weights" "Question.weights" (defArgs s_Question_weights) (defBody s_Question_weights) (defScope s_Question_weights) .none kV_Question_weights dc_Question_weights pm_Question_weights an_Question_weights cd_Question_weights ct_Question_weights), sl_Question_weights⟩)
    (c_Question_weights : PySem.W.codeIn K cd_Question_weights "Question.weights" = true)
    (k_Question_weights : PySem.W.keepIn K (.ref f_Question_weights) = true)
    (a_Question_left : PySem.W.findIn K (.ref CQ) "left" = some (some (.ref p_Question_left)))
    (r1_Question_left : PySem.W.recIn K p_Question_left "property" = some (.ref f_Question_left :: r_Question_left))
    (g_Question_left : PySem.W.specialIn K (.ref p_Question_left) "__get__" = some (some (.builtin "property.__get__")))
    (t_Question_left : PySem.W.takesIn K (.ref p_Question_left) = some true)
    (l_Question_left : K.lookup f_Question_left = some ⟨oc_Question_left, od_Question_left, .func (PySem.W.fnOf "left" "Question.left" (defArgs s_Question_left) (defBody s_Question_left) (defScope s_Question_left) .none kV_Question_left dc_Question_left pm_Question_left an_Question_left cd_Question_left ct_Question_left), sl_Question_left⟩)
    (c_Question_left : PySem.W.codeIn K cd_Question_left "Question.left" = true)
    (k_Question_left : PySem.W.keepIn K (.ref f_Question_left) = true)
    (a_Question_right : PySem.W.findIn K (.ref CQ) "right" = some (some (.ref p_Question_right)))
    (r1_Question_right : PySem.W.recIn K p_Question_right "property" = some (.ref f_Question_right :: r_Question_right))
    (g_Question_right : PySem.W.specialIn K (.ref p_Question_right) "__get__" = some (some (.builtin "property.__get__")))
    (t_Question_right : PySem.W.takesIn K (.ref p_Question_right) = some true)
    (l_Question_right : K.lookup f_Question_right = some ⟨oc_Question_right, od_Question_right, .func (PySem.W.fnOf "right" "Question.right" (defArgs s_Question_right) (defBody s_Question_right) (defScope s_Question_right) .none kV_Question_right dc_Question_right pm_Question_right an_Question_right cd_Question_right ct_Question_right), sl_Question_right⟩)
    (c_Question_right : PySem.W.codeIn K cd_Question_right "Question.right" = true)
    (k_Question_right : PySem.W.keepIn K (.ref f_Question_right) = true)
    (a_Table_init : PySem.W.findIn K (.ref CT) "__init__" = some (some (.ref f_Table_init)))
    (l_Table_init : K.lookup f_Table_init = some ⟨oc_Table_init, od_Table_init, .func (PySem.W.fnOf "__init__" "Table.__init__" (defArgs s_Table_init) (defBody s_Table_init) (defScope s_Table_init) .none kV_Table_init dc_Table_init pm_Table_init an_Table_init cd_Table_init ct_Table_init), sl_Table_init⟩)
    (c_Table_init : PySem.W.codeIn K cd_Table_init "Table.__init__" = true)
    (k_Table_init : PySem.W.keepIn K (.ref f_Table_init) = true)
    (i_Table_init : PySem.W.isFn K (.ref f_Table_init) = true)
    (a_Question_init : PySem.W.findIn K (.ref CQ) "__init__" = some (some (.ref f_Question_init)))
    (l_Question_init : K.lookup f_Question_init = some ⟨oc_Question_init, od_Question_init, .func (PySem.W.fnOf "__init__" "Question.__init__" (defArgs s_Question_init) (defBody s_Question_init) (defScope s_Question_init) .none kV_Question_init dc_Question_init pm_Question_init an_Question_init cd_Question_init ct_Question_init), sl_Question_init⟩)
    (c_Question_init : PySem.W.codeIn K cd_Question_init "Question.__init__" = true)
    (k_Question_init : PySem.W.keepIn K (.ref f_Question_init) = true)
    (i_Question_init : PySem.W.isFn K (.ref f_Question_init) = true)
    (a_Question_weight : PySem.W.findIn K (.ref CQ) "weight" = some (some (.ref f_Question_weight)))
    (l_Question_weight : K.lookup f_Question_weight = some ⟨oc_Question_weight, od_Question_weight, .func (PySem.W.fnOf "weight" "Question.weight" (defArgs s_Question_weight) (defBody s_Question_weight) (defScope s_Question_weight) .none kV_Question_weight dc_Question_weight pm_Question_weight an_Question_weight cd_Question_weight ct_Question_weight), sl_Question_weight⟩)
    (c_Question_weight : PySem.W.codeIn K cd_Question_weight "Question.weight" = true)
    (k_Question_weight : PySem.W.keepIn K (.ref f_Question_weight) = true)
    (i_Question_weight : PySem.W.isFn K (.ref f_Question_weight) = true)
    (a_Question_call : PySem.W.findIn K (.ref CQ) "__call__" = some (some (.ref f_Question_call)))
    (l_Question_call : K.lookup f_Question_call = some ⟨oc_Question_call, od_Question_call, .func (PySem.W.fnOf "__call__" "Question.__call__" (defArgs s_Question_call) (defBody s_Question_call) (defScope s_Question_call) .none kV_Question_call dc_Question_call pm_Question_call an_Question_call cd_Question_call ct_Question_call), sl_Question_call⟩)
    (c_Question_call : PySem.W.codeIn K cd_Question_call "Question.__call__" = true)
    (k_Question_call : PySem.W.keepIn K (.ref f_Question_call) = true)
    (i_Question_call : PySem.W.isFn K (.ref f_Question_call) = true)
    (a_Question_add : PySem.W.findIn K (.ref CQ) "__add__" = some (some (.ref f_Question_add)))
    (l_Question_add : K.lookup f_Question_add = some ⟨oc_Question_add, od_Question_add, .func (PySem.W.fnOf "__add__" "Question.__add__" (defArgs s_Question_add) (defBody s_Question_add) (defScope s_Question_add) .none kV_Question_add dc_Question_add pm_Question_add an_Question_add cd_Question_add ct_Question_add), sl_Question_add⟩)
    (c_Question_add : PySem.W.codeIn K cd_Question_add "Question.__add__" = true)
    (k_Question_add : PySem.W.keepIn K (.ref f_Question_add) = true)
    (i_Question_add : PySem.W.isFn K (.ref f_Question_add) = true)
    (a_Question_sub : PySem.W.findIn K (.ref CQ) "__sub__" = some (some (.ref f_Question_sub)))
    (l_Question_sub : K.lookup f_Question_sub = some ⟨oc_Question_sub, od_Question_sub, .func (PySem.W.fnOf "__sub__" "Question.__sub__" (defArgs s_Question_sub) (defBody s_Question_sub) (defScope s_Question_sub) .none kV_Question_sub dc_Question_sub pm_Question_sub an_Question_sub cd_Question_sub ct_Question_sub), sl_Question_sub⟩)
    (c_Question_sub : PySem.W.codeIn K cd_Question_sub "Question.__sub__" = true)
    (k_Question_sub : PySem.W.keepIn K (.ref f_Question_sub) = true)
    (i_Question_sub : PySem.W.isFn K (.ref f_Question_sub) = true)
    (a_Question_mul : PySem.W.findIn K (.ref CQ) "__mul__" = some (some (.ref f_Question_mul)))
    (l_Question_mul : K.lookup f_Question_mul = some ⟨oc_Question_mul, od_Question_mul, .func (PySem.W.fnOf "__mul__" "Question.__mul__" (defArgs s_Question_mul) (defBody s_Question_mul) (defScope s_Question_mul) .none kV_Question_mul dc_Question_mul pm_Question_mul an_Question_mul cd_Question_mul ct_Question_mul), sl_Question_mul⟩)
    (c_Question_mul : PySem.W.codeIn K cd_Question_mul "Question.__mul__" = true)
    (k_Question_mul : PySem.W.keepIn K (.ref f_Question_mul) = true)
    (i_Question_mul : PySem.W.isFn K (.ref f_Question_mul) = true)
    (a_Question_neg : PySem.W.findIn K (.ref CQ) "__neg__" = some (some (.ref f_Question_neg)))
    (l_Question_neg : K.lookup f_Question_neg = some ⟨oc_Question_neg, od_Question_neg, .func (PySem.W.fnOf "__neg__" "Question.__neg__" (defArgs s_Question_neg) (defBody s_Question_neg) (defScope s_Question_neg) .none kV_Question_neg dc_Question_neg pm_Question_neg an_Question_neg cd_Question_neg ct_Question_neg), sl_Question_neg⟩)
    (c_Question_neg : PySem.W.codeIn K cd_Question_neg "Question.__neg__" = true)
    (k_Question_neg : PySem.W.keepIn K (.ref f_Question_neg) = true)
    (i_Question_neg : PySem.W.isFn K (.ref f_Question_neg) = true)
    (a_Question_eq : PySem.W.findIn K (.ref CQ) "__eq__" = some (some (.ref f_Question_eq)))
    (l_Question_eq : K.lookup f_Question_eq = some ⟨oc_Question_eq, od_Question_eq, .func (PySem.W.fnOf "__eq__" "Question.__eq__" (defArgs s_Question_eq) (defBody s_Question_eq) (defScope s_Question_eq) .none kV_Question_eq dc_Question_eq pm_Question_eq an_Question_eq cd_Question_eq ct_Question_eq), sl_Question_eq⟩)
    (c_Question_eq : PySem.W.codeIn K cd_Question_eq "Question.__eq__" = true)
    (k_Question_eq : PySem.W.keepIn K (.ref f_Question_eq) = true)
    (i_Question_eq : PySem.W.isFn K (.ref f_Question_eq) = true)
    (a_law : PySem.W.nsIn K mainGlobals "law" = some (some (.ref f_law)))
    (l_law : K.lookup f_law = some ⟨oc_law, od_law, .func (PySem.W.fnOf "law" "law" (defArgs s_law) (defBody s_law) (defScope s_law) .none kV_law dc_law pm_law an_law cd_law ct_law), sl_law⟩)
    (c_law : PySem.W.codeIn K cd_law "law" = true)
    (k_law : PySem.W.keepIn K (.ref f_law) = true)
    (pgT : PySem.W.plainGet K CT Str.empty = true)
    (hdT : PySem.W.hasDictIn K CT = true)
    (poT : PySem.W.plainOver K CT = true)
    (saT : PySem.W.findIn K (.ref CT) "__setattr__" = some (some (.builtin "object.__setattr__")))
    (mkT : PySem.W.makesIn K CT = true)
    (kcT : PySem.W.keepIn K (.ref CT) = true)
    (nfT : PySem.W.findIn K (.ref CT) "_counts" = some none)
    (haT : PySem.W.findIn K (.ref CT) "__class__" = some (some (.builtin "object.__class__")))
    (hmT : PySem.W.mroIn K CT (.type "object") = some true)
    (pgQ : PySem.W.plainGet K CQ Str.empty = true)
    (hdQ : PySem.W.hasDictIn K CQ = true)
    (poQ : PySem.W.plainOver K CQ = true)
    (saQ : PySem.W.findIn K (.ref CQ) "__setattr__" = some (some (.builtin "object.__setattr__")))
    (mkQ : PySem.W.makesIn K CQ = true)
    (kcQ : PySem.W.keepIn K (.ref CQ) = true)
    (nfQ : PySem.W.findIn K (.ref CQ) "_weights" = some none)
    (haQ : PySem.W.findIn K (.ref CQ) "__class__" = some (some (.builtin "object.__class__")))
    (hmQ : PySem.W.mroIn K CQ (.type "object") = some true)
    (hn : PySem.W.specialIn K (.builtin "object.__class__") "__get__" = some (some (.builtin "getset_descriptor.__get__")))
    (htk : PySem.W.takesIn K (.builtin "object.__class__") = some true)
    (fst : PySem.W.selfFirst K CQ = true)
    (rm : PySem.W.findIn K (.ref CQ) "__rmul__" = some none)
    (im : PySem.W.findIn K (.type "int") "__mul__" = some ci)
    (ir : PySem.W.findIn K (.type "int") "__rmul__" = some cr)
    (su : PySem.W.subIn K (.type "int") (.ref CQ) = some false)
    (fi : PySem.W.fnIn K f_Question_call = true)
    (xL : K.lookup CQ = some (excClassObj nmQ qQ CQ NQ bsQ [.type "object"] hdcQ snQ subQ abQ colQ ddQ k0 k1 k2 k3 k5 nw))
    (nL : K.lookup NQ = some ⟨ocN, odN, .dict es nN, slN⟩)
    (sk : strKeysB es = true)
    (n1 : PySem.W.nsIn K NQ "__eq__" = some (some (.ref f_Question_eq)))
    (n2 : PySem.W.nsIn K NQ "__ne__" = some none)
    (oq : oc_Question_eq = .type "function") :
    ∃ fd : FuncData, (∀ (s : Shared) (v : Value), BindsTo s fd ⟨[v], []⟩ [("_law_script", v)]) ∧ ∀ base : Heap, K.In base → base.Ns mainGlobals mg → FnOk l.prog w K mg base CX0 21 fa fd ["_law_script"] (spLaw K) := by
  have e := hfa.symm.trans (PySem.W.mg_of X G a_law)
  cases e
  have F_is_whole := fun_mk (st := s_is_whole) l_is_whole c_is_whole k_is_whole
  have b_is_whole := F_is_whole.binds (ps := ["value"]) fun _ _ _ _ _ _ us hl => match us, hl with | [_], _ => rfl
  have F_is_below := fun_mk (st := s_is_below) l_is_below c_is_below k_is_below
  have b_is_below := F_is_below.binds (ps := ["size", "value"]) fun _ _ _ _ _ _ us hl => match us, hl with | [_, _], _ => rfl
  have F_check_below := fun_mk (st := s_check_below) l_check_below c_check_below k_check_below
  have b_check_below := F_check_below.binds (ps := ["size", "value"]) fun _ _ _ _ _ _ us hl => match us, hl with | [_, _], _ => rfl
  have F_is_line := fun_mk (st := s_is_line) l_is_line c_is_line k_is_line
  have b_is_line := F_is_line.binds (ps := ["value"]) fun _ _ _ _ _ _ us hl => match us, hl with | [_], _ => rfl
  have F_is_grid := fun_mk (st := s_is_grid) l_is_grid c_is_grid k_is_grid
  have b_is_grid := F_is_grid.binds (ps := ["value"]) fun _ _ _ _ _ _ us hl => match us, hl with | [_], _ => rfl
  have F_grid_sum := fun_mk (st := s_grid_sum) l_grid_sum c_grid_sum k_grid_sum
  have b_grid_sum := F_grid_sum.binds (ps := ["one", "other"]) fun _ _ _ _ _ _ us hl => match us, hl with | [_, _], _ => rfl
  have F_grid_product := fun_mk (st := s_grid_product) l_grid_product c_grid_product k_grid_product
  have b_grid_product := F_grid_product.binds (ps := ["one", "other"]) fun _ _ _ _ _ _ us hl => match us, hl with | [_, _], _ => rfl
  have F_grid_times := fun_mk (st := s_grid_times) l_grid_times c_grid_times k_grid_times
  have b_grid_times := F_grid_times.binds (ps := ["grid", "factor"]) fun _ _ _ _ _ _ us hl => match us, hl with | [_, _], _ => rfl
  have F_is_counts := fun_mk (st := s_is_counts) l_is_counts c_is_counts k_is_counts
  have b_is_counts := F_is_counts.binds (ps := ["value"]) fun _ _ _ _ _ _ us hl => match us, hl with | [_], _ => rfl
  have F_is_table := fun_mk (st := s_is_table) l_is_table c_is_table k_is_table
  have b_is_table := F_is_table.binds (ps := ["left", "right", "value"]) fun _ _ _ _ _ _ us hl => match us, hl with | [_, _, _], _ => rfl
  have F_check_table := fun_mk (st := s_check_table) l_check_table c_check_table k_check_table
  have b_check_table := F_check_table.binds (ps := ["left", "right", "value"]) fun _ _ _ _ _ _ us hl => match us, hl with | [_, _, _], _ => rfl
  have F_check_question := fun_mk (st := s_check_question) l_check_question c_check_question k_check_question
  have b_check_question := F_check_question.binds (ps := ["left", "right", "value"]) fun _ _ _ _ _ _ us hl => match us, hl with | [_, _, _], _ => rfl
  have F_law_numbers := fun_mk (st := s_law_numbers) l_law_numbers c_law_numbers k_law_numbers
  have b_law_numbers := F_law_numbers.binds (ps := ["_law_cell", "_law_salt", "_law_sizes"]) fun _ _ _ _ _ _ us hl => match us, hl with | [_, _, _], _ => rfl
  have F_law_draw := fun_mk (st := s_law_draw) l_law_draw c_law_draw k_law_draw
  have b_law_draw := F_law_draw.binds (ps := ["_law_state", "_law_many"]) fun _ _ _ _ _ _ us hl => match us, hl with | [_, _], _ => rfl
  have F_law_pool := fun_mk (st := s_law_pool) l_law_pool c_law_pool k_law_pool
  have b_law_pool := F_law_pool.binds (ps := ["_law_cell", "_law_salt", "_law_many"]) fun _ _ _ _ _ _ us hl => match us, hl with | [_, _, _], _ => rfl
  have F_law_counts := fun_mk (st := s_law_counts) l_law_counts c_law_counts k_law_counts
  have b_law_counts := F_law_counts.binds (ps := ["_law_state", "_law_left", "_law_right", "_law_most"]) fun _ _ _ _ _ _ us hl => match us, hl with | [_, _, _, _], _ => rfl
  have F_law_weights := fun_mk (st := s_law_weights) l_law_weights c_law_weights k_law_weights
  have b_law_weights := F_law_weights.binds (ps := ["_law_state", "_law_left", "_law_right"]) fun _ _ _ _ _ _ us hl => match us, hl with | [_, _, _], _ => rfl
  have F_Table_counts := fun_mk (st := s_Table_counts) l_Table_counts c_Table_counts k_Table_counts
  have b_Table_counts := F_Table_counts.binds (ps := ["self"]) fun _ _ _ _ _ _ us hl => match us, hl with | [_], _ => rfl
  have F_Table_left := fun_mk (st := s_Table_left) l_Table_left c_Table_left k_Table_left
  have b_Table_left := F_Table_left.binds (ps := ["self"]) fun _ _ _ _ _ _ us hl => match us, hl with | [_], _ => rfl
  have F_Table_right := fun_mk (st := s_Table_right) l_Table_right c_Table_right k_Table_right
  have b_Table_right := F_Table_right.binds (ps := ["self"]) fun _ _ _ _ _ _ us hl => match us, hl with | [_], _ => rfl
  have F_Question_weights := fun_mk (st := s_Question_weights) l_Question_weights c_Question_weights k_Question_weights
  have b_Question_weights := F_Question_weights.binds (ps := ["self"]) fun _ _ _ _ _ _ us hl => match us, hl with | [_], _ => rfl
  have F_Question_left := fun_mk (st := s_Question_left) l_Question_left c_Question_left k_Question_left
  have b_Question_left := F_Question_left.binds (ps := ["self"]) fun _ _ _ _ _ _ us hl => match us, hl with | [_], _ => rfl
  have F_Question_right := fun_mk (st := s_Question_right) l_Question_right c_Question_right k_Question_right
  have b_Question_right := F_Question_right.binds (ps := ["self"]) fun _ _ _ _ _ _ us hl => match us, hl with | [_], _ => rfl
  have F_Table_init := fun_mk (st := s_Table_init) l_Table_init c_Table_init k_Table_init
  have b_Table_init := F_Table_init.binds (ps := ["self", "counts"]) fun _ _ _ _ _ _ us hl => match us, hl with | [_, _], _ => rfl
  have F_Question_init := fun_mk (st := s_Question_init) l_Question_init c_Question_init k_Question_init
  have b_Question_init := F_Question_init.binds (ps := ["self", "weights"]) fun _ _ _ _ _ _ us hl => match us, hl with | [_, _], _ => rfl
  have F_Question_weight := fun_mk (st := s_Question_weight) l_Question_weight c_Question_weight k_Question_weight
  have b_Question_weight := F_Question_weight.binds (ps := ["self", "left", "right"]) fun _ _ _ _ _ _ us hl => match us, hl with | [_, _, _], _ => rfl
  have F_Question_call := fun_mk (st := s_Question_call) l_Question_call c_Question_call k_Question_call
  have b_Question_call := F_Question_call.binds (ps := ["self", "table"]) fun _ _ _ _ _ _ us hl => match us, hl with | [_, _], _ => rfl
  have F_Question_add := fun_mk (st := s_Question_add) l_Question_add c_Question_add k_Question_add
  have b_Question_add := F_Question_add.binds (ps := ["self", "other"]) fun _ _ _ _ _ _ us hl => match us, hl with | [_, _], _ => rfl
  have F_Question_sub := fun_mk (st := s_Question_sub) l_Question_sub c_Question_sub k_Question_sub
  have b_Question_sub := F_Question_sub.binds (ps := ["self", "other"]) fun _ _ _ _ _ _ us hl => match us, hl with | [_, _], _ => rfl
  have F_Question_mul := fun_mk (st := s_Question_mul) l_Question_mul c_Question_mul k_Question_mul
  have b_Question_mul := F_Question_mul.binds (ps := ["self", "other"]) fun _ _ _ _ _ _ us hl => match us, hl with | [_, _], _ => rfl
  have F_Question_neg := fun_mk (st := s_Question_neg) l_Question_neg c_Question_neg k_Question_neg
  have b_Question_neg := F_Question_neg.binds (ps := ["self"]) fun _ _ _ _ _ _ us hl => match us, hl with | [_], _ => rfl
  have F_Question_eq := fun_mk (st := s_Question_eq) l_Question_eq c_Question_eq k_Question_eq
  have b_Question_eq := F_Question_eq.binds (ps := ["self", "other"]) fun _ _ _ _ _ _ us hl => match us, hl with | [_, _], _ => rfl
  have F_law := fun_mk (st := s_law) l_law c_law k_law
  have b_law := F_law.binds (ps := ["_law_script"]) fun _ _ _ _ _ _ us hl => match us, hl with | [_], _ => rfl
  have t : Tx K mg tk { f_is_whole := f_is_whole, d_is_whole := PySem.W.fnOf "is_whole" "is_whole" (defArgs s_is_whole) (defBody s_is_whole) (defScope s_is_whole) .none kV_is_whole dc_is_whole pm_is_whole an_is_whole cd_is_whole ct_is_whole, f_is_below := f_is_below, d_is_below := PySem.W.fnOf "is_below" "is_below" (defArgs s_is_below) (defBody s_is_below) (defScope s_is_below) .none kV_is_below dc_is_below pm_is_below an_is_below cd_is_below ct_is_below, f_check_below := f_check_below, d_check_below := PySem.W.fnOf "check_below" "check_below" (defArgs s_check_below) (defBody s_check_below) (defScope s_check_below) .none kV_check_below dc_check_below pm_check_below an_check_below cd_check_below ct_check_below, f_is_line := f_is_line, d_is_line := PySem.W.fnOf "is_line" "is_line" (defArgs s_is_line) (defBody s_is_line) (defScope s_is_line) .none kV_is_line dc_is_line pm_is_line an_is_line cd_is_line ct_is_line, f_is_grid := f_is_grid, d_is_grid := PySem.W.fnOf "is_grid" "is_grid" (defArgs s_is_grid) (defBody s_is_grid) (defScope s_is_grid) .none kV_is_grid dc_is_grid pm_is_grid an_is_grid cd_is_grid ct_is_grid, f_grid_sum := f_grid_sum, d_grid_sum := PySem.W.fnOf "grid_sum" "grid_sum" (defArgs s_grid_sum) (defBody s_grid_sum) (defScope s_grid_sum) .none kV_grid_sum dc_grid_sum pm_grid_sum an_grid_sum cd_grid_sum ct_grid_sum, f_grid_product := f_grid_product, d_grid_product := PySem.W.fnOf "grid_product" "grid_product" (defArgs s_grid_product) (defBody s_grid_product) (defScope s_grid_product) .none kV_grid_product dc_grid_product pm_grid_product an_grid_product cd_grid_product ct_grid_product, f_grid_times := f_grid_times, d_grid_times := PySem.W.fnOf "grid_times" "grid_times" (defArgs s_grid_times) (defBody s_grid_times) (defScope s_grid_times) .none kV_grid_times dc_grid_times pm_grid_times an_grid_times cd_grid_times ct_grid_times, f_is_counts := f_is_counts, d_is_counts := PySem.W.fnOf "is_counts" "is_counts" (defArgs s_is_counts) (defBody s_is_counts) (defScope s_is_counts) .none kV_is_counts dc_is_counts pm_is_counts an_is_counts cd_is_counts ct_is_counts, f_is_table := f_is_table, d_is_table := PySem.W.fnOf "is_table" "is_table" (defArgs s_is_table) (defBody s_is_table) (defScope s_is_table) .none kV_is_table dc_is_table pm_is_table an_is_table cd_is_table ct_is_table, f_check_table := f_check_table, d_check_table := PySem.W.fnOf "check_table" "check_table" (defArgs s_check_table) (defBody s_check_table) (defScope s_check_table) .none kV_check_table dc_check_table pm_check_table an_check_table cd_check_table ct_check_table, f_check_question := f_check_question, d_check_question := PySem.W.fnOf "check_question" "check_question" (defArgs s_check_question) (defBody s_check_question) (defScope s_check_question) .none kV_check_question dc_check_question pm_check_question an_check_question cd_check_question ct_check_question, f_law_numbers := f_law_numbers, d_law_numbers := PySem.W.fnOf "_law_numbers" "_law_numbers" (defArgs s_law_numbers) (defBody s_law_numbers) (defScope s_law_numbers) .none kV_law_numbers dc_law_numbers pm_law_numbers an_law_numbers cd_law_numbers ct_law_numbers, f_law_draw := f_law_draw, d_law_draw := PySem.W.fnOf "_law_draw" "_law_draw" (defArgs s_law_draw) (defBody s_law_draw) (defScope s_law_draw) .none kV_law_draw dc_law_draw pm_law_draw an_law_draw cd_law_draw ct_law_draw, f_law_pool := f_law_pool, d_law_pool := PySem.W.fnOf "_law_pool" "_law_pool" (defArgs s_law_pool) (defBody s_law_pool) (defScope s_law_pool) .none kV_law_pool dc_law_pool pm_law_pool an_law_pool cd_law_pool ct_law_pool, f_law_counts := f_law_counts, d_law_counts := PySem.W.fnOf "_law_counts" "_law_counts" (defArgs s_law_counts) (defBody s_law_counts) (defScope s_law_counts) .none kV_law_counts dc_law_counts pm_law_counts an_law_counts cd_law_counts ct_law_counts, f_law_weights := f_law_weights, d_law_weights := PySem.W.fnOf "_law_weights" "_law_weights" (defArgs s_law_weights) (defBody s_law_weights) (defScope s_law_weights) .none kV_law_weights dc_law_weights pm_law_weights an_law_weights cd_law_weights ct_law_weights, f_Table_counts := f_Table_counts, d_Table_counts := PySem.W.fnOf "counts" "Table.counts" (defArgs s_Table_counts) (defBody s_Table_counts) (defScope s_Table_counts) .none kV_Table_counts dc_Table_counts pm_Table_counts an_Table_counts cd_Table_counts ct_Table_counts, p_Table_counts := p_Table_counts, f_Table_left := f_Table_left, d_Table_left := PySem.W.fnOf "left" "Table.left" (defArgs s_Table_left) (defBody s_Table_left) (defScope s_Table_left) .none kV_Table_left dc_Table_left pm_Table_left an_Table_left cd_Table_left ct_Table_left, p_Table_left := p_Table_left, f_Table_right := f_Table_right, d_Table_right := PySem.W.fnOf "right" "Table.right" (defArgs s_Table_right) (defBody s_Table_right) (defScope s_Table_right) .none kV_Table_right dc_Table_right pm_Table_right an_Table_right cd_Table_right ct_Table_right, p_Table_right := p_Table_right, f_Question_weights := f_Question_weights, d_Question_weights := PySem.W.fnOf "weights" "Question.weights" (defArgs s_Question_weights) (defBody s_Question_weights) (defScope s_Question_weights) .none kV_Question_weights dc_Question_weights pm_Question_weights an_Question_weights cd_Question_weights ct_Question_weights, p_Question_weights := p_Question_weights, f_Question_left := f_Question_left, d_Question_left := PySem.W.fnOf "left" "Question.left" (defArgs s_Question_left) (defBody s_Question_left) (defScope s_Question_left) .none kV_Question_left dc_Question_left pm_Question_left an_Question_left cd_Question_left ct_Question_left, p_Question_left := p_Question_left, f_Question_right := f_Question_right, d_Question_right := PySem.W.fnOf "right" "Question.right" (defArgs s_Question_right) (defBody s_Question_right) (defScope s_Question_right) .none kV_Question_right dc_Question_right pm_Question_right an_Question_right cd_Question_right ct_Question_right, p_Question_right := p_Question_right, f_Table_init := f_Table_init, d_Table_init := PySem.W.fnOf "__init__" "Table.__init__" (defArgs s_Table_init) (defBody s_Table_init) (defScope s_Table_init) .none kV_Table_init dc_Table_init pm_Table_init an_Table_init cd_Table_init ct_Table_init, f_Question_init := f_Question_init, d_Question_init := PySem.W.fnOf "__init__" "Question.__init__" (defArgs s_Question_init) (defBody s_Question_init) (defScope s_Question_init) .none kV_Question_init dc_Question_init pm_Question_init an_Question_init cd_Question_init ct_Question_init, f_Question_weight := f_Question_weight, d_Question_weight := PySem.W.fnOf "weight" "Question.weight" (defArgs s_Question_weight) (defBody s_Question_weight) (defScope s_Question_weight) .none kV_Question_weight dc_Question_weight pm_Question_weight an_Question_weight cd_Question_weight ct_Question_weight, f_Question_call := f_Question_call, d_Question_call := PySem.W.fnOf "__call__" "Question.__call__" (defArgs s_Question_call) (defBody s_Question_call) (defScope s_Question_call) .none kV_Question_call dc_Question_call pm_Question_call an_Question_call cd_Question_call ct_Question_call, f_Question_add := f_Question_add, d_Question_add := PySem.W.fnOf "__add__" "Question.__add__" (defArgs s_Question_add) (defBody s_Question_add) (defScope s_Question_add) .none kV_Question_add dc_Question_add pm_Question_add an_Question_add cd_Question_add ct_Question_add, f_Question_sub := f_Question_sub, d_Question_sub := PySem.W.fnOf "__sub__" "Question.__sub__" (defArgs s_Question_sub) (defBody s_Question_sub) (defScope s_Question_sub) .none kV_Question_sub dc_Question_sub pm_Question_sub an_Question_sub cd_Question_sub ct_Question_sub, f_Question_mul := f_Question_mul, d_Question_mul := PySem.W.fnOf "__mul__" "Question.__mul__" (defArgs s_Question_mul) (defBody s_Question_mul) (defScope s_Question_mul) .none kV_Question_mul dc_Question_mul pm_Question_mul an_Question_mul cd_Question_mul ct_Question_mul, f_Question_neg := f_Question_neg, d_Question_neg := PySem.W.fnOf "__neg__" "Question.__neg__" (defArgs s_Question_neg) (defBody s_Question_neg) (defScope s_Question_neg) .none kV_Question_neg dc_Question_neg pm_Question_neg an_Question_neg cd_Question_neg ct_Question_neg, f_Question_eq := f_Question_eq, d_Question_eq := PySem.W.fnOf "__eq__" "Question.__eq__" (defArgs s_Question_eq) (defBody s_Question_eq) (defScope s_Question_eq) .none kV_Question_eq dc_Question_eq pm_Question_eq an_Question_eq cd_Question_eq ct_Question_eq, cT := CT, cQ := CQ, cf := none, ci := ci, cr := cr } :=
    { T := { n_isinstance := PySem.W.mg_none_of X G z_isinstance, n_int := PySem.W.mg_none_of X G z_int, n_bool := PySem.W.mg_none_of X G z_bool, n_tuple := PySem.W.mg_none_of X G z_tuple, n_len := PySem.W.mg_none_of X G z_len, n_all := PySem.W.mg_none_of X G z_all, n_sum := PySem.W.mg_none_of X G z_sum, n_zip := PySem.W.mg_none_of X G z_zip, n_range := PySem.W.mg_none_of X G z_range, n_enumerate := PySem.W.mg_none_of X G z_enumerate, n_max := PySem.W.mg_none_of X G z_max, c_MOST_VALUES := PySem.W.mg_of X G z_MV },
      BTable := { cl := ⟨pgT, hdT, poT, saT⟩, nF := nfT, gC := PySem.W.mg_of X G aT, mkc := ⟨mkT, a_Table_init, i_Table_init, kcT⟩, ha := haT, hn := hn, htk := htk, hm := hmT },
      BQuestion := { cl := ⟨pgQ, hdQ, poQ, saQ⟩, nF := nfQ, gC := PySem.W.mg_of X G aQ, mkc := ⟨mkQ, a_Question_init, i_Question_init, kcQ⟩, ha := haQ, hn := hn, htk := htk, hm := hmQ },
      D_is_whole := ⟨F_is_whole, b_is_whole, PySem.W.mg_of X G a_is_whole⟩,
      D_is_below := ⟨F_is_below, b_is_below, PySem.W.mg_of X G a_is_below⟩,
      D_check_below := ⟨F_check_below, b_check_below, PySem.W.mg_of X G a_check_below⟩,
      D_is_line := ⟨F_is_line, b_is_line, PySem.W.mg_of X G a_is_line⟩,
      D_is_grid := ⟨F_is_grid, b_is_grid, PySem.W.mg_of X G a_is_grid⟩,
      D_grid_sum := ⟨F_grid_sum, b_grid_sum, PySem.W.mg_of X G a_grid_sum⟩,
      D_grid_product := ⟨F_grid_product, b_grid_product, PySem.W.mg_of X G a_grid_product⟩,
      D_grid_times := ⟨F_grid_times, b_grid_times, PySem.W.mg_of X G a_grid_times⟩,
      D_is_counts := ⟨F_is_counts, b_is_counts, PySem.W.mg_of X G a_is_counts⟩,
      D_is_table := ⟨F_is_table, b_is_table, PySem.W.mg_of X G a_is_table⟩,
      D_check_table := ⟨F_check_table, b_check_table, PySem.W.mg_of X G a_check_table⟩,
      D_check_question := ⟨F_check_question, b_check_question, PySem.W.mg_of X G a_check_question⟩,
      D__law_numbers := ⟨F_law_numbers, b_law_numbers, PySem.W.mg_of X G a_law_numbers⟩,
      D__law_draw := ⟨F_law_draw, b_law_draw, PySem.W.mg_of X G a_law_draw⟩,
      D__law_pool := ⟨F_law_pool, b_law_pool, PySem.W.mg_of X G a_law_pool⟩,
      D__law_counts := ⟨F_law_counts, b_law_counts, PySem.W.mg_of X G a_law_counts⟩,
      D__law_weights := ⟨F_law_weights, b_law_weights, PySem.W.mg_of X G a_law_weights⟩,
      P_Table_counts := ⟨F_Table_counts, b_Table_counts, ⟨a_Table_counts, g_Table_counts, t_Table_counts, ⟨_, r1_Table_counts⟩⟩⟩,
      P_Table_left := ⟨F_Table_left, b_Table_left, ⟨a_Table_left, g_Table_left, t_Table_left, ⟨_, r1_Table_left⟩⟩⟩,
      P_Table_right := ⟨F_Table_right, b_Table_right, ⟨a_Table_right, g_Table_right, t_Table_right, ⟨_, r1_Table_right⟩⟩⟩,
      P_Question_weights := ⟨F_Question_weights, b_Question_weights, ⟨a_Question_weights, g_Question_weights, t_Question_weights, ⟨_, r1_Question_weights⟩⟩⟩,
      P_Question_left := ⟨F_Question_left, b_Question_left, ⟨a_Question_left, g_Question_left, t_Question_left, ⟨_, r1_Question_left⟩⟩⟩,
      P_Question_right := ⟨F_Question_right, b_Question_right, ⟨a_Question_right, g_Question_right, t_Question_right, ⟨_, r1_Question_right⟩⟩⟩,
      M_Table_init := ⟨F_Table_init, b_Table_init⟩,
      M_Question_init := ⟨F_Question_init, b_Question_init⟩,
      M_Question_weight := ⟨F_Question_weight, b_Question_weight⟩,
      M_Question_call := ⟨F_Question_call, b_Question_call⟩,
      M_Question_add := ⟨F_Question_add, b_Question_add⟩,
      M_Question_sub := ⟨F_Question_sub, b_Question_sub⟩,
      M_Question_mul := ⟨F_Question_mul, b_Question_mul⟩,
      M_Question_neg := ⟨F_Question_neg, b_Question_neg⟩,
      M_Question_eq := ⟨F_Question_eq, b_Question_eq⟩,
      first := fst,
      i_add := a_Question_add, n_add := i_Question_add,
      i_sub := a_Question_sub, n_sub := i_Question_sub,
      i_mul := a_Question_mul, n_mul := i_Question_mul,
      i_neg := a_Question_neg, n_neg := i_Question_neg,
      i_eq := a_Question_eq, n_eq := i_Question_eq,
      rm := rm, im := im, ir := ir, su := su,
      ne := ⟨nmQ, qQ, NQ, bsQ, hdcQ, snQ, subQ, abQ, colQ, ddQ, k0, k1, k2, k3, k5, nw, ocN, odN, es, nN, slN, _, xL, nL, strKeys_of sk, nsFind_of nL n1, nsFind_of nL n2, l_Question_eq, oq⟩,
      co := ⟨a_Question_call, i_Question_call, fi⟩, mw := ⟨a_Question_weight, i_Question_weight, k_Question_weight⟩ }
  exact ⟨_, fun s v => .of_eq rfl, fun base _ _ => ok_law t ⟨F_law, b_law, hfa⟩⟩
theorem walk {l : PySem.W.OpenLaw} {q : Program} {loose : List Str} {XP : (Str → Option Value) → Heap → Prop} {YP : World → Heap → Prop} {d : DefRec} {K : Params → PySem.W.Frag} (hn : l.most = some 63) (hdf : d.params.defaults = [])
    (hY : ∀ (w : World) (h : Heap), YP w h → (K w.params).In h)
    (F : ∀ (w : World) (mg : Str → Option Value) (fa : Addr) (h : Heap), (K w.params).In h → h.Ns mainGlobals mg → mg d.name = some (.ref fa) →
      ∃ fd : FuncData, (∀ (s : Shared) (u : Value), BindsTo s fd ⟨[u], []⟩ [("_law_script", u)]) ∧ ∀ base : Heap, (K w.params).In base → base.Ns mainGlobals mg → FnOk l.prog w (K w.params) mg base CX0 21 fa fd ["_law_script"] (spLaw (K w.params))) :
    PySem.W.WalkO q loose XP YP l.row.toRowW d [] (fun f vs => PySem.call f vs) :=
  L2.walk_ofK (n := 63) (k := 21) (x := "_law_script") (CX := CX0) (sp := spLaw) hn (by decide) hdf ⟨rfl, by decide, by decide⟩ hY F (fun K H a ns hl _ hS => ⟨a, ns, rfl, hS, hl, fun _ => rfl⟩) fun _ _ _ _ z => z
end K26
open PySem PySem.W PyProof.Rows
set_option maxRecDepth 100000 in
set_option maxHeartbeats 0 in
theorem PySem.Challenge.cw_surecounts_k26_question_sums_holds : PySem.Challenge.rw_surecounts_k26_question_sums.Holds := by
  w_on; o_law; k_head; (case hw => w_witness2)
  k_fill
  refine K26.walk (l := PySem.Challenge.rw_surecounts_k26_question_sums) rfl rfl (fun w h Y => PySem.W.kIn_of Y) ?F
  case F =>
    intro w mg fa h KX G hmg
    refine' K26.all_mk KX G hmg ?aT ?aQ ?z_isinstance ?z_int ?z_bool ?z_tuple ?z_len ?z_all ?z_sum ?z_zip ?z_range ?z_enumerate ?z_max ?z_MV ?a_is_whole ?l_is_whole ?c_is_whole ?k_is_whole ?a_is_below ?l_is_below ?c_is_below ?k_is_below ?a_check_below ?l_check_below ?c_check_below ?k_check_below ?a_is_line ?l_is_line ?c_is_line ?k_is_line ?a_is_grid ?l_is_grid ?c_is_grid ?k_is_grid ?a_grid_sum ?l_grid_sum ?c_grid_sum ?k_grid_sum ?a_grid_product ?l_grid_product ?c_grid_product ?k_grid_product ?a_grid_times ?l_grid_times ?c_grid_times ?k_grid_times ?a_is_counts ?l_is_counts ?c_is_counts ?k_is_counts ?a_is_table ?l_is_table ?c_is_table ?k_is_table ?a_check_table ?l_check_table ?c_check_table ?k_check_table ?a_check_question ?l_check_question ?c_check_question ?k_check_question ?a_law_numbers ?l_law_numbers ?c_law_numbers ?k_law_numbers ?a_law_draw ?l_law_draw ?c_law_draw ?k_law_draw ?a_law_pool ?l_law_pool ?c_law_pool ?k_law_pool ?a_law_counts ?l_law_counts ?c_law_counts ?k_law_counts ?a_law_weights ?l_law_weights ?c_law_weights ?k_law_weights ?a_Table_counts ?r1_Table_counts ?g_Table_counts ?t_Table_counts ?l_Table_counts ?c_Table_counts ?k_Table_counts ?a_Table_left ?r1_Table_left ?g_Table_left ?t_Table_left ?l_Table_left ?c_Table_left ?k_Table_left ?a_Table_right ?r1_Table_right ?g_Table_right ?t_Table_right ?l_Table_right ?c_Table_right ?k_Table_right ?a_Question_weights ?r1_Question_weights ?g_Question_weights ?t_Question_weights ?l_Question_weights ?c_Question_weights ?k_Question_weights ?a_Question_left ?r1_Question_left ?g_Question_left ?t_Question_left ?l_Question_left ?c_Question_left ?k_Question_left ?a_Question_right ?r1_Question_right ?g_Question_right ?t_Question_right ?l_Question_right ?c_Question_right ?k_Question_right ?a_Table_init ?l_Table_init ?c_Table_init ?k_Table_init ?i_Table_init ?a_Question_init ?l_Question_init ?c_Question_init ?k_Question_init ?i_Question_init ?a_Question_weight ?l_Question_weight ?c_Question_weight ?k_Question_weight ?i_Question_weight ?a_Question_call ?l_Question_call ?c_Question_call ?k_Question_call ?i_Question_call ?a_Question_add ?l_Question_add ?c_Question_add ?k_Question_add ?i_Question_add ?a_Question_sub ?l_Question_sub ?c_Question_sub ?k_Question_sub ?i_Question_sub ?a_Question_mul ?l_Question_mul ?c_Question_mul ?k_Question_mul ?i_Question_mul ?a_Question_neg ?l_Question_neg ?c_Question_neg ?k_Question_neg ?i_Question_neg ?a_Question_eq ?l_Question_eq ?c_Question_eq ?k_Question_eq ?i_Question_eq ?a_law ?l_law ?c_law ?k_law ?pgT ?hdT ?poT ?saT ?mkT ?kcT ?nfT ?haT ?hmT ?pgQ ?hdQ ?poQ ?saQ ?mkQ ?kcQ ?nfQ ?haQ ?hmQ ?hn ?htk ?fst ?rm ?im ?ir ?su ?fi ?xL ?nL ?sk ?n1 ?n2 ?oq
    (case aT => k_is)
    (case aQ => k_is)
    (case z_isinstance => k_is)
    (case z_int => k_is)
    (case z_bool => k_is)
    (case z_tuple => k_is)
    (case z_len => k_is)
    (case z_all => k_is)
    (case z_sum => k_is)
    (case z_zip => k_is)
    (case z_range => k_is)
    (case z_enumerate => k_is)
    (case z_max => k_is)
    (case z_MV => k_is)
    (case a_is_whole => k_is)
    (case l_is_whole => k_is)
    (case c_is_whole => k_is)
    (case k_is_whole => k_is)
    (case a_is_below => k_is)
    (case l_is_below => k_is)
    (case c_is_below => k_is)
    (case k_is_below => k_is)
    (case a_check_below => k_is)
    (case l_check_below => k_is)
    (case c_check_below => k_is)
    (case k_check_below => k_is)
    (case a_is_line => k_is)
    (case l_is_line => k_is)
    (case c_is_line => k_is)
    (case k_is_line => k_is)
    (case a_is_grid => k_is)
    (case l_is_grid => k_is)
    (case c_is_grid => k_is)
    (case k_is_grid => k_is)
    (case a_grid_sum => k_is)
    (case l_grid_sum => k_is)
    (case c_grid_sum => k_is)
    (case k_grid_sum => k_is)
    (case a_grid_product => k_is)
    (case l_grid_product => k_is)
    (case c_grid_product => k_is)
    (case k_grid_product => k_is)
    (case a_grid_times => k_is)
    (case l_grid_times => k_is)
    (case c_grid_times => k_is)
    (case k_grid_times => k_is)
    (case a_is_counts => k_is)
    (case l_is_counts => k_is)
    (case c_is_counts => k_is)
    (case k_is_counts => k_is)
    (case a_is_table => k_is)
    (case l_is_table => k_is)
    (case c_is_table => k_is)
    (case k_is_table => k_is)
    (case a_check_table => k_is)
    (case l_check_table => k_is)
    (case c_check_table => k_is)
    (case k_check_table => k_is)
    (case a_check_question => k_is)
    (case l_check_question => k_is)
    (case c_check_question => k_is)
    (case k_check_question => k_is)
    (case a_law_numbers => k_is)
    (case l_law_numbers => k_is)
    (case c_law_numbers => k_is)
    (case k_law_numbers => k_is)
    (case a_law_draw => k_is)
    (case l_law_draw => k_is)
    (case c_law_draw => k_is)
    (case k_law_draw => k_is)
    (case a_law_pool => k_is)
    (case l_law_pool => k_is)
    (case c_law_pool => k_is)
    (case k_law_pool => k_is)
    (case a_law_counts => k_is)
    (case l_law_counts => k_is)
    (case c_law_counts => k_is)
    (case k_law_counts => k_is)
    (case a_law_weights => k_is)
    (case l_law_weights => k_is)
    (case c_law_weights => k_is)
    (case k_law_weights => k_is)
    (case a_Table_counts => k_is)
    (case r1_Table_counts => k_is)
    (case g_Table_counts => k_is)
    (case t_Table_counts => k_is)
    (case l_Table_counts => k_is)
    (case c_Table_counts => k_is)
    (case k_Table_counts => k_is)
    (case a_Table_left => k_is)
    (case r1_Table_left => k_is)
    (case g_Table_left => k_is)
    (case t_Table_left => k_is)
    (case l_Table_left => k_is)
    (case c_Table_left => k_is)
    (case k_Table_left => k_is)
    (case a_Table_right => k_is)
    (case r1_Table_right => k_is)
    (case g_Table_right => k_is)
    (case t_Table_right => k_is)
    (case l_Table_right => k_is)
    (case c_Table_right => k_is)
    (case k_Table_right => k_is)
    (case a_Question_weights => k_is)
    (case r1_Question_weights => k_is)
    (case g_Question_weights => k_is)
    (case t_Question_weights => k_is)
    (case l_Question_weights => k_is)
    (case c_Question_weights => k_is)
    (case k_Question_weights => k_is)
    (case a_Question_left => k_is)
    (case r1_Question_left => k_is)
    (case g_Question_left => k_is)
    (case t_Question_left => k_is)
    (case l_Question_left => k_is)
    (case c_Question_left => k_is)
    (case k_Question_left => k_is)
    (case a_Question_right => k_is)
    (case r1_Question_right => k_is)
    (case g_Question_right => k_is)
    (case t_Question_right => k_is)
    (case l_Question_right => k_is)
    (case c_Question_right => k_is)
    (case k_Question_right => k_is)
    (case a_Table_init => k_is)
    (case l_Table_init => k_is)
    (case c_Table_init => k_is)
    (case k_Table_init => k_is)
    (case i_Table_init => k_is)
    (case a_Question_init => k_is)
    (case l_Question_init => k_is)
    (case c_Question_init => k_is)
    (case k_Question_init => k_is)
    (case i_Question_init => k_is)
    (case a_Question_weight => k_is)
    (case l_Question_weight => k_is)
    (case c_Question_weight => k_is)
    (case k_Question_weight => k_is)
    (case i_Question_weight => k_is)
    (case a_Question_call => k_is)
    (case l_Question_call => k_is)
    (case c_Question_call => k_is)
    (case k_Question_call => k_is)
    (case i_Question_call => k_is)
    (case a_Question_add => k_is)
    (case l_Question_add => k_is)
    (case c_Question_add => k_is)
    (case k_Question_add => k_is)
    (case i_Question_add => k_is)
    (case a_Question_sub => k_is)
    (case l_Question_sub => k_is)
    (case c_Question_sub => k_is)
    (case k_Question_sub => k_is)
    (case i_Question_sub => k_is)
    (case a_Question_mul => k_is)
    (case l_Question_mul => k_is)
    (case c_Question_mul => k_is)
    (case k_Question_mul => k_is)
    (case i_Question_mul => k_is)
    (case a_Question_neg => k_is)
    (case l_Question_neg => k_is)
    (case c_Question_neg => k_is)
    (case k_Question_neg => k_is)
    (case i_Question_neg => k_is)
    (case a_Question_eq => k_is)
    (case l_Question_eq => k_is)
    (case c_Question_eq => k_is)
    (case k_Question_eq => k_is)
    (case i_Question_eq => k_is)
    (case a_law => k_is)
    (case l_law => k_is)
    (case c_law => k_is)
    (case k_law => k_is)
    (case pgT => k_is)
    (case hdT => k_is)
    (case poT => k_is)
    (case saT => k_is)
    (case mkT => k_is)
    (case kcT => k_is)
    (case nfT => k_is)
    (case haT => k_is)
    (case hmT => k_is)
    (case pgQ => k_is)
    (case hdQ => k_is)
    (case poQ => k_is)
    (case saQ => k_is)
    (case mkQ => k_is)
    (case kcQ => k_is)
    (case nfQ => k_is)
    (case haQ => k_is)
    (case hmQ => k_is)
    (case hn => k_is)
    (case htk => k_is)
    (case fst => k_is)
    (case rm => k_is)
    (case im => first | rfl | k_is)
    (case ir => first | rfl | k_is)
    (case su => k_is)
    (case fi => k_is)
    (case xL => k_is)
    (case nL => k_is)
    (case sk => first | rfl | decide +kernel)
    (case n1 => k_is)
    (case n2 => k_is)
    (case oq => first | rfl | k_is)
