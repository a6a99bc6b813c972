import PyProof.Rows.All
import Wide.All
import OpenK.AllK
import Wide.FinOn
import PyProof.EqAt
import PyProof.EqKinds
import PyProof.TupleCall
import PyProof.InstNe
import KE.KOpsOwn
import PySem.Challenge.RW_surecounts_k02_tables
import HandS.ForMost
import HandS.Zip
import HandS.Conv
import HandS.IsInst
import HandS.Property
import HandS.OwnEq
import HandS.Star
import HandS.Evl
import KE.KTupSum
import PyProof.StrBlock2
set_option Elab.async false
set_option linter.all false
set_option maxRecDepth 100000
set_option maxHeartbeats 2100000
namespace Ow
open PySem L2 PySem.Spec PyProof.Rows

theorem notImp {z : V} {w : Value} {Q : Value → Shared → Prop} {s : Shared} (r : RelV z w) (h : Q w s) : PySem.W.CmpBack Q w s := by
  cases z with
  | non => cases (show w = Value.none from r); exact h
  | bl b => cases (show w = Value.bool b from r); exact h
  | int i => obtain ⟨t, e⟩ := (show ∃ t, w = Value.int i t from r); cases e; exact h
  | str x => obtain ⟨t, e⟩ := (show ∃ t, w = Value.str x t from r); cases e; exact h
  | byt b => obtain ⟨t, e⟩ := (show ∃ t, w = Value.bytes b t from r); cases e; exact h
  | flt b => obtain ⟨t, e⟩ := (show ∃ t, w = Value.float b t from r); cases e; exact h
  | ref a => cases (show w = Value.ref a from r); exact h
  | ty n => cases (show w = Value.type n from r); exact h

section
variable {X : Cx} {CX : CXT} {n : Nat} {C f : Addr} {fd : FuncData} {ps : List Str} {sp : Sp} {E : XK}
/-- a def is called by the machine with values that are known -/
theorem own_call {pins : List (Addr × Obj)} {σ : L2.St} {H : Hp} {s : Shared} {vs : List V} {us : List Value} {Q : VK} {R : Value → Shared → Prop} (F : FnOk X.prog X.w X.K X.mg X.base CX n f fd ps sp) (hb : Binds X.K fd ps []) (hr : Room n X.A) (hx : Passes CX X E)
    (I : Inv X pins σ H s) (r : Vals vs us) (h : sp vs H Q E) (hR : ∀ z w H' s', Inv X pins σ H' s' → RelV z w → Q z H' → R w s') :
    wpAny (model X.prog X.w) X.A (call (.ref f) us) R X.xe s := by
  have hl := F.len _ _ _ _ h
  refine wpAny_call (codeAny_mono (F.run X.A X.stack s H ⟨us, []⟩ us vs Q E hr I.env0 (by
    have := hb s us I.kIn (by simpa [r.length] using hl)
    simpa using this) r h) fun r s' hq => ?_)
  cases r with
  | error er => exact hx pins σ H s er s' I hq
  | ok fl =>
    cases fl with
    | ret w =>
      obtain ⟨z, H', I', rz, q⟩ := I.after hq
      exact hR z w H' s' I' rz q
    | next => exact False.elim hq
    | brk => exact False.elim hq
    | cont => exact False.elim hq

/-- x op y: two instances of the class at C, the class's own def -/
def rOwnB (C : Addr) (sp : Sp) (E : XK) : R2 := fun x y H Q => ∃ a b dx dy fs gs, x = .ref a ∧ y = .ref b ∧ H a = some (.ins C dx fs) ∧ H b = some (.ins C dy gs) ∧ sp [x, y] H Q E
theorem op_own {op : Operator} (F : FnOk X.prog X.w X.K X.mg X.base CX n f fd ps sp) (hc : PySem.W.selfFirst X.K C = true) (hs : PySem.W.findIn X.K (.ref C) (PySem.dunder op.info.2) = some (some (.ref f))) (hf : PySem.W.isFn X.K (.ref f) = true)
    (hb : Binds X.K fd ps []) (hr : Room n X.A) (hx : Passes CX X E) : OpR X (binaryOp op) (rOwnB C sp E) := by
  intro pins s σ H x y v u Q I rx ry hq; obtain ⟨a, b, dx, dy, fs, gs, rfl, rfl, ha, hb', q⟩ := hq
  cases rx
  cases ry
  obtain ⟨mA, J0, _⟩ := ins_get I.hok ha; obtain ⟨mB, J1, _⟩ := ins_get I.hok hb'
  obtain ⟨od, J, _⟩ := J0.look; obtain ⟨od', J', _⟩ := J1.look
  obtain ⟨m, hF⟩ := I.fr
  refine PySem.W.binop_K hF I.ok.mod.kin J J'.type hc hs hf ?_
  exact own_call (vs := [.ref a, .ref b]) F hb hr hx I (.cons rfl (.cons rfl .nil)) q fun z w H' s' I' rz qz => notImp rz ⟨z, H', I', rz, qz⟩

/-- x op k, k an int -/
def rOwnI (C : Addr) (sp : Sp) (E : XK) : R2 := fun x y H Q => ∃ a dx fs i, x = .ref a ∧ y = .int i ∧ H a = some (.ins C dx fs) ∧ sp [x, y] H Q E
theorem op_ownI {op : Operator} {fo ro rc : Option Value} (F : FnOk X.prog X.w X.K X.mg X.base CX n f fd ps sp) (hc : PySem.W.selfFirst X.K C = true) (hs : PySem.W.findIn X.K (.ref C) (PySem.dunder op.info.2) = some (some (.ref f))) (hf : PySem.W.isFn X.K (.ref f) = true)
    (hrr : PySem.W.findIn X.K (.ref C) (PySem.dunderR op.info.2) = some rc) (hp : rc = none ∨ ∃ g : Addr, rc = some (.ref g)) (h1 : PySem.W.findIn X.K (.type "int") (PySem.dunder op.info.2) = some fo) (h2 : PySem.W.findIn X.K (.type "int") (PySem.dunderR op.info.2) = some ro)
    (hsub : PySem.W.subIn X.K (.type "int") (.ref C) = some false)
    (hb : Binds X.K fd ps []) (hr : Room n X.A) (hx : Passes CX X E) : OpR X (binaryOp op) (rOwnI C sp E) := by
  intro pins s σ H x y v u Q I rx ry hq; obtain ⟨a, dx, fs, i, rfl, rfl, ha, q⟩ := hq
  cases rx
  obtain ⟨t, rfl⟩ := ry
  obtain ⟨mA, J0, _⟩ := ins_get I.hok ha; obtain ⟨od, J, _⟩ := J0.look
  obtain ⟨m, hF⟩ := I.fr
  refine PySem.W.ksp_binT (T := "int") hF I.ok.mod.kin J rfl hc hs hf hrr hp h1 h2 hsub ?_
  exact own_call (vs := [.ref a, .int i]) F hb hr hx I (.cons rfl (.cons ⟨_, rfl⟩ .nil)) q fun z w H' s' I' rz qz => notImp rz ⟨z, H', I', rz, qz⟩

/-- -x -/
def rOwnU (C : Addr) (sp : Sp) (E : XK) : V → Hp → VK → Prop := fun x H Q => ∃ a dx fs, x = .ref a ∧ H a = some (.ins C dx fs) ∧ sp [x] H Q E
theorem un_own (F : FnOk X.prog X.w X.K X.mg X.base CX n f fd ps sp) (hs : PySem.W.findIn X.K (.ref C) "__neg__" = some (some (.ref f))) (hf : PySem.W.isFn X.K (.ref f) = true)
    (hb : Binds X.K fd ps []) (hr : Room n X.A) (hx : Passes CX X E) : UnR X (unaryOp .USub) (rOwnU C sp E) := by
  intro pins s σ H x v Q I rx hq
  obtain ⟨a, dx, fs, rfl, ha, q⟩ := hq
  cases rx
  obtain ⟨mA, J0, _⟩ := ins_get I.hok ha; obtain ⟨od, J, _⟩ := J0.look
  obtain ⟨m, hF⟩ := I.fr
  refine PySem.W.ksp_neg hF I.ok.mod.kin J hs hf ?_
  exact own_call (vs := [.ref a]) F hb hr hx I (.cons rfl .nil) q fun z w H' s' I' rz qz => ⟨z, H', I', rz, qz⟩

/-- x == y -/
theorem op_ownEq (F : FnOk X.prog X.w X.K X.mg X.base CX n f fd ps sp) (hs : PySem.W.findIn X.K (.ref C) "__eq__" = some (some (.ref f))) (hf : PySem.W.isFn X.K (.ref f) = true)
    (hb : Binds X.K fd ps []) (hr : Room n X.A) (hx : Passes CX X E) : OpR X (compareOp .Eq) (rOwnB C sp E) := by
  intro pins s σ H x y v u Q I rx ry hq; obtain ⟨a, b, dx, dy, fs, gs, rfl, rfl, ha, hb', q⟩ := hq
  cases rx
  cases ry
  obtain ⟨mA, J0, _⟩ := ins_get I.hok ha; obtain ⟨mB, J1, _⟩ := ins_get I.hok hb'
  obtain ⟨od, J, _⟩ := J0.look; obtain ⟨od', J', _⟩ := J1.look
  obtain ⟨m, hF⟩ := I.fr
  show wpAny (model X.prog X.w) X.A (richCompare .Eq _ _) (EP X pins σ Q) X.xe s
  refine PySem.W.cmp_K (op := .Eq) (tb := .ref C) hr.units0 hF I.ok.mod.kin J J'.type (by simp [PySem.W.notFirst]) hs hf ?_
  exact own_call (vs := [.ref a, .ref b]) F hb hr hx I (.cons rfl (.cons rfl .nil)) q fun z w H' s' I' rz qz => notImp rz ⟨z, H', I', rz, qz⟩
end
end Ow
namespace Ow
open PySem L2 PySem.Spec PyProof.Rows
/-- what is written of a class with its own == and no != -/
structure NeTxt (K : PySem.W.Frag) (C f : Addr) : Prop where
  ex : ∃ (nm q : Str) (N : Addr) (bs : List Value) (hdct : Bool) (sn : List Str) (sub : List Value) (ab : Bool) (col : Option Bool) (dd : Option Addr) (k0 k1 k2 k3 k5 : Option Value) (newId : String) (oc : Value) (od : Option Addr) (es : Array DictEntry) (n : Nat) (osl : Array (Option Value)) (fo : Obj),
    K.lookup C = some (excClassObj nm q C N bs [.type "object"] hdct sn sub ab col dd k0 k1 k2 k3 k5 newId) ∧ K.lookup N = some ⟨oc, od, .dict es n, osl⟩ ∧ StrKeys es ∧ nsFind es "__eq__" = some (.ref f) ∧ nsFind es "__ne__" = none ∧ K.lookup f = some fo ∧ fo.cls = .type "function"
section
variable {X : Cx} {CX : CXT} {n : Nat} {C f : Addr} {fd : FuncData} {ps : List Str} {sp : Sp} {E : XK}
theorem room_lt {A : Around} (hr : Room n A) : A.units + 1 < cLine := hu_of hr
/-- a def is called by the machine, one level in -/
theorem own_call1 {pins : List (Addr × Obj)} {σ : L2.St} {H : Hp} {s : Shared} {vs : List V} {us : List Value} {Q : VK} {R : Value → Shared → Prop} (F : FnOk X.prog X.w X.K X.mg X.base CX n f fd ps sp) (hb : Binds X.K fd ps []) (hr : Room (n + 1) X.A) (hx : Passes CX X E)
    (I : Inv X pins σ H s) (r : Vals vs us) (h : sp vs H Q E) (hR : ∀ z w H' s', Inv X pins σ H' s' → RelV z w → Q z H' → R w s') :
    wpAny (model X.prog X.w) X.A.in1 (call (.ref f) us) R X.xe s := by
  have hl := F.len _ _ _ _ h
  refine wpAny_call (codeAny_mono (F.run X.A.in1 X.stack s H ⟨us, []⟩ us vs Q E hr.in1 I.env0.in1 (by
    have := hb s us I.kIn (by simpa [r.length] using hl)
    simpa using this) r h) fun r s' hq => ?_)
  cases r with
  | error er => exact hx pins σ H s er s' I hq
  | ok fl =>
    cases fl with
    | ret w =>
      obtain ⟨z, H', I', rz, q⟩ := I.after hq
      exact hR z w H' s' I' rz q
    | next => exact False.elim hq
    | brk => exact False.elim hq
    | cont => exact False.elim hq
/-- x != y by the class's own == (which hands back a bool) -/
def rOwnNe (C : Addr) (sp : Sp) (E : XK) : R2 := fun x y H Q => ∃ a b dx dy fs gs, x = .ref a ∧ y = .ref b ∧ H a = some (.ins C dx fs) ∧ H b = some (.ins C dy gs) ∧ sp [x, y] H (fun v H1 => ∃ c, v = .bl c ∧ Q (.bl (!c)) H1) E
theorem op_ownNe (F : FnOk X.prog X.w X.K X.mg X.base CX n f fd ps sp) (N : NeTxt X.K C f) (hb : Binds X.K fd ps []) (hr : Room (n + 1) X.A) (hx : Passes CX X E) : OpR X (compareOp .NotEq) (rOwnNe C sp E) := by
  intro pins s σ H x y v u Q I rx ry hq; obtain ⟨a, b, dx, dy, fs, gs, rfl, rfl, ha, hb', q⟩ := hq
  cases rx
  cases ry
  obtain ⟨mA, J0, _⟩ := ins_get I.hok ha; obtain ⟨mB, J1, _⟩ := ins_get I.hok hb'
  obtain ⟨od, J, _⟩ := J0.look; obtain ⟨od', J', _⟩ := J1.look
  obtain ⟨nm, q1, Na, bs, hdct, sn, sub, ab, col, dd, k0, k1, k2, k3, k5, newId, oc, od2, es, n2, osl, fo, hC, hN, hk, he, hne, hf, hfc⟩ := N.ex
  have hin := I.kIn
  have own : s.heap.OwnEqNoNe a C f "object" [.type "object"] :=
    ⟨_, fo, nm, q1, Na, bs, hdct, sn, sub, ab, col, dd, k0, k1, k2, k3, k5, newId, fun x => nsFind es x, _, J.1, J.cls, hin _ _ hC, ⟨_, es, n2, hin _ _ hN, rfl, hk, fun _ => rfl⟩, he, hin _ _ hf, hfc, PySem.F.mro_object, PySem.F.cmp_object.eq.lookup, hne⟩
  have go := own_call1 (R := fun v s' => ∃ b, v = .bool b ∧ EP X pins σ Q (.bool (!b)) s') (vs := [.ref a, .ref b]) F hb hr hx I (.cons rfl (.cons rfl .nil)) q fun z w H' s' I' rz ⟨c, hz, qz⟩ => by
    subst hz
    exact ⟨c, rz, .bl (!c), H', I', rfl, qz⟩
  have jo := J'.1; have jc := J'.cls
  clear I J J' J0 J1 ha hb' q hin
  obtain ⟨hp, g, dr, tk, os⟩ := s
  exact compareOp_ne_ownEq PySem.F.cmp_object own jo jc (room_lt hr) go
end
end Ow
namespace Ev2
open PySem PySem.Spec PyProof.Rows L2 Evl Ow RZ

abbrev HP := V → Hp → Prop
def Mono (P : HP) : Prop := ∀ v H H', Evl.Ex H H' → P v H → P v H'
/-- what never changes is kept: all but lists -/
def Fx (H H' : Hp) : Prop := ∀ a o, H a = some o → (∀ xs, o ≠ .lst xs) → H' a = some o
theorem Fx.of {H H' : Hp} (e : Evl.Ex H H') : Fx H H' := fun a o h _ => e a o h
theorem Fx.refl (H : Hp) : Fx H H := fun _ _ h _ => h
theorem Fx.trans {H H1 H2 : Hp} (a : Fx H H1) (b : Fx H1 H2) : Fx H H2 := fun x o h n => b x o (a x o h n) n
theorem Fx.lst {H : Hp} {D : Addr} {xs ys : List V} (h : H D = some (.lst xs)) : Fx H (upd H D (.lst ys)) := fun a o e n => by
  by_cases ha : a = D
  · subst ha; rw [h] at e; cases e; exact absurd rfl (n xs)
  · rw [upd_ne ha]; exact e
def MonoF (P : HP) : Prop := ∀ v H H', Fx H H' → P v H → P v H'
theorem MonoF.mono {P : HP} (m : MonoF P) : Mono P := fun v H H' e p => m v H H' (Fx.of e) p
def EvP (te : TE) (σ : L2.St) (H : Hp) (P : HP) : Prop := ∀ H1, Evl.Ex H H1 → ∀ Q : VK, (∀ v H2, Evl.Ex H1 H2 → P v H2 → Q v H2) → te σ H1 Q
def EvAP (ta : TA) (σ : L2.St) (H : Hp) (P : List V → Hp → Prop) : Prop := ∀ H1, Evl.Ex H H1 → ∀ Q : List V → Hp → Prop, (∀ v H2, Evl.Ex H1 H2 → P v H2 → Q v H2) → ta σ H1 Q
def EvTP (tt : TT) (σ : L2.St) (H : Hp) (b : Bool) : Prop := EvT tt σ H b
def RP (r : R2) (x y : V) (H : Hp) (P : HP) : Prop := ∀ Q : VK, (∀ v H2, Evl.Ex H H2 → P v H2 → Q v H2) → r x y H Q
/-- a list just made whose items are so -/
def LstP (n : Nat) (P : Nat → HP) : HP := fun v H => ∃ p ys, v = .ref p ∧ H p = some (.lst ys) ∧ ys.length = n ∧ ∀ i y, ys[i]? = some y → P i y H
def TupP (n : Nat) (P : Nat → HP) : HP := fun v H => ∃ p ys, v = .ref p ∧ H p = some (.tup ys) ∧ ys.length = n ∧ ∀ i y, ys[i]? = some y → P i y H
def Is (x : V) : HP := fun v _ => v = x
theorem mono_is {x : V} : Mono (Is x) := fun _ _ _ _ h => h
theorem mono_lst {n : Nat} {P : Nat → HP} (m : ∀ i, Mono (P i)) : Mono (LstP n P) := fun v H H' e ⟨p, ys, h1, h2, h3, h4⟩ => ⟨p, ys, h1, e _ _ h2, h3, fun i y hy => m i _ _ _ e (h4 i y hy)⟩
theorem mono_tup {n : Nat} {P : Nat → HP} (m : ∀ i, Mono (P i)) : Mono (TupP n P) := fun v H H' e ⟨p, ys, h1, h2, h3, h4⟩ => ⟨p, ys, h1, e _ _ h2, h3, fun i y hy => m i _ _ _ e (h4 i y hy)⟩
section
variable {K : PySem.W.Frag} {σ : L2.St} {H H' : Hp} {ta tb te : TE} {P R S : HP} {r : R2} {v : V}
theorem EvP.mono (h : EvP te σ H P) (e : Evl.Ex H H') : EvP te σ H' P := fun H1 a Q q => h H1 (e.trans a) Q q
theorem EvP.imp (h : EvP te σ H P) (k : ∀ v H1, Evl.Ex H H1 → P v H1 → R v H1) : EvP te σ H R := fun H1 a Q q => h H1 a Q fun v H2 e p => q v H2 e (k v H2 (a.trans e) p)
theorem evp_of (h : Ev te σ H v) : EvP te σ H (Is v) := fun H1 a Q q => h H1 a Q fun H2 e => q v H2 e rfl
theorem EvP.ev (h : EvP te σ H (Is v)) : Ev te σ H v := fun H1 a Q q => h H1 a Q fun x H2 e p => by rw [show x = v from p]; exact q H2 e
theorem evp_var {i : Nat} (h : σ[i]? = some (some v)) (p : P v H) (m : Mono P) : EvP (tVar i) σ H P := fun H1 e Q q => ⟨v, h, q v H1 (Ex.refl H1) (m _ _ _ e p)⟩
theorem evp_op (ha : EvP ta σ H P) (hb : EvP tb σ H R) (m : Mono P) (hr : ∀ x y H1, Evl.Ex H H1 → P x H1 → R y H1 → RP r x y H1 S) : EvP (tOp r ta tb) σ H S := fun H1 e Q q =>
  ha H1 e _ fun x H2 e2 p => hb H2 (e.trans e2) _ fun y H3 e3 p' => hr x y H3 ((e.trans e2).trans e3) (m _ _ _ e3 p) p' Q fun z H4 e4 s => q z H4 ((e2.trans e3).trans e4) s
theorem evp_un {u : V → Hp → VK → Prop} (ha : EvP ta σ H P) (hr : ∀ x H1, Evl.Ex H H1 → P x H1 → ∀ Q : VK, (∀ v H2, Evl.Ex H1 H2 → S v H2 → Q v H2) → u x H1 Q) : EvP (tUn u ta) σ H S := fun H1 e Q q =>
  ha H1 e _ fun x H2 e2 p => hr x H2 (e.trans e2) p Q fun z H4 e4 s => q z H4 (e2.trans e4) s
theorem eap_nil : EvAP tNil σ H (fun vs _ => vs = []) := fun H1 e Q q => q [] H1 (Ex.refl H1) rfl
theorem eap_one (h : EvP te σ H P) : EvAP (tCons te tNil) σ H (fun vs H1 => ∃ x, vs = [x] ∧ P x H1) := fun H1 e Q q => h H1 e _ fun x H2 e2 p => q [x] H2 e2 ⟨x, rfl, p⟩
theorem eap_two (h : EvP te σ H P) (h2 : EvP ta σ H R) (m : Mono P) : EvAP (tCons te (tCons ta tNil)) σ H (fun vs H1 => ∃ x y, vs = [x, y] ∧ P x H1 ∧ R y H1) := fun H1 e Q q =>
  h H1 e _ fun x H2 e2 p => h2 H2 (e.trans e2) _ fun y H3 e3 p' => q [x, y] H3 (e2.trans e3) ⟨x, y, rfl, m _ _ _ e3 p, p'⟩
theorem eap_three {tc : TE} (h : EvP te σ H P) (h2 : EvP ta σ H R) (h3 : EvP tc σ H S) (m : Mono P) (m2 : Mono R) : EvAP (tCons te (tCons ta (tCons tc tNil))) σ H (fun vs H1 => ∃ x y z, vs = [x, y, z] ∧ P x H1 ∧ R y H1 ∧ S z H1) := fun H1 e Q q =>
  h H1 e _ fun x H2 e2 p => h2 H2 (e.trans e2) _ fun y H3 e3 p' => h3 H3 ((e.trans e2).trans e3) _ fun z H4 e4 p'' => q [x, y, z] H4 ((e2.trans e3).trans e4) ⟨x, y, z, rfl, m _ _ _ (e3.trans e4) p, m2 _ _ _ e4 p', p''⟩
/-- a def's promise, of such arguments -/
def SpP (sp : Sp) (A : List V → Hp → Prop) (S : HP) : Prop := ∀ vs H1, A vs H1 → ∀ Q : VK, (∀ v H2, Evl.Ex H1 H2 → S v H2 → Q v H2) → ∀ E : XK, sp vs H1 Q E
theorem evp_call {sp : Sp} {E : XK} {ta : TA} {A : List V → Hp → Prop} (h : EvAP ta σ H A) (hs : SpP sp A S) : EvP (tCall sp [] E ta) σ H S := fun H1 e Q q =>
  h H1 e _ fun vs H2 e2 a => by
    have z := hs vs H2 a Q (fun v H3 e3 s => q v H3 (e2.trans e3) s) E
    show sp (vs ++ []) H2 Q E
    rw [List.append_nil]
    exact z
theorem evp_cb {rr : List V → Hp → VK → Prop} {ta : TA} {A : List V → Hp → Prop} (h : EvAP ta σ H A) (hs : ∀ vs H1, A vs H1 → ∀ Q : VK, (∀ v H2, Evl.Ex H1 H2 → S v H2 → Q v H2) → rr vs H1 Q) : EvP (tCB rr ta) σ H S := fun H1 e Q q =>
  h H1 e _ fun vs H2 e2 a => hs vs H2 a Q fun v H3 e3 s => q v H3 (e2.trans e3) s
theorem eu_tupP {ta : TA} {A : List V → Hp → Prop} (h : EvAP ta σ H A) (hl : ∀ vs H1, A vs H1 → vs.length ≤ 100000) (m : ∀ vs H1 H2, Evl.Ex H1 H2 → A vs H1 → A vs H2) : EvP (tTup ta) σ H (fun v H1 => ∃ p vs, v = .ref p ∧ H1 p = some (.tup vs) ∧ A vs H1) := fun H1 e Q q =>
  h H1 e _ fun vs H2 e2 a => ⟨sz_of (hl vs H2 a), fun p hp => q _ _ (e2.trans (Ex.new hp)) ⟨p, vs, rfl, upd_same, m _ _ _ (Ex.new hp) a⟩⟩
/-- tuple(a new list) -/
theorem evp_tuple {n : Nat} {Pi : Nat → HP} (h : EvP te σ H (LstP n Pi)) (m : ∀ i, Mono (Pi i)) :
    EvP (tCB (fun xs H Q => ∃ p ys, xs = [.ref p] ∧ ((SqL K H p ys ∧ ∀ l, H l = none → Q (.ref l) (upd H l (.tup ys))) ∨ (SqT K H p ys ∧ Q (.ref p) H))) (tCons te tNil)) σ H (TupP n Pi) := fun H1 e Q q =>
  h H1 e _ fun v H2 e2 ⟨p, ys, hv, hp, hl, hi⟩ => by
    subst hv
    exact ⟨p, ys, rfl, .inl ⟨sq_of hp, fun l hl' => q _ _ (e2.trans (Ex.new hl')) ⟨l, ys, rfl, upd_same, hl, fun i y hy => m i _ _ _ (Ex.new hl') (hi i y hy)⟩⟩⟩

/-! ### what is walked -/
structure Turns (J : It) (n : Nat) (Pre : Hp → Prop) (item : Nat → V → Hp → Prop) : Prop where
  mono : ∀ H H', Fx H H' → Pre H → Pre H'
  go : ∀ i H, i < n → Pre H → J.go i H
  stop : ∀ H, Pre H → J.stop n H
  yld : ∀ i H x H', i < n → Pre H → J.yld i H x H' → Evl.Ex H H' ∧ item i x H'
def WiP (wi : TI) (σ : L2.St) (H : Hp) (n : Nat) (item : Nat → V → Hp → Prop) : Prop := ∀ H1, Evl.Ex H H1 → ∀ R : It → Hp → Prop, (∀ J H2 Pre, Evl.Ex H1 H2 → Turns J n Pre item → Pre H2 → R J H2) → wi σ H1 R
theorem wi_tup {tl : TE} {n : Nat} {Pi : Nat → HP} (h : EvP tl σ H (TupP n Pi)) (m : ∀ i, MonoF (Pi i)) : WiP (iTup K tl) σ H n (fun i x H => Pi i x H) := fun H1 e R k =>
  h H1 e _ fun v H2 e2 ⟨p, ys, hv, hp, hl, hi⟩ => by
    subst hv
    refine ⟨p, rfl, ⟨ys, st_of hp⟩, k _ H2 (fun H => H p = some (.tup ys) ∧ ∀ i y, ys[i]? = some y → Pi i y H) e2 ?_ ⟨hp, hi⟩⟩
    refine ⟨fun H H' e ⟨a, b⟩ => ⟨e _ _ a (fun _ z => nomatch z), fun i y hy => m i _ _ _ e (b i y hy)⟩, fun i H hlt ⟨a, _⟩ => ?_, fun H ⟨a, _⟩ => ?_, fun i H x H' hlt ⟨a, b⟩ y => ?_⟩
    · exact ⟨ys, _, st_of a, List.getElem?_eq_getElem (by omega)⟩
    · exact ⟨ys, st_of a, by omega⟩
    · obtain ⟨rfl, f⟩ := y
      have hx : ys[i]? = some x := by first | exact f ys (st_of a) | (obtain ⟨zs, z1, z2⟩ := f; exact z2)
      exact ⟨Ex.refl _, b i x hx⟩
theorem wi_rng {ta : TA} {n : Nat} (h : EvAP ta σ H (fun vs _ => vs = [.int (n : Int)])) (hn : n ≤ 100000) : WiP (iRng1 ta) σ H n (fun i x _ => x = .int (i : Int)) := fun H1 e R k =>
  h H1 e _ fun vs H2 e2 hv => by
    subst hv
    refine ⟨(n : Int), rfl, by omega, by omega, ?_⟩
    refine k _ H2 (fun _ => True) e2 ⟨fun _ _ _ _ => trivial, fun i H hlt _ => ?_, fun H _ => ?_, fun i H x H' hlt _ y => ?_⟩ trivial
    · show i < (n : Int).toNat
      simpa using hlt
    · show (n : Int).toNat ≤ n
      simp
    · obtain ⟨rfl, rfl⟩ := y
      exact ⟨Ex.refl _, by rw [Int.zero_add]⟩
theorem wi_zip {tl tr : TE} {n : Nat} {Pi Ri : Nat → HP} (h : EvP tl σ H (TupP n Pi)) (h2 : EvP tr σ H (TupP n Ri)) (m : ∀ i, MonoF (Pi i)) (m2 : ∀ i, MonoF (Ri i)) :
    WiP (iZipA K (tCons tl (tCons tr tNil))) σ H n (fun i x H => ∃ T u v, x = .ref T ∧ H T = some (.tup [u, v]) ∧ Pi i u H ∧ Ri i v H) := fun H1 e R k =>
  h H1 e _ fun v H2 e2 ⟨p, ys, hv, hp, hl, hi⟩ => h2 H2 (e.trans e2) _ fun v' H3 e3 ⟨q, zs, hv', hq, hl', hi'⟩ => by
    subst hv
    subst hv'
    refine ⟨p, q, ys, zs, rfl, .inr ⟨st_of (e3 _ _ hp), st_of hq, ?_⟩⟩
    refine k _ H3 (fun H => H p = some (.tup ys) ∧ H q = some (.tup zs) ∧ (∀ i y, ys[i]? = some y → Pi i y H) ∧ ∀ i y, zs[i]? = some y → Ri i y H) (e2.trans e3) ?_ ⟨e3 _ _ hp, hq, fun i y hy => (m i).mono _ _ _ e3 (hi i y hy), hi'⟩
    refine ⟨fun H H' e ⟨a, b, c, d⟩ => ⟨e _ _ a (fun _ z => nomatch z), e _ _ b (fun _ z => nomatch z), fun i y hy => m i _ _ _ e (c i y hy), fun i y hy => m2 i _ _ _ e (d i y hy)⟩, fun i H hlt ⟨a, b, _, _⟩ => ?_, fun H ⟨a, b, _, _⟩ => ?_, fun i H x H' hlt ⟨a, b, c, d⟩ y => ?_⟩
    · exact ⟨ys, zs, _, _, st_of a, st_of b, List.getElem?_eq_getElem (by omega), List.getElem?_eq_getElem (by omega)⟩
    · exact ⟨ys, zs, st_of a, st_of b, .inl (by omega)⟩
    · obtain ⟨T, u, w, rfl, hT, rfl, f1, f2⟩ := y
      have ex := Ex.new (o := .tup [u, w]) hT
      exact ⟨ex, T, u, w, rfl, upd_same, (m i).mono _ _ _ ex (c i u (f1 ys (st_of a))), (m2 i).mono _ _ _ ex (d i w (f2 zs (st_of b)))⟩
/-- targets -/
def GP (g : TG) (x : V) (σ0 : L2.St) (H : Hp) (S : L2.St → Hp → Prop) : Prop := ∀ Q : L2.St → Hp → Prop, (∀ σ2, S σ2 H → Q σ2 H) → g x σ0 H Q
theorem g_pair {x : V} {T : Addr} {u w : V} {σ0 : L2.St} {i j : Nat} (hx : x = .ref T) (h : H T = some (.tup [u, w])) : GP (gTup K 2 (gCons (gName i) (gCons (gName j) gNil))) x σ0 H (fun σ2 _ => σ2 = (σ0.set i (some u)).set j (some w)) := fun Q q =>
  ⟨T, [u, w], hx, st_of h, rfl, u, [w], rfl, w, [], rfl, rfl, q _ rfl⟩
/-- a comprehension without tests -/
theorem evp_lc {wi : TI} {g : TG} {vs : List Nat} {n : Nat} {item : Nat → V → Hp → Prop} {Sg : Nat → L2.St → Hp → Prop} {Pi : Nat → HP} (hw : WiP wi σ H n item) (hn : n ≤ 40000)
    (hg : ∀ i x H1, i < n → Evl.Ex H H1 → item i x H1 → GP g x (wipe σ vs) H1 (fun σ2 H2 => wipe σ2 vs = wipe σ vs ∧ Sg i σ2 H2)) (he : ∀ i σ2 H1, i < n → Evl.Ex H H1 → Sg i σ2 H1 → EvP te σ2 H1 (Pi i)) (m : ∀ i, MonoF (Pi i)) :
    EvP (tLc wi g tYes te vs) σ H (LstP n Pi) := fun H1 e Q q => hw H1 e _ fun J H2 Pre e2 T pre => fun D hD => by
  refine ⟨fun i k H3 => k = n - i ∧ i ≤ n ∧ H2 D = none ∧ Evl.Ex H2 H3 ∧ ∃ ys, H3 D = some (.lst ys) ∧ ys.length = i ∧ ∀ j y, ys[j]? = some y → Pi j y H3, ⟨n, by simp, Nat.zero_le _, hD, Ex.new hD, [], upd_same, rfl, fun j y hy => by simp at hy⟩, ?_⟩
  rintro i k H3 ⟨rfl, hi, hD', ex, ys, hys, hl, hP⟩
  have pre3 := T.mono _ _ (Fx.of ex) pre
  by_cases hlt : i < n
  · refine .inr ⟨T.go i H3 hlt pre3, fun H4 => H2 D = none ∧ Evl.Ex H2 H4 ∧ ∃ ys, H4 D = some (.lst ys) ∧ ys.length = i + 1 ∧ ∀ j y, ys[j]? = some y → Pi j y H4, fun H4 ⟨a, b, c⟩ => ⟨n - (i + 1), by omega, rfl, by omega, a, b, c⟩, fun x H4 y => ?_⟩
    obtain ⟨e4, it⟩ := T.yld i H3 x H4 hlt pre3 y
    refine hg i x H4 hlt (((e.trans e2).trans ex).trans e4) it _ fun σ2 ⟨hw2, hs⟩ => ⟨hw2, ?_⟩
    unfold tYes
    dsimp only
    rw [if_pos rfl]
    refine he i σ2 H4 hlt (((e.trans e2).trans ex).trans e4) hs H4 (Ex.refl _) _ fun z H5 e5 hz => ?_
    have hys5 := e5 _ _ (e4 _ _ hys)
    have ex5 : Evl.Ex H2 (upd H5 D (.lst (ys ++ [z]))) := Ex.mut ((ex.trans e4).trans e5) hD'
    refine ⟨ys, hys5, sz_lt (by omega), hD', ex5, ys ++ [z], upd_same, by simp [hl], fun j y hy => ?_⟩
    have key : Pi j y H5 := by
      by_cases hj : j < ys.length
      · rw [List.getElem?_append_left hj] at hy
        exact (m j).mono _ _ _ (e4.trans e5) (hP j y hy)
      · rw [List.getElem?_append_right (by omega)] at hy
        have : j - ys.length = 0 := by
          rcases Nat.eq_zero_or_pos (j - ys.length) with z0 | z0
          · exact z0
          · rw [List.getElem?_eq_none (by simp; omega)] at hy; cases hy
        rw [this] at hy
        have ej : j = i := by omega
        have ey : z = y := by simpa using hy
        rw [ej, ← ey]
        exact hz
    exact m j _ _ _ (Fx.lst hys5) key
  · have hinn : i = n := by omega
    subst hinn
    exact .inl ⟨T.stop H3 pre3, q _ H3 (e2.trans ex) ⟨D, ys, rfl, hys, hl, hP⟩⟩
end
end Ev2
namespace Ev2
open PySem PySem.Spec PyProof.Rows L2 Evl Ow RZ
/-- a state to draw from: the list at s holds the pool's list (at p) and a place -/
structure Dr (s p : Addr) (xs : List Int) (H : Hp) : Prop where
  ne : p ≠ s
  at_ : ∃ k : Nat, H s = some (.lst [.ref p, .int (k : Int)])
  pool : H p = some (.lst (xs.map V.int))
/-- all but the state is kept -/
def Gs (s : Addr) (H H' : Hp) : Prop := ∀ a o, a ≠ s → H a = some o → H' a = some o
theorem Gs.refl (s : Addr) (H : Hp) : Gs s H H := fun _ _ _ h => h
theorem Gs.trans {s : Addr} {H H1 H2 : Hp} (a : Gs s H H1) (b : Gs s H1 H2) : Gs s H H2 := fun x o n h => b x o n (a x o n h)
theorem Gs.of {s : Addr} {H H' : Hp} (e : Evl.Ex H H') : Gs s H H' := fun a o _ h => e a o h
theorem Dr.ex {s p : Addr} {xs : List Int} {H H' : Hp} (d : Dr s p xs H) (e : Evl.Ex H H') : Dr s p xs H' := ⟨d.ne, let ⟨k, h⟩ := d.at_; ⟨k, e _ _ h⟩, e _ _ d.pool⟩
theorem Gs.fx {s p : Addr} {xs : List Int} {H H' : Hp} (g : Gs s H H') (d : Dr s p xs H) : Fx H H' := fun a o h n => by
  by_cases ha : a = s
  · subst ha
    obtain ⟨k, hk⟩ := d.at_
    rw [hk] at h; cases h; exact absurd rfl (n _)
  · exact g a o ha h
def EvD (s p : Addr) (xs : List Int) (te : TE) (σ : L2.St) (H : Hp) (P : HP) : Prop := ∀ H1, Gs s H H1 → Dr s p xs H1 → ∀ Q : VK, (∀ v H2, Gs s H1 H2 → Dr s p xs H2 → P v H2 → Q v H2) → te σ H1 Q
section
variable {K : PySem.W.Frag} {σ : L2.St} {H H' : Hp} {ta tb te : TE} {P R S : HP} {r : R2} {v : V} {s p : Addr} {xs : List Int}
theorem EvD.imp (h : EvD s p xs te σ H P) (k : ∀ v H1, P v H1 → R v H1) : EvD s p xs te σ H R := fun H1 a d Q q => h H1 a d Q fun v H2 e d2 p => q v H2 e d2 (k v H2 p)
/-- a comprehension over range(n) whose items draw -/
theorem evd_lc {tn : TA} {vs : List Nat} {n j : Nat} {Pi : Nat → HP} (hw : ∀ H1, EvAP tn σ H1 (fun vs _ => vs = [.int (n : Int)])) (hn : n ≤ 40000) (hz : ∀ x, wipe ((wipe σ vs).set j (some x)) vs = wipe σ vs)
    (he : ∀ (i : Nat), i < n → EvD s p xs te ((wipe σ vs).set j (some (.int (i : Int)))) H (Pi i)) (m : ∀ i, MonoF (Pi i)) :
    EvD s p xs (tLc (iRng1 tn) (gName j) tYes te vs) σ H (LstP n Pi) := fun H1 e d Q q => hw H1 H1 (Ex.refl _) _ fun vs' H2 e2 hv => by
  subst hv
  refine ⟨(n : Int), rfl, by omega, by omega, fun D hD => ?_⟩
  have d2 := d.ex e2
  have hDs : D ≠ s := fun z => by obtain ⟨k, hk⟩ := d2.at_; rw [z, hk] at hD; cases hD
  have hDp : D ≠ p := fun z => by have := d2.pool; rw [← z, hD] at this; cases this
  refine ⟨fun i k H3 => k = n - i ∧ i ≤ n ∧ Gs s H2 H3 ∧ Dr s p xs H3 ∧ ∃ ys, H3 D = some (.lst ys) ∧ ys.length = i ∧ ∀ j y, ys[j]? = some y → Pi j y H3, ⟨n, by simp, Nat.zero_le _, Gs.of (Ex.new hD), d2.ex (Ex.new hD), [], upd_same, rfl, fun j y hy => by simp at hy⟩, ?_⟩
  rintro i k H3 ⟨rfl, hi, ex, d3, ys, hys, hl, hP⟩
  by_cases hlt : i < n
  · refine .inr ⟨by show i < (n : Int).toNat; simpa using hlt, fun H4 => Gs s H2 H4 ∧ Dr s p xs H4 ∧ ∃ ys, H4 D = some (.lst ys) ∧ ys.length = i + 1 ∧ ∀ j y, ys[j]? = some y → Pi j y H4, fun H4 ⟨a, b, c⟩ => ⟨n - (i + 1), by omega, rfl, by omega, a, b, c⟩, fun x H4 y => ?_⟩
    obtain ⟨rfl, rfl⟩ := y
    refine ⟨hz _, ?_⟩
    unfold tYes
    dsimp only
    rw [if_pos rfl]
    rw [Int.zero_add]
    refine he i hlt H4 ((e.trans (Gs.of e2)).trans ex) d3 _ fun z H5 e5 d5 hz => ?_
    have hys5 := e5 _ _ hDs hys
    refine ⟨ys, hys5, sz_lt (by omega), ?_, ?_, ys ++ [z], upd_same, by simp [hl], fun j y hy => ?_⟩
    · intro a o ha h
      have hna : a ≠ D := fun q => by rw [q, hD] at h; cases h
      rw [upd_ne hna]
      exact e5 _ _ ha (ex _ _ ha h)
    · refine ⟨d5.ne, ?_, ?_⟩
      · obtain ⟨k, hk⟩ := d5.at_
        exact ⟨k, by rw [upd_ne hDs.symm]; exact hk⟩
      · rw [upd_ne hDp.symm]; exact d5.pool
    · have key : Pi j y H5 := by
        by_cases hj : j < ys.length
        · rw [List.getElem?_append_left hj] at hy
          exact m j _ _ _ (Gs.fx e5 d3) (hP j y hy)
        · rw [List.getElem?_append_right (by omega)] at hy
          have : j - ys.length = 0 := by
            rcases Nat.eq_zero_or_pos (j - ys.length) with z0 | z0
            · exact z0
            · rw [List.getElem?_eq_none (by simp; omega)] at hy; cases hy
          rw [this] at hy
          have ej : j = i := by omega
          have ey : z = y := by simpa using hy
          rw [ej, ← ey]
          exact hz
      exact m j _ _ _ (Fx.lst hys5) key
  · have hinn : i = n := by omega
    subst hinn
    exact .inl ⟨by show (i : Int).toNat ≤ i; simp, q _ H3 ((Gs.of e2).trans ex) d3 ⟨D, ys, rfl, hys, hl, hP⟩⟩
theorem evd_tuple {n : Nat} {Pi : Nat → HP} (h : EvD s p xs te σ H (LstP n Pi)) (m : ∀ i, MonoF (Pi i)) :
    EvD s p xs (tCB (fun xs H Q => ∃ p ys, xs = [.ref p] ∧ ((SqL K H p ys ∧ ∀ l, H l = none → Q (.ref l) (upd H l (.tup ys))) ∨ (SqT K H p ys ∧ Q (.ref p) H))) (tCons te tNil)) σ H (TupP n Pi) := fun H1 e d Q q =>
  h H1 e d _ fun v H2 e2 d2 ⟨p, ys, hv, hp, hl, hi⟩ => by
    subst hv
    exact ⟨p, ys, rfl, .inl ⟨sq_of hp, fun l hl' => q _ _ (e2.trans (Gs.of (Ex.new hl'))) (d2.ex (Ex.new hl')) ⟨l, ys, rfl, upd_same, hl, fun i y hy => (m i).mono _ _ _ (Ex.new hl') (hi i y hy)⟩⟩⟩
/-- a pure reading, in a state -/
theorem evd_of (h : ∀ H1, Gs s H H1 → Dr s p xs H1 → EvP te σ H1 P) : EvD s p xs te σ H P := fun H1 e d Q q => h H1 e d H1 (Ex.refl _) Q fun v H2 e2 p => q v H2 (Gs.of e2) (d.ex e2) p

/-! ### two fors: the ints of all, one after the other -/
def acc2 (f : Nat → Nat → V) (m : Nat → Nat) : Nat → List V
  | 0 => []
  | i + 1 => acc2 f m i ++ (List.range (m i)).map (f i)
theorem evp_lc2 {wi wi1 : TI} {g g1 : TG} {vs vs1 : List Nat} {n : Nat} {mm : Nat → Nat} {item : Nat → V → Hp → Prop} {item1 : Nat → Nat → V → Hp → Prop} {Sg : Nat → L2.St → Hp → Prop} {Sg1 : Nat → Nat → L2.St → Hp → Prop} {f : Nat → Nat → V}
    (hw : WiP wi σ H n item) (hn : n ≤ 100) (hmm : ∀ i, mm i ≤ 100)
    (hg : ∀ i x H1, i < n → Evl.Ex H H1 → item i x H1 → GP g x (wipe σ vs) H1 (fun σ2 H2 => wipe σ2 vs = wipe σ vs ∧ Sg i σ2 H2))
    (hw1 : ∀ i σ2 H1, i < n → Evl.Ex H H1 → Sg i σ2 H1 → WiP wi1 σ2 H1 (mm i) (item1 i))
    (hg1 : ∀ i j σ2 x H1 H2, i < n → j < mm i → Evl.Ex H H1 → Sg i σ2 H1 → Fx H1 H2 → item1 i j x H2 → GP g1 x (wipe σ2 vs1) H2 (fun σ3 H3 => wipe σ3 vs1 = wipe σ2 vs1 ∧ Sg1 i j σ3 H3))
    (he : ∀ i j σ3 H1, i < n → j < mm i → Evl.Ex H H1 → Sg1 i j σ3 H1 → Ev te σ3 H1 (f i j)) :
    EvP (tLc2 wi g tYes wi1 g1 tYes te vs vs1) σ H (fun v H1 => ∃ p, v = .ref p ∧ H1 p = some (.lst (acc2 f mm n))) := fun H1 e Q q => hw H1 e _ fun J H2 Pre e2 T pre => fun D hD => by
  have hlen : ∀ i, i ≤ n → (acc2 f mm i).length ≤ 100 * i := by
    intro i
    induction i with
    | zero => intro _; simp [acc2]
    | succ i ih => intro h; have := ih (by omega); have := hmm i; simp [acc2]; omega
  refine ⟨fun i k H3 => k = n - i ∧ i ≤ n ∧ Evl.Ex H2 H3 ∧ H3 D = some (.lst (acc2 f mm i)), ⟨n, by simp, Nat.zero_le _, Ex.new hD, upd_same⟩, ?_⟩
  rintro i k H3 ⟨rfl, hi, ex, hys⟩
  have pre3 := T.mono _ _ (Fx.of ex) pre
  by_cases hlt : i < n
  · refine .inr ⟨T.go i H3 hlt pre3, fun H4 => Evl.Ex H2 H4 ∧ H4 D = some (.lst (acc2 f mm (i + 1))), fun H4 ⟨a, b⟩ => ⟨n - (i + 1), by omega, rfl, by omega, a, b⟩, fun x H4 y => ?_⟩
    obtain ⟨e4, it⟩ := T.yld i H3 x H4 hlt pre3 y
    have exH4 := ((e.trans e2).trans ex).trans e4
    refine hg i x H4 hlt exH4 it _ fun σ2 ⟨hw2, hs⟩ => ⟨hw2, ?_⟩
    unfold tYes
    dsimp only
    rw [if_pos rfl]
    refine hw1 i σ2 H4 hlt exH4 hs H4 (Ex.refl _) _ fun J1 H5 Pre1 e5 T1 pre1 => ?_
    have hys5 := e5 _ _ (e4 _ _ hys)
    refine ⟨fun j k H6 => k = mm i - j ∧ j ≤ mm i ∧ Evl.Ex H2 H6 ∧ Fx H5 H6 ∧ H6 D = some (.lst (acc2 f mm i ++ (List.range j).map (f i))), ⟨mm i, by simp, Nat.zero_le _, (ex.trans e4).trans e5, Fx.refl _, by simpa using hys5⟩, ?_⟩
    rintro j k H6 ⟨rfl, hj, ex6, fx6, hys6⟩
    have pre6 := T1.mono _ _ fx6 pre1
    by_cases hlt1 : j < mm i
    · refine .inr ⟨T1.go j H6 hlt1 pre6, fun H7 => Evl.Ex H2 H7 ∧ Fx H5 H7 ∧ H7 D = some (.lst (acc2 f mm i ++ (List.range (j + 1)).map (f i))), fun H7 ⟨a, b, c⟩ => ⟨mm i - (j + 1), by omega, rfl, by omega, a, b, c⟩, fun x1 H7 y1 => ?_⟩
      obtain ⟨e7, it1⟩ := T1.yld j H6 x1 H7 hlt1 pre6 y1
      have ex7 : Evl.Ex H H7 := (e.trans e2).trans (ex6.trans e7)
      refine hg1 i j σ2 x1 H4 H7 hlt hlt1 exH4 hs ((Fx.of e5).trans (fx6.trans (Fx.of e7))) it1 _ fun σ3 ⟨hw3, hs3⟩ => ⟨hw3, ?_⟩
      rw [if_pos rfl]
      refine he i j σ3 H7 hlt hlt1 ex7 hs3 H7 (Ex.refl _) _ fun H8 e8 => ?_
      have hys8 := e8 _ _ (e7 _ _ hys6)
      have hl8 := hlen i (by omega)
      have hmi := hmm i
      refine ⟨_, hys8, sz_lt (by simp; omega), Ex.mut ((ex6.trans e7).trans e8) hD, (fx6.trans (Fx.of (e7.trans e8))).trans (Fx.lst hys8), ?_⟩
      rw [upd_same, List.range_succ, List.map_append, List.append_assoc]
      rfl
    · have hjm : j = mm i := by omega
      subst hjm
      exact .inl ⟨T1.stop H6 pre6, ex6, hys6⟩
  · have hinn : i = n := by omega
    subst hinn
    exact .inl ⟨T.stop H3 pre3, q _ H3 (e2.trans ex) ⟨D, rfl, hys⟩⟩
end
end Ev2
/-! own rules of the hand layer: v in x and v not in x by x's own __contains__; x == y by x's own ==, y of any other kind -/
namespace Ow
open PySem L2 PySem.Spec PyProof.Rows
section
variable {X : Cx} {CX : CXT} {n : Nat} {C f : Addr} {fd : FuncData} {ps : List Str} {sp : Sp} {E : XK}
theorem truthy_bl {M : Model} {A : Around} {c : Bool} {Q : Bool → Shared → Prop} {E : Value → Shared → Prop} {s : Shared} (h : Q c s) : wpAny M A (truthy (.bool c)) Q E s := wpAny_pure h
def rOwnIn (C : Addr) (sp : Sp) (E : XK) (neg : Bool) : R2 := fun x y H Q => ∃ a dx fs, y = .ref a ∧ H a = some (.ins C dx fs) ∧ sp [y, x] H (fun v H1 => ∃ c, v = .bl c ∧ Q (.bl (if neg = true then !c else c)) H1) E
theorem op_ownIn (F : FnOk X.prog X.w X.K X.mg X.base CX n f fd ps sp) (hs : PySem.W.findIn X.K (.ref C) "__contains__" = some (some (.ref f))) (hf : PySem.W.isFn X.K (.ref f) = true)
    (hb : Binds X.K fd ps []) (hr : Room n X.A) (hx : Passes CX X E) : OpR X (compareOp .In) (rOwnIn C sp E false) := by
  intro pins s σ H x y v u Q I rx ry hq; obtain ⟨a, dx, fs, rfl, ha, q⟩ := hq
  cases ry
  obtain ⟨mA, J0, _⟩ := ins_get I.hok ha; obtain ⟨od, J, _⟩ := J0.look
  obtain ⟨m, hF⟩ := I.fr
  refine PySem.W.in_K hF I.ok.mod.kin J hs hf ?_
  exact own_call (vs := [.ref a, x]) F hb hr hx I (.cons rfl (.cons rx .nil)) q fun z w H' s' I' rz ⟨c, hz, qz⟩ => by
    subst hz
    cases (show w = Value.bool c from rz)
    exact truthy_bl ⟨.bl c, H', I', rfl, qz⟩
theorem op_ownNotIn (F : FnOk X.prog X.w X.K X.mg X.base CX n f fd ps sp) (hs : PySem.W.findIn X.K (.ref C) "__contains__" = some (some (.ref f))) (hf : PySem.W.isFn X.K (.ref f) = true)
    (hb : Binds X.K fd ps []) (hr : Room n X.A) (hx : Passes CX X E) : OpR X (compareOp .NotIn) (rOwnIn C sp E true) := by
  intro pins s σ H x y v u Q I rx ry hq; obtain ⟨a, dx, fs, rfl, ha, q⟩ := hq
  cases ry
  obtain ⟨mA, J0, _⟩ := ins_get I.hok ha; obtain ⟨od, J, _⟩ := J0.look
  obtain ⟨m, hF⟩ := I.fr
  refine PySem.W.notIn_K hF I.ok.mod.kin J hs hf ?_
  exact own_call (vs := [.ref a, x]) F hb hr hx I (.cons rfl (.cons rx .nil)) q fun z w H' s' I' rz ⟨c, hz, qz⟩ => by
    subst hz
    cases (show w = Value.bool c from rz)
    exact truthy_bl ⟨.bl (!c), H', I', rfl, qz⟩
/-- what kind a thing is -/
inductive KindOf (K : PySem.W.Frag) (H : Hp) : V → Value → Prop where
  | non : KindOf K H .non (.type "NoneType")
  | bl (x : Bool) : KindOf K H (.bl x) (.type "bool")
  | int (i : Int) : KindOf K H (.int i) (.type "int")
  | str (x : Str) : KindOf K H (.str x) (.type "str")
  | lst {a : Addr} {xs : List V} (e : SqL K H a xs) : KindOf K H (.ref a) (.type "list")
  | tup {a : Addr} {xs : List V} (e : SqT K H a xs) : KindOf K H (.ref a) (.type "tuple")
  | ins {a D dx : Addr} {fs : List (Str × V)} (e : H a = some (.ins D dx fs)) : KindOf K H (.ref a) (.ref D)
theorem KindOf.looks {pins : List (Addr × Obj)} {σ : L2.St} {H : Hp} {s : Shared} {y : V} {u t : Value} (I : Inv X pins σ H s) (r : RelV y u) (k : KindOf X.K H y t) : PySem.W.Looks (model X.prog X.w) s.heap (typeOf u) t := by
  cases k with
  | non => cases (show u = Value.none from r); exact fun A Q E s k q => wpAny_pure q
  | bl x => cases (show u = Value.bool x from r); exact fun A Q E s k q => wpAny_pure q
  | int i => obtain ⟨t, rfl⟩ := (show ∃ t, u = Value.int i t from r); exact fun A Q E s k q => wpAny_pure q
  | str x => obtain ⟨t, rfl⟩ := (show ∃ t, u = Value.str x t from r); exact fun A Q E s k q => wpAny_pure q
  | lst e =>
    obtain rfl : u = Value.ref _ := r
    obtain ⟨its, rv, ⟨o, n, ho, hc, _, hd⟩, _⟩ := I.list e
    exact fun A Q E s k q => wpAny_typeOf_ref (k _ _ ho) (by rw [hc]; exact q)
  | tup e =>
    obtain rfl : u = Value.ref _ := r
    obtain ⟨its, rv, ⟨o, ho, hc, n, hd⟩, _⟩ := I.tuple e
    exact fun A Q E s k q => wpAny_typeOf_ref (k _ _ ho) (by rw [hc]; exact q)
  | ins e =>
    obtain rfl : u = Value.ref _ := r
    obtain ⟨mB, J1, _⟩ := ins_get I.hok e; obtain ⟨od', J', _⟩ := J1.look
    exact J'.type
/-- x == y, y of a kind that is no kind of x's class -/
def rOwnEqX (K : PySem.W.Frag) (C : Addr) (sp : Sp) (E : XK) : R2 := fun x y H Q => ∃ a dx fs t, x = .ref a ∧ H a = some (.ins C dx fs) ∧ KindOf K H y t ∧ PySem.W.notFirst K C t = true ∧ sp [x, y] H Q E
theorem op_ownEqX (F : FnOk X.prog X.w X.K X.mg X.base CX n f fd ps sp) (hs : PySem.W.findIn X.K (.ref C) "__eq__" = some (some (.ref f))) (hf : PySem.W.isFn X.K (.ref f) = true)
    (hb : Binds X.K fd ps []) (hr : Room n X.A) (hx : Passes CX X E) : OpR X (compareOp .Eq) (rOwnEqX X.K C sp E) := by
  intro pins s σ H x y v u Q I rx ry hq; obtain ⟨a, dx, fs, t, rfl, ha, hk, hn, q⟩ := hq
  cases rx
  obtain ⟨mA, J0, _⟩ := ins_get I.hok ha
  obtain ⟨od, J, _⟩ := J0.look
  obtain ⟨m, hF⟩ := I.fr
  show wpAny (model X.prog X.w) X.A (richCompare .Eq _ _) (EP X pins σ Q) X.xe s
  refine PySem.W.cmp_K (op := .Eq) (tb := t) hr.units0 hF I.ok.mod.kin J (hk.looks I ry) hn hs hf ?_
  exact own_call (vs := [.ref a, y]) F hb hr hx I (.cons rfl (.cons ry .nil)) q fun z w H' s' I' rz qz => notImp rz ⟨z, H', I', rz, qz⟩
end
end Ow
/-! sum of a tuple of ints -/
namespace Ow
open PySem L2 PySem.Spec PyProof.Rows
section
variable {X : Cx}
def rSumT (K : PySem.W.Frag) : List V → Hp → VK → Prop := fun vs H Q => ∃ (a : Addr) (ns : List Int), vs = [V.ref a] ∧ SqT K H a (ns.map V.int) ∧ Q (.int ns.sum) H
theorem cr_sumT (hc : X.calm = true) : CallR X (.builtin "sum") (rSumT X.K) := by
  intro pins s σ H vs us Q I r h
  obtain ⟨a, ns, rfl, hs, q⟩ := h
  obtain ⟨its, rv, pt, hz⟩ := I.tuple hs
  rw [Vals.ref1 r]
  have hi := rv.ints
  have hl : s.heap.IsTuple a its.toArray := pt
  obtain ⟨xs, e⟩ := hi.allInts.items
  have hn : numsOf (intItems xs).toList = ns := by rw [← e]; exact hi.numsOf
  rw [nums_intItems] at hn
  rw [e] at hl
  refine PySem.W.ktm_sumG (I.ok.hd hc) hl fun h' tk t' hk => ?_
  rw [preSum_eq, List.take_of_length_le (by simp), hn]
  exact ⟨.int _, H, I.kept hk, ⟨_, rfl⟩, q⟩
end
end Ow
/-! a text times an int -/
namespace Ow
open PySem L2 PySem.Spec PyProof.Rows
section
variable {X : Cx}
def rRepStr : R2 := fun x y H Q => ∃ (a : Str) (n : Int), x = .str a ∧ y = .int n ∧ MulOk a n ∧ Q (.str (Txt.mul a n)) H
theorem op_repStr : OpR X (binaryOp .Mult) rRepStr := by
  intro pins s σ H x y v u Q I rx ry h
  obtain ⟨a, n, rfl, rfl, hz, q⟩ := h
  obtain ⟨t, rfl⟩ := rx
  obtain ⟨t', rfl⟩ := ry
  exact SB.mul hz fun t' tk => ⟨.str (Txt.mul a n), H, I.tok _, ⟨_, rfl⟩, q⟩
/-- "1" and n noughts, read -/
def tenText (n : Nat) : Str := "1" ++ Txt.mul "0" (n : Int)
theorem ten_ok : (List.range 41).all (fun n => decide (PySem.intText? (tenText (n + 1)) = some ((10 : Int) ^ (n + 1))) && decide ((tenText (n + 1)).length ≤ 640)) = true := by decide +kernel
theorem ten_read {n : Nat} (h1 : 1 ≤ n) (h2 : n ≤ 41) : PySem.intText? (tenText n) = some ((10 : Int) ^ n) ∧ (tenText n).length ≤ 640 := by
  have := List.all_eq_true.mp ten_ok (n - 1) (List.mem_range.mpr (by omega))
  rw [show n - 1 + 1 = n by omega] at this
  simpa using this
end
end Ow
set_option maxHeartbeats 4100000
namespace K02
open PySem PySem.Spec PyProof.Rows L2 Evl Ow RZ Ev2
abbrev rLenQ (K : PySem.W.Frag) : List V → Hp → VK → Prop := fun xs H Q => ∃ p ys, xs = [.ref p] ∧ (SqL K H p ys ∨ SqT K H p ys) ∧ Q (.int ys.length) H
abbrev rTupQ (K : PySem.W.Frag) : List V → Hp → VK → Prop := fun xs H Q => ∃ p ys, xs = [.ref p] ∧ ((SqL K H p ys ∧ ∀ l, H l = none → Q (.ref l) (upd H l (.tup ys))) ∨ (SqT K H p ys ∧ Q (.ref p) H))
def topS (i : Nat) : Stmt := PySem.Challenge.pw_surecounts_k02_tables.main.body.getD i (.Pass ⟨0, 0, 0, 0⟩)
/-- what the top has written of the built-in names and of the one number -/
structure Txt (mg : Str → Option Value) (tk : Tok) : Prop where
  n_isinstance : mg "isinstance" = none
  n_int : mg "int" = none
  n_bool : mg "bool" = none
  n_tuple : mg "tuple" = none
  n_len : mg "len" = none
  n_all : mg "all" = none
  n_sum : mg "sum" = none
  n_zip : mg "zip" = none
  n_range : mg "range" = none
  n_enumerate : mg "enumerate" = none
  n_max : mg "max" = none
  c_MOST_VALUES : mg "MOST_VALUES" = some (.int 8 tk)
structure Df (K : PySem.W.Frag) (mg : Str → Option Value) (x : Str) (st : Stmt) (ps : List Str) (f : Addr) (fd : FuncData) : Prop where
  F : Fun K x x st f fd
  b : Binds K fd ps []
  g : mg x = some (.ref f)
/-- a grid: m rows of n ints, by place -/
def Grid (m n : Nat) (f : Nat → Nat → Int) : HP := TupP m fun i => TupP n fun j => Is (.int (f i j))
theorem mf_is {x : V} : MonoF (Is x) := fun _ _ _ _ h => h
theorem mf_tup {n : Nat} {P : Nat → HP} (m : ∀ i, MonoF (P i)) : MonoF (TupP n P) := fun v H H' e ⟨p, ys, h1, h2, h3, h4⟩ => ⟨p, ys, h1, e _ _ h2 (fun _ z => nomatch z), h3, fun i y hy => m i _ _ _ e (h4 i y hy)⟩
theorem mf_row {n : Nat} {f : Nat → Int} : MonoF (TupP n fun j => Is (.int (f j))) := mf_tup fun _ => mf_is
theorem mf_grid {m n : Nat} {f : Nat → Nat → Int} : MonoF (Grid m n f) := mf_tup fun _ => mf_row
def Tr : HP := Is (.bl true)
section
variable {K : PySem.W.Frag} {σ : L2.St} {H : Hp} {ta tb te : TE} {P : HP}
theorem tup_get {n : Nat} {Pi : Nat → HP} {v : V} {i : Nat} (h : TupP n Pi v H) (hi : i < n) : ∃ p ys y, v = .ref p ∧ H p = some (.tup ys) ∧ ys.length = n ∧ ys[i]? = some y ∧ Pi i y H := by
  obtain ⟨p, ys, h1, h2, h3, h4⟩ := h
  exact ⟨p, ys, _, h1, h2, h3, List.getElem?_eq_getElem (by omega), h4 i _ (List.getElem?_eq_getElem (by omega))⟩
/-- a list whose items are known is known -/
theorem lst_is {n : Nat} {w : Nat → V} {v : V} (h : LstP n (fun i => Is (w i)) v H) : ∃ p, v = .ref p ∧ H p = some (.lst ((List.range n).map w)) := by
  obtain ⟨p, ys, h1, h2, h3, h4⟩ := h
  refine ⟨p, h1, ?_⟩
  rw [h2]
  have : ys = (List.range n).map w := by
    apply List.ext_getElem?
    intro i
    by_cases hi : i < n
    · rw [List.getElem?_map, List.getElem?_range hi, List.getElem?_eq_getElem (by omega)]
      exact congrArg some (h4 i _ (List.getElem?_eq_getElem (by omega)))
    · rw [List.getElem?_eq_none (by omega), List.getElem?_eq_none (by simp; omega)]
  rw [this]
theorem evp_all {n : Nat} (h : EvP te σ H (LstP n (fun _ => Tr))) : EvP (tCB (rAll K) (tCons te tNil)) σ H Tr := fun H1 e Q q => h H1 e _ fun v H2 e2 p => by
  obtain ⟨l, rfl, hl⟩ := lst_is p
  refine ⟨l, (List.range n).map (fun _ => true), rfl, ?_, ?_⟩
  · rw [List.map_map]; exact sq_of hl
  · have : ((List.range n).map (fun _ => true)).all id = true := by simp
    rw [this]
    exact q _ H2 e2 rfl
theorem evp_isi {t u : Value} {c : V} {b : Bool} (h : EvP te σ H P) (ht : ∀ x H1, P x H1 → TyX K H1 x t) (hc : ClsV c u) (e : PySem.W.kitOne K t u = some b) : EvP (tCB (rIsi K) (tCons te (tCons (tC c) tNil))) σ H (Is (.bl b)) := fun H1 e1 Q q =>
  h H1 e1 _ fun x H2 e2 p => ⟨x, c, t, u, b, rfl, hc, ht x H2 p, e, q _ H2 e2 rfl⟩
theorem evp_len {n : Nat} {Pi : Nat → HP} (h : EvP te σ H (TupP n Pi)) : EvP (tCB (rLenQ K) (tCons te tNil)) σ H (Is (.int (n : Int))) := fun H1 e Q q =>
  h H1 e _ fun v H2 e2 ⟨p, ys, h1, h2, h3, h4⟩ => ⟨p, ys, by rw [h1], .inr (st_of h2), by rw [h3]; exact q _ H2 e2 rfl⟩
theorem evp_c {v : V} : EvP (tC v) σ H (Is v) := evp_of ev_c
theorem evp_ixT {n : Nat} {Pi : Nat → HP} {i : Nat} (ha : EvP ta σ H (TupP n Pi)) (hb : EvP tb σ H (Is (.int (i : Int)))) (hi : i < n) (m : ∀ i, MonoF (Pi i)) : EvP (tOp (rIxT K) ta tb) σ H (Pi i) := fun H1 e Q q =>
  ha H1 e _ fun v H2 e2 h => hb H2 (e.trans e2) _ fun y H3 e3 hy => by
    obtain ⟨p, ys, z, rfl, hp, hl, hz, hpz⟩ := tup_get h hi
    exact ⟨p, ys, _, z, rfl, hy, st_of (e3 _ _ hp), atI_nat hz, q z H3 (e2.trans e3) ((m i).mono _ _ _ e3 hpz)⟩
/-- two ints, one operation -/
theorem evp_I0 {g : Int → Int → V} {i j : Int} (ha : EvP ta σ H (Is (.int i))) (hb : EvP tb σ H (Is (.int j))) : EvP (tOp (rI0 g) ta tb) σ H (Is (g i j)) := evp_of (ev_op ha.ev hb.ev rv_I0)
theorem evp_I {C : Int → Int → Prop} {g : Int → Int → V} {i j : Int} (ha : EvP ta σ H (Is (.int i))) (hb : EvP tb σ H (Is (.int j))) (hc : C i j) : EvP (tOp (rI C g) ta tb) σ H (Is (g i j)) := evp_of (ev_op ha.ev hb.ev (rv_I hc))
theorem evp_eq {x y : V} (ha : EvP ta σ H (Is x)) (hb : EvP tb σ H (Is y)) (hs : scal x y = true) : EvP (tOp rEq ta tb) σ H (Is (.bl (decide (x = y)))) := evp_of (ev_op ha.ev hb.ev (rv_eq hs))
theorem evp_ne {x y : V} (ha : EvP ta σ H (Is x)) (hb : EvP tb σ H (Is y)) (hs : scal x y = true) : EvP (tOp rNe ta tb) σ H (Is (.bl (!decide (x = y)))) := evp_of (ev_op ha.ev hb.ev (rv_ne hs))
theorem evp_is {x y : V} (h : EvP te σ H (Is x)) (e : x = y) : EvP te σ H (Is y) := e ▸ h
theorem evp_chain {g g' : Int → Int → V} {i j k : Int} {b b' : Bool} {tc : TE} (ha : EvP ta σ H (Is (.int i))) (hb : EvP tb σ H (Is (.int j))) (hc : EvP tc σ H (Is (.int k))) (h1 : g i j = .bl b) (h2 : g' j k = .bl b') :
    EvP (tChain (rI0 g) (rI0 g') ta tb tc) σ H (Is (.bl (b && b'))) := fun H1 e Q q =>
  ha.ev H1 e _ fun H2 e2 => hb.ev H2 (e.trans e2) _ fun H3 e3 => ⟨i, j, rfl, rfl, b, h1, by
    cases b with
    | true =>
      refine iteT ?_
      exact hc.ev H3 ((e.trans e2).trans e3) _ fun H4 e4 => ⟨j, k, rfl, rfl, by rw [h2]; exact q _ H4 ((e2.trans e3).trans e4) rfl⟩
    | false => exact iteF (q _ H3 (e2.trans e3) rfl)⟩
theorem evp_and {a b : Bool} (h1 : EvP ta σ H (Is (.bl a))) (h2 : a = true → EvP tb σ H (Is (.bl b))) : EvP (tAndV ta tb) σ H (Is (.bl (a && b))) := evp_of (ev_andV h1.ev fun h => (h2 h).ev)
theorem evp_or {a b : Bool} (h1 : EvP ta σ H (Is (.bl a))) (h2 : a = false → EvP tb σ H (Is (.bl b))) : EvP (tOrV ta tb) σ H (Is (.bl (a || b))) := evp_of (ev_orV h1.ev fun h => (h2 h).ev)
theorem evp_not {a : Bool} (h1 : EvP ta σ H (Is (.bl a))) : EvP (tNotV ta) σ H (Is (.bl (!a))) := evp_of (ev_notV h1.ev)
theorem et_bl {b : Bool} (h : EvP te σ H (Is (.bl b))) : EvT (tB te) σ H b := et_B h.ev
theorem et_tst {b : Bool} (h : EvP te σ H (Is (.bl b))) : EvT (tTest te) σ H b := et_test h.ev
theorem evp_gl {m n : Nat} {f : Nat → Nat → Int} {i : Nat} {v : V} (h : σ[i]? = some (some v)) (p : Grid m n f v H) : EvP (tVar i) σ H (Grid m n f) := evp_var h p mf_grid.mono
end
theorem g_name {i : Nat} {x : V} {σ0 : L2.St} {H : Hp} {S : L2.St → Hp → Prop} (h : S (σ0.set i (some x)) H) : GP (gName i) x σ0 H S := fun Q q => q _ h
theorem scs (N ps : List Str) (sc : Scope) (h : sc.kind = .function ∧ sc.isCoroutine = false ∧ sc.isGenerator = false) (h1 : (decide N.Nodup) = true) (h2 : N.take ps.length = ps) (h3 : (ps.all fun x => sc.names.lookup x == some .local || sc.names.lookup x == some .cell) = true) (h4 : (sc.names.all fun y => y.2 != .free) = true) : FnScope N ps sc := by
  refine ⟨h.1, h.2.1, h.2.2, of_decide_eq_true h1, h2, fun x hx => ?_, fun y hy e => ?_⟩
  · have := List.all_eq_true.mp h3 x hx
    simpa using this
  · have := List.all_eq_true.mp h4 y hy
    rw [e] at this
    simp at this
abbrev s_is_whole : Stmt := topS 9
abbrev N_is_whole : List Str := ["value"]
theorem sc_is_whole : FnScope N_is_whole ["value"] (defScope s_is_whole) := ⟨rfl, rfl, rfl, by decide +kernel, rfl, by decide +kernel, by decide +kernel⟩
abbrev s_is_below : Stmt := topS 11
abbrev N_is_below : List Str := ["size", "value"]
theorem sc_is_below : FnScope N_is_below ["size", "value"] (defScope s_is_below) := ⟨rfl, rfl, rfl, by decide +kernel, rfl, by decide +kernel, by decide +kernel⟩
abbrev s_check_below : Stmt := topS 12
abbrev N_check_below : List Str := ["size", "value"]
theorem sc_check_below : FnScope N_check_below ["size", "value"] (defScope s_check_below) := ⟨rfl, rfl, rfl, by decide +kernel, rfl, by decide +kernel, by decide +kernel⟩
abbrev s_is_line : Stmt := topS 14
abbrev N_is_line : List Str := ["value", "entry"]
theorem sc_is_line : FnScope N_is_line ["value"] (defScope s_is_line) := ⟨rfl, rfl, rfl, by decide +kernel, rfl, by decide +kernel, by decide +kernel⟩
abbrev s_is_grid : Stmt := topS 15
abbrev N_is_grid : List Str := ["value", "line"]
theorem sc_is_grid : FnScope N_is_grid ["value"] (defScope s_is_grid) := ⟨rfl, rfl, rfl, by decide +kernel, rfl, by decide +kernel, by decide +kernel⟩
abbrev s_grid_sum : Stmt := topS 16
abbrev N_grid_sum : List Str := ["one", "other", "line", "row", "a", "b"]
theorem sc_grid_sum : FnScope N_grid_sum ["one", "other"] (defScope s_grid_sum) := ⟨rfl, rfl, rfl, by decide +kernel, rfl, by decide +kernel, by decide +kernel⟩
abbrev s_grid_product : Stmt := topS 17
abbrev N_grid_product : List Str := ["one", "other", "line", "row", "a", "b"]
theorem sc_grid_product : FnScope N_grid_product ["one", "other"] (defScope s_grid_product) := ⟨rfl, rfl, rfl, by decide +kernel, rfl, by decide +kernel, by decide +kernel⟩
abbrev s_grid_times : Stmt := topS 18
abbrev N_grid_times : List Str := ["grid", "factor", "line", "entry"]
theorem sc_grid_times : FnScope N_grid_times ["grid", "factor"] (defScope s_grid_times) := ⟨rfl, rfl, rfl, by decide +kernel, rfl, by decide +kernel, by decide +kernel⟩
abbrev s_grid_turned : Stmt := topS 19
abbrev N_grid_turned : List Str := ["grid", "right", "line"]
theorem sc_grid_turned : FnScope N_grid_turned ["grid"] (defScope s_grid_turned) := ⟨rfl, rfl, rfl, by decide +kernel, rfl, by decide +kernel, by decide +kernel⟩
abbrev s_is_counts : Stmt := topS 21
abbrev N_is_counts : List Str := ["value", "line", "entry"]
theorem sc_is_counts : FnScope N_is_counts ["value"] (defScope s_is_counts) := ⟨rfl, rfl, rfl, by decide +kernel, rfl, by decide +kernel, by decide +kernel⟩

section
variable {P : Program} {w : World} {K : PySem.W.Frag} {mg : Str → Option Value} {base : Heap} {tk : Tok}
def spWhole : Sp := fun vs H Q _ => ∃ i : Int, vs = [.int i] ∧ ∀ v H2, Evl.Ex H H2 → Tr v H2 → Q v H2
theorem ok_whole {f : Addr} {fd : FuncData} {k : Nat} (T : Txt mg tk) (D : Df K mg "is_whole" s_is_whole ["value"] f fd) : FnOk P w K mg base CX0 (k + 1) f fd ["value"] spWhole := by
  refine D.F.ok sc_is_whole (fun vs H Q E h => ?_) (fun cdv A outer s H vs Q E hr h => ?_)
  · obtain ⟨i, rfl, _⟩ := h
    rfl
  · obtain ⟨i, rfl, q⟩ := h
    have nd := sc_is_whole.nd
    refine ⟨_, (pss_one (ps_ret (pe_and (pe_callB (r := rIsi K) call_isi (by rfl) T.n_isinstance PyProof.Rows.boot_isinstance (pa_cons (pv 0) (pa_cons (pe_bltn (v := .ty "int") (by rfl) T.n_int PyProof.Rows.boot_int rfl) pa_nil))) (pe_one (pe_not (pe_callB (r := rIsi K) call_isi (by rfl) T.n_isinstance PyProof.Rows.boot_isinstance (pa_cons (pv 0) (pa_cons (pe_bltn (v := .ty "bool") (by rfl) T.n_bool PyProof.Rows.boot_bool rfl) pa_nil)))))))), ?_⟩
    have h0 : EvP (tVar 0) (start N_is_whole [.int i]) H (Is (.int i)) := evp_var rfl rfl mono_is
    exact evp_and (evp_isi (t := .type "int") (b := true) h0 (fun x H1 p => by rw [show x = .int i from p]; exact .base (.int i)) (.ty "int") (kit_ty (by decide +kernel)))
      (fun _ => evp_not (evp_isi (t := .type "int") (b := false) h0 (fun x H1 p => by rw [show x = .int i from p]; exact .base (.int i)) (.ty "bool") (kit_ty (by decide +kernel)))) H (Ex.refl H) _ q
end
end K02
namespace K02
open PySem PySem.Spec PyProof.Rows L2 Evl Ow RZ Ev2
section
variable {P : Program} {w : World} {K : PySem.W.Frag} {mg : Str → Option Value} {base : Heap} {tk : Tok} {k : Nat}
def spBelow : Sp := fun vs H Q _ => ∃ n i : Int, vs = [.int n, .int i] ∧ (0 ≤ i ∧ i < n) ∧ ∀ v H2, Evl.Ex H H2 → Tr v H2 → Q v H2
def spCheckBelow : Sp := fun vs H Q _ => ∃ n i : Int, vs = [.int n, .int i] ∧ (0 ≤ i ∧ i < n) ∧ ∀ v H2, Evl.Ex H H2 → v = .non → Q v H2
theorem ok_below {f f1 : Addr} {fd fd1 : FuncData} (D_is_whole : Df K mg "is_whole" s_is_whole ["value"] f1 fd1) (G_is_whole : FnOk P w K mg base CX0 (k + 1) f1 fd1 ["value"] spWhole) (T : Txt mg tk) (D : Df K mg "is_below" s_is_below ["size", "value"] f fd) :
    FnOk P w K mg base CX0 (k + 2) f fd ["size", "value"] spBelow := by
  refine D.F.ok sc_is_below (fun vs H Q E h => ?_) (fun cdv A outer s H vs Q E hr h => ?_)
  · obtain ⟨n, i, rfl, _⟩ := h
    rfl
  · obtain ⟨n, i, rfl, ⟨hi, hj⟩, q⟩ := h
    have nd := sc_is_below.nd
    refine ⟨_, (pss_one (ps_ret (pe_and (pe_call G_is_whole (hr.mono (by omega)) (by rfl) D_is_whole.g D_is_whole.F.kp D_is_whole.b .nil pass0 (pa_cons (pv 1) pa_nil)) (pe_one (pe_chain op_le op_lt pe_int (pv 1) (pv 0)))))), ?_⟩
    have h1 : EvP (tVar 1) (start N_is_below [.int n, .int i]) H (Is (.int i)) := evp_var rfl rfl mono_is
    have h0 : EvP (tVar 0) (start N_is_below [.int n, .int i]) H (Is (.int n)) := evp_var rfl rfl mono_is
    have hc : EvP _ (start N_is_below [.int n, .int i]) H (Is (.bl (true && true))) := evp_chain (g := fun i j => .bl (decide (i ≤ j))) (g' := fun i j => .bl (decide (i < j))) (evp_c (v := .int 0)) h1 h0 (by rw [decide_eq_true hi]) (by rw [decide_eq_true hj])
    exact evp_and (a := true) (evp_call (eap_one h1) fun vs H1 ⟨x, e, hx⟩ Q q E => ⟨i, by rw [e, show x = .int i from hx], q⟩) (fun _ => hc) H (Ex.refl H) _ q
theorem ok_check_below {f f1 : Addr} {fd fd1 : FuncData} (D_is_below : Df K mg "is_below" s_is_below ["size", "value"] f1 fd1) (G_is_below : FnOk P w K mg base CX0 (k + 2) f1 fd1 ["size", "value"] spBelow) (T : Txt mg tk) (D : Df K mg "check_below" s_check_below ["size", "value"] f fd) :
    FnOk P w K mg base CX0 (k + 3) f fd ["size", "value"] spCheckBelow := by
  refine D.F.ok sc_check_below (fun vs H Q E h => ?_) (fun cdv A outer s H vs Q E hr h => ?_)
  · obtain ⟨n, i, rfl, _⟩ := h
    rfl
  · obtain ⟨n, i, rfl, hi, q⟩ := h
    have nd := sc_check_below.nd
    refine ⟨_, (pss_one (ps_if (pt_not (pt_val (pe_call G_is_below (hr.mono (by omega)) (by rfl) D_is_below.g D_is_below.F.kp D_is_below.b .nil pass0 (pa_cons (pv 0) (pa_cons (pv 1) pa_nil))))) (pss_one ps_never) pss_nil)), ?_⟩
    have h1 : EvP (tVar 1) (start N_check_below [.int n, .int i]) H (Is (.int i)) := evp_var rfl rfl mono_is
    have h0 : EvP (tVar 0) (start N_check_below [.int n, .int i]) H (Is (.int n)) := evp_var rfl rfl mono_is
    have hc : EvP _ (start N_check_below [.int n, .int i]) H (Is (.bl true)) := evp_call (sp := spBelow) (E := fun _ _ _ => False) (eap_two h0 h1 mono_is) fun vs H1 ⟨x, y, e, hx, hy⟩ Q q E => ⟨n, i, by rw [e, show x = .int n from hx, show y = .int i from hy], hi, q⟩
    exact s_when (D := { nx := fun _ H' => Q .non H', rt := Q }) (et_not (et_bl hc)) (fun z => nomatch z) (fun _ H1 e1 => q _ H1 e1 rfl)
/-- a row of ints -/
def spLine : Sp := fun vs H Q _ => ∃ (v : V) (n : Nat) (f : Nat → Int), vs = [v] ∧ TupP n (fun j => Is (.int (f j))) v H ∧ (1 ≤ n ∧ n ≤ 8) ∧ ∀ v H2, Evl.Ex H H2 → Tr v H2 → Q v H2
theorem ty_tup {n : Nat} {Pi : Nat → HP} {x : V} {H1 : Hp} (p : TupP n Pi x H1) : TyX K H1 x (.type "tuple") := by
  obtain ⟨p, ys, rfl, hp, _⟩ := p
  exact .base (.tup hp)
theorem ok_line {f f1 : Addr} {fd fd1 : FuncData} (D_is_whole : Df K mg "is_whole" s_is_whole ["value"] f1 fd1) (G_is_whole : FnOk P w K mg base CX0 (k + 1) f1 fd1 ["value"] spWhole) (T : Txt mg tk) (D : Df K mg "is_line" s_is_line ["value"] f fd) :
    FnOk P w K mg base CX0 (k + 2) f fd ["value"] spLine := by
  refine D.F.ok sc_is_line (fun vs H Q E h => ?_) (fun cdv A outer s H vs Q E hr h => ?_)
  · obtain ⟨v, n, g, rfl, _⟩ := h
    rfl
  · obtain ⟨v, n, g, rfl, hv, ⟨hn1, hn8⟩, q⟩ := h
    have nd := sc_is_line.nd
    refine ⟨_, (pss_cons (ps_if (PW.pt (pw_or (pt_not (pt_val (pe_callB (r := rIsi K) call_isi (by rfl) T.n_isinstance PyProof.Rows.boot_isinstance (pa_cons (pv 0) (pa_cons (pe_bltn (v := .ty "tuple") (by rfl) T.n_tuple PyProof.Rows.boot_tuple rfl) pa_nil))))) (pw_or1 (pt_not (pt_chain op_le op_le pe_int (pe_callB (r := rLenQ K) call_len_seq (by rfl) T.n_len PySem.boot_len (pa_cons (pv 0) pa_nil)) (pe_glob (v := .int 8) rfl T.c_MOST_VALUES ⟨_, rfl⟩)))))) (pss_one (ps_ret pe_bl)) pss_nil) (pss_one (ps_ret (pe_callB (r := rAll K) (cr_all rfl) (by rfl) T.n_all PyProof.Rows.boot_all (pa_cons (pe_lc (wi := iTup K _) (g := gName 1) (own := [("entry", 1)]) (by rfl) nd (pi_tup (pv 0)) (blkOk_by (by kernel_rfl)) (fun _ _ _ _ _ => (pg_name (i := 1) nd rfl (Or.inl rfl))) (fun _ _ _ _ _ => pts_nil) (fun _ _ _ _ _ => (pe_call G_is_whole (hr.mono (by omega)) (by rfl) D_is_whole.g D_is_whole.F.kp D_is_whole.b .nil pass0 (pa_cons (pv 1) pa_nil)))) pa_nil))))), ?_⟩
    have h0 : EvP (tVar 0) (start N_is_line [v]) H (TupP n (fun j => Is (.int (g j)))) := evp_var rfl hv mf_row.mono
    have hi : EvP _ (start N_is_line [v]) H (Is (.bl true)) := evp_isi (K := K) (t := .type "tuple") (b := true) h0 (fun x H1 p => ty_tup p) (.ty "tuple") (kit_ty (by decide +kernel))
    have hc : EvP _ (start N_is_line [v]) H (Is (.bl (true && true))) := evp_chain (g := fun i j => .bl (decide (i ≤ j))) (g' := fun i j => .bl (decide (i ≤ j))) (evp_c (v := .int 1)) (evp_len (K := K) h0) (evp_c (v := .int 8)) (by rw [decide_eq_true (by omega)]) (by rw [decide_eq_true (by omega)])
    refine q_when (b := false) (et_or (a := false) (b := false) (et_not (et_bl hi)) fun _ => et_not (et_tst hc)) (fun z => nomatch z) fun _ H1 e1 => ?_
    refine evp_all (n := n) (evp_lc (vs := [1]) (Sg := fun i σ2 H2 => σ2[1]? = some (some (.int (g i)))) (wi_tup (h0.mono e1) fun _ => mf_is) (by omega) (fun i x H2 hlt e2 it => g_name ⟨rfl, by cases (show x = .int (g i) from it); rfl⟩) (fun i σ2 H2 hlt e2 hs => ?_) fun _ => mf_is) H1 (Ex.refl _) _ fun v H2 e2 p => q v H2 (e1.trans e2) p
    exact evp_call (eap_one (evp_var hs rfl mono_is)) fun vs H1 ⟨x, e, hx⟩ Q q E => ⟨g i, by rw [e, show x = .int (g i) from hx], q⟩
def spGrid : Sp := fun vs H Q _ => ∃ (v : V) (m n : Nat) (f : Nat → Nat → Int), vs = [v] ∧ Grid m n f v H ∧ (1 ≤ m ∧ m ≤ 8) ∧ (1 ≤ n ∧ n ≤ 8) ∧ ∀ v H2, Evl.Ex H H2 → Tr v H2 → Q v H2
theorem ok_grid {f f1 : Addr} {fd fd1 : FuncData} (D_is_line : Df K mg "is_line" s_is_line ["value"] f1 fd1) (G_is_line : FnOk P w K mg base CX0 (k + 2) f1 fd1 ["value"] spLine) (T : Txt mg tk) (D : Df K mg "is_grid" s_is_grid ["value"] f fd) :
    FnOk P w K mg base CX0 (k + 3) f fd ["value"] spGrid := by
  refine D.F.ok sc_is_grid (fun vs H Q E h => ?_) (fun cdv A outer s H vs Q E hr h => ?_)
  · obtain ⟨v, m, n, g, rfl, _⟩ := h
    rfl
  · obtain ⟨v, m, n, g, rfl, hv, ⟨hm1, hm8⟩, hn, q⟩ := h
    have nd := sc_is_grid.nd
    refine ⟨_, (pss_cons (ps_if (PW.pt (pw_or (pt_not (pt_val (pe_callB (r := rIsi K) call_isi (by rfl) T.n_isinstance PyProof.Rows.boot_isinstance (pa_cons (pv 0) (pa_cons (pe_bltn (v := .ty "tuple") (by rfl) T.n_tuple PyProof.Rows.boot_tuple rfl) pa_nil))))) (pw_or1 (pt_not (pt_chain op_le op_le pe_int (pe_callB (r := rLenQ K) call_len_seq (by rfl) T.n_len PySem.boot_len (pa_cons (pv 0) pa_nil)) (pe_glob (v := .int 8) rfl T.c_MOST_VALUES ⟨_, rfl⟩)))))) (pss_one (ps_ret pe_bl)) pss_nil) (pss_cons (ps_if (pt_not (pt_val (pe_callB (r := rAll K) (cr_all rfl) (by rfl) T.n_all PyProof.Rows.boot_all (pa_cons (pe_lc (wi := iTup K _) (g := gName 1) (own := [("line", 1)]) (by rfl) nd (pi_tup (pv 0)) (blkOk_by (by kernel_rfl)) (fun _ _ _ _ _ => (pg_name (i := 1) nd rfl (Or.inl rfl))) (fun _ _ _ _ _ => pts_nil) (fun _ _ _ _ _ => (pe_call G_is_line (hr.mono (by omega)) (by rfl) D_is_line.g D_is_line.F.kp D_is_line.b .nil pass0 (pa_cons (pv 1) pa_nil)))) pa_nil)))) (pss_one (ps_ret pe_bl)) pss_nil) (pss_one (ps_ret (pe_callB (r := rAll K) (cr_all rfl) (by rfl) T.n_all PyProof.Rows.boot_all (pa_cons (pe_lc (wi := iTup K _) (g := gName 1) (own := [("line", 1)]) (by rfl) nd (pi_tup (pv 0)) (blkOk_by (by kernel_rfl)) (fun _ _ _ _ _ => (pg_name (i := 1) nd rfl (Or.inl rfl))) (fun _ _ _ _ _ => pts_nil) (fun _ _ _ _ _ => (pe_cmpR op_eq (pe_callB (r := rLenQ K) call_len_seq (by rfl) T.n_len PySem.boot_len (pa_cons (pv 1) pa_nil)) (pe_callB (r := rLenQ K) call_len_seq (by rfl) T.n_len PySem.boot_len (pa_cons (pe_ix (r := rIxT K) ix_tup (pv 0) pe_int (fun _ _ => rfl)) pa_nil)) (nomark _)))) pa_nil)))))), ?_⟩
    have h0 : EvP (tVar 0) (start N_is_grid [v]) H (Grid m n g) := evp_var rfl hv mf_grid.mono
    have hi : EvP _ (start N_is_grid [v]) H (Is (.bl true)) := evp_isi (K := K) (t := .type "tuple") (b := true) h0 (fun x H1 p => ty_tup p) (.ty "tuple") (kit_ty (by decide +kernel))
    have hc : EvP _ (start N_is_grid [v]) H (Is (.bl (true && true))) := evp_chain (g := fun i j => .bl (decide (i ≤ j))) (g' := fun i j => .bl (decide (i ≤ j))) (evp_c (v := .int 1)) (evp_len (K := K) h0) (evp_c (v := .int 8)) (by rw [decide_eq_true (by omega)]) (by rw [decide_eq_true (by omega)])
    refine q_when (b := false) (et_or (a := false) (b := false) (et_not (et_bl hi)) fun _ => et_not (et_tst hc)) (fun z => nomatch z) fun _ H1 e1 => ?_
    have ha : EvP _ (start N_is_grid [v]) H1 Tr := evp_all (K := K) (n := m) (evp_lc (vs := [1]) (g := gName 1) (Sg := fun i σ2 H2 => ∃ x, σ2[1]? = some (some x) ∧ TupP n (fun j => Is (.int (g i j))) x H2) (wi_tup (K := K) (h0.mono e1) fun _ => mf_row) (by omega) (fun i x H2 hlt e2 it => g_name ⟨rfl, x, rfl, it⟩)
      (fun i σ2 H2 hlt e2 ⟨x, hs, hx⟩ => evp_call (sp := spLine) (E := fun _ _ _ => False) (eap_one (evp_var hs hx mf_row.mono)) fun vs H1 ⟨x, e, hx⟩ Q q E => ⟨x, n, g i, e, hx, hn, q⟩) fun _ => mf_is)
    refine q_when (b := false) (et_not (et_bl ha)) (fun z => nomatch z) fun _ H2 e2 => ?_
    refine evp_all (n := m) (evp_lc (vs := [1]) (Sg := fun i σ2 H3 => ∃ x, σ2[1]? = some (some x) ∧ TupP n (fun j => Is (.int (g i j))) x H3 ∧ σ2[0]? = some (some v) ∧ Grid m n g v H3) (wi_tup (h0.mono (e1.trans e2)) fun _ => mf_row) (by omega) (fun i x H3 hlt e3 it => g_name ⟨rfl, x, rfl, it, rfl, mf_grid.mono _ _ _ ((e1.trans e2).trans e3) hv⟩)
      (fun i σ2 H3 hlt e3 ⟨x, hs, hx, hs0, hv3⟩ => ?_) fun _ => mf_is) H2 (Ex.refl _) _ fun v H3 e3 p => q v H3 ((e1.trans e2).trans e3) p
    refine evp_is (evp_eq (evp_len (K := K) (evp_var hs hx mf_row.mono)) (evp_len (K := K) (evp_ixT (K := K) (i := 0) (evp_var hs0 hv3 mf_grid.mono) evp_c (by omega) fun _ => mf_row)) rfl) ?_
    rw [decide_eq_true rfl]
end
end K02
namespace K02
open PySem PySem.Spec PyProof.Rows L2 Evl Ow RZ Ev2
theorem g_pair' {K : PySem.W.Frag} {x : V} {T : Addr} {u w : V} {σ0 : L2.St} {H : Hp} {i j : Nat} {S : L2.St → Hp → Prop} (hx : x = .ref T) (h : H T = some (.tup [u, w])) (hS : S ((σ0.set i (some u)).set j (some w)) H) : GP (gTup K 2 (gCons (gName i) (gCons (gName j) gNil))) x σ0 H S := fun Q q =>
  ⟨T, [u, w], hx, st_of h, rfl, u, [w], rfl, w, [], rfl, rfl, q _ hS⟩
def Bd (i : Int) : Prop := -(2 ^ 64) < i ∧ i < 2 ^ 64
/-- the ints of a grid, one after the other -/
def flat (f : Nat → Nat → Int) (n : Nat) : Nat → List Int
  | 0 => []
  | i + 1 => flat f n i ++ (List.range n).map (f i)
theorem acc2_flat (f : Nat → Nat → Int) (n : Nat) : ∀ m, acc2 (fun i j => .int (f i j)) (fun _ => n) m = (flat f n m).map V.int
  | 0 => rfl
  | m + 1 => by simp [acc2, flat, acc2_flat f n m, List.map_map, Function.comp_def]
theorem acc2_true (n : Nat) : ∀ m, ∃ bs : List Bool, acc2 (fun _ _ => V.bl true) (fun _ => n) m = bs.map V.bl ∧ bs.all id = true
  | 0 => ⟨[], rfl, rfl⟩
  | m + 1 => by
    obtain ⟨bs, h1, h2⟩ := acc2_true n m
    exact ⟨bs ++ (List.range n).map (fun _ => true), by simp [acc2, h1, List.map_map, Function.comp_def], by rw [List.all_append, h2]; simp⟩
section
variable {P : Program} {w : World} {K : PySem.W.Frag} {mg : Str → Option Value} {base : Heap} {tk : Tok} {k : Nat}
theorem evp_all2 {σ : L2.St} {H : Hp} {te : TE} {n m : Nat} (h : EvP te σ H (fun v H1 => ∃ p, v = .ref p ∧ H1 p = some (.lst (acc2 (fun _ _ => V.bl true) (fun _ => n) m)))) : EvP (tCB (rAll K) (tCons te tNil)) σ H Tr := fun H1 e1 Q q => h H1 e1 _ fun v H2 e2 ⟨p, hv, hp⟩ => by
  obtain ⟨bs, hb1, hb2⟩ := acc2_true n m
  rw [hb1] at hp
  exact ⟨p, bs, by rw [hv], sq_of hp, by rw [hb2]; exact q _ H2 e2 rfl⟩
def spGSum : Sp := fun vs H Q _ => ∃ (a b : V) (m n : Nat) (f g : Nat → Nat → Int), vs = [a, b] ∧ Grid m n f a H ∧ Grid m n g b H ∧ (m ≤ 8 ∧ n ≤ 8) ∧ ∀ v H2, Evl.Ex H H2 → Grid m n (fun i j => f i j + g i j) v H2 → Q v H2
theorem ok_gsum {fa : Addr} {fd : FuncData} (T : Txt mg tk) (D : Df K mg "grid_sum" s_grid_sum ["one", "other"] fa fd) :
    FnOk P w K mg base CX0 (k + 1) fa fd ["one", "other"] spGSum := by
  refine D.F.ok sc_grid_sum (fun vs H Q E h => ?_) (fun cdv A outer s H vs Q E hr h => ?_)
  · obtain ⟨a, b, m, n, f, g, rfl, _⟩ := h
    rfl
  · obtain ⟨a, b, m, n, f, g, rfl, hf, hg, ⟨hm, hn⟩, q⟩ := h
    have nd := sc_grid_sum.nd
    refine ⟨_, (pss_one (ps_ret (pe_callTy (r := rTupQ K) call_tuple_of (by rfl) T.n_tuple PyProof.Rows.boot_tuple (pa_cons (pe_lc (wi := iZipA K _) (g := gTup K 2 (gCons (gName 2) (gCons (gName 3) gNil))) (own := [("line", 2), ("row", 3)]) (by rfl) nd (pi_zipA (by rfl) T.n_zip (pa_cons (pv 0) (pa_cons (pv 1) pa_nil))) (blkOk_by (by kernel_rfl)) (fun _ _ _ _ _ => (pg_tup rfl (pgs_cons (pg_name (i := 2) nd rfl (Or.inl rfl)) (pgs_cons (pg_name (i := 3) nd rfl (Or.inl rfl)) pgs_nil)))) (fun _ _ _ _ _ => pts_nil) (fun _ _ _ _ _ => (pe_callTy (r := rTupQ K) call_tuple_of (by rfl) T.n_tuple PyProof.Rows.boot_tuple (pa_cons (pe_lc (wi := iZipA K _) (g := gTup K 2 (gCons (gName 4) (gCons (gName 5) gNil))) (own := [("a", 4), ("b", 5)]) (by rfl) nd (pi_zipA (by rfl) T.n_zip (pa_cons (pv 2) (pa_cons (pv 3) pa_nil))) (blkOk_by (by kernel_rfl)) (fun _ _ _ _ _ => (pg_tup rfl (pgs_cons (pg_name (i := 4) nd rfl (Or.inl rfl)) (pgs_cons (pg_name (i := 5) nd rfl (Or.inl rfl)) pgs_nil)))) (fun _ _ _ _ _ => pts_nil) (fun _ _ _ _ _ => (pe_op op_add (pv 4) (pv 5)))) pa_nil)))) pa_nil)))), ?_⟩
    have h0 : EvP (tVar 0) (start N_grid_sum [a, b]) H (Grid m n f) := evp_var rfl hf mf_grid.mono
    have h1 : EvP (tVar 1) (start N_grid_sum [a, b]) H (Grid m n g) := evp_var rfl hg mf_grid.mono
    refine evp_tuple (K := K) (Pi := fun i => TupP n fun j => Is (.int (f i j + g i j))) (evp_lc (n := m) (vs := [2, 3]) (Sg := fun i σ2 H2 => ∃ u w, σ2 = [some a, some b, some u, some w, none, none] ∧ TupP n (fun j => Is (.int (f i j))) u H2 ∧ TupP n (fun j => Is (.int (g i j))) w H2)
      (wi_zip (K := K) h0 h1 (fun _ => mf_row) fun _ => mf_row) (by omega) (fun i x H2 hlt e2 ⟨T, u, w, hx, hT, hu, hw⟩ => g_pair' hx hT ⟨rfl, u, w, rfl, hu, hw⟩) (fun i σ2 H2 hlt e2 ⟨u, w, hs, hu, hw⟩ => ?_) fun _ => mf_row) (fun _ => mf_row.mono) H (Ex.refl H) _ q
    subst hs
    refine evp_tuple (K := K) (evp_lc (n := n) (vs := [4, 5]) (Sg := fun j σ2 H2 => σ2[4]? = some (some (.int (f i j))) ∧ σ2[5]? = some (some (.int (g i j)))) (wi_zip (K := K) (evp_var rfl hu mf_row.mono) (evp_var rfl hw mf_row.mono) (fun _ => mf_is) fun _ => mf_is) (by omega)
      (fun j x H3 hlt e3 ⟨T, u, w, hx, hT, hu, hw⟩ => g_pair' hx hT ⟨rfl, by cases (show u = _ from hu); rfl, by cases (show w = _ from hw); rfl⟩) (fun j σ3 H3 hlt e3 ⟨hs1, hs2⟩ => ?_) fun _ => mf_is) fun _ => mono_is
    exact evp_I0 (g := fun i j => .int (i + j)) (evp_var hs1 rfl mono_is) (evp_var hs2 rfl mono_is)
def spGTimes : Sp := fun vs H Q _ => ∃ (a : V) (c : Int) (m n : Nat) (f : Nat → Nat → Int), vs = [a, .int c] ∧ Grid m n f a H ∧ (m ≤ 8 ∧ n ≤ 8) ∧ ((∀ i j, Bd (f i j)) ∨ Bd c) ∧ ∀ v H2, Evl.Ex H H2 → Grid m n (fun i j => f i j * c) v H2 → Q v H2
theorem ok_gtimes {fa : Addr} {fd : FuncData} (T : Txt mg tk) (D : Df K mg "grid_times" s_grid_times ["grid", "factor"] fa fd) :
    FnOk P w K mg base CX0 (k + 1) fa fd ["grid", "factor"] spGTimes := by
  refine D.F.ok sc_grid_times (fun vs H Q E h => ?_) (fun cdv A outer s H vs Q E hr h => ?_)
  · obtain ⟨a, c, m, n, f, rfl, _⟩ := h
    rfl
  · obtain ⟨a, c, m, n, f, rfl, hf, ⟨hm, hn⟩, hb, q⟩ := h
    have nd := sc_grid_times.nd
    refine ⟨_, (pss_one (ps_ret (pe_callTy (r := rTupQ K) call_tuple_of (by rfl) T.n_tuple PyProof.Rows.boot_tuple (pa_cons (pe_lc (wi := iTup K _) (g := gName 2) (own := [("line", 2)]) (by rfl) nd (pi_tup (pv 0)) (blkOk_by (by kernel_rfl)) (fun _ _ _ _ _ => (pg_name (i := 2) nd rfl (Or.inl rfl))) (fun _ _ _ _ _ => pts_nil) (fun _ _ _ _ _ => (pe_callTy (r := rTupQ K) call_tuple_of (by rfl) T.n_tuple PyProof.Rows.boot_tuple (pa_cons (pe_lc (wi := iTup K _) (g := gName 3) (own := [("entry", 3)]) (by rfl) nd (pi_tup (pv 2)) (blkOk_by (by kernel_rfl)) (fun _ _ _ _ _ => (pg_name (i := 3) nd rfl (Or.inl rfl))) (fun _ _ _ _ _ => pts_nil) (fun _ _ _ _ _ => (pe_op op_mul (pv 3) (pv 1)))) pa_nil)))) pa_nil)))), ?_⟩
    have h0 : EvP (tVar 0) (start N_grid_times [a, .int c]) H (Grid m n f) := evp_var rfl hf mf_grid.mono
    refine evp_tuple (K := K) (Pi := fun i => TupP n fun j => Is (.int (f i j * c))) (evp_lc (n := m) (vs := [2]) (Sg := fun i σ2 H2 => ∃ u, σ2 = [some a, some (.int c), some u, none] ∧ TupP n (fun j => Is (.int (f i j))) u H2)
      (wi_tup (K := K) h0 (fun _ => mf_row)) (by omega) (fun i x H2 hlt e2 hx => g_name ⟨rfl, x, rfl, hx⟩) (fun i σ2 H2 hlt e2 ⟨u, hs, hu⟩ => ?_) fun _ => mf_row) (fun _ => mf_row.mono) H (Ex.refl H) _ q
    subst hs
    refine evp_tuple (K := K) (evp_lc (n := n) (vs := [3]) (Sg := fun j σ2 H2 => σ2[3]? = some (some (.int (f i j))) ∧ σ2[1]? = some (some (.int c))) (wi_tup (K := K) (evp_var rfl hu mf_row.mono) (fun _ => mf_is)) (by omega)
      (fun j x H3 hlt e3 hx => g_name ⟨rfl, by cases (show x = _ from hx); rfl, rfl⟩) (fun j σ3 H3 hlt e3 ⟨hs1, hs2⟩ => ?_) fun _ => mf_is) fun _ => mono_is
    exact evp_I (C := CMul) (g := fun i j => .int (i * j)) (evp_var hs1 rfl mono_is) (evp_var hs2 rfl mono_is) (hb.elim (fun h => .inl (h i j)) .inr)
def spGProd : Sp := fun vs H Q _ => ∃ (a b : V) (m n : Nat) (f g : Nat → Nat → Int), vs = [a, b] ∧ Grid m n f a H ∧ Grid m n g b H ∧ (m ≤ 8 ∧ n ≤ 8) ∧ (∀ i j, Bd (g i j)) ∧
  ∀ v H2, Evl.Ex H H2 → (∃ p, v = .ref p ∧ H2 p = some (.lst ((flat (fun i j => f i j * g i j) n m).map V.int))) → Q v H2
theorem ok_gprod {fa : Addr} {fd : FuncData} (T : Txt mg tk) (D : Df K mg "grid_product" s_grid_product ["one", "other"] fa fd) :
    FnOk P w K mg base CX0 (k + 1) fa fd ["one", "other"] spGProd := by
  refine D.F.ok sc_grid_product (fun vs H Q E h => ?_) (fun cdv A outer s H vs Q E hr h => ?_)
  · obtain ⟨a, b, m, n, f, g, rfl, _⟩ := h
    rfl
  · obtain ⟨a, b, m, n, f, g, rfl, hf, hg, ⟨hm, hn⟩, hb, q⟩ := h
    have nd := sc_grid_product.nd
    refine ⟨_, (pss_one (ps_ret (pe_lc2 (wi := iZipA K _) (g := gTup K 2 (gCons (gName 2) (gCons (gName 3) gNil))) (wi1 := iZipA K _) (g1 := gTup K 2 (gCons (gName 4) (gCons (gName 5) gNil))) (own := [("line", 2), ("row", 3), ("a", 4), ("b", 5)]) (vs1 := [4, 5]) (by rfl) nd (pi_zipA (by rfl) T.n_zip (pa_cons (pv 0) (pa_cons (pv 1) pa_nil))) (blkOk_by (by kernel_rfl)) (by decide) (fun _ _ _ _ _ => (pg_tup rfl (pgs_cons (pg_name (i := 2) nd rfl (Or.inl rfl)) (pgs_cons (pg_name (i := 3) nd rfl (Or.inl rfl)) pgs_nil)))) (fun _ _ _ _ _ => pts_nil) (fun _ _ _ _ _ => (pi_zipA (by rfl) T.n_zip (pa_cons (pv 2) (pa_cons (pv 3) pa_nil)))) (fun _ _ _ _ _ => (pg_tup rfl (pgs_cons (pg_name (i := 4) nd rfl (Or.inl rfl)) (pgs_cons (pg_name (i := 5) nd rfl (Or.inl rfl)) pgs_nil)))) (fun _ _ _ _ _ => pts_nil) (fun _ _ _ _ _ => (pe_op op_mul (pv 4) (pv 5)))))), ?_⟩
    have h0 : EvP (tVar 0) (start N_grid_product [a, b]) H (Grid m n f) := evp_var rfl hf mf_grid.mono
    have h1 : EvP (tVar 1) (start N_grid_product [a, b]) H (Grid m n g) := evp_var rfl hg mf_grid.mono
    refine evp_lc2 (n := m) (mm := fun _ => n) (vs := [2, 3, 4, 5]) (vs1 := [4, 5]) (f := fun i j => .int (f i j * g i j)) (Sg := fun i σ2 H2 => ∃ u w, σ2 = [some a, some b, some u, some w, none, none] ∧ TupP n (fun j => Is (.int (f i j))) u H2 ∧ TupP n (fun j => Is (.int (g i j))) w H2)
      (Sg1 := fun i j σ2 H2 => σ2[4]? = some (some (.int (f i j))) ∧ σ2[5]? = some (some (.int (g i j))))
      (wi_zip (K := K) h0 h1 (fun _ => mf_row) fun _ => mf_row) (by omega) (fun _ => by omega) (fun i x H2 hlt e2 ⟨T, u, w, hx, hT, hu, hw⟩ => g_pair' hx hT ⟨rfl, u, w, rfl, hu, hw⟩)
      (fun i σ2 H2 hlt e2 ⟨u, w, hs, hu, hw⟩ => wi_zip (K := K) (evp_var (by rw [hs]; rfl) hu mf_row.mono) (evp_var (by rw [hs]; rfl) hw mf_row.mono) (fun _ => mf_is) fun _ => mf_is)
      (fun i j σ2 x H2 H3 hlt hlt2 e2 ⟨u0, w0, hs, _, _⟩ fx ⟨T, u, w, hx, hT, hu, hw⟩ => g_pair' hx hT (by subst hs; exact ⟨rfl, by cases (show u = _ from hu); rfl, by cases (show w = _ from hw); rfl⟩))
      (fun i j σ3 H3 hlt hlt2 e3 ⟨hs1, hs2⟩ => (evp_I (C := CMul) (g := fun i j => .int (i * j)) (evp_var hs1 rfl mono_is) (evp_var hs2 rfl mono_is) (.inr (hb i j))).ev) H (Ex.refl H) _ fun v H2 e2 ⟨p, hv, hp⟩ => q v H2 e2 ⟨p, hv, ?_⟩
    rw [hp, acc2_flat]
def spCounts : Sp := fun vs H Q _ => ∃ (v : V) (m n : Nat) (f : Nat → Nat → Int), vs = [v] ∧ Grid m n f v H ∧ (1 ≤ m ∧ m ≤ 8) ∧ (1 ≤ n ∧ n ≤ 8) ∧ (∀ i j, 0 ≤ f i j) ∧ ∀ v H2, Evl.Ex H H2 → Tr v H2 → Q v H2
theorem ok_counts {fa f1 : Addr} {fd fd1 : FuncData} (D_is_grid : Df K mg "is_grid" s_is_grid ["value"] f1 fd1) (G_is_grid : FnOk P w K mg base CX0 (k + 3) f1 fd1 ["value"] spGrid) (T : Txt mg tk) (D : Df K mg "is_counts" s_is_counts ["value"] fa fd) :
    FnOk P w K mg base CX0 (k + 4) fa fd ["value"] spCounts := by
  refine D.F.ok sc_is_counts (fun vs H Q E h => ?_) (fun cdv A outer s H vs Q E hr h => ?_)
  · obtain ⟨v, m, n, g, rfl, _⟩ := h
    rfl
  · obtain ⟨v, m, n, g, rfl, hv, hm, hn, hpos, q⟩ := h
    have nd := sc_is_counts.nd
    refine ⟨_, (pss_one (ps_ret (pe_and (pe_call G_is_grid (hr.mono (by omega)) (by rfl) D_is_grid.g D_is_grid.F.kp D_is_grid.b .nil pass0 (pa_cons (pv 0) pa_nil)) (pe_one (pe_callB (r := rAll K) (cr_all rfl) (by rfl) T.n_all PyProof.Rows.boot_all (pa_cons (pe_lc2 (wi := iTup K _) (g := gName 1) (wi1 := iTup K _) (g1 := gName 2) (own := [("line", 1), ("entry", 2)]) (vs1 := [2]) (by rfl) nd (pi_tup (pv 0)) (blkOk_by (by kernel_rfl)) (by decide) (fun _ _ _ _ _ => (pg_name (i := 1) nd rfl (Or.inl rfl))) (fun _ _ _ _ _ => pts_nil) (fun _ _ _ _ _ => (pi_tup (pv 1))) (fun _ _ _ _ _ => (pg_name (i := 2) nd rfl (Or.inl rfl))) (fun _ _ _ _ _ => pts_nil) (fun _ _ _ _ _ => (pe_cmpR op_ge (pv 2) pe_int (nomark _)))) pa_nil)))))), ?_⟩
    have h0 : EvP (tVar 0) (start N_is_counts [v]) H (Grid m n g) := evp_var rfl hv mf_grid.mono
    refine evp_and (a := true) (b := true) (evp_call (eap_one h0) fun vs H1 ⟨x, e, hx⟩ Q q E => ⟨x, m, n, g, e, hx, hm, hn, q⟩) (fun _ => ?_) H (Ex.refl H) _ q
    have hl := evp_lc2 (te := tOp (rI0 fun i j => .bl (decide (j ≤ i))) (tVar 2) (tC (.int 0))) (σ := start N_is_counts [v]) (H := H) (wi := iTup K (tVar 0)) (wi1 := iTup K (tVar 1)) (g := gName 1) (g1 := gName 2) (n := m) (mm := fun _ => n) (vs := [1, 2]) (vs1 := [2]) (f := fun i j => .bl true) (Sg := fun i σ2 H2 => ∃ u, σ2 = [some v, some u, none] ∧ TupP n (fun j => Is (.int (g i j))) u H2)
      (Sg1 := fun i j σ2 H2 => σ2[2]? = some (some (.int (g i j))))
      (wi_tup (K := K) h0 (fun _ => mf_row)) (by omega) (fun _ => by omega) (fun i x H2 hlt e2 hx => g_name ⟨rfl, x, rfl, hx⟩)
      (fun i σ2 H2 hlt e2 ⟨u, hs, hu⟩ => wi_tup (K := K) (evp_var (by rw [hs]; rfl) hu mf_row.mono) (fun _ => mf_is))
      (fun i j σ2 x H2 H3 hlt hlt2 e2 ⟨u0, hs, _⟩ fx hx => g_name (by subst hs; exact ⟨rfl, by cases (show x = _ from hx); rfl⟩))
      (fun i j σ3 H3 hlt hlt2 e3 hs1 => (evp_is (evp_I0 (g := fun i j => .bl (decide (j ≤ i))) (evp_var hs1 rfl mono_is) (evp_c (v := .int 0))) (by rw [decide_eq_true (hpos i j)])).ev)
    exact evp_all2 (K := K) hl
end
end K02
namespace K02
open PySem PySem.Spec PyProof.Rows L2 Evl Ow RZ Ev2
abbrev s_law_numbers : Stmt := topS 30
abbrev N_law_numbers : List Str := ["_law_cell", "_law_salt", "_law_sizes", "_law_whole", "_law_left", "_law_result", "_law_k", "_law_one"]
theorem sc_law_numbers : FnScope N_law_numbers ["_law_cell", "_law_salt", "_law_sizes"] (defScope s_law_numbers) := ⟨rfl, rfl, rfl, by decide +kernel, rfl, by decide +kernel, by decide +kernel⟩
abbrev s_law_draw : Stmt := topS 31
abbrev N_law_draw : List Str := ["_law_state", "_law_many", "_law_at"]
theorem sc_law_draw : FnScope N_law_draw ["_law_state", "_law_many"] (defScope s_law_draw) := ⟨rfl, rfl, rfl, by decide +kernel, rfl, by decide +kernel, by decide +kernel⟩
abbrev s_law_grid : Stmt := topS 32
abbrev N_law_grid : List Str := ["_law_state", "_law_left", "_law_right_here", "_law_most", "_law_one", "_law_other"]
theorem sc_law_grid : FnScope N_law_grid ["_law_state", "_law_left", "_law_right_here", "_law_most"] (defScope s_law_grid) := ⟨rfl, rfl, rfl, by decide +kernel, rfl, by decide +kernel, by decide +kernel⟩
abbrev s_law_right : Stmt := topS 33
abbrev N_law_right : List Str := ["_law_table", "_law_counts", "_law_turn", "_law_one", "_law_left", "_law_right_here", "_law_other", "_law_lefts", "_law_rights", "_law_row", "_law_at"]
theorem sc_law_right : FnScope N_law_right ["_law_table", "_law_counts"] (defScope s_law_right) := ⟨rfl, rfl, rfl, by decide +kernel, rfl, by decide +kernel, by decide +kernel⟩

/-- an int with c -/
def BI (c : Int → Prop) : HP := fun v _ => ∃ i, v = .int i ∧ c i
theorem mf_bi {c : Int → Prop} : MonoF (BI c) := fun _ _ _ _ h => h
section
variable {K : PySem.W.Frag} {σ : L2.St} {H : Hp} {ta tb te : TE} {P : HP} {tz : TS} {D : Ends}
theorem q_asgP {i : Nat} (h : EvP te σ H P) (k : ∀ v H1, Evl.Ex H H1 → P v H1 → tz D (σ.set i (some v)) H1) : tSeq (tAsg te (gName i)) tz D σ H := h H (Ex.refl H) _ fun v H1 e p => k v H1 e p
theorem q_appP {l : Addr} {xs : List V} (hl : H l = some (.lst xs)) (ha : Ev ta σ H (.ref l)) (h : EvP te σ H P) (hz : xs.length < 100000) (k : ∀ v H1, Evl.Ex H H1 → P v H1 → tz D σ (upd H1 l (.lst (xs ++ [v])))) :
    tSeq (tDrop (tBM K "list" rAppend ta (tCons te tNil))) tz D σ H := ha H (Ex.refl H) _ fun H1 e1 =>
  ⟨Or.inl ⟨rfl, xs, sq_of (e1 l _ hl)⟩, h H1 e1 _ fun v H2 e2 p => ⟨l, xs, v, rfl, rfl, e2 l _ (e1 l _ hl), sz_lt hz, k v H2 (e1.trans e2) p⟩⟩
theorem s_appP {l : Addr} {xs : List V} (hl : H l = some (.lst xs)) (ha : Ev ta σ H (.ref l)) (h : EvP te σ H P) (hz : xs.length < 100000) (k : ∀ v H1, Evl.Ex H H1 → P v H1 → D.nx σ (upd H1 l (.lst (xs ++ [v])))) :
    tDrop (tBM K "list" rAppend ta (tCons te tNil)) D σ H := ha H (Ex.refl H) _ fun H1 e1 =>
  ⟨Or.inl ⟨rfl, xs, sq_of (e1 l _ hl)⟩, h H1 e1 _ fun v H2 e2 p => ⟨l, xs, v, rfl, rfl, e2 l _ (e1 l _ hl), sz_lt hz, k v H2 (e1.trans e2) p⟩⟩
theorem evp_bI {C : Int → Int → Prop} {g : Int → Int → Int} {c d e : Int → Prop} (ha : EvP ta σ H (BI c)) (hb : EvP tb σ H (BI d)) (h : ∀ i j, c i → d j → C i j ∧ e (g i j)) : EvP (tOp (rI C fun i j => .int (g i j)) ta tb) σ H (BI e) :=
  evp_op ha hb mf_bi.mono fun x y H1 _ ⟨i, hx, hc⟩ ⟨j, hy, hd⟩ Q q => ⟨i, j, hx, hy, (h i j hc hd).1, q _ H1 (Ex.refl H1) ⟨_, rfl, (h i j hc hd).2⟩⟩
theorem evp_b0 {g : Int → Int → Int} {c d e : Int → Prop} (ha : EvP ta σ H (BI c)) (hb : EvP tb σ H (BI d)) (h : ∀ i j, c i → d j → e (g i j)) : EvP (tOp (rI0 fun i j => .int (g i j)) ta tb) σ H (BI e) :=
  evp_op ha hb mf_bi.mono fun x y H1 _ ⟨i, hx, hc⟩ ⟨j, hy, hd⟩ Q q => ⟨i, j, hx, hy, q _ H1 (Ex.refl H1) ⟨_, rfl, h i j hc hd⟩⟩
theorem evp_bi {i : Int} {c : Int → Prop} (h : EvP te σ H (Is (.int i))) (hc : c i) : EvP te σ H (BI c) := h.imp fun v H1 _ p => ⟨i, p, hc⟩
theorem evp_bv {n : Nat} {i : Int} {c : Int → Prop} (h : σ[n]? = some (some (.int i))) (hc : c i) : EvP (tVar n) σ H (BI c) := evp_bi (evp_var h rfl mono_is) hc
theorem evp_bc {i : Int} {c : Int → Prop} (hc : c i) : EvP (tC (.int i)) σ H (BI c) := evp_bi evp_c hc
theorem evp_ixL {p : Addr} {xs : List V} {i : Nat} {v : V} (ha : EvP ta σ H (Is (.ref p))) (hp : SqL K H p xs) (hb : EvP tb σ H (Is (.int (i : Int)))) (hv : xs[i]? = some v) : EvP (tOp (rIxL K) ta tb) σ H (Is v) := evp_of (ev_op ha.ev hb.ev (rv_ixL hp (atI_nat hv)))
end
section
variable {P : Program} {w : World} {K : PySem.W.Frag} {mg : Str → Option Value} {base : Heap} {tk : Tok} {k : Nat}
def spNum : Sp := fun vs H Q _ => ∃ (c s : Int) (a : Addr) (zs : List Int), vs = [.int c, .int s, .ref a] ∧ H a = some (.lst (zs.map V.int)) ∧ (∀ z ∈ zs, 1 ≤ z ∧ z ≤ 1000) ∧ zs.length ≤ 1000 ∧ (0 ≤ s ∧ s ≤ 100000) ∧
  ∀ (p : Addr) (xs : List Int) (H2 : Hp), Evl.Ex H H2 → H p = none → H2 p = some (.lst (xs.map V.int)) → Q (.ref p) H2
theorem fm {a b : Int} (h : 0 < b) : b ≠ 0 ∧ (0 ≤ a.fmod b ∧ a.fmod b < b) := ⟨by omega, Int.fmod_nonneg_of_pos a h, Int.fmod_lt_of_pos a h⟩
theorem ok_num {fa : Addr} {fd : FuncData} (T : Txt mg tk) (D : Df K mg "_law_numbers" s_law_numbers ["_law_cell", "_law_salt", "_law_sizes"] fa fd) :
    FnOk P w K mg base CX0 (k + 1) fa fd ["_law_cell", "_law_salt", "_law_sizes"] spNum := by
  refine D.F.ok sc_law_numbers (fun vs H Q E h => ?_) (fun cdv A outer s H vs Q E hr h => ?_)
  · obtain ⟨c, s, a, zs, rfl, _⟩ := h
    rfl
  · obtain ⟨c, t, a, zs, rfl, ha, hz, hzl, ht, q⟩ := h
    have nd := sc_law_numbers.nd
    refine ⟨_, (pss_cons (ps_set (i := 3) nd rfl (Or.inl rfl) (pe_callB (call_max2 rfl) (by rfl) T.n_max PyProof.Rows.boot_max (pa_cons (pv 0) (pa_cons (pe_op op_sub (pe_un un_neg pe_int) (pv 0)) pa_nil)))) (pss_cons (ps_set (i := 4) nd rfl (Or.inl rfl) (pv 3)) (pss_cons (ps_set (i := 5) nd rfl (Or.inl rfl) (pe_lst pa_nil)) (pss_cons (ps_for PassesOwn.never rfl (pi_range1 (by rfl) T.n_range (pa_cons (pe_callB (r := rLenQ K) call_len_seq (by rfl) T.n_len PySem.boot_len (pa_cons (pv 2) pa_nil)) pa_nil)) (pg_name (i := 6) nd rfl (Or.inl rfl)) (pss_one (ps_if (PW.pt (pw_and (pt_cmpR op_ge (pv 3) (pe_op op_pow pe_int pe_int) (nomark _)) (pw_and1 (pt_cmpR op_gt (pv 4) pe_int (nomark _))))) (pss_cons (ps_expr (pe_bm PySem.F.plainAttrs_list PySem.F.slot_list_append PySem.F.type_list_append mt_append (pv 5) (pa_cons (pe_op op_modN (pv 4) (pe_ix (r := rIxL K) ix_list (pv 2) (pv 6) (fun _ _ => rfl))) pa_nil))) (pss_one (ps_set (i := 4) nd rfl (Or.inl rfl) (pe_op op_fdivN (pv 4) (pe_ix (r := rIxL K) ix_list (pv 2) (pv 6) (fun _ _ => rfl)))))) (pss_cons (ps_set (i := 7) nd rfl (Or.inl rfl) (pe_op op_modN (pe_op op_pow (pe_op op_add (pe_op op_add (pe_op op_modN (pv 3) pe_int) (pe_op op_mul pe_int (pv 1))) pe_int) pe_int) pe_int)) (pss_cons (ps_set (i := 7) nd rfl (Or.inl rfl) (pe_op op_modN (pe_op op_mul (pe_op op_add (pv 7) (pe_op op_mul pe_int (pe_op op_add (pv 6) pe_int))) (pe_op op_add (pv 6) pe_int)) pe_int)) (pss_cons (ps_set (i := 7) nd rfl (Or.inl rfl) (pe_op op_modN (pe_op op_mul (pe_op op_modN (pe_op op_pow (pv 7) pe_int) pe_int) pe_int) pe_int)) (pss_one (ps_expr (pe_bm PySem.F.plainAttrs_list PySem.F.slot_list_append PySem.F.type_list_append mt_append (pv 5) (pa_cons (pe_op op_modN (pe_op op_fdivN (pv 7) pe_int) (pe_ix (r := rIxL K) ix_list (pv 2) (pv 6) (fun _ _ => rfl))) pa_nil)))))))))) (pss_one (ps_ret (pv 5))))))), ?_⟩
    refine q_asgP (P := BI fun _ => True) (fun H1 e1 Q q => ?_) fun v1 H1 e1 ⟨W, hW, _⟩ => ?_
    · exact ⟨_, rfl, 1, rfl, _, rfl, -1, c, rfl, rfl, c, _, rfl, q _ H1 (Ex.refl _) ⟨_, rfl, trivial⟩⟩
    subst hW
    refine q_asgP (P := Is (.int W)) (evp_var rfl rfl mono_is) fun v2 H2 e2 hv2 => ?_
    subst hv2
    refine q_asgL (el_lst ea_nil (by decide)) fun p H3 hp e3 h3 => ?_
    have hpH : H p = none := fresh_back (e1.trans e2) hp
    have ex3 : Evl.Ex H H3 := (e1.trans e2).trans e3
    have key : ∀ (i : Nat) (σ' : L2.St) (H' : Hp), True := fun _ _ _ => trivial
    refine q_forR1 (n := (zs.length : Int)) (ea_cons (EvP.ev (te := tCB (rLenQ K) (tCons (tVar 2) tNil)) fun H4 e4 Q q => ⟨_, rfl, a, _, rfl, .inl (sq_of ((ex3.trans e4) _ _ ha)), by rw [List.length_map]; exact q _ H4 (Ex.refl _) rfl⟩) ea_nil) (by omega)
      (fun i σ' H' => ∃ (L : Int) (xs : List Int) (k1 k2 : Option V), σ' = [some (.int c), some (.int t), some (.ref a), some (.int W), some (.int L), some (.ref p), k1, k2] ∧ xs.length = i ∧ Evl.Ex H H' ∧ H' p = some (.lst (xs.map V.int)))
      (fun H4 e4 => ⟨W, [], none, none, rfl, rfl, ex3.trans e4, e4 _ _ h3⟩) (fun i σ' H' hi ⟨L, xs, k1, k2, hs, hl, ex', hp'⟩ => ?_) (fun σ' H' ⟨L, xs, k1, k2, hs, hl, ex', hp'⟩ => ?_)
    · subst hs
      have hzi : (zs.map V.int)[i]? = some (.int (zs[i]'(by omega))) := by rw [List.getElem?_map, List.getElem?_eq_getElem (by omega)]; rfl
      have hzb := hz (zs[i]'(by omega)) (List.getElem_mem _)
      generalize zs[i]'(by omega) = z at hzi hzb
      have step : ∀ (σ2 : L2.St) (H5 : Hp) (e : Evl.Ex H' H5), σ2[2]? = some (some (.ref a)) → σ2[6]? = some (some (.int (i : Int))) → EvP (tOp (rIxL K) (tVar 2) (tVar 6)) σ2 H5 (BI fun x => 1 ≤ x ∧ x ≤ 1000) := fun σ2 H5 e h2 h6 =>
        evp_bi (evp_ixL (evp_var h2 rfl mono_is) (sq_of ((ex'.trans e) _ _ ha)) (evp_var h6 rfl mono_is) hzi) hzb
      have fin : ∀ (v : V) (H5 : Hp) (L' : Int) (k2' : Option V), Evl.Ex H' H5 → (∃ x, v = .int x ∧ True) → (fun i σ' H' => ∃ (L : Int) (xs : List Int) (k1 k2 : Option V), σ' = [some (.int c), some (.int t), some (.ref a), some (.int W), some (.int L), some (.ref p), k1, k2] ∧ xs.length = i ∧ Evl.Ex H H' ∧ H' p = some (.lst (xs.map V.int))) (i + 1)
          [some (.int c), some (.int t), some (.ref a), some (.int W), some (.int L'), some (.ref p), some (.int (i : Int)), k2'] (upd H5 p (.lst (xs.map V.int ++ [v]))) := fun v H5 L' k2' e ⟨x, hx, _⟩ => by
        subst hx
        refine ⟨L', xs ++ [x], some (.int (i : Int)), k2', rfl, by simp [hl], Ex.mut (ex'.trans e) hpH, ?_⟩
        rw [upd_same, List.map_append]; rfl
      have hW : EvP (tVar 3) [some (.int c), some (.int t), some (.ref a), some (.int W), some (.int L), some (.ref p), some (.int (i : Int)), k2] H' (Is (.int W)) := evp_var rfl rfl mono_is
      have hpw : EvP (tOp (rI CPow fun i j => .int (i ^ j.toNat)) (tC (.int 10)) (tC (.int 18))) [some (.int c), some (.int t), some (.ref a), some (.int W), some (.int L), some (.ref p), some (.int (i : Int)), k2] H' (Is (.int (10 ^ (18 : Int).toNat))) := evp_I evp_c evp_c ⟨by decide, by decide, by decide⟩
      refine s_if (et_and (et_tst (evp_I0 (g := fun i j => .bl (decide (j ≤ i))) hW hpw)) fun _ => et_tst (evp_I0 (g := fun i j => .bl (decide (j < i))) (evp_var (v := .int L) rfl rfl mono_is) evp_c)) (fun _ H5 e5 => ?_) (fun _ H5 e5 => ?_)
      · refine q_appP (P := BI fun _ => True) (e5 _ _ hp') (ev_var rfl) (evp_bI (c := fun _ => True) (e := fun _ => True) (evp_bv rfl trivial) (step _ H5 e5 rfl rfl) fun i j _ hj => ⟨by omega, trivial⟩) (by simp; omega) fun v H6 e6 hv => ?_
        have st6 : EvP (tOp (rIxL K) (tVar 2) (tVar 6)) [some (.int c), some (.int t), some (.ref a), some (.int W), some (.int L), some (.ref p), some (.int (i : Int)), k2] (upd H6 p (.lst (xs.map V.int ++ [v]))) (BI fun x => 1 ≤ x ∧ x ≤ 1000) :=
          evp_bi (evp_ixL (evp_var rfl rfl mono_is) (sq_of ((Ex.mut ((ex'.trans e5).trans e6) hpH) _ _ ha)) (evp_var rfl rfl mono_is) hzi) hzb
        have hdv := evp_bI (C := CDivN) (g := fun i j => i.fdiv j) (c := fun _ => True) (e := fun _ => True) (evp_bv (n := 4) (i := L) rfl trivial) st6 fun i j _ hj => ⟨⟨by omega, by omega⟩, trivial⟩
        refine hdv _ (Ex.refl _) _ fun v7 H7 e7 ⟨x7, hx7, _⟩ => ?_
        subst hx7
        obtain ⟨x, hx, _⟩ := hv
        subst hx
        refine ⟨x7, xs ++ [x], some (.int (i : Int)), k2, rfl, by simp [hl], (Ex.mut ((ex'.trans e5).trans e6) hpH).trans e7, ?_⟩
        rw [e7 _ _ upd_same, List.map_append]; rfl
      · have hone : ∀ (k2' : Option V) (H6 : Hp), EvP (tVar 3) [some (.int c), some (.int t), some (.ref a), some (.int W), some (.int L), some (.ref p), some (.int (i : Int)), k2'] H6 (BI fun _ => True) := fun k2' H6 => evp_bv rfl trivial
        refine q_asgP (P := BI fun x => 0 ≤ x ∧ x < 2147483647) (evp_bI (c := fun _ => True) (d := fun x => x = 2147483647) (evp_bI (c := fun x => 0 ≤ x ∧ x < 10 ^ 18) (d := fun x => x = 3) (e := fun _ => True) (evp_b0 (c := fun x => 0 ≤ x ∧ x < 10 ^ 17) (d := fun x => x = 1) (evp_b0 (c := fun x => 0 ≤ x ∧ x < 2147483629) (d := fun x => 0 ≤ x ∧ x ≤ 791900000)
          (evp_bI (d := fun x => x = 2147483629) (hone k2 H5) (evp_bc rfl) fun i j _ hj => by subst hj; exact fm (by decide)) (evp_bI (c := fun x => x = 7919) (d := fun x => x = t) (evp_bc rfl) (evp_bv rfl rfl) fun i j hi hj => by subst hi; subst hj; exact ⟨.inl ⟨by decide, by decide⟩, by omega⟩)
          fun i j hi hj => by omega) (evp_bc rfl) fun i j hi hj => by omega) (evp_bc rfl) fun i j hi hj => ⟨⟨by omega, by omega, by omega⟩, trivial⟩) (evp_bc rfl) fun i j _ hj => by subst hj; exact fm (by decide)) fun v6 H6 e6 ⟨x6, hx6, hb6⟩ => ?_
        subst hx6
        refine q_asgP (P := BI fun x => 0 ≤ x ∧ x < 2147483629) (evp_bI (c := fun _ => True) (d := fun x => x = 2147483629) (evp_bI (c := fun _ => True) (d := fun x => 0 ≤ x ∧ x ≤ 2000) (e := fun _ => True) (evp_b0 (c := fun _ => True) (d := fun _ => True) (e := fun _ => True) (evp_bv rfl trivial)
          (evp_bI (c := fun x => x = 104729) (d := fun _ => True) (evp_bc rfl) (evp_b0 (c := fun _ => True) (d := fun _ => True) (evp_bv rfl trivial) (evp_bc trivial) fun _ _ _ _ => trivial) fun i j hi hj => by subst hi; exact ⟨.inl ⟨by decide, by decide⟩, trivial⟩) fun _ _ _ _ => trivial)
          (evp_b0 (c := fun x => x = (i : Int)) (d := fun x => x = 3) (evp_bv rfl rfl) (evp_bc rfl) fun i j hi hj => by omega) fun i j _ hj => ⟨.inr ⟨by omega, by omega⟩, trivial⟩) (evp_bc rfl) fun i j _ hj => by subst hj; exact fm (by decide)) fun v7 H7 e7 ⟨x7, hx7, hb7⟩ => ?_
        subst hx7
        refine q_asgP (P := BI fun x => 0 ≤ x ∧ x < 2147483629) (evp_bI (c := fun _ => True) (d := fun x => x = 2147483629) (evp_bI (c := fun x => 0 ≤ x ∧ x < 2147483647) (d := fun x => x = 48271) (e := fun _ => True) (evp_bI (c := fun _ => True) (d := fun x => x = 2147483647) (evp_bI (c := fun x => 0 ≤ x ∧ x < 2147483629) (d := fun x => x = 5) (e := fun _ => True)
          (evp_bv rfl hb7) (evp_bc rfl) fun i j hi hj => ⟨⟨by omega, by omega, by omega⟩, trivial⟩) (evp_bc rfl) fun i j _ hj => by subst hj; exact fm (by decide)) (evp_bc rfl) fun i j hi hj => ⟨.inl ⟨by omega, by omega⟩, trivial⟩) (evp_bc rfl) fun i j _ hj => by subst hj; exact fm (by decide)) fun v8 H8 e8 ⟨x8, hx8, hb8⟩ => ?_
        subst hx8
        refine s_appP (P := BI fun _ => True) (((e5.trans e6).trans (e7.trans e8)) _ _ hp') (ev_var rfl) (evp_bI (c := fun _ => True) (evp_bI (C := CDivN) (g := fun i j => i.fdiv j) (c := fun _ => True) (d := fun x => x = 16) (e := fun _ => True) (evp_bv rfl trivial) (evp_bc rfl) fun i j _ hj => by subst hj; exact ⟨⟨by decide, by decide⟩, trivial⟩)
          (step _ H8 ((e5.trans e6).trans (e7.trans e8)) rfl rfl) fun i j _ hj => ⟨by omega, trivial⟩) (by simp; omega) fun v9 H9 e9 hv9 => ?_
        exact fin v9 H9 L _ (((e5.trans e6).trans (e7.trans e8)).trans e9) hv9
    · subst hs
      exact ⟨_, rfl, q p xs H' ex' hpH hp'⟩
end
end K02
namespace K02
open PySem PySem.Spec PyProof.Rows L2 Evl Ow RZ Ev2
section
variable {P : Program} {w : World} {K : PySem.W.Frag} {mg : Str → Option Value} {base : Heap} {tk : Tok} {k : Nat}
theorem evp_if {σ : L2.St} {H : Hp} {t : TT} {ta tb : TE} {b : Bool} {P : HP} (h : EvT t σ H b) (h1 : b = true → EvP ta σ H P) (h2 : b = false → EvP tb σ H P) : EvP (tIf t ta tb) σ H P := fun H1 e Q q => h H1 e _ fun H2 e2 => by
  cases b with
  | true => exact iteT (h1 rfl H2 (e.trans e2) _ fun v H3 e3 p => q v H3 (e2.trans e3) p)
  | false => exact iteF (h2 rfl H2 (e.trans e2) _ fun v H3 e3 p => q v H3 (e2.trans e3) p)
abbrev rInt1 : List V → Hp → VK → Prop := fun xs H Q => (∃ i, xs = [.int i] ∧ Q (.int i) H) ∨ ∃ k, xs = [.bl k] ∧ Q (.int (if k = true then 1 else 0)) H
theorem evp_int1 {σ : L2.St} {H : Hp} {te : TE} {i : Int} (h : EvP te σ H (Is (.int i))) : EvP (tCB rInt1 (tCons te tNil)) σ H (Is (.int i)) := evp_cb (eap_one h) fun vs H1 ⟨x, e, hx⟩ Q q => .inl ⟨i, by rw [e, show x = .int i from hx], q _ H1 (Ex.refl _) rfl⟩
def spDraw : Sp := fun vs H Q _ => ∃ (s p : Addr) (xs : List Int) (m : Int), vs = [.ref s, .int m] ∧ Dr s p xs H ∧ 1 ≤ m ∧ ∀ v H2, Gs s H H2 → Dr s p xs H2 → BI (fun r => 0 ≤ r ∧ r < m) v H2 → Q v H2
theorem ok_draw {fa : Addr} {fd : FuncData} (T : Txt mg tk) (D : Df K mg "_law_draw" s_law_draw ["_law_state", "_law_many"] fa fd) :
    FnOk P w K mg base CX0 (k + 1) fa fd ["_law_state", "_law_many"] spDraw := by
  refine D.F.ok sc_law_draw (fun vs H Q E h => ?_) (fun cdv A outer s H vs Q E hr h => ?_)
  · obtain ⟨s, p, xs, m, rfl, _⟩ := h
    rfl
  · obtain ⟨s, p, xs, m, rfl, d, hm, q⟩ := h
    have nd := sc_law_draw.nd
    refine ⟨_, (pss_cons (ps_set (i := 2) nd rfl (Or.inl rfl) (pe_ix (r := rIxL K) ix_list (pv 0) pe_int (fun _ _ => rfl))) (pss_cons (ps_asg (pe_op op_add (pv 2) pe_int) (pg_sub (pv 0) pe_int set_list)) (pss_one (ps_ret (pe_ifExp (pt_cmpR op_lt (pv 2) (pe_callB (r := rLenQ K) call_len_seq (by rfl) T.n_len PySem.boot_len (pa_cons (pe_ix (r := rIxL K) ix_list (pv 0) pe_int (fun _ _ => rfl)) pa_nil)) (nomark _)) (pe_op op_modN (pe_callTy call_int1 (by rfl) T.n_int PyProof.Rows.boot_int (pa_cons (pe_ix (r := rIxL K) ix_list (pe_ix (r := rIxL K) ix_list (pv 0) pe_int (fun _ _ => rfl)) (pv 2) (fun _ _ => rfl)) pa_nil)) (pv 1)) pe_int))))), ?_⟩
    obtain ⟨n, hn⟩ := d.at_
    refine q_asgP (evp_ixL (i := 1) (v := .int (n : Int)) (evp_var rfl rfl mono_is) (sq_of hn) evp_c rfl) fun v1 H1 e1 hv1 => ?_
    subst hv1
    refine q_setL (j := 1) (e1 _ _ hn) (EvP.ev (evp_I0 (g := fun i j => .int (i + j)) (evp_var (v := .int (n : Int)) rfl rfl mono_is) evp_c)) (ev_var rfl) ev_c (by simp) fun H2 e2 => ?_
    have d2 := d.ex (e1.trans e2)
    have hset : ([V.ref p, .int (n : Int)].set 1 (.int ((n : Int) + 1))) = [V.ref p, .int ((n + 1 : Nat) : Int)] := rfl
    rw [hset]
    have d3 : Dr s p xs (upd H2 s (.lst [V.ref p, .int ((n + 1 : Nat) : Int)])) := ⟨d.ne, ⟨n + 1, upd_same⟩, by rw [upd_ne d.ne]; exact d2.pool⟩
    have g3 : Gs s H (upd H2 s (.lst [V.ref p, .int ((n + 1 : Nat) : Int)])) := fun a o ha h => by rw [upd_ne ha]; exact (e1.trans e2) _ _ h
    generalize upd H2 s (.lst [V.ref p, .int ((n + 1 : Nat) : Int)]) = H3 at d3 g3
    obtain ⟨n3, hn3⟩ := d3.at_
    have hp : EvP (tOp (rIxL K) (tVar 0) (tC (.int 0))) [some (.ref s), some (.int m), some (.int (n : Int))] H3 (fun v H => v = .ref p ∧ H p = some (.lst (xs.map V.int))) :=
      (evp_ixL (i := 0) (v := .ref p) (evp_var rfl rfl mono_is) (sq_of hn3) evp_c rfl).imp fun v H4 e4 hv => ⟨hv, e4 _ _ d3.pool⟩
    have hlen : EvP (tCB (rLenQ K) (tCons (tOp (rIxL K) (tVar 0) (tC (.int 0))) tNil)) [some (.ref s), some (.int m), some (.int (n : Int))] H3 (Is (.int (xs.length : Int))) := evp_cb (eap_one hp) fun vs H4 ⟨x, e, hx, hpl⟩ Q q =>
      ⟨p, _, by rw [e, hx], .inl (sq_of hpl), by rw [List.length_map]; exact q _ H4 (Ex.refl _) rfl⟩
    have hat : EvP (tVar 2) [some (.ref s), some (.int m), some (.int (n : Int))] H3 (Is (.int (n : Int))) := evp_var rfl rfl mono_is
    refine evp_if (b := decide ((n : Int) < (xs.length : Int))) (P := BI fun r => 0 ≤ r ∧ r < m) (et_tst (evp_I0 (g := fun i j => .bl (decide (i < j))) hat hlen)) (fun hb => ?_) (fun _ => evp_bc (by omega)) H3 (Ex.refl H3) _ fun v H4 e4 hv => q v H4 (g3.trans (Gs.of e4)) (d3.ex e4) hv
    have hlt : n < xs.length := by have := of_decide_eq_true hb; omega
    have hx : (xs.map V.int)[n]? = some (.int xs[n]) := by rw [List.getElem?_map, List.getElem?_eq_getElem hlt]; rfl
    refine evp_bI (c := fun _ => True) (d := fun x => x = m) (evp_bi (evp_int1 (i := xs[n]) (evp_op hp hat (fun v H H' e h => ⟨h.1, e _ _ h.2⟩) fun x y H4 e4 ⟨h1, h2⟩ hy Q q => ⟨p, _, (n : Int), _, h1, hy, sq_of h2, atI_nat hx, q _ H4 (Ex.refl _) rfl⟩)) trivial) (evp_bv rfl rfl) fun i j _ hj => by subst hj; exact fm (by omega)
end
end K02
namespace K02
open PySem PySem.Spec PyProof.Rows L2 Evl Ow RZ Ev2
def toI : V → Int
  | .int i => i
  | _ => 0
/-- ints found, by place -/
theorem row_of {c : Int → Prop} {n : Nat} {v : V} {H : Hp} (h0 : c 0) (h : TupP n (fun _ => BI c) v H) : ∃ f : Nat → Int, TupP n (fun j => Is (.int (f j))) v H ∧ ∀ j, c (f j) := by
  obtain ⟨p, ys, hv, hp, hl, hy⟩ := h
  refine ⟨fun j => toI (ys.getD j .non), ⟨p, ys, hv, hp, hl, fun j y hj => ?_⟩, fun j => ?_⟩
  · obtain ⟨i, e, hc⟩ := hy j y hj
    show y = .int (toI (ys.getD j .non))
    rw [List.getD_eq_getElem?_getD, hj]
    simp [e, toI]
  · show c (toI (ys.getD j .non))
    by_cases hj : j < ys.length
    · obtain ⟨i, e, hc⟩ := hy j _ (List.getElem?_eq_getElem hj)
      rw [List.getD_eq_getElem?_getD, List.getElem?_eq_getElem hj, e]
      exact hc
    · rw [List.getD_eq_getElem?_getD, List.getElem?_eq_none (by omega)]
      exact h0
theorem grid_of {c : Int → Prop} {m n : Nat} {v : V} {H : Hp} (h0 : c 0) (h : TupP m (fun _ => TupP n fun _ => BI c) v H) : ∃ f : Nat → Nat → Int, Grid m n f v H ∧ ∀ i j, c (f i j) := by
  obtain ⟨p, ys, hv, hp, hl, hy⟩ := h
  have hr : ∀ i, ∃ f : Nat → Int, (∀ y, ys[i]? = some y → TupP n (fun j => Is (.int (f j))) y H) ∧ ∀ j, c (f j) := fun i => by
    by_cases hi : i < ys.length
    · obtain ⟨f, h1, h2⟩ := row_of h0 (hy i _ (List.getElem?_eq_getElem hi))
      refine ⟨f, fun y e => ?_, h2⟩
      rw [List.getElem?_eq_getElem hi] at e
      cases e
      exact h1
    · exact ⟨fun _ => 0, ⟨fun y e => (by rw [List.getElem?_eq_none (by omega)] at e; cases e), fun _ => h0⟩⟩
  refine ⟨fun i => Classical.choose (hr i), ⟨p, ys, hv, hp, hl, fun i y e => (Classical.choose_spec (hr i)).1 y e⟩, fun i j => (Classical.choose_spec (hr i)).2 j⟩
theorem _root_.Ev2.EvAP.one' {ta : TA} {σ : L2.St} {H : Hp} {v : V} (h : EvAP ta σ H (fun vs H1 => ∃ x, vs = [x] ∧ Is v x H1)) : EvAP ta σ H (fun vs _ => vs = [v]) := fun H1 e Q q => h H1 e Q fun vs H2 e2 ⟨x, hv, hx⟩ => q vs H2 e2 (by rw [hv, show x = v from hx])
section
variable {P : Program} {w : World} {K : PySem.W.Frag} {mg : Str → Option Value} {base : Heap} {tk : Tok} {k : Nat}
def spGC : Sp := fun vs H Q _ => ∃ (s p : Addr) (xs : List Int) (l r : Nat) (m : Int), vs = [.ref s, .int (l : Int), .int (r : Int), .int m] ∧ Dr s p xs H ∧ (l ≤ 8 ∧ r ≤ 8) ∧ 1 ≤ m ∧
  ∀ v H2, Gs s H H2 → Dr s p xs H2 → (∃ f, Grid l r f v H2 ∧ ∀ i j, 0 ≤ f i j ∧ f i j < m) → Q v H2
theorem evd_draw {σ : L2.St} {H : Hp} {ta : TE} {s p : Addr} {xs : List Int} {m : Int} {E : XK} (hs : σ[0]? = some (some (.ref s))) (ha : ∀ H1, EvP ta σ H1 (Is (.int m))) (hm : 1 ≤ m) : EvD s p xs (tCall spDraw [] E (tCons (tVar 0) (tCons ta tNil))) σ H (BI fun r => 0 ≤ r ∧ r < m) := fun H1 e d Q q =>
  eap_two (P := Is (.ref s)) (evp_var hs rfl mono_is) (ha H1) mono_is H1 (Ex.refl _) _ fun vs H2 e2 ⟨x, y, hv, hx, hy⟩ => ⟨s, p, xs, m, by rw [hv, show x = .ref s from hx, show y = .int m from hy]; rfl, d.ex e2, hm, fun v H3 g3 d3 h3 => q v H3 ((Gs.of e2).trans g3) d3 h3⟩
theorem ok_gc {fa f1 : Addr} {fd fd1 : FuncData} (D__law_draw : Df K mg "_law_draw" s_law_draw ["_law_state", "_law_many"] f1 fd1) (G__law_draw : FnOk P w K mg base CX0 (k + 1) f1 fd1 ["_law_state", "_law_many"] spDraw) (T : Txt mg tk)
    (D : Df K mg "_law_grid" s_law_grid ["_law_state", "_law_left", "_law_right_here", "_law_most"] fa fd) : FnOk P w K mg base CX0 (k + 2) fa fd ["_law_state", "_law_left", "_law_right_here", "_law_most"] spGC := by
  refine D.F.ok sc_law_grid (fun vs H Q E h => ?_) (fun cdv A outer s H vs Q E hr h => ?_)
  · obtain ⟨s, p, xs, l, r, m, rfl, _⟩ := h
    rfl
  · obtain ⟨s, p, xs, l, r, m, rfl, d, ⟨hl, hr8⟩, hm, q⟩ := h
    have nd := sc_law_grid.nd
    refine ⟨_, (pss_one (ps_ret (pe_callTy (r := rTupQ K) call_tuple_of (by rfl) T.n_tuple PyProof.Rows.boot_tuple (pa_cons (pe_lc (wi := iRng1 _) (g := gName 4) (own := [("_law_one", 4)]) (by rfl) nd (pi_range1 (by rfl) T.n_range (pa_cons (pv 1) pa_nil)) (blkOk_by (by kernel_rfl)) (fun _ _ _ _ _ => (pg_name (i := 4) nd rfl (Or.inl rfl))) (fun _ _ _ _ _ => pts_nil) (fun _ _ _ _ _ => (pe_callTy (r := rTupQ K) call_tuple_of (by rfl) T.n_tuple PyProof.Rows.boot_tuple (pa_cons (pe_lc (wi := iRng1 _) (g := gName 5) (own := [("_law_other", 5)]) (by rfl) nd (pi_range1 (by rfl) T.n_range (pa_cons (pv 2) pa_nil)) (blkOk_by (by kernel_rfl)) (fun _ _ _ _ _ => (pg_name (i := 5) nd rfl (Or.inl rfl))) (fun _ _ _ _ _ => pts_nil) (fun _ _ _ _ _ => (pe_call G__law_draw (hr.mono (by omega)) (by rfl) D__law_draw.g D__law_draw.F.kp D__law_draw.b .nil pass0 (pa_cons (pv 0) (pa_cons (pv 3) pa_nil))))) pa_nil)))) pa_nil)))), ?_⟩
    refine evd_tuple (K := K) (n := l) (Pi := fun _ => TupP r fun _ => BI fun x => 0 ≤ x ∧ x < m) (H := H) (evd_lc (j := 4) (vs := [4]) (fun H1 => (eap_one (evp_var (v := .int (l : Int)) rfl rfl mono_is)).one') (by omega) (fun _ => rfl) (fun i hi => ?_) fun _ => mf_tup fun _ => mf_bi) (fun _ => mf_tup fun _ => mf_bi) H (Gs.refl _ _) d _ fun v H2 g2 d2 hv => ?_
    · refine evd_tuple (K := K) (evd_lc (j := 5) (vs := [5]) (fun H1 => (eap_one (evp_var (v := .int (r : Int)) rfl rfl mono_is)).one') (by omega) (fun _ => rfl) (fun j hj => ?_) fun _ => mf_bi) (fun _ => mf_bi)
      exact evd_draw rfl (fun H1 => evp_var (v := .int m) rfl rfl mono_is) (by omega)
    · obtain ⟨f, h1, h2⟩ := grid_of (c := fun x => 0 ≤ x ∧ x < m) (by omega) hv
      exact q v H2 g2 d2 ⟨f, h1, fun i j => by have := h2 i j; omega⟩
end
end K02
namespace K02
open PySem PySem.Spec PyProof.Rows L2 Evl Ow RZ Ev2 StX
abbrev s_is_row : Stmt := topS 22
abbrev N_is_row : List Str := ["left", "right", "value"]
theorem sc_is_row : FnScope N_is_row ["left", "right", "value"] (defScope s_is_row) := ⟨rfl, rfl, rfl, by decide +kernel, rfl, by decide +kernel, by decide +kernel⟩
abbrev s_Table_init : Stmt := inClass (topS 25) 0
abbrev N_Table_init : List Str := ["self", "counts"]
theorem sc_Table_init : FnScope N_Table_init ["self", "counts"] (defScope s_Table_init) := ⟨rfl, rfl, rfl, by decide +kernel, rfl, by decide +kernel, by decide +kernel⟩
abbrev s_Table_counts : Stmt := inClass (topS 25) 2
abbrev N_Table_counts : List Str := ["self"]
theorem sc_Table_counts : FnScope N_Table_counts ["self"] (defScope s_Table_counts) := ⟨rfl, rfl, rfl, by decide +kernel, rfl, by decide +kernel, by decide +kernel⟩
abbrev s_Table_left : Stmt := inClass (topS 25) 3
abbrev N_Table_left : List Str := ["self"]
theorem sc_Table_left : FnScope N_Table_left ["self"] (defScope s_Table_left) := ⟨rfl, rfl, rfl, by decide +kernel, rfl, by decide +kernel, by decide +kernel⟩
abbrev s_Table_right : Stmt := inClass (topS 25) 4
abbrev N_Table_right : List Str := ["self"]
theorem sc_Table_right : FnScope N_Table_right ["self"] (defScope s_Table_right) := ⟨rfl, rfl, rfl, by decide +kernel, rfl, by decide +kernel, by decide +kernel⟩
abbrev s_Table_total : Stmt := inClass (topS 25) 5
abbrev N_Table_total : List Str := ["self", "line"]
theorem sc_Table_total : FnScope N_Table_total ["self"] (defScope s_Table_total) := ⟨rfl, rfl, rfl, by decide +kernel, rfl, by decide +kernel, by decide +kernel⟩
abbrev s_Table_count : Stmt := inClass (topS 25) 6
abbrev N_Table_count : List Str := ["self", "left", "right"]
theorem sc_Table_count : FnScope N_Table_count ["self", "left", "right"] (defScope s_Table_count) := ⟨rfl, rfl, rfl, by decide +kernel, rfl, by decide +kernel, by decide +kernel⟩
abbrev s_Table_lefts : Stmt := inClass (topS 25) 7
abbrev N_Table_lefts : List Str := ["self", "line"]
theorem sc_Table_lefts : FnScope N_Table_lefts ["self"] (defScope s_Table_lefts) := ⟨rfl, rfl, rfl, by decide +kernel, rfl, by decide +kernel, by decide +kernel⟩
abbrev s_Table_rights : Stmt := inClass (topS 25) 8
abbrev N_Table_rights : List Str := ["self", "line"]
theorem sc_Table_rights : FnScope N_Table_rights ["self"] (defScope s_Table_rights) := ⟨rfl, rfl, rfl, by decide +kernel, rfl, by decide +kernel, by decide +kernel⟩
abbrev s_Table_turned : Stmt := inClass (topS 25) 9
abbrev N_Table_turned : List Str := ["self"]
theorem sc_Table_turned : FnScope N_Table_turned ["self"] (defScope s_Table_turned) := ⟨rfl, rfl, rfl, by decide +kernel, rfl, by decide +kernel, by decide +kernel⟩
abbrev s_Table_contains : Stmt := inClass (topS 25) 11
abbrev N_Table_contains : List Str := ["self", "row"]
theorem sc_Table_contains : FnScope N_Table_contains ["self", "row"] (defScope s_Table_contains) := ⟨rfl, rfl, rfl, by decide +kernel, rfl, by decide +kernel, by decide +kernel⟩
abbrev s_Table_eq : Stmt := inClass (topS 25) 15
abbrev N_Table_eq : List Str := ["self", "other"]
theorem sc_Table_eq : FnScope N_Table_eq ["self", "other"] (defScope s_Table_eq) := ⟨rfl, rfl, rfl, by decide +kernel, rfl, by decide +kernel, by decide +kernel⟩
abbrev s_Question_init : Stmt := inClass (topS 28) 0
abbrev N_Question_init : List Str := ["self", "weights"]
theorem sc_Question_init : FnScope N_Question_init ["self", "weights"] (defScope s_Question_init) := ⟨rfl, rfl, rfl, by decide +kernel, rfl, by decide +kernel, by decide +kernel⟩
abbrev s_Question_weights : Stmt := inClass (topS 28) 3
abbrev N_Question_weights : List Str := ["self"]
theorem sc_Question_weights : FnScope N_Question_weights ["self"] (defScope s_Question_weights) := ⟨rfl, rfl, rfl, by decide +kernel, rfl, by decide +kernel, by decide +kernel⟩
abbrev s_Question_left : Stmt := inClass (topS 28) 4
abbrev N_Question_left : List Str := ["self"]
theorem sc_Question_left : FnScope N_Question_left ["self"] (defScope s_Question_left) := ⟨rfl, rfl, rfl, by decide +kernel, rfl, by decide +kernel, by decide +kernel⟩
abbrev s_Question_right : Stmt := inClass (topS 28) 5
abbrev N_Question_right : List Str := ["self"]
theorem sc_Question_right : FnScope N_Question_right ["self"] (defScope s_Question_right) := ⟨rfl, rfl, rfl, by decide +kernel, rfl, by decide +kernel, by decide +kernel⟩
abbrev s_Question_eq : Stmt := inClass (topS 28) 13
abbrev N_Question_eq : List Str := ["self", "other"]
theorem sc_Question_eq : FnScope N_Question_eq ["self", "other"] (defScope s_Question_eq) := ⟨rfl, rfl, rfl, by decide +kernel, rfl, by decide +kernel, by decide +kernel⟩

/-- what the top has written of a class whose instances hold one field -/
structure Kl (K : PySem.W.Frag) (mg : Str → Option Value) (x : Str) (C fI : Addr) (fld : Str) : Prop where
  cl : Cls K C
  nF : NoAttr K C fld
  gC : mg x = some (.ref C)
  mkc : Mk K C fI
  ha : PySem.W.findIn K (.ref C) "__class__" = some (some (.builtin "object.__class__"))
  hn : PySem.W.specialIn K (.builtin "object.__class__") "__get__" = some (some (.builtin "getset_descriptor.__get__"))
  htk : PySem.W.takesIn K (.builtin "object.__class__") = some true
  hm : PySem.W.mroIn K C (.type "object") = some true
/-- a method -/
structure Mf (K : PySem.W.Frag) (x qual : Str) (st : Stmt) (ps : List Str) (f : Addr) (fd : FuncData) : Prop where
  F : Fun K x qual st f fd
  b : Binds K fd ps []
/-- a property -/
structure Pf (K : PySem.W.Frag) (C : Addr) (x qual : Str) (st : Stmt) (p f : Addr) (fd : FuncData) : Prop where
  F : Fun K x qual st f fd
  b : Binds K fd ["self"] []
  hp : PropOf K C x p f
def Ins (C : Addr) (fld : Str) (m n : Nat) (f : Nat → Nat → Int) : HP := fun v H => ∃ a dx p, v = .ref a ∧ H a = some (.ins C dx [(fld, p)]) ∧ Grid m n f p H
theorem mf_ins {C : Addr} {fld : Str} {m n : Nat} {f : Nat → Nat → Int} : MonoF (Ins C fld m n f) := fun v H H' e ⟨a, dx, p, h1, h2, h3⟩ => ⟨a, dx, p, h1, e _ _ h2 (fun _ z => nomatch z), mf_grid _ _ _ e h3⟩
section
variable {K : PySem.W.Frag} {σ : L2.St} {H : Hp} {ta tb te : TE} {P S : HP} {C fI : Addr} {fld x : Str} {mg : Str → Option Value} {m n : Nat} {f : Nat → Nat → Int}
theorem look1 {p : V} : List.lookup fld [(fld, p)] = some p := by simp [List.lookup]
theorem evp_fld (B : Kl K mg x C fI fld) (h : EvP te σ H (Ins C fld m n f)) : EvP (tFld K te fld) σ H (Grid m n f) := fun H1 e Q q => h H1 e _ fun v H2 e2 ⟨a, dx, p, h1, h2, h3⟩ => ⟨a, C, dx, _, p, h1, h2, B.cl, B.nF, look1, q p H2 e2 h3⟩
theorem evp_prop {sp : Sp} {E : XK} (h : EvP te σ H (Ins C fld m n f)) (hs : SpP sp (fun vs H1 => ∃ v, vs = [v] ∧ Ins C fld m n f v H1) S) : EvP (tProp C sp [] E te) σ H S := fun H1 e Q q => h H1 e _ fun v H2 e2 ⟨a, dx, p, h1, h2, h3⟩ =>
  ⟨a, dx, _, h1, h2, hs _ H2 ⟨_, rfl, a, dx, p, rfl, h2, h3⟩ Q (fun v H3 e3 s => q v H3 (e2.trans e3) s) E⟩
theorem kit_me {K : PySem.W.Frag} {C : Addr} : PySem.W.kitOne K (.ref C) (.ref C) = some true := by
  unfold PySem.W.kitOne
  rw [if_pos (by simp)]
theorem ty_ins (B : Kl K mg x C fI fld) {v : V} (h : Ins C fld m n f v H) : TyX K H v (.ref C) := by
  obtain ⟨a, dx, p, rfl, h2, _⟩ := h
  exact .base (.ins h2 B.cl B.ha B.hn B.htk B.hm)
theorem evp_isiO (B : Kl K mg x C fI fld) (h : EvP te σ H (Ins C fld m n f)) : EvP (tCB (rIsi K) (tCons te (tCons (tC (.ref C)) tNil))) σ H (Is (.bl true)) := evp_isi (t := .ref C) (b := true) h (fun _ _ p => ty_ins B p) (.own C) kit_me
end
def dimOk (m n : Nat) : Prop := (1 ≤ m ∧ m ≤ 8) ∧ (1 ≤ n ∧ n ≤ 8)
def spInit (C : Addr) (fld : Str) (ok : (Nat → Nat → Int) → Prop) : Sp := fun vs H Q _ => ∃ (a dx : Addr) (v : V) (m n : Nat) (f : Nat → Nat → Int), vs = [.ref a, v] ∧ H a = some (.ins C dx []) ∧ Grid m n f v H ∧ dimOk m n ∧ ok f ∧
  ∀ H2, Evl.Ex (fun b => if b = a then none else H b) H2 → H2 a = some (.ins C dx [(fld, v)]) → Q .non H2
def spGet (C : Addr) (fld : Str) : Sp := fun vs H Q _ => ∃ (v : V) (m n : Nat) (f : Nat → Nat → Int), vs = [v] ∧ Ins C fld m n f v H ∧ ∀ w H2, Evl.Ex H H2 → Grid m n f w H2 → Q w H2
def spLeft (C : Addr) (fld : Str) : Sp := fun vs H Q _ => ∃ (v : V) (m n : Nat) (f : Nat → Nat → Int), vs = [v] ∧ Ins C fld m n f v H ∧ ∀ w H2, Evl.Ex H H2 → w = .int (m : Int) → Q w H2
def spRight (C : Addr) (fld : Str) : Sp := fun vs H Q _ => ∃ (v : V) (m n : Nat) (f : Nat → Nat → Int), vs = [v] ∧ Ins C fld m n f v H ∧ 1 ≤ m ∧ ∀ w H2, Evl.Ex H H2 → w = .int (n : Int) → Q w H2
section
variable {P : Program} {w : World} {K : PySem.W.Frag} {mg : Str → Option Value} {base : Heap} {tk : Tok} {k : Nat} {C fI p g f1 : Addr} {fd fd1 : FuncData}
theorem ok_Table_counts (BB : Kl K mg "Table" C fI "_counts") (T : Txt mg tk) (PP : Pf K C "counts" "Table.counts" s_Table_counts p g fd) : FnOk P w K mg base CX0 (k + 1) g fd ["self"] (spGet C "_counts") := by
  refine PP.F.ok sc_Table_counts (fun vs H Q E h => ?_) (fun cdv A outer s H vs Q E hr h => ?_)
  · obtain ⟨v, m, n, f, rfl, _⟩ := h
    rfl
  · obtain ⟨v, m, n, f, rfl, hv, q⟩ := h
    refine ⟨_, (pss_one (ps_ret (pe_fld (pv 0) rfl))), ?_⟩
    have h0 : EvP (tVar 0) (start N_Table_counts [v]) H (Ins C "_counts" m n f) := evp_var rfl hv mf_ins.mono
    exact evp_fld BB h0 H (Ex.refl H) _ q
theorem ok_Table_left (BB : Kl K mg "Table" C fI "_counts") (T : Txt mg tk) (PP : Pf K C "left" "Table.left" s_Table_left p g fd) : FnOk P w K mg base CX0 (k + 1) g fd ["self"] (spLeft C "_counts") := by
  refine PP.F.ok sc_Table_left (fun vs H Q E h => ?_) (fun cdv A outer s H vs Q E hr h => ?_)
  · obtain ⟨v, m, n, f, rfl, _⟩ := h
    rfl
  · obtain ⟨v, m, n, f, rfl, hv, q⟩ := h
    refine ⟨_, (pss_one (ps_ret (pe_callB (r := rLenQ K) call_len_seq (by rfl) T.n_len PySem.boot_len (pa_cons (pe_fld (pv 0) rfl) pa_nil)))), ?_⟩
    have h0 : EvP (tVar 0) (start N_Table_left [v]) H (Ins C "_counts" m n f) := evp_var rfl hv mf_ins.mono
    exact evp_len (K := K) (evp_fld BB h0) H (Ex.refl H) _ q
theorem ok_Table_right (BB : Kl K mg "Table" C fI "_counts") (T : Txt mg tk) (PP : Pf K C "right" "Table.right" s_Table_right p g fd) : FnOk P w K mg base CX0 (k + 1) g fd ["self"] (spRight C "_counts") := by
  refine PP.F.ok sc_Table_right (fun vs H Q E h => ?_) (fun cdv A outer s H vs Q E hr h => ?_)
  · obtain ⟨v, m, n, f, rfl, _⟩ := h
    rfl
  · obtain ⟨v, m, n, f, rfl, hv, hm, q⟩ := h
    refine ⟨_, (pss_one (ps_ret (pe_callB (r := rLenQ K) call_len_seq (by rfl) T.n_len PySem.boot_len (pa_cons (pe_ix (r := rIxT K) ix_tup (pe_fld (pv 0) rfl) pe_int (fun _ _ => rfl)) pa_nil)))), ?_⟩
    have h0 : EvP (tVar 0) (start N_Table_right [v]) H (Ins C "_counts" m n f) := evp_var rfl hv mf_ins.mono
    exact evp_len (K := K) (evp_ixT (K := K) (i := 0) (evp_fld BB h0) evp_c (by omega) fun _ => mf_row) H (Ex.refl H) _ q
theorem ok_Question_weights (BB : Kl K mg "Question" C fI "_weights") (T : Txt mg tk) (PP : Pf K C "weights" "Question.weights" s_Question_weights p g fd) : FnOk P w K mg base CX0 (k + 1) g fd ["self"] (spGet C "_weights") := by
  refine PP.F.ok sc_Question_weights (fun vs H Q E h => ?_) (fun cdv A outer s H vs Q E hr h => ?_)
  · obtain ⟨v, m, n, f, rfl, _⟩ := h
    rfl
  · obtain ⟨v, m, n, f, rfl, hv, q⟩ := h
    refine ⟨_, (pss_one (ps_ret (pe_fld (pv 0) rfl))), ?_⟩
    have h0 : EvP (tVar 0) (start N_Question_weights [v]) H (Ins C "_weights" m n f) := evp_var rfl hv mf_ins.mono
    exact evp_fld BB h0 H (Ex.refl H) _ q
theorem ok_Question_left (BB : Kl K mg "Question" C fI "_weights") (T : Txt mg tk) (PP : Pf K C "left" "Question.left" s_Question_left p g fd) : FnOk P w K mg base CX0 (k + 1) g fd ["self"] (spLeft C "_weights") := by
  refine PP.F.ok sc_Question_left (fun vs H Q E h => ?_) (fun cdv A outer s H vs Q E hr h => ?_)
  · obtain ⟨v, m, n, f, rfl, _⟩ := h
    rfl
  · obtain ⟨v, m, n, f, rfl, hv, q⟩ := h
    refine ⟨_, (pss_one (ps_ret (pe_callB (r := rLenQ K) call_len_seq (by rfl) T.n_len PySem.boot_len (pa_cons (pe_fld (pv 0) rfl) pa_nil)))), ?_⟩
    have h0 : EvP (tVar 0) (start N_Question_left [v]) H (Ins C "_weights" m n f) := evp_var rfl hv mf_ins.mono
    exact evp_len (K := K) (evp_fld BB h0) H (Ex.refl H) _ q
theorem ok_Question_right (BB : Kl K mg "Question" C fI "_weights") (T : Txt mg tk) (PP : Pf K C "right" "Question.right" s_Question_right p g fd) : FnOk P w K mg base CX0 (k + 1) g fd ["self"] (spRight C "_weights") := by
  refine PP.F.ok sc_Question_right (fun vs H Q E h => ?_) (fun cdv A outer s H vs Q E hr h => ?_)
  · obtain ⟨v, m, n, f, rfl, _⟩ := h
    rfl
  · obtain ⟨v, m, n, f, rfl, hv, hm, q⟩ := h
    refine ⟨_, (pss_one (ps_ret (pe_callB (r := rLenQ K) call_len_seq (by rfl) T.n_len PySem.boot_len (pa_cons (pe_ix (r := rIxT K) ix_tup (pe_fld (pv 0) rfl) pe_int (fun _ _ => rfl)) pa_nil)))), ?_⟩
    have h0 : EvP (tVar 0) (start N_Question_right [v]) H (Ins C "_weights" m n f) := evp_var rfl hv mf_ins.mono
    exact evp_len (K := K) (evp_ixT (K := K) (i := 0) (evp_fld BB h0) evp_c (by omega) fun _ => mf_row) H (Ex.refl H) _ q
theorem ok_Table_init (BB : Kl K mg "Table" C fI "_counts") (T : Txt mg tk) (D_is_counts : Df K mg "is_counts" s_is_counts ["value"] f1 fd1) (G_is_counts : FnOk P w K mg base CX0 (k + 4) f1 fd1 ["value"] spCounts) (M : Mf K "__init__" "Table.__init__" s_Table_init ["self", "counts"] fI fd) :
    FnOk P w K mg base CX0 (k + 5) fI fd ["self", "counts"] (spInit C "_counts" (fun f => ∀ i j, 0 ≤ f i j)) := by
  refine M.F.ok sc_Table_init (fun vs H Q E h => ?_) (fun cdv A outer s H vs Q E hr h => ?_)
  · obtain ⟨a, dx, v, m, n, f, rfl, _⟩ := h
    rfl
  · obtain ⟨a, dx, v, m, n, f, rfl, ha, hv, ⟨hm, hn⟩, hok, q⟩ := h
    refine ⟨_, (pss_cons (ps_if (pt_not (pt_val (pe_call G_is_counts (hr.mono (by omega)) (by rfl) D_is_counts.g D_is_counts.F.kp D_is_counts.b .nil pass0 (pa_cons (pv 1) pa_nil)))) (pss_one ps_never) pss_nil) (pss_one (ps_fld (pv 0) (pv 1) rfl))), ?_⟩
    have h1 : EvP (tVar 1) (start N_Table_init [.ref a, v]) H (Grid m n f) := evp_var rfl hv mf_grid.mono
    have hc : EvP _ (start N_Table_init [.ref a, v]) H (Is (.bl true)) := evp_call (sp := spCounts) (E := fun _ _ _ => False) (eap_one h1) fun vs H1 ⟨x, e, hx⟩ Q q E => ⟨x, m, n, f, e, hx, hm, hn, hok, q⟩
    refine q_when (b := false) (et_not (et_bl hc)) (fun z => nomatch z) fun _ H1 e1 => ?_
    refine ⟨v, rfl, .ref a, rfl, a, C, dx, [], rfl, e1 _ _ ha, BB.cl, BB.nF, (by show 0 < 1000; decide), q _ (fun b o hb => ?_) upd_same⟩
    dsimp only at hb
    by_cases hba : b = a
    · rw [if_pos hba] at hb; cases hb
    · rw [if_neg hba] at hb; rw [upd_ne hba]; exact e1 _ _ hb
theorem ok_Question_init (BB : Kl K mg "Question" C fI "_weights") (T : Txt mg tk) (D_is_grid : Df K mg "is_grid" s_is_grid ["value"] f1 fd1) (G_is_grid : FnOk P w K mg base CX0 (k + 4) f1 fd1 ["value"] spGrid) (M : Mf K "__init__" "Question.__init__" s_Question_init ["self", "weights"] fI fd) :
    FnOk P w K mg base CX0 (k + 5) fI fd ["self", "weights"] (spInit C "_weights" (fun _ => True)) := by
  refine M.F.ok sc_Question_init (fun vs H Q E h => ?_) (fun cdv A outer s H vs Q E hr h => ?_)
  · obtain ⟨a, dx, v, m, n, f, rfl, _⟩ := h
    rfl
  · obtain ⟨a, dx, v, m, n, f, rfl, ha, hv, ⟨hm, hn⟩, hok, q⟩ := h
    refine ⟨_, (pss_cons (ps_if (pt_not (pt_val (pe_call G_is_grid (hr.mono (by omega)) (by rfl) D_is_grid.g D_is_grid.F.kp D_is_grid.b .nil pass0 (pa_cons (pv 1) pa_nil)))) (pss_one ps_never) pss_nil) (pss_one (ps_fld (pv 0) (pv 1) rfl))), ?_⟩
    have h1 : EvP (tVar 1) (start N_Question_init [.ref a, v]) H (Grid m n f) := evp_var rfl hv mf_grid.mono
    have hc : EvP _ (start N_Question_init [.ref a, v]) H (Is (.bl true)) := evp_call (sp := spGrid) (E := fun _ _ _ => False) (eap_one h1) fun vs H1 ⟨x, e, hx⟩ Q q E => ⟨x, m, n, f, e, hx, hm, hn, q⟩
    refine q_when (b := false) (et_not (et_bl hc)) (fun z => nomatch z) fun _ H1 e1 => ?_
    refine ⟨v, rfl, .ref a, rfl, a, C, dx, [], rfl, e1 _ _ ha, BB.cl, BB.nF, (by show 0 < 1000; decide), q _ (fun b o hb => ?_) upd_same⟩
    dsimp only at hb
    by_cases hba : b = a
    · rw [if_pos hba] at hb; cases hb
    · rw [if_neg hba] at hb; rw [upd_ne hba]; exact e1 _ _ hb
end
end K02
namespace Ev2
open PySem PySem.Spec PyProof.Rows L2 Evl RZ
section
variable {K : PySem.W.Frag} {σ : L2.St} {H H' : Hp} {ta tb te : TE} {P R S : HP} {r : R2} {v : V}
/-- a reading that gives a new thing -/
def EvN (te : TE) (σ : L2.St) (H : Hp) (P : HP) : Prop := ∀ H1, Evl.Ex H H1 → ∀ Q : VK, (∀ p H2, H1 p = none → Evl.Ex H1 H2 → P (.ref p) H2 → Q (.ref p) H2) → te σ H1 Q
theorem EvN.evp (h : EvN te σ H P) : EvP te σ H P := fun H1 e Q q => h H1 e Q fun p H2 _ e2 hp => q _ H2 e2 hp
theorem evn_lc {wi : TI} {g : TG} {vs : List Nat} {n : Nat} {item : Nat → V → Hp → Prop} {Sg : Nat → L2.St → Hp → Prop} {Pi : Nat → HP} (hw : WiP wi σ H n item) (hn : n ≤ 40000)
    (hg : ∀ i x H1, i < n → Evl.Ex H H1 → item i x H1 → GP g x (wipe σ vs) H1 (fun σ2 H2 => wipe σ2 vs = wipe σ vs ∧ Sg i σ2 H2)) (he : ∀ i σ2 H1, i < n → Evl.Ex H H1 → Sg i σ2 H1 → EvP te σ2 H1 (Pi i)) (m : ∀ i, MonoF (Pi i)) :
    EvN (tLc wi g tYes te vs) σ H (LstP n Pi) := fun H1 e Q q => hw H1 e _ fun J H2 Pre e2 T pre => fun D hD => by
  refine ⟨fun i k H3 => k = n - i ∧ i ≤ n ∧ H2 D = none ∧ Evl.Ex H2 H3 ∧ ∃ ys, H3 D = some (.lst ys) ∧ ys.length = i ∧ ∀ j y, ys[j]? = some y → Pi j y H3, ⟨n, by simp, Nat.zero_le _, hD, Ex.new hD, [], upd_same, rfl, fun j y hy => by simp at hy⟩, ?_⟩
  rintro i k H3 ⟨rfl, hi, hD', ex, ys, hys, hl, hP⟩
  have pre3 := T.mono _ _ (Fx.of ex) pre
  by_cases hlt : i < n
  · refine .inr ⟨T.go i H3 hlt pre3, fun H4 => H2 D = none ∧ Evl.Ex H2 H4 ∧ ∃ ys, H4 D = some (.lst ys) ∧ ys.length = i + 1 ∧ ∀ j y, ys[j]? = some y → Pi j y H4, fun H4 ⟨a, b, c⟩ => ⟨n - (i + 1), by omega, rfl, by omega, a, b, c⟩, fun x H4 y => ?_⟩
    obtain ⟨e4, it⟩ := T.yld i H3 x H4 hlt pre3 y
    refine hg i x H4 hlt (((e.trans e2).trans ex).trans e4) it _ fun σ2 ⟨hw2, hs⟩ => ⟨hw2, ?_⟩
    unfold tYes
    dsimp only
    rw [if_pos rfl]
    refine he i σ2 H4 hlt (((e.trans e2).trans ex).trans e4) hs H4 (Ex.refl _) _ fun z H5 e5 hz => ?_
    have hys5 := e5 _ _ (e4 _ _ hys)
    have ex5 : Evl.Ex H2 (upd H5 D (.lst (ys ++ [z]))) := Ex.mut ((ex.trans e4).trans e5) hD'
    refine ⟨ys, hys5, sz_lt (by omega), hD', ex5, ys ++ [z], upd_same, by simp [hl], fun j y hy => ?_⟩
    have key : Pi j y H5 := by
      by_cases hj : j < ys.length
      · rw [List.getElem?_append_left hj] at hy
        exact (m j).mono _ _ _ (e4.trans e5) (hP j y hy)
      · rw [List.getElem?_append_right (by omega)] at hy
        have : j - ys.length = 0 := by
          rcases Nat.eq_zero_or_pos (j - ys.length) with z0 | z0
          · exact z0
          · rw [List.getElem?_eq_none (by simp; omega)] at hy; cases hy
        rw [this] at hy
        have ej : j = i := by omega
        have ey : z = y := by simpa using hy
        rw [ej, ← ey]
        exact hz
    exact m j _ _ _ (Fx.lst hys5) key
  · have hinn : i = n := by omega
    subst hinn
    exact .inl ⟨T.stop H3 pre3, q D H3 (fresh_back e2 hD') (e2.trans ex) ⟨D, ys, rfl, hys, hl, hP⟩⟩
end
end Ev2
namespace K02
open PySem PySem.Spec PyProof.Rows L2 Evl Ow RZ Ev2 StX
section
variable {K : PySem.W.Frag} {σ : L2.St} {H : Hp} {ta tb te : TE} {P : HP}
theorem tup_is {n : Nat} {w : Nat → V} {v : V} (h : TupP n (fun i => Is (w i)) v H) : ∃ p, v = .ref p ∧ H p = some (.tup ((List.range n).map w)) := by
  obtain ⟨p, ys, h1, h2, h3, h4⟩ := h
  refine ⟨p, h1, ?_⟩
  rw [h2]
  have : ys = (List.range n).map w := by
    apply List.ext_getElem?
    intro i
    by_cases hi : i < n
    · rw [List.getElem?_map, List.getElem?_range hi, List.getElem?_eq_getElem (by omega)]
      exact congrArg some (h4 i _ (List.getElem?_eq_getElem (by omega)))
    · rw [List.getElem?_eq_none (by omega), List.getElem?_eq_none (by simp; omega)]
  rw [this]
def sumN (f : Nat → Int) (n : Nat) : Int := ((List.range n).map f).sum
theorem evp_sumT {n : Nat} {f : Nat → Int} (h : EvP te σ H (TupP n fun j => Is (.int (f j)))) : EvP (tCB (rSumT K) (tCons te tNil)) σ H (Is (.int (sumN f n))) := fun H1 e Q q => h H1 e _ fun v H2 e2 p => by
  obtain ⟨t, rfl, ht⟩ := tup_is p
  exact ⟨t, (List.range n).map f, rfl, by rw [List.map_map]; exact st_of ht, q _ H2 e2 rfl⟩
theorem evp_sumL {n : Nat} {f : Nat → Int} (h : EvP te σ H (LstP n fun j => Is (.int (f j)))) : EvP (tCB (rSum K) (tCons te tNil)) σ H (Is (.int (sumN f n))) := fun H1 e Q q => h H1 e _ fun v H2 e2 p => by
  obtain ⟨t, rfl, ht⟩ := lst_is p
  exact ⟨t, (List.range n).map f, rfl, by rw [List.map_map]; exact sq_of ht, q _ H2 e2 rfl⟩
end
section
variable {P : Program} {w : World} {K : PySem.W.Frag} {mg : Str → Option Value} {base : Heap} {tk : Tok} {k : Nat} {C fI p g f1 : Addr} {fd fd1 : FuncData}
def spTurned : Sp := fun vs H Q _ => ∃ (v : V) (m n : Nat) (f : Nat → Nat → Int), vs = [v] ∧ Grid m n f v H ∧ dimOk m n ∧ ∀ w H2, Evl.Ex H H2 → Grid n m (fun i j => f j i) w H2 → Q w H2
theorem ok_turned {fa : Addr} (T : Txt mg tk) (D : Df K mg "grid_turned" s_grid_turned ["grid"] fa fd) : FnOk P w K mg base CX0 (k + 1) fa fd ["grid"] spTurned := by
  refine D.F.ok sc_grid_turned (fun vs H Q E h => ?_) (fun cdv A outer s H vs Q E hr h => ?_)
  · obtain ⟨v, m, n, f, rfl, _⟩ := h
    rfl
  · obtain ⟨v, m, n, f, rfl, hv, ⟨⟨hm1, hm8⟩, hn1, hn8⟩, q⟩ := h
    have nd := sc_grid_turned.nd
    refine ⟨_, (pss_one (ps_ret (pe_callTy (r := rTupQ K) call_tuple_of (by rfl) T.n_tuple PyProof.Rows.boot_tuple (pa_cons (pe_lc (wi := iRng1 _) (g := gName 1) (own := [("right", 1)]) (by rfl) nd (pi_range1 (by rfl) T.n_range (pa_cons (pe_callB (r := rLenQ K) call_len_seq (by rfl) T.n_len PySem.boot_len (pa_cons (pe_ix (r := rIxT K) ix_tup (pv 0) pe_int (fun _ _ => rfl)) pa_nil)) pa_nil)) (blkOk_by (by kernel_rfl)) (fun _ _ _ _ _ => (pg_name (i := 1) nd rfl (Or.inr rfl))) (fun _ _ _ _ _ => pts_nil) (fun _ _ _ _ _ => (pe_callTy (r := rTupQ K) call_tuple_of (by rfl) T.n_tuple PyProof.Rows.boot_tuple (pa_cons (pe_lc (wi := iTup K _) (g := gName 2) (own := [("line", 2)]) (by rfl) nd (pi_tup (pv 0)) (blkOk_by (by kernel_rfl)) (fun _ _ _ _ _ => (pg_name (i := 2) nd rfl (Or.inl rfl))) (fun _ _ _ _ _ => pts_nil) (fun _ _ _ _ _ => (pe_ix (r := rIxT K) ix_tup (pv 2) (pv 1) (fun _ _ => rfl)))) pa_nil)))) pa_nil)))), ?_⟩
    have h0 : EvP (tVar 0) (start N_grid_turned [v]) H (Grid m n f) := evp_var rfl hv mf_grid.mono
    refine evp_tuple (K := K) (n := n) (Pi := fun i => TupP m fun j => Is (.int (f j i))) (evp_lc (vs := [1]) (g := gName 1) (wi_rng (ta := tCons (tCB (rLenQ K) (tCons (tOp (rIxT K) (tVar 0) (tC (.int ((0 : Nat) : Int)))) tNil)) tNil) (n := n) (EvAP.one' (eap_one (evp_len (K := K) (evp_ixT (K := K) (i := 0) h0 evp_c (by omega) fun _ => mf_row)))) (by omega)) (by omega)
      (Sg := fun i σ2 _ => σ2 = [some v, some (.int (i : Int)), none]) (fun i x H1 hi e1 hx => by subst hx; exact g_name (i := 1) ⟨rfl, rfl⟩) (fun i σ2 H1 hi e1 hs => ?_) fun _ => mf_row) (fun _ => mf_row.mono) H (Ex.refl H) _ q
    subst hs
    have hv1 := mf_grid.mono _ _ _ e1 hv
    exact evp_tuple (K := K) (evp_lc (vs := [2]) (g := gName 2) (wi_tup (K := K) (evp_var (i := 0) (v := v) rfl hv1 mf_grid.mono) fun _ => mf_row) (by omega)
      (Sg := fun j σ2 H2 => ∃ y, σ2 = [some v, some (.int (i : Int)), some y] ∧ TupP n (fun c => Is (.int (f j c))) y H2) (fun j x H2 hj e2 hx => g_name (i := 2) ⟨rfl, x, rfl, hx⟩) (fun j σ2 H2 hj e2 ⟨y, hs, hy⟩ => by
        subst hs
        exact evp_ixT (K := K) (i := i) (evp_var (i := 2) (v := y) rfl hy mf_row.mono) (evp_var (i := 1) rfl rfl mono_is) hi fun _ => mf_is) fun _ => mf_is) (fun _ => mf_is.mono)
def spLefts (C : Addr) : Sp := fun vs H Q _ => ∃ (v : V) (m n : Nat) (f : Nat → Nat → Int), vs = [v] ∧ Ins C "_counts" m n f v H ∧ dimOk m n ∧ ∀ p H2, H p = none → Evl.Ex H H2 → H2 p = some (.lst ((List.range m).map fun i => V.int (sumN (f i) n))) → Q (.ref p) H2
theorem ok_lefts (BB : Kl K mg "Table" C fI "_counts") (T : Txt mg tk) (M : Mf K "lefts" "Table.lefts" s_Table_lefts ["self"] g fd) : FnOk P w K mg base CX0 (k + 1) g fd ["self"] (spLefts C) := by
  refine M.F.ok sc_Table_lefts (fun vs H Q E h => ?_) (fun cdv A outer s H vs Q E hr h => ?_)
  · obtain ⟨v, m, n, f, rfl, _⟩ := h
    rfl
  · obtain ⟨v, m, n, f, rfl, hv, ⟨⟨hm1, hm8⟩, hn1, hn8⟩, q⟩ := h
    have nd := sc_Table_lefts.nd
    refine ⟨_, (pss_one (ps_ret (pe_lc (wi := iTup K _) (g := gName 1) (own := [("line", 1)]) (by rfl) nd (pi_tup (pe_fld (pv 0) rfl)) (blkOk_by (by kernel_rfl)) (fun _ _ _ _ _ => (pg_name (i := 1) nd rfl (Or.inl rfl))) (fun _ _ _ _ _ => pts_nil) (fun _ _ _ _ _ => (pe_callB (r := rSumT K) (cr_sumT rfl) (by rfl) T.n_sum PyProof.Rows.boot_sum (pa_cons (pv 1) pa_nil)))))), ?_⟩
    have h0 : EvP (tVar 0) (start N_Table_lefts [v]) H (Ins C "_counts" m n f) := evp_var rfl hv mf_ins.mono
    refine evn_lc (vs := [1]) (g := gName 1) (Pi := fun i => Is (.int (sumN (f i) n))) (wi_tup (K := K) (evp_fld BB h0) fun _ => mf_row) (by omega)
      (Sg := fun i σ2 H2 => ∃ y, σ2 = [some v, some y] ∧ TupP n (fun j => Is (.int (f i j))) y H2) (fun i x H1 hi e1 hx => g_name (i := 1) ⟨rfl, x, rfl, hx⟩) (fun i σ2 H1 hi e1 ⟨y, hs, hy⟩ => by
        subst hs
        exact evp_sumT (K := K) (evp_var (i := 1) (v := y) rfl hy mf_row.mono)) (fun _ => mf_is) H (Ex.refl H) _ fun p H2 hp e2 hl => ?_
    obtain ⟨p', e, hl'⟩ := lst_is hl
    cases e
    exact q p H2 hp e2 hl'
def spTotal (C : Addr) : Sp := fun vs H Q _ => ∃ (v : V) (m n : Nat) (f : Nat → Nat → Int), vs = [v] ∧ Ins C "_counts" m n f v H ∧ dimOk m n ∧ ∀ w H2, Evl.Ex H H2 → w = .int (sumN (fun i => sumN (f i) n) m) → Q w H2
theorem ok_total (BB : Kl K mg "Table" C fI "_counts") (T : Txt mg tk) (PP : Pf K C "total" "Table.total" s_Table_total p g fd) : FnOk P w K mg base CX0 (k + 1) g fd ["self"] (spTotal C) := by
  refine PP.F.ok sc_Table_total (fun vs H Q E h => ?_) (fun cdv A outer s H vs Q E hr h => ?_)
  · obtain ⟨v, m, n, f, rfl, _⟩ := h
    rfl
  · obtain ⟨v, m, n, f, rfl, hv, ⟨⟨hm1, hm8⟩, hn1, hn8⟩, q⟩ := h
    have nd := sc_Table_total.nd
    refine ⟨_, (pss_one (ps_ret (pe_callB (r := rSum K) (cr_sum rfl) (by rfl) T.n_sum PyProof.Rows.boot_sum (pa_cons (pe_lc (wi := iTup K _) (g := gName 1) (own := [("line", 1)]) (by rfl) nd (pi_tup (pe_fld (pv 0) rfl)) (blkOk_by (by kernel_rfl)) (fun _ _ _ _ _ => (pg_name (i := 1) nd rfl (Or.inl rfl))) (fun _ _ _ _ _ => pts_nil) (fun _ _ _ _ _ => (pe_callB (r := rSumT K) (cr_sumT rfl) (by rfl) T.n_sum PyProof.Rows.boot_sum (pa_cons (pv 1) pa_nil)))) pa_nil)))), ?_⟩
    have h0 : EvP (tVar 0) (start N_Table_total [v]) H (Ins C "_counts" m n f) := evp_var rfl hv mf_ins.mono
    exact evp_sumL (K := K) (evp_lc (vs := [1]) (g := gName 1) (Pi := fun i => Is (.int (sumN (f i) n))) (wi_tup (K := K) (evp_fld BB h0) fun _ => mf_row) (by omega)
      (Sg := fun i σ2 H2 => ∃ y, σ2 = [some v, some y] ∧ TupP n (fun j => Is (.int (f i j))) y H2) (fun i x H1 hi e1 hx => g_name (i := 1) ⟨rfl, x, rfl, hx⟩) (fun i σ2 H1 hi e1 ⟨y, hs, hy⟩ => by
        subst hs
        exact evp_sumT (K := K) (evp_var (i := 1) (v := y) rfl hy mf_row.mono)) (fun _ => mf_is)) H (Ex.refl H) _ q
end
end K02
namespace K02
open PySem PySem.Spec PyProof.Rows L2 Evl Ow RZ Ev2 StX
section
variable {P : Program} {w : World} {K : PySem.W.Frag} {mg : Str → Option Value} {base : Heap} {tk : Tok} {k : Nat} {C fI p g f1 f2 f3 f4 : Addr} {fd fd1 fd2 fd3 fd4 : FuncData}
def spRights (C : Addr) : Sp := fun vs H Q _ => ∃ (v : V) (m n : Nat) (f : Nat → Nat → Int), vs = [v] ∧ Ins C "_counts" m n f v H ∧ dimOk m n ∧ ∀ p H2, H p = none → Evl.Ex H H2 → H2 p = some (.lst ((List.range n).map fun j => V.int (sumN (fun i => f i j) m))) → Q (.ref p) H2
theorem ok_rights (BB : Kl K mg "Table" C fI "_counts") (T : Txt mg tk) (D_grid_turned : Df K mg "grid_turned" s_grid_turned ["grid"] f1 fd1) (G_grid_turned : FnOk P w K mg base CX0 (k + 1) f1 fd1 ["grid"] spTurned) (M : Mf K "rights" "Table.rights" s_Table_rights ["self"] g fd) : FnOk P w K mg base CX0 (k + 2) g fd ["self"] (spRights C) := by
  refine M.F.ok sc_Table_rights (fun vs H Q E h => ?_) (fun cdv A outer s H vs Q E hr h => ?_)
  · obtain ⟨v, m, n, f, rfl, _⟩ := h
    rfl
  · obtain ⟨v, m, n, f, rfl, hv, hd, q⟩ := h
    have nd := sc_Table_rights.nd
    refine ⟨_, (pss_one (ps_ret (pe_lc (wi := iTup K _) (g := gName 1) (own := [("line", 1)]) (by rfl) nd (pi_tup (pe_call G_grid_turned (hr.mono (by omega)) (by rfl) D_grid_turned.g D_grid_turned.F.kp D_grid_turned.b .nil pass0 (pa_cons (pe_fld (pv 0) rfl) pa_nil))) (blkOk_by (by kernel_rfl)) (fun _ _ _ _ _ => (pg_name (i := 1) nd rfl (Or.inl rfl))) (fun _ _ _ _ _ => pts_nil) (fun _ _ _ _ _ => (pe_callB (r := rSumT K) (cr_sumT rfl) (by rfl) T.n_sum PyProof.Rows.boot_sum (pa_cons (pv 1) pa_nil)))))), ?_⟩
    have h0 : EvP (tVar 0) (start N_Table_rights [v]) H (Ins C "_counts" m n f) := evp_var rfl hv mf_ins.mono
    have ht : EvP (tCall spTurned [] E0 (tCons (tFld K (tVar 0) "_counts") tNil)) (start N_Table_rights [v]) H (Grid n m fun i j => f j i) := evp_call (eap_one (evp_fld BB h0)) fun vs H1 ⟨x, e, hx⟩ Q q E => ⟨x, m, n, f, e, hx, hd, q⟩
    refine evn_lc (vs := [1]) (g := gName 1) (Pi := fun j => Is (.int (sumN (fun i => f i j) m))) (wi_tup (K := K) ht fun _ => mf_row) (by have := hd.2.2; omega)
      (Sg := fun j σ2 H2 => ∃ y, σ2 = [some v, some y] ∧ TupP m (fun i => Is (.int (f i j))) y H2) (fun i x H1 hi e1 hx => g_name (i := 1) ⟨rfl, x, rfl, hx⟩) (fun i σ2 H1 hi e1 ⟨y, hs, hy⟩ => by
        subst hs
        exact evp_sumT (K := K) (evp_var (i := 1) (v := y) rfl hy mf_row.mono)) (fun _ => mf_is) H (Ex.refl H) _ fun p H2 hp e2 hl => ?_
    obtain ⟨p', e, hl'⟩ := lst_is hl
    cases e
    exact q p H2 hp e2 hl'
/-- a tuple of two ints -/
def Pr2 (i j : Int) : HP := TupP 2 fun c => Is (.int (if c = 0 then i else j))
def spIsRow : Sp := fun vs H Q _ => ∃ (m n i j : Int) (x : V), vs = [.int m, .int n, x] ∧ Pr2 i j x H ∧ (0 ≤ i ∧ i < m) ∧ (0 ≤ j ∧ j < n) ∧ ∀ v H2, Evl.Ex H H2 → Tr v H2 → Q v H2
theorem ok_is_row (T : Txt mg tk) (D_is_below : Df K mg "is_below" s_is_below ["size", "value"] f1 fd1) (G_is_below : FnOk P w K mg base CX0 (k + 2) f1 fd1 ["size", "value"] spBelow) (D : Df K mg "is_row" s_is_row ["left", "right", "value"] g fd) :
    FnOk P w K mg base CX0 (k + 3) g fd ["left", "right", "value"] spIsRow := by
  refine D.F.ok sc_is_row (fun vs H Q E h => ?_) (fun cdv A outer s H vs Q E hr h => ?_)
  · obtain ⟨m, n, i, j, x, rfl, _⟩ := h
    rfl
  · obtain ⟨m, n, i, j, x, rfl, hx, hi, hj, q⟩ := h
    refine ⟨_, (pss_cons (ps_if (PW.pt (pw_or (pt_not (pt_val (pe_callB (r := rIsi K) call_isi (by rfl) T.n_isinstance PyProof.Rows.boot_isinstance (pa_cons (pv 2) (pa_cons (pe_bltn (v := .ty "tuple") (by rfl) T.n_tuple PyProof.Rows.boot_tuple rfl) pa_nil))))) (pw_or1 (pt_cmpR op_ne (pe_callB (r := rLenQ K) call_len_seq (by rfl) T.n_len PySem.boot_len (pa_cons (pv 2) pa_nil)) pe_int (nomark _))))) (pss_one (ps_ret pe_bl)) pss_nil) (pss_one (ps_ret (pe_and (pe_call G_is_below (hr.mono (by omega)) (by rfl) D_is_below.g D_is_below.F.kp D_is_below.b .nil pass0 (pa_cons (pv 0) (pa_cons (pe_ix (r := rIxT K) ix_tup (pv 2) pe_int (fun _ _ => rfl)) pa_nil))) (pe_one (pe_call G_is_below (hr.mono (by omega)) (by rfl) D_is_below.g D_is_below.F.kp D_is_below.b .nil pass0 (pa_cons (pv 1) (pa_cons (pe_ix (r := rIxT K) ix_tup (pv 2) pe_int (fun _ _ => rfl)) pa_nil)))))))), ?_⟩
    have h2 : ∀ {H' : Hp}, Evl.Ex H H' → EvP (tVar 2) (start N_is_row [.int m, .int n, x]) H' (Pr2 i j) := fun e => evp_var rfl (mf_row.mono _ _ _ e hx) mf_row.mono
    refine s_when (b := !true || !decide ((2 : Int) = 2)) (et_or (et_not (et_tst (evp_isi (K := K) (h2 (Ex.refl H)) (fun y H1 p => ty_tup p) (.ty "tuple") (kit_ty (a := "tuple") (by decide +kernel))))) fun _ => et_bl (evp_is (evp_ne (x := .int ((2 : Nat) : Int)) (y := .int 2) (evp_len (K := K) (h2 (Ex.refl H))) evp_c rfl) rfl)) (fun z => by simp at z) fun _ H1 e1 => ?_
    have below : ∀ {a b : Int} {ta tb : TE}, 0 ≤ b ∧ b < a → EvP ta (start N_is_row [.int m, .int n, x]) H1 (Is (.int a)) → EvP tb (start N_is_row [.int m, .int n, x]) H1 (Is (.int b)) → EvP (tCall spBelow [] E0 (tCons ta (tCons tb tNil))) (start N_is_row [.int m, .int n, x]) H1 Tr := fun hb ha hb' => evp_call (eap_two ha hb' mono_is) fun vs H1 ⟨x, y, e, hx, hy⟩ Q q E => ⟨_, _, by rw [e, show x = _ from hx, show y = _ from hy], hb, q⟩
    exact evp_and (a := true) (b := true) (below hi (evp_var rfl rfl mono_is) (evp_ixT (K := K) (i := 0) (h2 e1) evp_c (by decide) fun _ => mf_is)) (fun _ => below hj (evp_var rfl rfl mono_is) (evp_ixT (K := K) (i := 1) (h2 e1) evp_c (by decide) fun _ => mf_is)) H1 (Ex.refl _) _ fun v H2 e2 hv => q v H2 (e1.trans e2) hv
def spHasRow (C : Addr) : Sp := fun vs H Q _ => ∃ (v x : V) (m n i j : Nat) (f : Nat → Nat → Int), vs = [v, x] ∧ Ins C "_counts" m n f v H ∧ Pr2 i j x H ∧ (i < m ∧ j < n) ∧ ∀ w H2, Evl.Ex H H2 → w = .bl (decide (f i j > 0)) → Q w H2
end
end K02
namespace K02
open PySem PySem.Spec PyProof.Rows L2 Evl Ow RZ Ev2 StX
def dat (m n : Nat) (f : Nat → Nat → Int) : PyData := .tuple ((List.range m).map fun i => .tuple ((List.range n).map fun j => .int (f i j)))
theorem dpAll_of {K : PySem.W.Frag} {H : Hp} : ∀ {ys : List V} {ds : List PyData}, ys.length = ds.length → (∀ (i : Nat) y d, ys[i]? = some y → ds[i]? = some d → Dp K H y d) → DpAll K H ys ds
  | [], [], _, _ => .nil
  | y :: ys, d :: ds, hl, h => .cons (h 0 y d rfl rfl) (dpAll_of (by simpa using hl) fun i y' d' h1 h2 => h (i + 1) y' d' h1 h2)
  | [], _ :: _, hl, _ => by simp at hl
  | _ :: _, [], hl, _ => by simp at hl
theorem dp_tup {K : PySem.W.Frag} {H : Hp} {n : Nat} {Pi : Nat → HP} {d : Nat → PyData} {v : V} (h : TupP n Pi v H) (hd : ∀ i x, i < n → Pi i x H → Dp K H x (d i)) : Dp K H v (.tuple ((List.range n).map d)) := by
  obtain ⟨p, ys, rfl, hp, hl, hy⟩ := h
  refine .tup (st_of hp) (dpAll_of (by simp [hl]) fun i y d' h1 h2 => ?_)
  have hi : i < n := by have := (List.getElem?_eq_some_iff.mp h1).1; omega
  rw [List.getElem?_map, List.getElem?_range hi] at h2
  cases h2
  exact hd i y hi (hy i y h1)
theorem dp_grid {K : PySem.W.Frag} {H : Hp} {m n : Nat} {f : Nat → Nat → Int} {v : V} (h : Grid m n f v H) : Dp K H v (dat m n f) :=
  dp_tup h fun i x _ hx => dp_tup hx fun j y _ hy => by rw [show y = .int (f i j) from hy]; exact .int _
theorem lay_all {α : Type} (d : α → PyData) (h : ∀ x, (d x).canLay0 = true) : ∀ xs : List α, PyData.canLayAll0 (xs.map d) = true
  | [] => rfl
  | x :: xs => by simp [PyData.canLayAll0, h x, lay_all d h xs]
theorem dep_all {α : Type} (d : α → PyData) (c : Nat) (h : ∀ x, (d x).depth ≤ c) : ∀ xs : List α, PyData.depthAll (xs.map d) ≤ c
  | [] => by simp [PyData.depthAll]
  | x :: xs => by simp only [List.map_cons, PyData.depthAll]; exact Nat.max_le.mpr ⟨h x, dep_all d c h xs⟩
theorem shaped_dat (m n : Nat) (f : Nat → Nat → Int) : SeqAt.shaped (dat m n f) = true := by
  unfold SeqAt.shaped dat
  have h1 : ∀ i, PyData.canLay0 (.tuple ((List.range n).map fun j => .int (f i j))) = true := fun i => by
    simp only [PyData.canLay0]; exact lay_all _ (fun _ => rfl) _
  have h2 : ∀ i, PyData.depth (.tuple ((List.range n).map fun j => PyData.int (f i j))) ≤ 3 := fun i => by
    simp only [PyData.depth]; have := dep_all (fun j => PyData.int (f i j)) 1 (fun _ => by simp [PyData.depth]) (List.range n); omega
  simp only [PyData.canLay0, Bool.and_eq_true, decide_eq_true_eq]
  refine ⟨lay_all _ h1 _, ?_⟩
  simp only [PyData.depth]
  have := dep_all _ 3 h2 (List.range m)
  omega
theorem evp_make {σ : L2.St} {H : Hp} {ta : TA} {C : Addr} {fld : Str} {ok : (Nat → Nat → Int) → Prop} {m n : Nat} {f : Nat → Nat → Int} {E : XK} (h : EvAP ta σ H (fun vs H1 => ∃ x, vs = [x] ∧ Grid m n f x H1)) (hd : dimOk m n) (hok : ok f) : EvP (tMake C (spInit C fld ok) [] E ta) σ H (Ins C fld m n f) := fun H1 e Q q =>
  h H1 e _ fun vs H2 e2 ⟨v, hv, hg⟩ x dx hx hdx hne => by
    subst hv
    have e3 : Evl.Ex H2 (upd (upd H2 dx (.own x)) x (.ins C dx [])) := (Ex.new hdx).trans (Ex.new (by rw [upd_ne hne.symm]; exact hx))
    refine ⟨x, dx, v, m, n, f, rfl, upd_same, mf_grid.mono _ _ _ e3 hg, hd, hok, fun H4 e4 h4 => ⟨rfl, ?_⟩⟩
    have e5 : Evl.Ex H2 H4 := fun b o hb => e4 b o (by
      have hbx : b ≠ x := fun z => by rw [z, hx] at hb; cases hb
      dsimp only
      rw [if_neg hbx, upd_ne hbx, upd_ne (fun z => by rw [z, hdx] at hb; cases hb)]
      exact hb)
    exact q _ H4 (e2.trans e5) ⟨x, dx, v, rfl, h4, mf_grid.mono _ _ _ e5 hg⟩

section
variable {K : PySem.W.Frag} {σ : L2.St} {H : Hp} {ta tb te : TE} {C : Addr} {m n : Nat} {f : Nat → Nat → Int} {E : XK}
theorem ev_left (h : EvP te σ H (Ins C "_counts" m n f)) : EvP (tProp C (spLeft C "_counts") [] E te) σ H (Is (.int (m : Int))) := evp_prop h fun vs H1 ⟨v, e, hv⟩ Q q E => ⟨v, m, n, f, e, hv, q⟩
theorem ev_right (h : EvP te σ H (Ins C "_counts" m n f)) (hm : 1 ≤ m) : EvP (tProp C (spRight C "_counts") [] E te) σ H (Is (.int (n : Int))) := evp_prop h fun vs H1 ⟨v, e, hv⟩ Q q E => ⟨v, m, n, f, e, hv, hm, q⟩
end
section
variable {P : Program} {w : World} {K : PySem.W.Frag} {mg : Str → Option Value} {base : Heap} {tk : Tok} {k : Nat} {C fI p1 p2 g f1 f2 f3 f4 : Addr} {fd fd1 fd2 fd3 fd4 : FuncData}
/-- table.turned() -/
def spTTurned (C : Addr) : Sp := fun vs H Q _ => ∃ (v : V) (m n : Nat) (f : Nat → Nat → Int), vs = [v] ∧ Ins C "_counts" m n f v H ∧ dimOk m n ∧ (∀ i j, 0 ≤ f i j) ∧ ∀ w H2, Evl.Ex H H2 → Ins C "_counts" n m (fun i j => f j i) w H2 → Q w H2
theorem ok_tturned (BTable : Kl K mg "Table" C fI "_counts") (T : Txt mg tk) (D_grid_turned : Df K mg "grid_turned" s_grid_turned ["grid"] f1 fd1) (G_grid_turned : FnOk P w K mg base CX0 (k + 5) f1 fd1 ["grid"] spTurned)
    (M_Table_init : Mf K "__init__" "Table.__init__" s_Table_init ["self", "counts"] fI fd2) (G_Table_init : FnOk P w K mg base CX0 (k + 5) fI fd2 ["self", "counts"] (spInit C "_counts" (fun f => ∀ i j, 0 ≤ f i j))) (M : Mf K "turned" "Table.turned" s_Table_turned ["self"] g fd) : FnOk P w K mg base CX0 (k + 7) g fd ["self"] (spTTurned C) := by
  refine M.F.ok sc_Table_turned (fun vs H Q E h => ?_) (fun cdv A outer s H vs Q E hr h => ?_)
  · obtain ⟨v, m, n, f, rfl, _⟩ := h
    rfl
  · obtain ⟨v, m, n, f, rfl, hv, hd, hp, q⟩ := h
    refine ⟨_, (pss_one (ps_ret (pe_make BTable.mkc G_Table_init (hr.mono (by omega)) (by rfl) BTable.gC M_Table_init.b .nil pass0 (pa_cons (pe_call G_grid_turned (hr.mono (by omega)) (by rfl) D_grid_turned.g D_grid_turned.F.kp D_grid_turned.b .nil pass0 (pa_cons (pe_fld (pv 0) rfl) pa_nil)) pa_nil)))), ?_⟩
    have h0 : EvP (tVar 0) (start N_Table_turned [v]) H (Ins C "_counts" m n f) := evp_var rfl hv mf_ins.mono
    exact evp_make (m := n) (n := m) (f := fun i j => f j i) (eap_one (evp_call (sp := spTurned) (E := E0) (eap_one (evp_fld BTable h0)) fun vs H1 ⟨x, e, hx⟩ Q q E => ⟨x, m, n, f, e, hx, hd, q⟩)) ⟨hd.2, hd.1⟩ (fun i j => hp j i) H (Ex.refl H) _ q
/-- table.count(i, j) -/
def spCount (C : Addr) : Sp := fun vs H Q _ => ∃ (x : V) (i j m n : Nat) (f : Nat → Nat → Int), vs = [x, .int (i : Int), .int (j : Int)] ∧ Ins C "_counts" m n f x H ∧ (i < m ∧ j < n) ∧ ∀ v H2, Evl.Ex H H2 → v = .int (f i j) → Q v H2
theorem ok_count (BTable : Kl K mg "Table" C fI "_counts") (T : Txt mg tk) (D_check_below : Df K mg "check_below" s_check_below ["size", "value"] f1 fd1) (G_check_below : FnOk P w K mg base CX0 (k + 3) f1 fd1 ["size", "value"] spCheckBelow)
    (P_Table_left : Pf K C "left" "Table.left" s_Table_left p1 f2 fd2) (G_Table_left : FnOk P w K mg base CX0 (k + 1) f2 fd2 ["self"] (spLeft C "_counts")) (P_Table_right : Pf K C "right" "Table.right" s_Table_right p2 f3 fd3) (G_Table_right : FnOk P w K mg base CX0 (k + 1) f3 fd3 ["self"] (spRight C "_counts"))
    (M : Mf K "count" "Table.count" s_Table_count ["self", "left", "right"] g fd) : FnOk P w K mg base CX0 (k + 5) g fd ["self", "left", "right"] (spCount C) := by
  refine M.F.ok sc_Table_count (fun vs H Q E hh => ?_) (fun cdv A outer s H vs Q E hr hh => ?_)
  · obtain ⟨x, i, j, m, n, f, rfl, _⟩ := hh
    rfl
  · obtain ⟨x, i, j, m, n, f, rfl, hx, ⟨hi, hj⟩, q⟩ := hh
    refine ⟨_, (pss_cons (ps_expr (pe_call G_check_below (hr.mono (by omega)) (by rfl) D_check_below.g D_check_below.F.kp D_check_below.b .nil pass0 (pa_cons (pe_prop (pv 0) BTable.cl P_Table_left.hp G_Table_left (hr.mono (by omega)) P_Table_left.b .nil pass0 rfl) (pa_cons (pv 1) pa_nil)))) (pss_cons (ps_expr (pe_call G_check_below (hr.mono (by omega)) (by rfl) D_check_below.g D_check_below.F.kp D_check_below.b .nil pass0 (pa_cons (pe_prop (pv 0) BTable.cl P_Table_right.hp G_Table_right (hr.mono (by omega)) P_Table_right.b .nil pass0 rfl) (pa_cons (pv 2) pa_nil)))) (pss_one (ps_ret (pe_ix (r := rIxT K) ix_tup (pe_ix (r := rIxT K) ix_tup (pe_fld (pv 0) rfl) (pv 1) (fun _ _ => rfl)) (pv 2) (fun _ _ => rfl)))))), ?_⟩
    have h0 : EvP (tVar 0) (start N_Table_count [x, .int (i : Int), .int (j : Int)]) H (Ins C "_counts" m n f) := evp_var rfl hx mf_ins.mono
    have h1 : EvP (tVar 1) (start N_Table_count [x, .int (i : Int), .int (j : Int)]) H (Is (.int (i : Int))) := evp_var rfl rfl mono_is
    have h2 : EvP (tVar 2) (start N_Table_count [x, .int (i : Int), .int (j : Int)]) H (Is (.int (j : Int))) := evp_var rfl rfl mono_is
    refine q_drop (EvP.ev (evp_call (sp := spCheckBelow) (E := E0) (S := Is .non) (eap_two (ev_left h0) h1 mono_is) fun vs H1 ⟨x, y, e, hx, hy⟩ Q q E => ⟨m, i, by rw [e, show x = _ from hx, show y = _ from hy], by omega, q⟩)) fun H1 e1 => ?_
    refine q_drop (EvP.ev (evp_call (sp := spCheckBelow) (E := E0) (S := Is .non) (eap_two (ev_right (h0.mono e1) (by omega)) (h2.mono e1) mono_is) fun vs H1 ⟨x, y, e, hx, hy⟩ Q q E => ⟨n, j, by rw [e, show x = _ from hx, show y = _ from hy], by omega, q⟩)) fun H2 e2 => ?_
    have e12 := e1.trans e2
    exact evp_ixT (K := K) (i := j) (evp_ixT (K := K) (i := i) (evp_fld BTable (h0.mono e12)) (h1.mono e12) hi fun _ => mf_row) (h2.mono e12) hj (fun _ => mf_is) H2 (Ex.refl _) _ fun v H3 e3 hv => q v H3 (e12.trans e3) hv
/-- row in table -/
theorem ok_has (BTable : Kl K mg "Table" C fI "_counts") (T : Txt mg tk) (D_is_row : Df K mg "is_row" s_is_row ["left", "right", "value"] f1 fd1) (G_is_row : FnOk P w K mg base CX0 (k + 3) f1 fd1 ["left", "right", "value"] spIsRow)
    (P_Table_left : Pf K C "left" "Table.left" s_Table_left p1 f2 fd2) (G_Table_left : FnOk P w K mg base CX0 (k + 1) f2 fd2 ["self"] (spLeft C "_counts")) (P_Table_right : Pf K C "right" "Table.right" s_Table_right p2 f3 fd3) (G_Table_right : FnOk P w K mg base CX0 (k + 1) f3 fd3 ["self"] (spRight C "_counts"))
    (M : Mf K "__contains__" "Table.__contains__" s_Table_contains ["self", "row"] g fd) : FnOk P w K mg base CX0 (k + 5) g fd ["self", "row"] (spHasRow C) := by
  refine M.F.ok sc_Table_contains (fun vs H Q E hh => ?_) (fun cdv A outer s H vs Q E hr hh => ?_)
  · obtain ⟨v, x, m, n, i, j, f, rfl, _⟩ := hh
    rfl
  · obtain ⟨v, x, m, n, i, j, f, rfl, hv, hx, ⟨hi, hj⟩, q⟩ := hh
    refine ⟨_, (pss_one (ps_ret (pe_and (pe_call G_is_row (hr.mono (by omega)) (by rfl) D_is_row.g D_is_row.F.kp D_is_row.b .nil pass0 (pa_cons (pe_prop (pv 0) BTable.cl P_Table_left.hp G_Table_left (hr.mono (by omega)) P_Table_left.b .nil pass0 rfl) (pa_cons (pe_prop (pv 0) BTable.cl P_Table_right.hp G_Table_right (hr.mono (by omega)) P_Table_right.b .nil pass0 rfl) (pa_cons (pv 1) pa_nil)))) (pe_one (pe_cmpR op_gt (pe_ix (r := rIxT K) ix_tup (pe_ix (r := rIxT K) ix_tup (pe_fld (pv 0) rfl) (pe_ix (r := rIxT K) ix_tup (pv 1) pe_int (fun _ _ => rfl)) (fun _ _ => rfl)) (pe_ix (r := rIxT K) ix_tup (pv 1) pe_int (fun _ _ => rfl)) (fun _ _ => rfl)) pe_int (nomark _)))))), ?_⟩
    have h0 : EvP (tVar 0) (start N_Table_contains [v, x]) H (Ins C "_counts" m n f) := evp_var rfl hv mf_ins.mono
    have h1 : EvP (tVar 1) (start N_Table_contains [v, x]) H (Pr2 i j) := evp_var rfl hx mf_row.mono
    refine evp_is (evp_and (a := true) (b := decide (f i j > 0)) (evp_call (sp := spIsRow) (E := E0) (S := Tr) (eap_three (ev_left h0) (ev_right h0 (by omega)) h1 mono_is mono_is) fun vs H1 ⟨a, b, c, e, ha, hb, hc⟩ Q q E => ⟨m, n, i, j, c, by rw [e, show a = _ from ha, show b = _ from hb], hc, by omega, by omega, q⟩) fun _ => evp_I0 (g := fun i j => .bl (decide (i > j))) (evp_ixT (K := K) (i := j) (evp_ixT (K := K) (i := i) (evp_fld BTable h0) (evp_ixT (K := K) (i := 0) h1 evp_c (by decide) fun _ => mf_is) hi fun _ => mf_row) (evp_ixT (K := K) (i := 1) h1 evp_c (by decide) fun _ => mf_is) hj fun _ => mf_is) (evp_c (v := .int 0))) rfl H (Ex.refl H) _ q
end
end K02
namespace K02
open PySem PySem.Spec PyProof.Rows L2 Evl Ow RZ Ev2 StX
section
variable {K : PySem.W.Frag} {σ : L2.St} {H : Hp} {ta tb te : TE} {P R : HP}
theorem evp_eqD {d e : PyData} (ha : EvP ta σ H P) (hb : EvP tb σ H R) (m : Mono P) (hp : ∀ v H1, P v H1 → Dp K H1 v d) (hr : ∀ v H1, R v H1 → Dp K H1 v e) (s1 : SeqAt.shaped d = true) (s2 : SeqAt.shaped e = true) : EvP (tOp (rEqD K) ta tb) σ H (Is (.bl (PyData.eqv d e))) :=
  evp_op ha hb m fun x y H1 _ px py Q q => ⟨d, e, hp _ _ px, hr _ _ py, s1, s2, q _ H1 (Ex.refl _) rfl⟩
theorem evp_neD {d e : PyData} (ha : EvP ta σ H P) (hb : EvP tb σ H R) (m : Mono P) (hp : ∀ v H1, P v H1 → Dp K H1 v d) (hr : ∀ v H1, R v H1 → Dp K H1 v e) (s1 : SeqAt.shaped d = true) (s2 : SeqAt.shaped e = true) : EvP (tOp (rNeD K) ta tb) σ H (Is (.bl (!PyData.eqv d e))) :=
  evp_op ha hb m fun x y H1 _ px py Q q => ⟨d, e, hp _ _ px, hr _ _ py, s1, s2, q _ H1 (Ex.refl _) rfl⟩
end
section
variable {P : Program} {w : World} {K : PySem.W.Frag} {mg : Str → Option Value} {base : Heap} {tk : Tok} {k : Nat} {C fI g : Addr} {fd : FuncData}
/-- x == y: y of the same class, or of a kind that is none of it -/
def spEqT (K : PySem.W.Frag) (C : Addr) (fld : Str) : Sp := fun vs H Q _ => ∃ (x y : V) (m n : Nat) (f : Nat → Nat → Int), vs = [x, y] ∧ Ins C fld m n f x H ∧
  ((∃ m' n' f', Ins C fld m' n' f' y H ∧ ∀ v H2, Evl.Ex H H2 → v = .bl (PyData.eqv (dat m n f) (dat m' n' f')) → Q v H2) ∨ (∃ t, (∀ H1, Evl.Ex H H1 → TyX K H1 y t) ∧ PySem.W.kitOne K t (.ref C) = some false ∧ ∀ v H2, Evl.Ex H H2 → v = .bl false → Q v H2))
theorem ok_Table_eq (BB : Kl K mg "Table" C fI "_counts") (T : Txt mg tk) (M : Mf K "__eq__" "Table.__eq__" s_Table_eq ["self", "other"] g fd) : FnOk P w K mg base CX0 (k + 1) g fd ["self", "other"] (spEqT K C "_counts") := by
  refine M.F.ok sc_Table_eq (fun vs H Q E hh => ?_) (fun cdv A outer s H vs Q E hr hh => ?_)
  · obtain ⟨x, y, m, n, f, rfl, _⟩ := hh
    rfl
  · obtain ⟨x, y, m, n, f, rfl, hx, h⟩ := hh
    refine ⟨_, (pss_one (ps_ret (pe_and (pe_callB (r := rIsi K) call_isi (by rfl) T.n_isinstance PyProof.Rows.boot_isinstance (pa_cons (pv 1) (pa_cons (pe_glob (v := .ref C) rfl BB.gC rfl) pa_nil))) (pe_one (pe_cmpR (op_eqD hr.units) (pe_fld (pv 0) rfl) (pe_fld (pv 1) rfl) (nomark _)))))), ?_⟩
    have h0 : EvP (tVar 0) (start N_Table_eq [x, y]) H (Ins C "_counts" m n f) := evp_var rfl hx mf_ins.mono
    rcases h with ⟨m', n', f', hy, q⟩ | ⟨t, ht, hk, q⟩
    · have h1 : EvP (tVar 1) (start N_Table_eq [x, y]) H (Ins C "_counts" m' n' f') := evp_var rfl hy mf_ins.mono
      exact evp_is (evp_and (a := true) (evp_isiO BB h1) fun _ => evp_eqD (K := K) (evp_fld BB h0) (evp_fld BB h1) mf_grid.mono (fun _ _ h => dp_grid h) (fun _ _ h => dp_grid h) (shaped_dat _ _ _) (shaped_dat _ _ _)) (by rw [Bool.true_and]) H (Ex.refl H) _ q
    · have h1 : EvP (tVar 1) (start N_Table_eq [x, y]) H (fun v H1 => v = y ∧ Evl.Ex H H1) := fun H1 e Q q => ⟨y, rfl, q y H1 (Ex.refl _) ⟨rfl, e⟩⟩
      exact evp_is (evp_and (a := false) (b := false) (evp_isi (K := K) (t := t) (u := .ref C) h1 (fun v H1 ⟨e, ex⟩ => by rw [e]; exact ht H1 ex) (.own C) hk) fun z => nomatch z) rfl H (Ex.refl H) _ q
theorem ok_Question_eq (BB : Kl K mg "Question" C fI "_weights") (T : Txt mg tk) (M : Mf K "__eq__" "Question.__eq__" s_Question_eq ["self", "other"] g fd) : FnOk P w K mg base CX0 (k + 1) g fd ["self", "other"] (spEqT K C "_weights") := by
  refine M.F.ok sc_Question_eq (fun vs H Q E hh => ?_) (fun cdv A outer s H vs Q E hr hh => ?_)
  · obtain ⟨x, y, m, n, f, rfl, _⟩ := hh
    rfl
  · obtain ⟨x, y, m, n, f, rfl, hx, h⟩ := hh
    refine ⟨_, (pss_one (ps_ret (pe_and (pe_callB (r := rIsi K) call_isi (by rfl) T.n_isinstance PyProof.Rows.boot_isinstance (pa_cons (pv 1) (pa_cons (pe_glob (v := .ref C) rfl BB.gC rfl) pa_nil))) (pe_one (pe_cmpR (op_eqD hr.units) (pe_fld (pv 0) rfl) (pe_fld (pv 1) rfl) (nomark _)))))), ?_⟩
    have h0 : EvP (tVar 0) (start N_Question_eq [x, y]) H (Ins C "_weights" m n f) := evp_var rfl hx mf_ins.mono
    rcases h with ⟨m', n', f', hy, q⟩ | ⟨t, ht, hk, q⟩
    · have h1 : EvP (tVar 1) (start N_Question_eq [x, y]) H (Ins C "_weights" m' n' f') := evp_var rfl hy mf_ins.mono
      exact evp_is (evp_and (a := true) (evp_isiO BB h1) fun _ => evp_eqD (K := K) (evp_fld BB h0) (evp_fld BB h1) mf_grid.mono (fun _ _ h => dp_grid h) (fun _ _ h => dp_grid h) (shaped_dat _ _ _) (shaped_dat _ _ _)) (by rw [Bool.true_and]) H (Ex.refl H) _ q
    · have h1 : EvP (tVar 1) (start N_Question_eq [x, y]) H (fun v H1 => v = y ∧ Evl.Ex H H1) := fun H1 e Q q => ⟨y, rfl, q y H1 (Ex.refl _) ⟨rfl, e⟩⟩
      exact evp_is (evp_and (a := false) (b := false) (evp_isi (K := K) (t := t) (u := .ref C) h1 (fun v H1 ⟨e, ex⟩ => by rw [e]; exact ht H1 ex) (.own C) hk) fun z => nomatch z) rfl H (Ex.refl H) _ q
end
end K02
set_option maxHeartbeats 8100000
namespace K02
open PySem PySem.Spec PyProof.Rows L2 Evl Ow RZ Ev2 StX
theorem dpAll_ints {K : PySem.W.Frag} {H : Hp} : ∀ ns : List Int, DpAll K H (ns.map V.int) (ns.map PyData.int)
  | [] => .nil
  | n :: ns => .cons (.int n) (dpAll_ints ns)
theorem shaped_ints (ns : List Int) : SeqAt.shaped (.list (ns.map PyData.int)) = true := by
  unfold SeqAt.shaped
  simp only [PyData.canLay0, Bool.and_eq_true, decide_eq_true_eq]
  refine ⟨lay_all _ (fun _ => rfl) _, ?_⟩
  simp only [PyData.depth]
  have := dep_all PyData.int 1 (fun _ => by simp [PyData.depth]) ns
  omega
/-- a list of these ints -/
def LI (is : List Int) : HP := fun v H => ∃ p, v = .ref p ∧ H p = some (.lst (is.map V.int))
theorem mono_li {is : List Int} : Mono (LI is) := fun _ _ _ e ⟨p, h1, h2⟩ => ⟨p, h1, e _ _ h2⟩
section
variable {K : PySem.W.Frag} {σ : L2.St} {H : Hp} {ta tb te : TE} {C : Addr} {fld : Str} {m n : Nat} {f g : Nat → Nat → Int} {E : XK}
theorem li_dp {is : List Int} {v : V} (h : LI is v H) : Dp K H v (.list (is.map PyData.int)) := by
  obtain ⟨p, rfl, h⟩ := h
  exact .lst (sq_of h) (dpAll_ints is)
theorem e_li {is : List Int} (ha : EvP ta σ H (LI is)) (hb : EvP tb σ H (LI is)) : EvT (tTest (tOp (rNeD K) ta tb)) σ H false :=
  et_tst (evp_is (evp_neD (K := K) ha hb mono_li (fun _ _ h => li_dp h) (fun _ _ h => li_dp h) (shaped_ints _) (shaped_ints _)) (by rw [SeqAt.eqv_refl _ (SeqAt.canLay_of_shaped (shaped_ints is))]; rfl))
theorem e_gr (ha : EvP ta σ H (Grid m n f)) (hb : EvP tb σ H (Grid m n f)) : EvT (tTest (tOp (rNeD K) ta tb)) σ H false :=
  et_tst (evp_is (evp_neD (K := K) ha hb mf_grid.mono (fun _ _ h => dp_grid h) (fun _ _ h => dp_grid h) (shaped_dat _ _ _) (shaped_dat _ _ _)) (by rw [SeqAt.eqv_refl _ (SeqAt.canLay_of_shaped (shaped_dat m n f))]; rfl))
theorem ev_get (h : EvP te σ H (Ins C "_counts" m n f)) : EvP (tProp C (spGet C "_counts") [] E te) σ H (Grid m n f) := evp_prop h fun vs H1 ⟨v, e, hv⟩ Q q E => ⟨v, m, n, f, e, hv, q⟩
theorem ev_total (h : EvP te σ H (Ins C "_counts" m n f)) (hd : dimOk m n) : EvP (tProp C (spTotal C) [] E te) σ H (Is (.int (sumN (fun i => sumN (f i) n) m))) := evp_prop h fun vs H1 ⟨v, e, hv⟩ Q q E => ⟨v, m, n, f, e, hv, hd, q⟩
theorem evp_li {i j : Int} (ha : EvP ta σ H (Is (.int i))) (hb : EvP tb σ H (Is (.int j))) : EvP (tLst (tCons ta (tCons tb tNil))) σ H (LI [i, j]) := fun H1 e Q q =>
  el_lst (ea_cons ha.ev (ea_cons hb.ev ea_nil)) (show 2 ≤ 100000 by decide) H1 e Q fun p H2 _ e2 hp => q _ H2 e2 ⟨p, rfl, hp⟩
theorem li_of {k : Nat} {w : Nat → Int} {v : V} (h : LstP k (fun i => Is (.int (w i))) v H) : LI ((List.range k).map w) v H := by
  obtain ⟨p, rfl, hp⟩ := lst_is h
  exact ⟨p, rfl, by rw [hp, List.map_map]; rfl⟩
theorem q_par2 {ta : TA} {tz : TS} {D : Ends} {i j : Nat} {A : List V → Hp → Prop} (h : EvAP ta σ H A) (k : ∀ vs H1, Evl.Ex H H1 → A vs H1 → ∃ v w, vs = [v, w] ∧ tz D ((σ.set i (some v)).set j (some w)) H1) : tSeq (tPar i j ta) tz D σ H := h H (Ex.refl H) _ k
/-- two new lists -/
theorem q_new2 {tz : TS} {D : Ends} {i j : Nat} {as bs : List Int} (h1 : EvN ta σ H (LI as)) (h2 : EvN tb σ H (LI bs))
    (k : ∀ p q H1, H p = none → H q = none → p ≠ q → Evl.Ex H H1 → H1 p = some (.lst (as.map V.int)) → H1 q = some (.lst (bs.map V.int)) → tz D ((σ.set i (some (.ref p))).set j (some (.ref q))) H1) : tSeq (tPar i j (tCons ta (tCons tb tNil))) tz D σ H :=
  h1 H (Ex.refl H) _ fun p H1 hp e1 ⟨p', ep, hpp⟩ => h2 H1 e1 _ fun q H2 hq e2 ⟨q', eq, hqq⟩ => by
    cases ep
    cases eq
    exact ⟨_, _, rfl, k p q H2 hp (fresh_back e1 hq) (fun z => by rw [z, hq] at hpp; cases hpp) (e1.trans e2) (e2 _ _ hpp) hqq⟩
theorem en_lefts (h : EvP te σ H (Ins C "_counts" m n f)) (hd : dimOk m n) : EvN (tMeth C "lefts" (spLefts C) [] E te tNil) σ H (LI ((List.range m).map fun i => sumN (f i) n)) := fun H1 e Q q =>
  h H1 e _ fun v H2 e2 ⟨a, dx, p, h1, h2, h3⟩ => ⟨a, dx, _, h1, h2, (by simp only [List.lookup, show (("lefts" : Str) == ("_counts" : Str)) = false from by decide]), v, m, n, f, rfl, ⟨a, dx, p, h1, h2, h3⟩, hd, fun b H3 hb e3 h4 => q b H3 (fresh_back e2 hb) (e2.trans e3) ⟨b, rfl, by rw [h4, List.map_map]; rfl⟩⟩
theorem en_rights (h : EvP te σ H (Ins C "_counts" m n f)) (hd : dimOk m n) : EvN (tMeth C "rights" (spRights C) [] E te tNil) σ H (LI ((List.range n).map fun j => sumN (fun i => f i j) m)) := fun H1 e Q q =>
  h H1 e _ fun v H2 e2 ⟨a, dx, p, h1, h2, h3⟩ => ⟨a, dx, _, h1, h2, (by simp only [List.lookup, show (("rights" : Str) == ("_counts" : Str)) = false from by decide]), v, m, n, f, rfl, ⟨a, dx, p, h1, h2, h3⟩, hd, fun b H3 hb e3 h4 => q b H3 (fresh_back e2 hb) (e2.trans e3) ⟨b, rfl, by rw [h4, List.map_map]; rfl⟩⟩
theorem ev_count {i j : Nat} (h : EvP te σ H (Ins C "_counts" m n f)) (h1 : EvP ta σ H (Is (.int (i : Int)))) (h2 : EvP tb σ H (Is (.int (j : Int)))) (hi : i < m) (hj : j < n) : EvP (tMeth C "count" (spCount C) [] E te (tCons ta (tCons tb tNil))) σ H (Is (.int (f i j))) := fun H1 e Q q =>
  h H1 e _ fun x H2 e2 ⟨a, dx, v, hx, hp, hv⟩ => ⟨a, dx, _, hx, hp, (by simp only [List.lookup, show (("count" : Str) == ("_counts" : Str)) = false from by decide]), eap_two h1 h2 mono_is H2 (e.trans e2) _ fun vs H3 e3 ⟨y, z, hvs, hy, hz⟩ => ⟨x, i, j, m, n, f, by rw [hvs, show y = _ from hy, show z = _ from hz]; rfl, mf_ins.mono _ _ _ e3 ⟨a, dx, v, hx, hp, hv⟩, ⟨hi, hj⟩, fun w H4 e4 hw => q w H4 ((e2.trans e3).trans e4) hw⟩⟩
theorem ev_tturned (h : EvP te σ H (Ins C "_counts" m n f)) (hd : dimOk m n) (hp : ∀ i j, 0 ≤ f i j) : EvP (tMeth C "turned" (spTTurned C) [] E te tNil) σ H (Ins C "_counts" n m fun i j => f j i) := fun H1 e Q q =>
  h H1 e _ fun v H2 e2 ⟨a, dx, p, h1, h2, h3⟩ => ⟨a, dx, _, h1, h2, (by simp only [List.lookup, show (("turned" : Str) == ("_counts" : Str)) = false from by decide]), v, m, n, f, rfl, ⟨a, dx, p, h1, h2, h3⟩, hd, hp, fun w H3 e3 hw => q w H3 (e2.trans e3) hw⟩
theorem evp_pr2 {i j : Int} (ha : EvP ta σ H (Is (.int i))) (hb : EvP tb σ H (Is (.int j))) : EvP (tTup (tCons ta (tCons tb tNil))) σ H (Pr2 i j) := fun H1 e Q q =>
  eu_tup (ea_cons ha.ev (ea_cons hb.ev ea_nil)) (show 2 ≤ 100000 by decide) H1 e Q fun p H2 _ e2 hp => q _ H2 e2 ⟨p, _, rfl, hp, rfl, fun c y hy => by
    match c, hy with
    | 0, hy => cases hy; rfl
    | 1, hy => cases hy; rfl
    | c + 2, hy => simp at hy⟩
theorem ev_has {i j : Nat} (h1 : EvP ta σ H (Pr2 i j)) (h : EvP te σ H (Ins C "_counts" m n f)) (hi : i < m) (hj : j < n) : EvP (tOp (rOwnIn C (spHasRow C) E false) ta te) σ H (Is (.bl (decide (f i j > 0)))) :=
  evp_op h1 h mf_row.mono fun x y H1 _ hx hy Q q => by
    obtain ⟨a, dx, p, ey, h2, h3⟩ := id hy
    exact ⟨a, dx, _, ey, h2, y, x, m, n, i, j, f, rfl, hy, hx, ⟨hi, hj⟩, fun w H2 e2 hw => ⟨_, hw, q _ H2 e2 rfl⟩⟩
theorem ev_same {ta tb : TE} (h1 : EvP ta σ H (Ins C "_counts" m n f)) (h2 : EvP tb σ H (Ins C "_counts" m n f)) : EvP (tOp (rOwnB C (spEqT K C "_counts") E) ta tb) σ H (Is (.bl true)) :=
  evp_op h1 h2 mf_ins.mono fun x y H1 _ hx hy Q q => by
    obtain ⟨a, dx, p, ex, k2, k3⟩ := id hx
    obtain ⟨b, dy, r, ey, k4, k5⟩ := id hy
    refine ⟨a, b, dx, dy, _, _, ex, ey, k2, k4, x, y, m, n, f, rfl, hx, .inl ⟨m, n, f, hy, fun v H2 e2 hv => q v H2 e2 ?_⟩⟩
    rw [hv, SeqAt.eqv_refl _ (SeqAt.canLay_of_shaped (shaped_dat m n f))]
    rfl
theorem e_row {x : V} {s2 s3 s4 s5 s6 s7 s8 s10 : Option V} {t : V} (hx : Grid m n f x H) (hm : m ≤ 100) : EvP (tLc (iTup K (tVar 1)) (gName 9) tYes (tCB (rSumT K) (tCons (tVar 9) tNil)) [9]) [some t, some x, s2, s3, s4, s5, s6, s7, s8, none, s10] H (LstP m fun i => Is (.int (sumN (f i) n))) :=
  evp_lc (vs := [9]) (g := gName 9) (wi_tup (K := K) (evp_var (i := 1) (v := x) rfl hx mf_grid.mono) fun _ => mf_row) (by omega)
    (Sg := fun i σ2 H2 => ∃ y, σ2 = [some t, some x, s2, s3, s4, s5, s6, s7, s8, some y, s10] ∧ TupP n (fun j => Is (.int (f i j))) y H2) (fun i y H1 hi e1 hy => g_name (i := 9) ⟨rfl, y, rfl, hy⟩) (fun i σ2 H1 hi e1 ⟨y, hs, hy⟩ => by
      subst hs
      exact evp_sumT (K := K) (evp_var (i := 9) (v := y) rfl hy mf_row.mono)) fun _ => mf_is
theorem e_col {x : V} {s2 s3 s4 s5 s6 s7 s8 : Option V} {t : V} {j : Nat} (hx : Grid m n f x H) (hm : m ≤ 100) (hj : j < n) : EvP (tLc (iTup K (tVar 1)) (gName 9) tYes (tOp (rIxT K) (tVar 9) (tVar 10)) [9]) [some t, some x, s2, s3, s4, s5, s6, s7, s8, none, some (.int (j : Int))] H (LstP m fun i => Is (.int (f i j))) :=
  evp_lc (vs := [9]) (g := gName 9) (wi_tup (K := K) (evp_var (i := 1) (v := x) rfl hx mf_grid.mono) fun _ => mf_row) (by omega)
    (Sg := fun i σ2 H2 => ∃ y, σ2 = [some t, some x, s2, s3, s4, s5, s6, s7, s8, some y, some (.int (j : Int))] ∧ TupP n (fun j => Is (.int (f i j))) y H2) (fun i y H1 hi e1 hy => g_name (i := 9) ⟨rfl, y, rfl, hy⟩) (fun i σ2 H1 hi e1 ⟨y, hs, hy⟩ => by
      subst hs
      exact evp_ixT (K := K) (i := j) (evp_var (i := 9) (v := y) rfl hy mf_row.mono) (evp_var (i := 10) rfl rfl mono_is) hj fun _ => mf_is) fun _ => mf_is
end
section
variable {P : Program} {w : World} {K : PySem.W.Frag} {mg : Str → Option Value} {base : Heap} {tk : Tok} {k : Nat} {C fI g p1 p2 p3 p4 f1 f2 f3 f4 f5 f6 f7 f8 f9 f10 : Addr} {fd d1 d2 d3 d4 d5 d6 d7 d8 d9 d10 dI : FuncData}
def spRight_ (C : Addr) : Sp := fun vs H Q _ => ∃ (t c : V) (m n : Nat) (f : Nat → Nat → Int), vs = [t, c] ∧ Ins C "_counts" m n f t H ∧ Grid m n f c H ∧ dimOk m n ∧ (∀ i j, 0 ≤ f i j) ∧ ∀ H2, Evl.Ex H H2 → Q (.bl true) H2
theorem ok_law_right (BTable : Kl K mg "Table" C fI "_counts") (T : Txt mg tk)
    (P_Table_counts : Pf K C "counts" "Table.counts" s_Table_counts p1 f1 d1) (G_Table_counts : FnOk P w K mg base CX0 (k + 1) f1 d1 ["self"] (spGet C "_counts"))
    (P_Table_left : Pf K C "left" "Table.left" s_Table_left p2 f2 d2) (G_Table_left : FnOk P w K mg base CX0 (k + 1) f2 d2 ["self"] (spLeft C "_counts"))
    (P_Table_right : Pf K C "right" "Table.right" s_Table_right p3 f3 d3) (G_Table_right : FnOk P w K mg base CX0 (k + 1) f3 d3 ["self"] (spRight C "_counts"))
    (P_Table_total : Pf K C "total" "Table.total" s_Table_total p4 f4 d4) (G_Table_total : FnOk P w K mg base CX0 (k + 1) f4 d4 ["self"] (spTotal C))
    (M_lefts : Mf K "lefts" "Table.lefts" s_Table_lefts ["self"] f5 d5) (W_lefts : Meth K C "lefts" f5) (G_lefts : FnOk P w K mg base CX0 (k + 1) f5 d5 ["self"] (spLefts C))
    (M_rights : Mf K "rights" "Table.rights" s_Table_rights ["self"] f6 d6) (W_rights : Meth K C "rights" f6) (G_rights : FnOk P w K mg base CX0 (k + 2) f6 d6 ["self"] (spRights C))
    (M_count : Mf K "count" "Table.count" s_Table_count ["self", "left", "right"] f7 d7) (W_count : Meth K C "count" f7) (G_count : FnOk P w K mg base CX0 (k + 5) f7 d7 ["self", "left", "right"] (spCount C))
    (M_has : Mf K "__contains__" "Table.__contains__" s_Table_contains ["self", "row"] f8 d8) (W_has : Meth K C "__contains__" f8) (G_has : FnOk P w K mg base CX0 (k + 5) f8 d8 ["self", "row"] (spHasRow C))
    (M_turned : Mf K "turned" "Table.turned" s_Table_turned ["self"] f9 d9) (W_turned : Meth K C "turned" f9) (G_turned : FnOk P w K mg base CX0 (k + 7) f9 d9 ["self"] (spTTurned C))
    (M_eq : Mf K "__eq__" "Table.__eq__" s_Table_eq ["self", "other"] f10 d10) (W_eq : Meth K C "__eq__" f10) (G_eq : FnOk P w K mg base CX0 (k + 1) f10 d10 ["self", "other"] (spEqT K C "_counts"))
    (M_Table_init : Mf K "__init__" "Table.__init__" s_Table_init ["self", "counts"] fI dI) (G_Table_init : FnOk P w K mg base CX0 (k + 5) fI dI ["self", "counts"] (spInit C "_counts" (fun f => ∀ i j, 0 ≤ f i j)))
    (D : Df K mg "_law_right" s_law_right ["_law_table", "_law_counts"] g fd) : FnOk P w K mg base CX0 (k + 9) g fd ["_law_table", "_law_counts"] (spRight_ C) := by
  refine D.F.ok sc_law_right (fun vs H Q E h => ?_) (fun cdv A outer s H vs Q E hr h => ?_)
  · obtain ⟨t, c, m, n, f, rfl, _⟩ := h
    rfl
  · obtain ⟨t, c, m, n, f, rfl, ht, hc, hd, hp, q⟩ := h
    have nd := sc_law_right.nd
    refine ⟨_, (pss_cons (ps_par (i := 4) (j := 5) (by rfl) nd rfl rfl (by decide) rfl rfl (pa_cons (pe_callB (r := rLenQ K) call_len_seq (by rfl) T.n_len PySem.boot_len (pa_cons (pv 1) pa_nil)) (pa_cons (pe_callB (r := rLenQ K) call_len_seq (by rfl) T.n_len PySem.boot_len (pa_cons (pe_ix (r := rIxT K) ix_tup (pv 1) pe_int (fun _ _ => rfl)) pa_nil)) pa_nil)) (by rfl)) (pss_cons (ps_if (PW.pt (pw_or (pt_cmpR (op_neD hr.units) (pe_prop (pv 0) BTable.cl P_Table_counts.hp G_Table_counts (hr.mono (by omega)) P_Table_counts.b .nil pass0 rfl) (pv 1) (nomark _)) (pw_or1 (pt_cmpR (op_neD hr.units) (pe_lst (pa_cons (pe_prop (pv 0) BTable.cl P_Table_left.hp G_Table_left (hr.mono (by omega)) P_Table_left.b .nil pass0 rfl) (pa_cons (pe_prop (pv 0) BTable.cl P_Table_right.hp G_Table_right (hr.mono (by omega)) P_Table_right.b .nil pass0 rfl) pa_nil))) (pe_lst (pa_cons (pv 4) (pa_cons (pv 5) pa_nil))) (nomark _))))) (pss_one (ps_ret pe_bl)) pss_nil) (pss_cons (ps_if (pt_cmpR op_ne (pe_prop (pv 0) BTable.cl P_Table_total.hp G_Table_total (hr.mono (by omega)) P_Table_total.b .nil pass0 rfl) (pe_callB (r := rSum K) (cr_sum rfl) (by rfl) T.n_sum PyProof.Rows.boot_sum (pa_cons (pe_lc (wi := iTup K _) (g := gName 9) (own := [("_law_row", 9)]) (by rfl) nd (pi_tup (pv 1)) (blkOk_by (by kernel_rfl)) (fun _ _ _ _ _ => (pg_name (i := 9) nd rfl (Or.inl rfl))) (fun _ _ _ _ _ => pts_nil) (fun _ _ _ _ _ => (pe_callB (r := rSumT K) (cr_sumT rfl) (by rfl) T.n_sum PyProof.Rows.boot_sum (pa_cons (pv 9) pa_nil)))) pa_nil)) (nomark _)) (pss_one (ps_ret pe_bl)) pss_nil) (pss_cons (ps_for PassesOwn.never rfl (pi_range1 (by rfl) T.n_range (pa_cons pe_int pa_nil)) (pg_name (i := 2) nd rfl (Or.inl rfl)) (pss_cons (ps_par (i := 7) (j := 8) (by rfl) nd rfl rfl (by decide) rfl rfl (pa_cons (pe_meth0 (pv 0) BTable.cl W_lefts G_lefts (hr.mono (by omega)) M_lefts.b .nil pass0) (pa_cons (pe_meth0 (pv 0) BTable.cl W_rights G_rights (hr.mono (by omega)) M_rights.b .nil pass0) pa_nil)) (by rfl)) (pss_cons (ps_if (pt_cmpR (op_neD hr.units) (pv 7) (pe_lc (wi := iTup K _) (g := gName 9) (own := [("_law_row", 9)]) (by rfl) nd (pi_tup (pv 1)) (blkOk_by (by kernel_rfl)) (fun _ _ _ _ _ => (pg_name (i := 9) nd rfl (Or.inl rfl))) (fun _ _ _ _ _ => pts_nil) (fun _ _ _ _ _ => (pe_callB (r := rSumT K) (cr_sumT rfl) (by rfl) T.n_sum PyProof.Rows.boot_sum (pa_cons (pv 9) pa_nil)))) (nomark _)) (pss_one (ps_ret pe_bl)) pss_nil) (pss_cons (ps_if (pt_cmpR (op_neD hr.units) (pv 8) (pe_lc (wi := iRng1 _) (g := gName 10) (own := [("_law_at", 10)]) (by rfl) nd (pi_range1 (by rfl) T.n_range (pa_cons (pv 5) pa_nil)) (blkOk_by (by kernel_rfl)) (fun _ _ _ _ _ => (pg_name (i := 10) nd rfl (Or.inr rfl))) (fun _ _ _ _ _ => pts_nil) (fun _ _ _ _ _ => (pe_callB (r := rSum K) (cr_sum rfl) (by rfl) T.n_sum PyProof.Rows.boot_sum (pa_cons (pe_lc (wi := iTup K _) (g := gName 9) (own := [("_law_row", 9)]) (by rfl) nd (pi_tup (pv 1)) (blkOk_by (by kernel_rfl)) (fun _ _ _ _ _ => (pg_name (i := 9) nd rfl (Or.inl rfl))) (fun _ _ _ _ _ => pts_nil) (fun _ _ _ _ _ => (pe_ix (r := rIxT K) ix_tup (pv 9) (pv 10) (fun _ _ => rfl)))) pa_nil)))) (nomark _)) (pss_one (ps_ret pe_bl)) pss_nil) (pss_cons (ps_expr (pe_bm PySem.F.plainAttrs_list PySem.F.slot_list_append PySem.F.type_list_append mt_append (pv 7) (pa_cons pe_non pa_nil))) (pss_one (ps_expr (pe_bm0 PySem.F.plainAttrs_list PySem.F.slot_list_clear PySem.F.type_list_clear mt_clear (pv 8))))))))) (pss_cons (ps_for PassesOwn.never rfl (pi_range1 (by rfl) T.n_range (pa_cons (pv 4) pa_nil)) (pg_name (i := 3) nd rfl (Or.inl rfl)) (pss_one (ps_for PassesOwn.never rfl (pi_range1 (by rfl) T.n_range (pa_cons (pv 5) pa_nil)) (pg_name (i := 6) nd rfl (Or.inl rfl)) (pss_one (ps_if (PW.pt (pw_or (pt_cmpR op_ne (pe_meth (pv 0) BTable.cl W_count G_count (hr.mono (by omega)) M_count.b .nil pass0 (pa_cons (pv 3) (pa_cons (pv 6) pa_nil))) (pe_ix (r := rIxT K) ix_tup (pe_ix (r := rIxT K) ix_tup (pv 1) (pv 3) (fun _ _ => rfl)) (pv 6) (fun _ _ => rfl)) (nomark _)) (pw_or1 (pt_cmpR op_ne (pe_cmpR (r := rOwnIn C (spHasRow C) E0 false) (op_ownIn G_has W_has.at_ W_has.fn M_has.b (hr.mono (by omega)) pass0) (pe_tup (pa_cons (pv 3) (pa_cons (pv 6) pa_nil))) (pv 0) (by rfl)) (pe_cmpR op_gt (pe_ix (r := rIxT K) ix_tup (pe_ix (r := rIxT K) ix_tup (pv 1) (pv 3) (fun _ _ => rfl)) (pv 6) (fun _ _ => rfl)) pe_int (nomark _)) (nomark _))))) (pss_one (ps_ret pe_bl)) pss_nil))))) (pss_one (ps_ret (pe_cmpR (r := rOwnB C (spEqT K C "_counts") E0) (op_ownEq G_eq W_eq.at_ W_eq.fn M_eq.b (hr.mono (by omega)) pass0) (pe_meth0 (pv 0) BTable.cl W_turned G_turned (hr.mono (by omega)) M_turned.b .nil pass0) (pe_make BTable.mkc G_Table_init (hr.mono (by omega)) (by rfl) BTable.gC M_Table_init.b .nil pass0 (pa_cons (pe_callTy (r := rTupQ K) call_tuple_of (by rfl) T.n_tuple PyProof.Rows.boot_tuple (pa_cons (pe_lc (wi := iRng1 _) (g := gName 10) (own := [("_law_at", 10)]) (by rfl) nd (pi_range1 (by rfl) T.n_range (pa_cons (pv 5) pa_nil)) (blkOk_by (by kernel_rfl)) (fun _ _ _ _ _ => (pg_name (i := 10) nd rfl (Or.inr rfl))) (fun _ _ _ _ _ => pts_nil) (fun _ _ _ _ _ => (pe_callTy (r := rTupQ K) call_tuple_of (by rfl) T.n_tuple PyProof.Rows.boot_tuple (pa_cons (pe_lc (wi := iTup K _) (g := gName 9) (own := [("_law_row", 9)]) (by rfl) nd (pi_tup (pv 1)) (blkOk_by (by kernel_rfl)) (fun _ _ _ _ _ => (pg_name (i := 9) nd rfl (Or.inl rfl))) (fun _ _ _ _ _ => pts_nil) (fun _ _ _ _ _ => (pe_ix (r := rIxT K) ix_tup (pv 9) (pv 10) (fun _ _ => rfl)))) pa_nil)))) pa_nil)) pa_nil)) (nomark _))))))))), ?_⟩
    obtain ⟨⟨hm1, hm8⟩, hn1, hn8⟩ := id hd
    have ht' : ∀ {σ : L2.St} {H' : Hp}, σ[0]? = some (some t) → Evl.Ex H H' → EvP (tVar 0) σ H' (Ins C "_counts" m n f) := fun h e => evp_var h (mf_ins.mono _ _ _ e ht) mf_ins.mono
    have hc' : ∀ {σ : L2.St} {H' : Hp}, σ[1]? = some (some c) → Evl.Ex H H' → EvP (tVar 1) σ H' (Grid m n f) := fun h e => evp_var h (mf_grid.mono _ _ _ e hc) mf_grid.mono
    refine q_par2 (eap_two (evp_len (K := K) (hc' rfl (Ex.refl H))) (evp_len (K := K) (evp_ixT (K := K) (i := 0) (hc' rfl (Ex.refl H)) evp_c (by omega) fun _ => mf_row)) mono_is) fun vs H1 e1 ⟨x, y, hv, hx, hy⟩ => ⟨x, y, hv, ?_⟩
    rw [show x = .int (m : Int) from hx, show y = .int (n : Int) from hy]
    refine q_when (b := false) (et_or (a := false) (b := false) (e_gr (ev_get (ht' rfl e1)) (hc' rfl e1)) fun _ => e_li (evp_li (ev_left (ht' rfl e1)) (ev_right (ht' rfl e1) hm1)) (evp_li (evp_var (i := 4) rfl rfl mono_is) (evp_var (i := 5) rfl rfl mono_is))) (fun z => nomatch z) fun _ H2 e2' => ?_
    have e2 := e1.trans e2'
    refine q_when (b := false) (et_tst (evp_is (evp_ne (ev_total (ht' rfl e2) hd) (evp_sumL (K := K) (e_row (mf_grid.mono _ _ _ e2 hc) (by omega))) rfl) (by rw [decide_eq_true rfl]; rfl))) (fun z => nomatch z) fun _ H3 e3' => ?_
    have e3 := e2.trans e3'
    refine q_forR1 (n := 2) (ea_cons ev_c ea_nil) (by decide) (fun j σ' H' => ∃ s2 s7 s8, σ' = [some t, some c, s2, none, some (.int (m : Int)), some (.int (n : Int)), none, s7, s8, none, none] ∧ Evl.Ex H H') (fun H4 e4 => ⟨_, _, _, rfl, e3.trans e4⟩) (fun j σ' H' hj ⟨s2, s7, s8, hs, ex⟩ => ?_) (fun σ' H' ⟨s2, s7, s8, hs, ex⟩ => ?_)
    · subst hs
      refine q_new2 (en_lefts (ht' rfl ex) hd) (en_rights (ht' rfl ex) hd) fun p r H4 hp4 hr4 hpr e4 hlp hlr => ?_
      have ex4 := ex.trans e4
      have hc4 := mf_grid.mono _ _ _ ex4 hc
      refine q_when (b := false) (e_li (evp_var (i := 7) rfl ⟨p, rfl, hlp⟩ mono_li) ((e_row hc4 (by omega)).imp fun v H5 _ h => li_of h)) (fun z => nomatch z) fun _ H5 e5 => ?_
      have hc5 := mf_grid.mono _ _ _ (ex4.trans e5) hc
      refine q_when (b := false) (e_li (evp_var (i := 8) rfl ⟨r, rfl, e5 _ _ hlr⟩ mono_li) ((evp_lc (vs := [10]) (g := gName 10) (Pi := fun j => Is (.int (sumN (fun i => f i j) m))) (wi_rng (ta := tCons (tVar 5) tNil) (n := n) (fun H6 e6 Q q => ⟨_, rfl, q _ H6 (Ex.refl _) rfl⟩) (by omega)) (by omega)
        (Sg := fun j' σ2 _ => σ2 = [some t, some c, some (.int (j : Int)), none, some (.int (m : Int)), some (.int (n : Int)), none, some (.ref p), some (.ref r), none, some (.int (j' : Int))]) (fun i y H6 hi e6 hy => by subst hy; exact g_name (i := 10) ⟨rfl, rfl⟩) (fun i σ2 H6 hi e6 hs => by
          subst hs
          exact evp_sumL (K := K) (e_col (mf_grid.mono _ _ _ e6 hc5) (by omega) hi)) fun _ => mf_is).imp fun v H6 _ h => li_of h)) (fun z => nomatch z) fun _ H6 e6 => ?_
      have e56 := e5.trans e6
      refine q_app (xs := ((List.range m).map fun i => sumN (f i) n).map V.int) (l := p) (e56 _ _ hlp) (ev_var rfl) ev_c (by simp; omega) fun H7 e7 => ?_
      have ex7 : Evl.Ex H (upd H7 p (.lst (((List.range m).map fun i => sumN (f i) n).map V.int ++ [.non]))) := Ex.mut (ex4.trans (e56.trans e7)) (fresh_back ex hp4)
      have hr7 : (upd H7 p (.lst (((List.range m).map fun i => sumN (f i) n).map V.int ++ [.non]))) r = some (.lst (((List.range n).map fun j => sumN (fun i => f i j) m).map V.int)) := by rw [upd_ne hpr.symm]; exact (e56.trans e7) _ _ hlr
      refine ⟨_, rfl, .inl ⟨rfl, _, sq_of hr7⟩, r, _, rfl, rfl, hr7, _, _, _, rfl, Ex.mut ex7 (fresh_back ex hr4)⟩
    · subst hs
      refine q_forR1 (n := (m : Int)) (ea_cons (ev_var rfl) ea_nil) (by omega) (fun i σ' H' => ∃ s3 s6, σ' = [some t, some c, s2, s3, some (.int (m : Int)), some (.int (n : Int)), s6, s7, s8, none, none] ∧ Evl.Ex H H') (fun H4 e4 => ⟨_, _, rfl, ex.trans e4⟩) (fun i σ' H' hi ⟨s3, s6, hs, ex⟩ => ?_) (fun σ' H' ⟨s3, s6, hs, ex⟩ => ?_)
      · subst hs
        refine s_forR1 (n := (n : Int)) (ea_cons (ev_var rfl) ea_nil) (by omega) (fun j σ' H' => ∃ s6, σ' = [some t, some c, s2, some (.int (i : Int)), some (.int (m : Int)), some (.int (n : Int)), s6, s7, s8, none, none] ∧ Evl.Ex H H') (fun H4 e4 => ⟨_, rfl, ex.trans e4⟩) (fun j σ' H' hj ⟨s6, hs, ex⟩ => ?_) (fun σ' H' ⟨s6, hs, ex⟩ => ⟨_, _, hs, ex⟩)
        subst hs
        have v3 : EvP (tVar 3) [some t, some c, s2, some (.int (i : Int)), some (.int (m : Int)), some (.int (n : Int)), some (.int (j : Int)), s7, s8, none, none] H' (Is (.int (i : Int))) := evp_var rfl rfl mono_is
        have v6 : EvP (tVar 6) [some t, some c, s2, some (.int (i : Int)), some (.int (m : Int)), some (.int (n : Int)), some (.int (j : Int)), s7, s8, none, none] H' (Is (.int (j : Int))) := evp_var rfl rfl mono_is
        have vc : EvP (tOp (rIxT K) (tOp (rIxT K) (tVar 1) (tVar 3)) (tVar 6)) [some t, some c, s2, some (.int (i : Int)), some (.int (m : Int)), some (.int (n : Int)), some (.int (j : Int)), s7, s8, none, none] H' (Is (.int (f i j))) := evp_ixT (K := K) (i := j) (evp_ixT (K := K) (i := i) (hc' rfl ex) v3 (by omega) fun _ => mf_row) v6 (by omega) fun _ => mf_is
        exact s_when (σ := [some t, some c, s2, some (.int (i : Int)), some (.int (m : Int)), some (.int (n : Int)), some (.int (j : Int)), s7, s8, none, none]) (b := false) (et_or (a := false) (b := false) (et_tst (evp_is (evp_ne (ev_count (ht' rfl ex) v3 v6 (by omega) (by omega)) vc rfl) (by rw [decide_eq_true rfl]; rfl))) fun _ => et_tst (evp_is (evp_ne (ev_has (evp_pr2 v3 v6) (ht' rfl ex) (by omega) (by omega)) (evp_I0 (g := fun i j => .bl (decide (i > j))) vc (evp_c (v := .int 0))) rfl) (by rw [decide_eq_true rfl]; rfl))) (fun z => nomatch z) fun _ H5 e5 => ⟨_, rfl, ex.trans e5⟩
      · subst hs
        have hcx := mf_grid.mono _ _ _ ex hc
        refine s_ret (EvP.ev (ev_same (K := K) (ev_tturned (ht' rfl ex) hd hp) (evp_make (f := fun i j => f j i) (eap_one (evp_tuple (K := K) (n := n) (Pi := fun j => TupP m fun i => Is (.int (f i j))) (evp_lc (vs := [10]) (g := gName 10) (wi_rng (ta := tCons (tVar 5) tNil) (n := n) (fun H6 e6 Q q => ⟨_, rfl, q _ H6 (Ex.refl _) rfl⟩) (by omega)) (by omega)
          (Sg := fun j' σ2 _ => σ2 = [some t, some c, s2, s3, some (.int (m : Int)), some (.int (n : Int)), s6, s7, s8, none, some (.int (j' : Int))]) (fun i y H6 hi e6 hy => by subst hy; exact g_name (i := 10) ⟨rfl, rfl⟩) (fun i σ2 H6 hi e6 hs => by
            subst hs
            exact evp_tuple (K := K) (e_col (mf_grid.mono _ _ _ e6 hcx) (by omega) hi) fun _ => mf_is.mono) fun _ => mf_row) fun _ => mf_row.mono)) ⟨hd.2, hd.1⟩ fun i j => hp j i))) fun H5 e5 => q H5 (ex.trans e5)
end
end K02
namespace K02
open PySem PySem.Spec PyProof.Rows L2 Evl Ow RZ Ev2 StX
abbrev s_law : Stmt := topS 34
abbrev N_law : List Str := ["_law_script", "_law_k", "_law_cell", "_law_state", "_law_table", "_law_left", "_law_right_here", "_law_counts", "_law_other", "_law_scale", "_law_odd", "_law_row", "_law_number"]
theorem sc_law : FnScope N_law ["_law_script"] (defScope s_law) := ⟨rfl, rfl, rfl, by decide +kernel, rfl, by decide +kernel, by decide +kernel⟩

def spLaw (K : PySem.W.Frag) : Sp := fun vs H Q _ => ∃ (a0 : Addr) (ns : List Int), vs = [.ref a0] ∧ SqL K H a0 (ns.map V.int) ∧ ns.length ≤ 63 ∧ ∀ H', Q (.bl true) H'
theorem for_enum {K : PySem.W.Frag} {a : Addr} {xs : List V} {g : TG} {tb : TS} {D : Ends} {σ : L2.St} {H : Hp} (Pv : Nat → L2.St → Hp → Prop) (h0 : Pv 0 σ H) (hl : ∀ i σ H, Pv i σ H → SqL K H a xs)
    (hs : ∀ (i : Nat) (x : V) (T : Addr) (σ : L2.St) (H : Hp), xs[i]? = some x → Pv i σ H → H T = none → g (.ref T) σ (upd H T (.tup [.int (i : Nat), x])) fun σ2 H2 => tb { D with nx := Pv (i + 1), ct := Pv (i + 1), bk := D.nx } σ2 H2) (hd : ∀ σ H, Pv xs.length σ H → D.nx σ H) :
    ∃ W : Nat → Nat → L2.St → Hp → Prop, (∃ m, W 0 m σ H) ∧ ∀ i m σ H, W i m σ H → ((Ite K a).stop i H ∧ D.nx σ H) ∨ ((Ite K a).go i H ∧ ∃ N : L2.St → Hp → Prop, (∀ σ' H', N σ' H' → ∃ m', m' < m ∧ W (i + 1) m' σ' H') ∧ ∀ v H', (Ite K a).yld i H v H' → g v σ H' fun σ2 H2 => tb { D with nx := N, ct := N, bk := D.nx } σ2 H2) := by
  refine ⟨fun i m σ H => m = xs.length - i ∧ i ≤ xs.length ∧ Pv i σ H, ⟨xs.length, rfl, Nat.zero_le _, h0⟩, ?_⟩
  rintro i m σ H ⟨rfl, hi, pv⟩
  have ql := hl i σ H pv
  by_cases hlt : i < xs.length
  · refine .inr ⟨⟨xs, xs[i], ql, List.getElem?_eq_getElem hlt⟩, Pv (i + 1), fun σ' H' p' => ⟨xs.length - (i + 1), by omega, rfl, hlt, p'⟩, fun v H' y => ?_⟩
    obtain ⟨T, x, rfl, hT, rfl, f1⟩ := y
    exact hs i x T σ H (f1 xs ql) pv hT
  · have e : i = xs.length := by omega
    subst e
    exact .inl ⟨⟨xs, ql, Nat.le_refl _⟩, hd σ H pv⟩


/-! a comprehension with a test that no item passes -/
def WiX (wi : TI) (σ : L2.St) (H : Hp) (n : Nat) (item : Nat → V → Hp → Prop) : Prop := ∀ H1, Evl.Ex H H1 → ∀ R : L2.It → Hp → Prop, (∀ J H2, Evl.Ex H1 H2 → (∀ i H3, Evl.Ex H2 H3 → (i < n → J.go i H3) ∧ (n ≤ i → J.stop i H3) ∧ (i < n → ∀ x H', J.yld i H3 x H' → Evl.Ex H3 H' ∧ item i x H')) → R J H2) → wi σ H1 R
section
variable {K : PySem.W.Frag} {σ : L2.St} {H : Hp} {ta tb te tl : TE} {tt : TT} {s p : Addr} {xs : List Int} {P1 P2 : HP} {E : XK} {m n i i1 i2 : Nat} {C CQ : Addr} {f : Nat → Nat → Int}
theorem wx_lst {n : Nat} {Pi : Nat → HP} (h : EvP tl σ H (LstP n Pi)) (m : ∀ i, Mono (Pi i)) : WiX (iList K tl) σ H n Pi := fun H1 e R k =>
  h H1 e _ fun v H2 e2 ⟨a, xs, hv, ha, hl, hi⟩ => ⟨a, hv, ⟨xs, sq_of ha⟩, k _ H2 e2 fun i H3 e3 => by
    have h3 := sq_of (K := K) (e3 _ _ ha)
    exact ⟨fun hlt => ⟨xs, _, h3, List.getElem?_eq_getElem (by omega)⟩, fun hlt => ⟨xs, h3, by omega⟩, fun hlt x H' ⟨y1, y2⟩ => by rw [y1]; exact ⟨Ex.refl _, m i _ _ _ e3 (hi i x (y2 xs h3))⟩⟩⟩
theorem evp_lc0 {wi : TI} {g : TG} {vs : List Nat} {n : Nat} {item : Nat → V → Hp → Prop} {Sg : Nat → L2.St → Hp → Prop} (hw : WiX wi σ H n item) (hn : n ≤ 40000)
    (hg : ∀ i x H1, i < n → Evl.Ex H H1 → item i x H1 → GP g x (wipe σ vs) H1 (fun σ2 H2 => wipe σ2 vs = wipe σ vs ∧ Sg i σ2 H2)) (ht : ∀ i σ2 H1, i < n → Evl.Ex H H1 → Sg i σ2 H1 → EvT tt σ2 H1 false) :
    EvP (tLc wi g tt te vs) σ H (LI []) := fun H1 e Q q => hw H1 e _ fun J H2 e2 T => fun D hD => by
  refine ⟨fun i k H3 => k = n - i ∧ i ≤ n ∧ Evl.Ex H2 H3 ∧ H3 D = some (.lst []), ⟨n, by simp, Nat.zero_le _, Ex.new hD, upd_same⟩, ?_⟩
  rintro i k H3 ⟨rfl, hi, ex, hys⟩
  obtain ⟨tg, ts, ty⟩ := T i H3 ex
  by_cases hlt : i < n
  · refine .inr ⟨tg hlt, fun H4 => Evl.Ex H2 H4 ∧ H4 D = some (.lst []), fun H4 ⟨a, b⟩ => ⟨n - (i + 1), by omega, rfl, by omega, a, b⟩, fun x H4 y => ?_⟩
    obtain ⟨e4, it⟩ := ty hlt x H4 y
    have ex4 := ((e.trans e2).trans ex).trans e4
    refine hg i x H4 hlt ex4 it _ fun σ2 ⟨hw2, hs⟩ => ⟨hw2, ?_⟩
    refine ht i σ2 H4 hlt ex4 hs H4 (Ex.refl _) _ fun H5 e5 => ?_
    rw [if_neg (by decide)]
    exact ⟨(ex.trans e4).trans e5, e5 _ _ (e4 _ _ hys)⟩
  · have hinn : i = n := by omega
    subst hinn
    exact .inl ⟨ts (Nat.le_refl _), q _ H3 (e2.trans ex) ⟨D, rfl, hys⟩⟩
/-- the things that are no table -/
def Oddy (CQ : Addr) : HP := fun v H => v = .non ∨ v = .int 0 ∨ (∃ p ys, v = .ref p ∧ H p = some (.tup ys)) ∨ (∃ p ys, v = .ref p ∧ H p = some (.lst ys)) ∨ (∃ p dx fs, v = .ref p ∧ H p = some (.ins CQ dx fs) ∧ fs.length = 1)
theorem mono_oddy : ∀ v H H', Evl.Ex H H' → Oddy CQ v H → Oddy CQ v H' := fun v H H' e h => by
  rcases h with h | h | ⟨p, ys, h, g⟩ | ⟨p, ys, h, g⟩ | ⟨p, dx, fs, h, g, l⟩
  · exact .inl h
  · exact .inr (.inl h)
  · exact .inr (.inr (.inl ⟨p, ys, h, e _ _ g⟩))
  · exact .inr (.inr (.inr (.inl ⟨p, ys, h, e _ _ g⟩)))
  · exact .inr (.inr (.inr (.inr ⟨p, dx, fs, h, e _ _ g, l⟩)))
/-- what is written of a class beside the others -/
structure Apart (K : PySem.W.Frag) (C : Addr) (t : Value) : Prop where
  su : PySem.W.subIn K t (.ref C) = some false
  ne : (t == Value.ref C) = false
structure Tp (K : PySem.W.Frag) (C : Addr) : Prop where
  hd : PySem.W.hasDictIn K C = true
  ty : PySem.W.typeIn K (.ref C) = some (.type "type")
theorem kit_ap {t : Value} (h : Tp K C) (a : Apart K C t) : PySem.W.kitOne K t (.ref C) = some false := by
  have hc : (PySem.W.clsIn K C).isSome = true := by
    have := h.hd
    unfold PySem.W.hasDictIn at this
    cases hh : PySem.W.clsIn K C with
    | none => rw [hh] at this; cases this
    | some c => rfl
  unfold PySem.W.kitOne PySem.W.kitCls
  rw [a.ne, if_neg (by decide)]
  dsimp only
  rw [hc, h.ty, if_pos (by simp)]
  exact a.su
theorem first_ap {t : Value} (a : Apart K C t) : PySem.W.notFirst K C t = true := by
  unfold PySem.W.notFirst
  rw [a.su]; simp
structure Odds (K : PySem.W.Frag) (C CQ : Addr) : Prop where
  tp : Tp K C
  non : Apart K C (.type "NoneType")
  int : Apart K C (.type "int")
  tup : Apart K C (.type "tuple")
  lst : Apart K C (.type "list")
  q : Apart K C (.ref CQ)
theorem ev_odd {mg : Str → Option Value} {fQ : Addr} (BQ : Kl K mg "Question" CQ fQ "_weights") (O : Odds K C CQ) (h1 : EvP ta σ H (Ins C "_counts" m n f)) (h2 : EvP tb σ H (Oddy CQ)) : EvP (tOp (rOwnEqX K C (spEqT K C "_counts") E) ta tb) σ H (Is (.bl false)) :=
  evp_op h1 h2 mf_ins.mono fun x y H1 _ hx hy Q q => by
    obtain ⟨a, dx, p, ex, k2, k3⟩ := id hx
    have go : ∀ t, KindOf K H1 y t → (∀ H2, Evl.Ex H1 H2 → TyX K H2 y t) → Apart K C t → rOwnEqX K C (spEqT K C "_counts") E x y H1 Q := fun t h3 h4 h5 =>
      ⟨a, dx, _, t, ex, k2, h3, first_ap h5, x, y, m, n, f, rfl, hx, .inr ⟨t, h4, kit_ap O.tp h5, fun v H2 e2 hv => q v H2 e2 hv⟩⟩
    rcases hy with h | h | ⟨p, ys, h, g⟩ | ⟨p, ys, h, g⟩ | ⟨p, dx', fs, h, g, _⟩
    · subst h; exact go _ .non (fun _ _ => .base .non) O.non
    · subst h; exact go _ (.int 0) (fun _ _ => .base (.int 0)) O.int
    · subst h; exact go _ (.tup (st_of g)) (fun _ e => .base (.tup (e _ _ g))) O.tup
    · subst h; exact go _ (.lst (sq_of g)) (fun _ e => .base (.lst (e _ _ g))) O.lst
    · subst h; exact go _ (.ins g) (fun _ e => .base (.ins (e _ _ g) BQ.cl BQ.ha BQ.hn BQ.htk BQ.hm)) O.q
theorem ev_qodd {mg : Str → Option Value} {fI : Addr} (BT : Kl K mg "Table" C fI "_counts") (tq : Tp K CQ) (aq : Apart K CQ (.ref C)) (h1 : EvP ta σ H (Ins CQ "_weights" m n f)) (h2 : EvP tb σ H (Ins C "_counts" m n f)) : EvP (tOp (rOwnEqX K CQ (spEqT K CQ "_weights") E) ta tb) σ H (Is (.bl false)) :=
  evp_op h1 h2 mf_ins.mono fun x y H1 _ hx hy Q q => by
    obtain ⟨a, dx, p, ex, k2, k3⟩ := id hx
    obtain ⟨b, dy, r, ey, k4, k5⟩ := id hy
    subst ey
    exact ⟨a, dx, _, .ref C, ex, k2, .ins k4, first_ap aq, x, .ref b, m, n, f, rfl, hx, .inr ⟨.ref C, fun H2 e => .base (.ins (e _ _ k4) BT.cl BT.ha BT.hn BT.htk BT.hm), kit_ap tq aq, fun v H2 e2 hv => q v H2 e2 hv⟩⟩
/-- own == of two tables -/
theorem ev_eqq {m' n' : Nat} {f' : Nat → Nat → Int} (h1 : EvP ta σ H (Ins C "_counts" m n f)) (h2 : EvP tb σ H (Ins C "_counts" m' n' f')) : EvP (tOp (rOwnB C (spEqT K C "_counts") E) ta tb) σ H (Is (.bl (PyData.eqv (dat m n f) (dat m' n' f')))) :=
  evp_op h1 h2 mf_ins.mono fun x y H1 _ hx hy Q q => by
    obtain ⟨a, dx, p, ex, k2, k3⟩ := id hx
    obtain ⟨b, dy, r, ey, k4, k5⟩ := id hy
    exact ⟨a, b, dx, dy, _, _, ex, ey, k2, k4, x, y, m, n, f, rfl, hx, .inl ⟨m', n', f', hy, fun v H2 e2 hv => q v H2 e2 hv⟩⟩
theorem ev_nee (h1 : EvP ta σ H (Ins C "_counts" m n f)) (h2 : EvP tb σ H (Ins C "_counts" m n f)) : EvP (tOp (rOwnNe C (spEqT K C "_counts") E) ta tb) σ H (Is (.bl false)) :=
  evp_op h1 h2 mf_ins.mono fun x y H1 _ hx hy Q q => by
    obtain ⟨a, dx, p, ex, k2, k3⟩ := id hx
    obtain ⟨b, dy, r, ey, k4, k5⟩ := id hy
    refine ⟨a, b, dx, dy, _, _, ex, ey, k2, k4, x, y, m, n, f, rfl, hx, .inl ⟨m, n, f, hy, fun v H2 e2 hv => ⟨true, ?_, q _ H2 e2 rfl⟩⟩⟩
    rw [hv, SeqAt.eqv_refl _ (SeqAt.canLay_of_shaped (shaped_dat m n f))]
theorem ev_gg {m' n' : Nat} {f' : Nat → Nat → Int} (ha : EvP ta σ H (Grid m n f)) (hb : EvP tb σ H (Grid m' n' f')) : EvP (tOp (rEqD K) ta tb) σ H (Is (.bl (PyData.eqv (dat m n f) (dat m' n' f')))) :=
  evp_eqD (K := K) ha hb mf_grid.mono (fun _ _ h => dp_grid h) (fun _ _ h => dp_grid h) (shaped_dat _ _ _) (shaped_dat _ _ _)
theorem lst1 {t1 : TE} {Q : VK} (h : t1 σ H fun a H1 => 1 ≤ sizeLine ∧ ∀ l, H1 l = none → Q (.ref l) (upd H1 l (.lst [a]))) : tLst (tCons t1 tNil) σ H Q := h
theorem tup2 {t1 t2 : TE} {Q : VK} (h : t1 σ H fun x H1 => t2 σ H1 fun y H2 => 2 ≤ sizeLine ∧ ∀ p, H2 p = none → Q (.ref p) (upd H2 p (.tup [x, y]))) : tTup (tCons t1 (tCons t2 tNil)) σ H Q := h
theorem lst6 {t1 t3 t5 t6 : TE} {Q : VK} (h : t1 σ H fun a H1 => t3 σ H1 fun c H3 => t5 σ H3 fun e H5 => t6 σ H5 fun f H6 => 6 ≤ sizeLine ∧ ∀ l, H6 l = none → Q (.ref l) (upd H6 l (.lst [a, .non, c, .int 0, e, f]))) : tLst (tCons t1 (tCons (tC .non) (tCons t3 (tCons (tC (.int 0)) (tCons t5 (tCons t6 tNil)))))) σ H Q := h
theorem asgP {te : TE} {D : Ends} {i : Nat} {P : HP} (h : EvP te σ H P) (k : ∀ v H1, Evl.Ex H H1 → P v H1 → D.nx (σ.set i (some v)) H1) : tAsg te (gName i) D σ H := h H (Ex.refl H) _ fun v H1 e p => k v H1 e p
theorem asg2 {te te2 : TE} {D : Ends} {i j : Nat} (h : te σ H fun v H1 => tAsg te2 (gName j) D (σ.set i (some v)) H1) : tSeq (tAsg te (gName i)) (tAsg te2 (gName j)) D σ H := h
theorem pairD {i j : Nat} {D : Ends} (h1 : EvD s p xs ta σ H P1) (h2 : EvD s p xs tb σ H P2) (m1 : MonoF P1) (d : Dr s p xs H) (k : ∀ v w H', Gs s H H' → Dr s p xs H' → P1 v H' → P2 w H' → D.nx ((σ.set i (some v)).set j (some w)) H') : tPar i j (tCons ta (tCons tb tNil)) D σ H :=
  h1 H (Gs.refl _ _) d _ fun v H1 g1 d1 p1 => h2 H1 g1 d1 _ fun w H2 g2 d2 p2 => ⟨v, w, rfl, k v w H2 (g1.trans g2) d2 (m1 _ _ _ (Gs.fx g2 d1) p1) p2⟩
theorem drawD {i : Nat} {M : Int} (hs : σ[i]? = some (some (.ref s))) (ha : ∀ H1, EvP ta σ H1 (Is (.int M))) (hm : 1 ≤ M) : EvD s p xs (tCall spDraw [] E (tCons (tVar i) (tCons ta tNil))) σ H (BI fun r => 0 ≤ r ∧ r < M) := fun H1 e d Q q =>
  eap_two (P := Is (.ref s)) (evp_var hs rfl mono_is) (ha H1) mono_is H1 (Ex.refl _) _ fun vs H2 e2 ⟨x, y, hv, hx, hy⟩ => ⟨s, p, xs, M, by rw [hv, show x = .ref s from hx, show y = .int M from hy]; rfl, d.ex e2, hm, fun v H3 g3 d3 h3 => q v H3 ((Gs.of e2).trans g3) d3 h3⟩
def Sz : HP := fun v _ => ∃ m : Nat, v = .int (m : Int) ∧ 1 ≤ m ∧ m ≤ 8
theorem sizeD (hs : σ[i]? = some (some (.ref s))) : EvD s p xs (tOp (rI0 fun i j => .int (i + j)) (tC (.int 1)) (tCall spDraw [] E (tCons (tVar i) (tCons (tC (.int 8)) tNil)))) σ H Sz := fun H1 e d Q q =>
  drawD (H := H1) hs (fun _ => evp_c) (by decide) H1 (Gs.refl _ _) d _ fun v H2 g2 d2 ⟨r, hv, hr⟩ => ⟨1, r, rfl, hv, q _ H2 g2 d2 ⟨(1 + r).toNat, by rw [show (((1 + r).toNat : Nat) : Int) = 1 + r by omega], by omega, by omega⟩⟩
def Ct (m n : Nat) : HP := fun v H => ∃ f, Grid m n f v H ∧ ∀ i j, 0 ≤ f i j ∧ f i j < 4
theorem mf_ct : MonoF (Ct m n) := fun v H H' e ⟨f, h, b⟩ => ⟨f, mf_grid _ _ _ e h, b⟩
theorem countsD (hs : σ[i]? = some (some (.ref s))) (h1 : σ[i1]? = some (some (.int (m : Int)))) (h2 : σ[i2]? = some (some (.int (n : Int)))) (hd : m ≤ 8 ∧ n ≤ 8) : EvD s p xs (tCall spGC [] E (tCons (tVar i) (tCons (tVar i1) (tCons (tVar i2) (tCons (tC (.int 4)) tNil))))) σ H (Ct m n) := fun H1 e d Q q =>
  ⟨_, hs, _, h1, _, h2, s, p, xs, m, n, 4, rfl, d, hd, by decide, fun v H2 g2 d2 hv => q v H2 g2 d2 hv⟩
instance decMulOk {x : Str} {n : Int} : Decidable (MulOk x n) := by unfold MulOk; infer_instance
theorem zeros_dec : (List.range 40).all (fun n => decide (MulOk "0" (1 + (n : Int))) && decide (("1" : Str).length + (Txt.mul "0" (1 + (n : Int))).length ≤ 1000)) = true := by decide +kernel
theorem zeros_ok {c : Int} (h0 : 0 ≤ c) (h1 : c < 40) : MulOk "0" (1 + c) ∧ ("1" : Str).length + (Txt.mul "0" (1 + c)).length ≤ sizeLine := by
  obtain ⟨n, rfl⟩ : ∃ n : Nat, c = n := ⟨c.toNat, by omega⟩
  have := List.all_eq_true.mp zeros_dec n (List.mem_range.mpr (by omega))
  simp only [Bool.and_eq_true, decide_eq_true_eq] at this
  refine ⟨this.1, ?_⟩
  rw [sizeLine_eq]
  omega
/-- the numbers a power of ten greater, perhaps -/
theorem q_scale {tz : TS} {D : Ends} {a0 v1 v2 v7 v8 : V} {v4 v9 : Option V} {f : Nat → Nat → Int} (d : Dr s p xs H) (hd : m ≤ 8 ∧ n ≤ 8) (hf : Grid m n f v7 H) (bf : ∀ i j, 0 ≤ f i j ∧ f i j < 4)
    (k : ∀ w7 w9 g H', Gs s H H' → Dr s p xs H' → Grid m n g w7 H' → (∀ i j, 0 ≤ g i j) → tz D [some a0, some v1, some v2, some (.ref s), v4, some (.int (m : Int)), some (.int (n : Int)), some w7, some v8, w9, none, none, none] H') :
    tSeq (tIfS (tTest (tOp rEq (tCall spDraw [] E0 (tCons (tVar 3) (tCons (tC (.int 3)) tNil))) (tC (.int 0))))
      (tSeq (tAsg (tCB (fun xs H Q => ∃ a n, xs = [.str a] ∧ PySem.intText? a = some n ∧ a.length ≤ 640 ∧ Q (.int n) H) (tCons (tOp (fun x y H Q => ∃ i j, x = .str i ∧ y = .str j ∧ i.length + j.length ≤ sizeLine ∧ Q (.str (i ++ j)) H) (tC (.str "1")) (tOp rRepStr (tC (.str "0")) (tOp (rI0 fun i j => .int (i + j)) (tC (.int 1)) (tCall spDraw [] E0 (tCons (tVar 3) (tCons (tC (.int 40)) tNil)))))) tNil)) (gName 9))
        (tAsg (tCB (rTupQ K) (tCons (tLc (iTup K (tVar 7)) (gName 11) tYes (tCB (rTupQ K) (tCons (tLc (iTup K (tVar 11)) (gName 12) tYes (tOp (rI CMul fun i j => .int (i * j)) (tVar 12) (tVar 9)) [12]) tNil)) [11]) tNil)) (gName 7))) tNext) tz D
      [some a0, some v1, some v2, some (.ref s), v4, some (.int (m : Int)), some (.int (n : Int)), some v7, some v8, v9, none, none, none] H := by
  refine drawD (i := 3) rfl (fun _ => evp_c) (by decide) H (Gs.refl _ _) d _ fun x H1 g1 d1 ⟨r, hx, hr⟩ => ?_
  subst hx
  refine ⟨rfl, _, rfl, ?_⟩
  show if decide (V.int r = V.int 0) = true then _ else _
  by_cases h0 : decide (V.int r = V.int 0) = true
  · rw [if_pos h0]
    refine asg2 ?_
    refine drawD (i := 3) (M := 40) rfl (fun _ => evp_c) (by decide) H1 (Gs.refl _ _) d1 _ fun x H2 g2 d2 ⟨c, hx, hc⟩ => ?_
    subst hx
    refine ⟨1, c, rfl, rfl, "0", 1 + c, rfl, rfl, ?_, "1", _, rfl, rfl, ?_, tenText (1 + c).toNat, (10 : Int) ^ (1 + c).toNat, ?_, ?_⟩
    · exact (zeros_ok hc.1 hc.2).1
    · exact (zeros_ok hc.1 hc.2).2
    · unfold tenText
      rw [show (((1 + c).toNat : Nat) : Int) = 1 + c by omega]
    · obtain ⟨t1, t2⟩ := ten_read (n := (1 + c).toNat) (by omega) (by omega)
      refine ⟨t1, t2, ?_⟩
      have hf2 := mf_grid _ _ _ (Gs.fx g2 d1) (mf_grid _ _ _ (Gs.fx g1 d) hf)
      have hp10 : (0 : Int) ≤ (10 : Int) ^ (1 + c).toNat := Int.pow_nonneg (by decide)
      generalize (10 : Int) ^ (1 + c).toNat = z at hp10
      refine asgP (σ := [some a0, some v1, some v2, some (.ref s), v4, some (.int (m : Int)), some (.int (n : Int)), some v7, some v8, some (.int z), none, none, none]) (evp_tuple (K := K) (n := m) (Pi := fun i => TupP n fun j => Is (.int (f i j * z))) (evp_lc (vs := [11]) (g := gName 11) (wi_tup (K := K) (evp_var (i := 7) (v := v7) rfl hf2 mf_grid.mono) fun _ => mf_row) (by omega)
        (Sg := fun i σ2 H2 => ∃ y, σ2 = [some a0, some v1, some v2, some (.ref s), v4, some (.int (m : Int)), some (.int (n : Int)), some v7, some v8, some (.int z), none, some y, none] ∧ TupP n (fun j => Is (.int (f i j))) y H2) (fun i y H3 hi e3 hy => g_name (i := 11) ⟨rfl, y, rfl, hy⟩) (fun i σ2 H3 hi e3 ⟨y, hs, hy⟩ => by
          subst hs
          exact evp_tuple (K := K) (n := n) (Pi := fun j => Is (.int (f i j * z))) (evp_lc (vs := [12]) (g := gName 12) (wi_tup (K := K) (evp_var (i := 11) (v := y) rfl hy mf_row.mono) fun _ => mf_is) (by omega)
            (Sg := fun j σ2 _ => σ2 = [some a0, some v1, some v2, some (.ref s), v4, some (.int (m : Int)), some (.int (n : Int)), some v7, some v8, some (.int z), none, some y, some (.int (f i j))]) (fun j w H4 hj e4 hw => by subst hw; exact g_name (i := 12) ⟨rfl, rfl⟩) (fun j σ2 H4 hj e4 hs => by
              subst hs
              exact evp_I (C := CMul) (g := fun i j => .int (i * j)) (evp_var (i := 12) (v := .int (f i j)) rfl rfl mono_is) (evp_var (i := 9) (v := .int z) rfl rfl mono_is) (.inl (by have := bf i j; exact ⟨by omega, by omega⟩))) fun _ => mf_is) fun _ => mf_is.mono) fun _ => mf_row) (fun _ => mf_row.mono)) fun w7 H3 e3 h7 => ?_
      exact k w7 _ (fun i j => f i j * z) H3 ((g1.trans g2).trans (Gs.of e3)) (d2.ex e3) h7 fun i j => Int.mul_nonneg (bf i j).1 hp10
  · rw [if_neg h0]
    exact k v7 v9 f H1 g1 d1 (mf_grid _ _ _ (Gs.fx g1 d) hf) fun i j => (bf i j).1
end
section
variable {P : Program} {w : World} {K : PySem.W.Frag} {mg : Str → Option Value} {base : Heap} {tk : Tok} {k : Nat} {C CQ fI fQ fa p1 f1 f2 f3 f4 f5 f6 f7 : Addr} {fd d0 d1 d2 d3 d4 d5 d6 d7 dI dQ : FuncData}
theorem ok_law (BTable : Kl K mg "Table" C fI "_counts") (BQuestion : Kl K mg "Question" CQ fQ "_weights") (T : Txt mg tk) (O : Odds K C CQ) (tq : Tp K CQ) (aq : Apart K CQ (.ref C)) (NE : NeTxt K C f6)
    (D__law_numbers : Df K mg "_law_numbers" s_law_numbers ["_law_cell", "_law_salt", "_law_sizes"] f1 d1) (G__law_numbers : FnOk P w K mg base CX0 (k + 1) f1 d1 ["_law_cell", "_law_salt", "_law_sizes"] spNum)
    (D__law_draw : Df K mg "_law_draw" s_law_draw ["_law_state", "_law_many"] f2 d2) (G__law_draw : FnOk P w K mg base CX0 (k + 1) f2 d2 ["_law_state", "_law_many"] spDraw)
    (D__law_grid : Df K mg "_law_grid" s_law_grid ["_law_state", "_law_left", "_law_right_here", "_law_most"] f3 d3) (G__law_grid : FnOk P w K mg base CX0 (k + 2) f3 d3 ["_law_state", "_law_left", "_law_right_here", "_law_most"] spGC)
    (D__law_right : Df K mg "_law_right" s_law_right ["_law_table", "_law_counts"] f4 d4) (G__law_right : FnOk P w K mg base CX0 (k + 9) f4 d4 ["_law_table", "_law_counts"] (spRight_ C))
    (P_Table_counts : Pf K C "counts" "Table.counts" s_Table_counts p1 f5 d5) (G_Table_counts : FnOk P w K mg base CX0 (k + 1) f5 d5 ["self"] (spGet C "_counts"))
    (M_eq : Mf K "__eq__" "Table.__eq__" s_Table_eq ["self", "other"] f6 d6) (W_eq : Meth K C "__eq__" f6) (G_eq : FnOk P w K mg base CX0 (k + 1) f6 d6 ["self", "other"] (spEqT K C "_counts"))
    (M_qeq : Mf K "__eq__" "Question.__eq__" s_Question_eq ["self", "other"] f7 d7) (W_qeq : Meth K CQ "__eq__" f7) (G_qeq : FnOk P w K mg base CX0 (k + 1) f7 d7 ["self", "other"] (spEqT K CQ "_weights"))
    {ft : Addr} {dt : FuncData} (M_turned : Mf K "turned" "Table.turned" s_Table_turned ["self"] ft dt) (W_turned : Meth K C "turned" ft) (G_turned : FnOk P w K mg base CX0 (k + 7) ft dt ["self"] (spTTurned C))
    (M_Table_init : Mf K "__init__" "Table.__init__" s_Table_init ["self", "counts"] fI dI) (G_Table_init : FnOk P w K mg base CX0 (k + 5) fI dI ["self", "counts"] (spInit C "_counts" (fun f => ∀ i j, 0 ≤ f i j)))
    (M_Question_init : Mf K "__init__" "Question.__init__" s_Question_init ["self", "weights"] fQ dQ) (G_Question_init : FnOk P w K mg base CX0 (k + 5) fQ dQ ["self", "weights"] (spInit CQ "_weights" (fun _ => True)))
    (D : Df K mg "law" s_law ["_law_script"] fa fd) : FnOk P w K mg base CX0 (k + 10) fa fd ["_law_script"] (spLaw K) := by
  refine D.F.ok sc_law (fun vs H Q E hh => ?_) (fun cdv A outer s H vs Q E hr hh => ?_)
  · obtain ⟨a0, ns, rfl, _⟩ := hh
    rfl
  · obtain ⟨a0, ns, rfl, hS, hlen, q⟩ := hh
    have nd := sc_law.nd
    refine ⟨_, (pss_cons (ps_for PassesOwn.never rfl (pi_enum (by rfl) T.n_enumerate (pa_cons (pe_op op_cat (pe_slice (r := rSlL K) sl_list (pv 0) po_none (po_some pe_int)) (pe_op op_rep (pe_lst (pa_cons pe_int pa_nil)) (pe_callTy call_int1 (by rfl) T.n_int PyProof.Rows.boot_int (pa_cons (pe_cmpR (r := rEqD K) (op_eqD hr.units) (pv 0) (pe_lst pa_nil) (nomark _)) pa_nil)))) pa_nil)) (pg_tup rfl (pgs_cons (pg_name (i := 1) nd rfl (Or.inl rfl)) (pgs_cons (pg_name (i := 2) nd rfl (Or.inl rfl)) pgs_nil))) (pss_cons (ps_set (i := 3) nd rfl (Or.inl rfl) (pe_lst (pa_cons (pe_call G__law_numbers (hr.mono (by omega)) (by rfl) D__law_numbers.g D__law_numbers.F.kp D__law_numbers.b .nil pass0 (pa_cons (pv 2) (pa_cons (pe_op op_add pe_int (pv 1)) (pa_cons (pe_op op_rep (pe_lst (pa_cons pe_int pa_nil)) pe_int) pa_nil)))) (pa_cons pe_int pa_nil)))) (pss_cons (ps_par (i := 5) (j := 6) (by rfl) nd rfl rfl (by decide) rfl rfl (pa_cons (pe_op op_add pe_int (pe_call G__law_draw (hr.mono (by omega)) (by rfl) D__law_draw.g D__law_draw.F.kp D__law_draw.b .nil pass0 (pa_cons (pv 3) (pa_cons pe_int pa_nil)))) (pa_cons (pe_op op_add pe_int (pe_call G__law_draw (hr.mono (by omega)) (by rfl) D__law_draw.g D__law_draw.F.kp D__law_draw.b .nil pass0 (pa_cons (pv 3) (pa_cons pe_int pa_nil)))) pa_nil)) (by rfl)) (pss_cons (ps_par (i := 7) (j := 8) (by rfl) nd rfl rfl (by decide) rfl rfl (pa_cons (pe_call G__law_grid (hr.mono (by omega)) (by rfl) D__law_grid.g D__law_grid.F.kp D__law_grid.b .nil pass0 (pa_cons (pv 3) (pa_cons (pv 5) (pa_cons (pv 6) (pa_cons pe_int pa_nil))))) (pa_cons (pe_call G__law_grid (hr.mono (by omega)) (by rfl) D__law_grid.g D__law_grid.F.kp D__law_grid.b .nil pass0 (pa_cons (pv 3) (pa_cons (pv 5) (pa_cons (pv 6) (pa_cons pe_int pa_nil))))) pa_nil)) (by rfl)) (pss_cons (ps_if (pt_cmpR op_eq (pe_call G__law_draw (hr.mono (by omega)) (by rfl) D__law_draw.g D__law_draw.F.kp D__law_draw.b .nil pass0 (pa_cons (pv 3) (pa_cons pe_int pa_nil))) pe_int (nomark _)) (pss_cons (ps_set (i := 9) nd rfl (Or.inr rfl) (pe_callTy call_int_str (by rfl) T.n_int PyProof.Rows.boot_int (pa_cons (pe_op op_add_str pe_str (pe_op op_repStr pe_str (pe_op op_add pe_int (pe_call G__law_draw (hr.mono (by omega)) (by rfl) D__law_draw.g D__law_draw.F.kp D__law_draw.b .nil pass0 (pa_cons (pv 3) (pa_cons pe_int pa_nil)))))) pa_nil))) (pss_one (ps_set (i := 7) nd rfl (Or.inl rfl) (pe_callTy (r := rTupQ K) call_tuple_of (by rfl) T.n_tuple PyProof.Rows.boot_tuple (pa_cons (pe_lc (wi := iTup K _) (g := gName 11) (own := [("_law_row", 11)]) (by rfl) nd (pi_tup (pv 7)) (blkOk_by (by kernel_rfl)) (fun _ _ _ _ _ => (pg_name (i := 11) nd rfl (Or.inl rfl))) (fun _ _ _ _ _ => pts_nil) (fun _ _ _ _ _ => (pe_callTy (r := rTupQ K) call_tuple_of (by rfl) T.n_tuple PyProof.Rows.boot_tuple (pa_cons (pe_lc (wi := iTup K _) (g := gName 12) (own := [("_law_number", 12)]) (by rfl) nd (pi_tup (pv 11)) (blkOk_by (by kernel_rfl)) (fun _ _ _ _ _ => (pg_name (i := 12) nd rfl (Or.inl rfl))) (fun _ _ _ _ _ => pts_nil) (fun _ _ _ _ _ => (pe_op op_mul (pv 12) (pv 9)))) pa_nil)))) pa_nil))))) pss_nil) (pss_cons (ps_set (i := 4) nd rfl (Or.inr rfl) (pe_make BTable.mkc G_Table_init (hr.mono (by omega)) (by rfl) BTable.gC M_Table_init.b .nil pass0 (pa_cons (pv 7) pa_nil))) (pss_cons (ps_if (PW.pt (pw_or (pt_not (pt_val (pe_call G__law_right (hr.mono (by omega)) (by rfl) D__law_right.g D__law_right.F.kp D__law_right.b .nil pass0 (pa_cons (pv 4) (pa_cons (pv 7) pa_nil))))) (pw_or1 (pt_not (pt_val (pe_call G__law_right (hr.mono (by omega)) (by rfl) D__law_right.g D__law_right.F.kp D__law_right.b .nil pass0 (pa_cons (pe_meth0 (pe_meth0 (pv 4) BTable.cl W_turned G_turned (hr.mono (by omega)) M_turned.b .nil pass0) BTable.cl W_turned G_turned (hr.mono (by omega)) M_turned.b .nil pass0) (pa_cons (pv 7) pa_nil)))))))) (pss_one (ps_ret pe_bl)) pss_nil) (pss_cons (ps_if (PW.pt (pw_or (pt_cmpR op_ne (pe_cmpR (r := rOwnB C (spEqT K C "_counts") E0) (op_ownEq G_eq W_eq.at_ W_eq.fn M_eq.b (hr.mono (by omega)) pass0) (pv 4) (pe_make BTable.mkc G_Table_init (hr.mono (by omega)) (by rfl) BTable.gC M_Table_init.b .nil pass0 (pa_cons (pv 8) pa_nil)) (nomark _)) (pe_cmpR (r := rEqD K) (op_eqD hr.units) (pv 7) (pv 8) (nomark _)) (nomark _)) (pw_or1 (pt_cmpR (r := rOwnNe C (spEqT K C "_counts") E0) (op_ownNe G_eq NE M_eq.b (hr.mono (by omega)) pass0) (pv 4) (pe_make BTable.mkc G_Table_init (hr.mono (by omega)) (by rfl) BTable.gC M_Table_init.b .nil pass0 (pa_cons (pv 7) pa_nil)) (nomark _))))) (pss_one (ps_ret pe_bl)) pss_nil) (pss_cons (ps_if (pt_cmpR op_ne (pe_cmpR (r := rOwnB C (spEqT K C "_counts") E0) (op_ownEq G_eq W_eq.at_ W_eq.fn M_eq.b (hr.mono (by omega)) pass0) (pv 4) (pe_meth0 (pv 4) BTable.cl W_turned G_turned (hr.mono (by omega)) M_turned.b .nil pass0) (nomark _)) (pe_cmpR (r := rEqD K) (op_eqD hr.units) (pv 7) (pe_prop (pe_meth0 (pv 4) BTable.cl W_turned G_turned (hr.mono (by omega)) M_turned.b .nil pass0) BTable.cl P_Table_counts.hp G_Table_counts (hr.mono (by omega)) P_Table_counts.b .nil pass0 rfl) (nomark _)) (nomark _)) (pss_one (ps_ret pe_bl)) pss_nil) (pss_cons (ps_if (pt_cmpR (r := rNeD K) (op_neD hr.units) (pe_lc (wi := iList K _) (g := gName 10) (own := [("_law_odd", 10)]) (by rfl) nd (pi_list (pe_lst (pa_cons (pv 7) (pa_cons pe_non (pa_cons (pe_lst (pa_cons (pv 7) pa_nil)) (pa_cons pe_int (pa_cons (pe_tup (pa_cons (pv 5) (pa_cons (pv 6) pa_nil))) (pa_cons (pe_make BQuestion.mkc G_Question_init (hr.mono (by omega)) (by rfl) BQuestion.gC M_Question_init.b .nil pass0 (pa_cons (pv 7) pa_nil)) pa_nil)))))))) (blkOk_by (by kernel_rfl)) (fun _ _ _ _ _ => (pg_name (i := 10) nd rfl (Or.inl rfl))) (fun _ _ _ _ _ => (pts_one (pt_cmpR (r := rOwnEqX K C (spEqT K C "_counts") E0) (op_ownEqX G_eq W_eq.at_ W_eq.fn M_eq.b (hr.mono (by omega)) pass0) (pv 4) (pv 10) (nomark _)))) (fun _ _ _ _ _ => (pv 10))) (pe_lst pa_nil) (nomark _)) (pss_one (ps_ret pe_bl)) pss_nil) (pss_one (ps_if (pt_cmpR (r := rOwnEqX K CQ (spEqT K CQ "_weights") E0) (op_ownEqX G_qeq W_qeq.at_ W_qeq.fn M_qeq.b (hr.mono (by omega)) pass0) (pe_make BQuestion.mkc G_Question_init (hr.mono (by omega)) (by rfl) BQuestion.gC M_Question_init.b .nil pass0 (pa_cons (pv 7) pa_nil)) (pv 4) (nomark _)) (pss_one (ps_ret pe_bl)) pss_nil)))))))))))) (pss_one (ps_ret pe_bl))), ?_⟩
    -- the list that is walked
    refine ⟨.ref a0, rfl, 8, rfl, a0, _, rfl, hS, fun p1 hp1 => ?_⟩
    have e1 : Evl.Ex H (upd H p1 (.lst (cutV (ns.map V.int) none (some 8)))) := Ex.new hp1
    have l1 : (upd H p1 (.lst (cutV (ns.map V.int) none (some 8)))) p1 = some (.lst (cutV (ns.map V.int) none (some 8))) := upd_same
    generalize upd H p1 (.lst (cutV (ns.map V.int) none (some 8))) = H1 at e1 l1
    refine ⟨by decide, fun p2 hp2 => ?_⟩
    have e2 : Evl.Ex H1 (upd H1 p2 (.lst [.int 7])) := Ex.new hp2
    have l2 : (upd H1 p2 (.lst [.int 7])) p2 = some (.lst [.int 7]) := upd_same
    generalize upd H1 p2 (.lst [.int 7]) = H2 at e2 l2
    refine ⟨.ref a0, rfl, by decide, fun p3 hp3 => ?_⟩
    have e3 : Evl.Ex H2 (upd H2 p3 (.lst [])) := Ex.new hp3
    have l3 : (upd H2 p3 (.lst [])) p3 = some (.lst []) := upd_same
    generalize upd H2 p3 (.lst []) = H3 at e3 l3
    refine ⟨.list (ns.map PyData.int), .list [], .lst (ex_l ((e1.trans e2).trans e3) hS) (dpAll_ints ns), .lst (sq_of l3) .nil, shaped_ints ns, rfl, ?_⟩
    generalize PyData.eqv (.list (ns.map PyData.int)) (.list []) = bb
    refine .inr ⟨bb, rfl, p2, _, [.int 7], rfl, rfl, e3 _ _ l2, by cases bb <;> decide, by cases bb <;> decide, by cases bb <;> decide, fun p4 hp4 => ?_⟩
    have l4 : (upd H3 p4 (.lst (List.replicate (Int.toNat (if bb = true then 1 else 0)) [V.int 7]).flatten)) p4 = some (.lst (List.replicate (Int.toNat (if bb = true then 1 else 0)) [V.int 7]).flatten) := upd_same
    have e4 : Evl.Ex H3 (upd H3 p4 (.lst (List.replicate (Int.toNat (if bb = true then 1 else 0)) [V.int 7]).flatten)) := Ex.new hp4
    have hz4 : ∀ x ∈ (List.replicate (Int.toNat (if bb = true then 1 else 0)) [V.int 7]).flatten, ∃ c : Int, x = .int c := fun x hx => by
      cases bb <;> simp at hx; exact ⟨7, hx⟩
    have hl4 : (List.replicate (Int.toNat (if bb = true then 1 else 0)) [V.int 7]).flatten.length ≤ 1 := by cases bb <;> decide
    generalize (List.replicate (Int.toNat (if bb = true then 1 else 0)) [V.int 7]).flatten = zs4 at l4 e4 hz4 hl4
    generalize upd H3 p4 (.lst zs4) = H4 at l4 e4
    have hz1 : ∀ x ∈ cutV (ns.map V.int) none (some 8), ∃ c : Int, x = .int c := fun x hx => by
      have := List.mem_of_mem_drop (List.mem_of_mem_take hx)
      obtain ⟨c, _, e⟩ := List.mem_map.mp this
      exact ⟨c, e.symm⟩
    have hl1 : (cutV (ns.map V.int) none (some 8)).length ≤ 63 := by
      unfold cutV
      simp only [List.length_take, List.length_drop, List.length_map]
      omega
    generalize cutV (ns.map V.int) none (some 8) = zs1 at hz1 hl1 l1
    refine ⟨p1, p4, zs1, zs4, rfl, rfl, ((e2.trans e3).trans e4) _ _ l1, l4, sz_of (by omega), fun p5 hp5 => ?_⟩
    have l5 : (upd H4 p5 (.lst (zs1 ++ zs4))) p5 = some (.lst (zs1 ++ zs4)) := upd_same
    have hz5 : ∀ x ∈ zs1 ++ zs4, ∃ c : Int, x = .int c := fun x hx => (List.mem_append.mp hx).elim (hz1 x) (hz4 x)
    have hl5 : (zs1 ++ zs4).length ≤ 64 := by rw [List.length_append]; omega
    generalize zs1 ++ zs4 = zs at l5 hz5 hl5
    generalize upd H4 p5 (.lst zs) = H5 at l5
    refine ⟨p5, zs, rfl, sq_of l5, ?_⟩
    refine for_enum (fun i σ H' => ∃ s1 s2 s3 s4 s5 s6 s7 s8 s9, σ = [some (.ref a0), s1, s2, s3, s4, s5, s6, s7, s8, s9, none, none, none] ∧ H' p5 = some (.lst zs)) ⟨_, _, _, _, _, _, _, _, _, rfl, l5⟩ (fun i σ H' ⟨_, _, _, _, _, _, _, _, _, _, hl⟩ => sq_of hl) (fun i0 x T σ H' hx ⟨s1, s2, s3, s4, s5, s6, s7, s8, s9, hs, hl⟩ hT => ?_) (fun σ H' _ => q H')
    obtain ⟨c, rfl⟩ := hz5 x (List.mem_of_getElem? hx)
    subst hs
    have hi : i0 < 64 := by have := (List.getElem?_eq_some_iff.mp hx).1; omega
    have hTl : (upd H' T (.tup [.int (i0 : Int), .int c])) p5 = some (.lst zs) := Ex.new hT _ _ hl
    have hTT : (upd H' T (.tup [.int (i0 : Int), .int c])) T = some (.tup [.int (i0 : Int), .int c]) := upd_same
    generalize upd H' T (.tup [.int (i0 : Int), .int c]) = H6 at hTl hTT
    refine ⟨T, _, rfl, st_of hTT, rfl, _, _, rfl, _, _, rfl, rfl, ?_⟩
    -- the state
    refine ⟨_, rfl, _, rfl, 200, (i0 : Int), rfl, rfl, by decide, fun l hl' => ⟨l, 140, [.int 420], rfl, rfl, upd_same, by decide, by decide, sz_of (by decide), fun b hb => ?_⟩⟩
    have r140 : (List.replicate (Int.toNat 140) [V.int 420]).flatten = (List.replicate 140 (420 : Int)).map V.int := by decide +kernel
    rw [r140]
    have e6 : Evl.Ex H6 (upd (upd H6 l (.lst [.int 420])) b (.lst ((List.replicate 140 (420 : Int)).map V.int))) := (Ex.new hl').trans (Ex.new hb)
    refine ⟨c, 200 + (i0 : Int), b, List.replicate 140 420, rfl, upd_same, fun z hz => by rw [(List.mem_replicate.mp hz).2]; decide, by simp, ⟨by omega, by omega⟩, fun p xs H7 e7 hp hxs => ?_⟩
    refine ⟨by show 2 ≤ sizeLine; decide, fun s hs => ?_⟩
    have e8 : Evl.Ex H6 (upd H7 s (.lst [.ref p, .int 0])) := (e6.trans e7).trans (Ex.new hs)
    have hps : p5 ≠ s := fun z => by have := (e6.trans e7) _ _ hTl; rw [z, hs] at this; cases this
    have d8 : Dr s p xs (upd H7 s (.lst [.ref p, .int 0])) := ⟨fun z => (by rw [← z, hxs] at hs; cases hs), ⟨0, upd_same⟩, by rw [upd_ne (fun z => by rw [← z, hxs] at hs; cases hs)]; exact hxs⟩
    have hl8 := e8 _ _ hTl
    generalize upd H7 s (.lst [.ref p, .int 0]) = H8 at e8 d8 hl8
    clear hT hTT hx e7 e6 hTl hs hp hxs hb hl' r140 hz5 hl5 l5 hl
    refine pairD (i := 5) (j := 6) (P1 := Sz) (P2 := Sz) (sizeD (i := 3) rfl) (sizeD (i := 3) rfl) (fun _ _ _ _ z => z) d8 fun v5 v6 H9 g9 d9 ⟨m, hv5, hm⟩ ⟨n, hv6, hn⟩ => ?_
    subst hv5
    subst hv6
    have hdim : dimOk m n := ⟨⟨hm.1, by omega⟩, ⟨hn.1, by omega⟩⟩
    refine pairD (i := 7) (j := 8) (P1 := Ct m n) (P2 := Ct m n) (countsD (i := 3) (i1 := 5) (i2 := 6) rfl rfl rfl ⟨by omega, by omega⟩) (countsD (i := 3) (i1 := 5) (i2 := 6) rfl rfl rfl ⟨by omega, by omega⟩) mf_ct d9 fun v7 v8 H10 g10 d10 ⟨f0, hf0, bf0⟩ ⟨g, hg, bg⟩ => ?_
    refine q_scale d10 ⟨by omega, by omega⟩ hf0 bf0 fun w7 w9 f H11 g11 d11 hf bf => ?_
    replace hg := mf_grid _ _ _ (Gs.fx g11 d10) hg
    have bg' : ∀ i j, 0 ≤ g i j := fun i j => (bg i j).1
    have hl11 := ((g9.trans g10).trans g11) _ _ hps hl8
    clear g9 g10 g11 d8 d9 d10 hf0 hl8 e8
    refine q_asgP (evp_make (ok := fun f => ∀ i j, 0 ≤ f i j) (eap_one (evp_var (i := 7) rfl hf mf_grid.mono)) hdim bf) fun v4 H12 e12 h4 => ?_
    replace hf := mf_grid.mono _ _ _ e12 hf
    replace hg := mf_grid.mono _ _ _ e12 hg
    simp only [List.set_cons_zero, List.set_cons_succ] at *
    generalize hσ : [some (V.ref a0), some (V.int (i0 : Int)), some (V.int c), some (V.ref s), some v4, some (V.int (m : Int)), some (V.int (n : Int)), some w7, some v8, w9, none, none, none] = σ
    have q4 : EvP (tVar 4) σ H12 (Ins C "_counts" m n f) := evp_var (by rw [← hσ]; rfl) h4 mf_ins.mono
    have q7 : EvP (tVar 7) σ H12 (Grid m n f) := evp_var (by rw [← hσ]; rfl) hf mf_grid.mono
    have q8 : EvP (tVar 8) σ H12 (Grid m n g) := evp_var (by rw [← hσ]; rfl) hg mf_grid.mono
    have q5 : EvP (tVar 5) σ H12 (Is (.int (m : Int))) := evp_var (by rw [← hσ]; rfl) rfl mono_is
    have q6 : EvP (tVar 6) σ H12 (Is (.int (n : Int))) := evp_var (by rw [← hσ]; rfl) rfl mono_is
    have rgt : ∀ {te : TE} {H' : Hp}, Evl.Ex H12 H' → EvP te σ H' (Ins C "_counts" m n f) → EvT (tNot (tTest (tCall (spRight_ C) [] E0 (tCons te (tCons (tVar 7) tNil))))) σ H' false := fun e ht =>
      et_not (a := true) (et_tst (evp_call (E := E0) (eap_two ht (q7.mono e) mf_ins.mono) fun vs H1 ⟨x, y, hv, hx, hy⟩ Q q E => ⟨x, y, m, n, f, hv, hx, hy, hdim, bf, fun H2 e2 => q _ H2 e2 rfl⟩))
    -- 1
    refine q_when (b := false) (et_or (a := false) (b := false) (rgt (Ex.refl _) q4) fun _ => rgt (Ex.refl _) (ev_tturned (m := n) (n := m) (f := fun i j => f j i) (ev_tturned q4 hdim bf) ⟨hdim.2, hdim.1⟩ fun i j => bf j i)) (fun z => nomatch z) fun _ H13 e13 => ?_
    -- 2
    refine q_when (b := false) (et_or (a := false) (b := false) (et_tst (evp_is (evp_ne (ev_eqq (q4.mono e13) (evp_make (ok := fun f => ∀ i j, 0 ≤ f i j) (eap_one (q8.mono e13)) hdim bg')) (ev_gg (K := K) (q7.mono e13) (q8.mono e13)) rfl) (by rw [decide_eq_true rfl]; rfl))) fun _ => et_tst (ev_nee (q4.mono e13) (evp_make (ok := fun f => ∀ i j, 0 ≤ f i j) (eap_one (q7.mono e13)) hdim bf))) (fun z => nomatch z) fun _ H14 e14' => ?_
    have e14 := e13.trans e14'
    -- 3
    refine q_when (b := false) (et_tst (evp_is (evp_ne (ev_eqq (q4.mono e14) (ev_tturned (q4.mono e14) hdim bf)) (ev_gg (K := K) (q7.mono e14) (ev_get (ev_tturned (q4.mono e14) hdim bf))) rfl) (by rw [decide_eq_true rfl]; rfl))) (fun z => nomatch z) fun _ H15 e15' => ?_
    have e15 := e14.trans e15'
    -- 4
    have hq : EvP (tMake CQ (spInit CQ "_weights" fun _ => True) [] E0 (tCons (tVar 7) tNil)) σ H15 (Ins CQ "_weights" m n f) := evp_make (ok := fun _ => True) (eap_one (q7.mono e15)) hdim trivial
    have grid_tup : ∀ v H, Grid m n f v H → Oddy CQ v H := fun v H ⟨p, ys, h1, h2, _⟩ => .inr (.inr (.inl ⟨p, ys, h1, h2⟩))
    have hodd : EvP (tLst (tCons (tVar 7) (tCons (tC .non) (tCons (tLst (tCons (tVar 7) tNil)) (tCons (tC (.int 0)) (tCons (tTup (tCons (tVar 5) (tCons (tVar 6) tNil))) (tCons (tMake CQ (spInit CQ "_weights" fun _ => True) [] E0 (tCons (tVar 7) tNil)) tNil))))))) σ H15 (LstP 6 fun _ => Oddy CQ) := fun H1 ex1 Q qq =>
      lst6 <| (q7.mono e15) H1 ex1 _ fun v1 H2 ex2 p1 => lst1 <| (q7.mono e15) H2 (ex1.trans ex2) _ fun v3 H3 ex3 p3 => ⟨by show 1 ≤ sizeLine; decide, fun l3 hl3 => by
        have ex4 : Evl.Ex H3 (upd H3 l3 (.lst [v3])) := Ex.new hl3
        have l4 : (upd H3 l3 (.lst [v3])) l3 = some (.lst [v3]) := upd_same
        generalize upd H3 l3 (.lst [v3]) = H4 at ex4 l4
        refine tup2 <| (q5.mono e15) H4 ((ex1.trans ex2).trans (ex3.trans ex4)) _ fun x5 H5 ex5 hx5 => (q6.mono e15) H5 (((ex1.trans ex2).trans (ex3.trans ex4)).trans ex5) _ fun x6 H6 ex6 hx6 => ⟨by show 2 ≤ sizeLine; decide, fun l5 hl5 => ?_⟩
        have ex7 : Evl.Ex H6 (upd H6 l5 (.tup [x5, x6])) := Ex.new hl5
        have l7 : (upd H6 l5 (.tup [x5, x6])) l5 = some (.tup [x5, x6]) := upd_same
        generalize upd H6 l5 (.tup [x5, x6]) = H7 at ex7 l7
        have a47 : Evl.Ex H4 H7 := (ex5.trans ex6).trans ex7
        have a17 : Evl.Ex H1 H7 := (ex2.trans (ex3.trans ex4)).trans a47
        refine hq H7 (ex1.trans a17) _ fun v8 H8 ex8 p8 => ⟨by show 6 ≤ sizeLine; decide, fun l hl => qq (.ref l) _ ((a17.trans ex8).trans (Ex.new hl)) ⟨l, _, rfl, upd_same, rfl, fun i y hy => ?_⟩⟩
        have ex9 : Evl.Ex H8 (upd H8 l (.lst [v1, .non, .ref l3, .int 0, .ref l5, v8])) := Ex.new hl
        match i, hy with
        | 0, hy => cases hy; exact mono_oddy _ _ _ (((ex3.trans ex4).trans a47).trans (ex8.trans ex9)) (grid_tup _ _ p1)
        | 1, hy => cases hy; exact .inl rfl
        | 2, hy => cases hy; exact .inr (.inr (.inr (.inl ⟨l3, _, rfl, (a47.trans (ex8.trans ex9)) _ _ l4⟩)))
        | 3, hy => cases hy; exact .inr (.inl rfl)
        | 4, hy => cases hy; exact .inr (.inr (.inl ⟨l5, _, rfl, (ex8.trans ex9) _ _ l7⟩))
        | 5, hy =>
          cases hy
          obtain ⟨b, dx, r, h1, h2, h3⟩ := p8
          exact .inr (.inr (.inr (.inr ⟨b, dx, _, h1, ex9 _ _ h2, rfl⟩)))
        | i + 6, hy => simp at hy⟩
    refine q_when (b := false) (e_li (is := []) (evp_lc0 (vs := [10]) (g := gName 10) (wx_lst (K := K) hodd fun _ => mono_oddy) (by omega)
      (Sg := fun i σ2 H2 => ∃ y, σ2 = [some (V.ref a0), some (V.int (i0 : Int)), some (V.int c), some (V.ref s), some v4, some (V.int (m : Int)), some (V.int (n : Int)), some w7, some v8, w9, some y, none, none] ∧ Oddy CQ y H2) (fun i y H1 hi e1 hy => by subst hσ; exact g_name (i := 10) ⟨rfl, y, rfl, hy⟩) (fun i σ2 H1 hi ex1 ⟨y, hs, hy⟩ => by
        subst hs
        exact et_tst (ev_odd BQuestion O (evp_var (i := 4) (v := v4) rfl (mf_ins.mono _ _ _ (e15.trans ex1) h4) mf_ins.mono) (evp_var (i := 10) (v := y) rfl hy mono_oddy)))) (fun H1 e1 Q qq => el_lst ea_nil (by decide) H1 e1 Q fun p H2 _ e2 hp => qq _ H2 e2 ⟨p, rfl, hp⟩)) (fun z => nomatch z) fun _ H16 e16' => ?_
    have e16 := e15.trans e16'
    -- 5
    refine s_when (b := false) (et_tst (ev_qodd BTable tq aq (evp_make (ok := fun _ => True) (eap_one (q7.mono e16)) hdim trivial) (q4.mono e16))) (fun z => nomatch z) fun _ H17 e17 => ?_
    exact ⟨_, _, _, _, _, _, _, _, _, hσ.symm, (e16.trans e17) _ _ (e12 _ _ hl11)⟩
end
end K02
namespace K02
open PySem PySem.Spec PyProof.Rows L2 Evl Ow RZ Ev2 StX
def strKeysB (es : Array DictEntry) : Bool := es.toList.all fun e => match e.key with | .str _ _ => true | _ => false
theorem strKeys_of {es : Array DictEntry} (h : strKeysB es = true) : StrKeys es := fun e he => by
  have := List.all_eq_true.mp h e (Array.mem_toList_iff.mpr he)
  cases hk : e.key <;> rw [hk] at this <;> first | exact ⟨_, _, rfl⟩ | cases this
theorem nsFind_of {K : PySem.W.Frag} {N : Addr} {oc : Value} {od : Option Addr} {es : Array DictEntry} {n : Nat} {sl : Array (Option Value)} {x : Str} {r : Option Value} (hl : K.lookup N = some ⟨oc, od, .dict es n, sl⟩) (e : PySem.W.nsIn K N x = some r) : nsFind es x = r := by
  obtain ⟨l⟩ := es
  unfold PySem.W.nsIn at e
  rw [hl] at e
  unfold nsFind findBy
  dsimp only at e ⊢
  rw [List.find?_toArray]
  split at e
  · rename_i e' h'; rw [h']; exact Option.some.inj e
  · rename_i h'
    rw [h']
    split at e
    · cases e
    · exact Option.some.inj e
theorem all_mk {l : PySem.W.OpenLaw} {w : World} {K : PySem.W.Frag} {h : Heap} {mg : Str → Option Value} {fa : Addr} (X : K.In h) (G : h.Ns mainGlobals mg) (hfa : mg "law" = some (.ref fa))
    {CT CQ NT : Addr}
    {tk : Tok}
    {f_is_whole : Addr} {od_is_whole an_is_whole : Option Addr} {sl_is_whole : Array (Option Value)} {oc_is_whole kV_is_whole dc_is_whole pm_is_whole cd_is_whole ct_is_whole : Value}
    {f_is_below : Addr} {od_is_below an_is_below : Option Addr} {sl_is_below : Array (Option Value)} {oc_is_below kV_is_below dc_is_below pm_is_below cd_is_below ct_is_below : Value}
    {f_check_below : Addr} {od_check_below an_check_below : Option Addr} {sl_check_below : Array (Option Value)} {oc_check_below kV_check_below dc_check_below pm_check_below cd_check_below ct_check_below : Value}
    {f_is_line : Addr} {od_is_line an_is_line : Option Addr} {sl_is_line : Array (Option Value)} {oc_is_line kV_is_line dc_is_line pm_is_line cd_is_line ct_is_line : Value}
    {f_is_grid : Addr} {od_is_grid an_is_grid : Option Addr} {sl_is_grid : Array (Option Value)} {oc_is_grid kV_is_grid dc_is_grid pm_is_grid cd_is_grid ct_is_grid : Value}
    {f_grid_turned : Addr} {od_grid_turned an_grid_turned : Option Addr} {sl_grid_turned : Array (Option Value)} {oc_grid_turned kV_grid_turned dc_grid_turned pm_grid_turned cd_grid_turned ct_grid_turned : Value}
    {f_is_counts : Addr} {od_is_counts an_is_counts : Option Addr} {sl_is_counts : Array (Option Value)} {oc_is_counts kV_is_counts dc_is_counts pm_is_counts cd_is_counts ct_is_counts : Value}
    {f_is_row : Addr} {od_is_row an_is_row : Option Addr} {sl_is_row : Array (Option Value)} {oc_is_row kV_is_row dc_is_row pm_is_row cd_is_row ct_is_row : Value}
    {f_law_numbers : Addr} {od_law_numbers an_law_numbers : Option Addr} {sl_law_numbers : Array (Option Value)} {oc_law_numbers kV_law_numbers dc_law_numbers pm_law_numbers cd_law_numbers ct_law_numbers : Value}
    {f_law_draw : Addr} {od_law_draw an_law_draw : Option Addr} {sl_law_draw : Array (Option Value)} {oc_law_draw kV_law_draw dc_law_draw pm_law_draw cd_law_draw ct_law_draw : Value}
    {f_law_grid : Addr} {od_law_grid an_law_grid : Option Addr} {sl_law_grid : Array (Option Value)} {oc_law_grid kV_law_grid dc_law_grid pm_law_grid cd_law_grid ct_law_grid : Value}
    {f_law_right : Addr} {od_law_right an_law_right : Option Addr} {sl_law_right : Array (Option Value)} {oc_law_right kV_law_right dc_law_right pm_law_right cd_law_right ct_law_right : Value}
    {f_Table_counts : Addr} {od_Table_counts an_Table_counts : Option Addr} {sl_Table_counts : Array (Option Value)} {oc_Table_counts kV_Table_counts dc_Table_counts pm_Table_counts cd_Table_counts ct_Table_counts : Value}
    {p_Table_counts : Addr} {r_Table_counts : List Value}
    {f_Table_left : Addr} {od_Table_left an_Table_left : Option Addr} {sl_Table_left : Array (Option Value)} {oc_Table_left kV_Table_left dc_Table_left pm_Table_left cd_Table_left ct_Table_left : Value}
    {p_Table_left : Addr} {r_Table_left : List Value}
    {f_Table_right : Addr} {od_Table_right an_Table_right : Option Addr} {sl_Table_right : Array (Option Value)} {oc_Table_right kV_Table_right dc_Table_right pm_Table_right cd_Table_right ct_Table_right : Value}
    {p_Table_right : Addr} {r_Table_right : List Value}
    {f_Table_total : Addr} {od_Table_total an_Table_total : Option Addr} {sl_Table_total : Array (Option Value)} {oc_Table_total kV_Table_total dc_Table_total pm_Table_total cd_Table_total ct_Table_total : Value}
    {p_Table_total : Addr} {r_Table_total : List Value}
    {f_Table_init : Addr} {od_Table_init an_Table_init : Option Addr} {sl_Table_init : Array (Option Value)} {oc_Table_init kV_Table_init dc_Table_init pm_Table_init cd_Table_init ct_Table_init : Value}
    {f_Table_lefts : Addr} {od_Table_lefts an_Table_lefts : Option Addr} {sl_Table_lefts : Array (Option Value)} {oc_Table_lefts kV_Table_lefts dc_Table_lefts pm_Table_lefts cd_Table_lefts ct_Table_lefts : Value}
    {f_Table_rights : Addr} {od_Table_rights an_Table_rights : Option Addr} {sl_Table_rights : Array (Option Value)} {oc_Table_rights kV_Table_rights dc_Table_rights pm_Table_rights cd_Table_rights ct_Table_rights : Value}
    {f_Table_turned : Addr} {od_Table_turned an_Table_turned : Option Addr} {sl_Table_turned : Array (Option Value)} {oc_Table_turned kV_Table_turned dc_Table_turned pm_Table_turned cd_Table_turned ct_Table_turned : Value}
    {f_Table_count : Addr} {od_Table_count an_Table_count : Option Addr} {sl_Table_count : Array (Option Value)} {oc_Table_count kV_Table_count dc_Table_count pm_Table_count cd_Table_count ct_Table_count : Value}
    {f_Table_contains : Addr} {od_Table_contains an_Table_contains : Option Addr} {sl_Table_contains : Array (Option Value)} {oc_Table_contains kV_Table_contains dc_Table_contains pm_Table_contains cd_Table_contains ct_Table_contains : Value}
    {f_Table_eq : Addr} {od_Table_eq an_Table_eq : Option Addr} {sl_Table_eq : Array (Option Value)} {oc_Table_eq kV_Table_eq dc_Table_eq pm_Table_eq cd_Table_eq ct_Table_eq : Value}
    {f_Question_init : Addr} {od_Question_init an_Question_init : Option Addr} {sl_Question_init : Array (Option Value)} {oc_Question_init kV_Question_init dc_Question_init pm_Question_init cd_Question_init ct_Question_init : Value}
    {f_Question_eq : Addr} {od_Question_eq an_Question_eq : Option Addr} {sl_Question_eq : Array (Option Value)} {oc_Question_eq kV_Question_eq dc_Question_eq pm_Question_eq cd_Question_eq ct_Question_eq : Value}
    {f_law : Addr} {od_law an_law : Option Addr} {sl_law : Array (Option Value)} {oc_law kV_law dc_law pm_law cd_law ct_law : Value}
    {nmT qT : Str} {nw : String} {bsT subT : List Value} {hdcT abT : Bool} {snT : List Str} {colT : Option Bool} {ddT : Option Addr} {k0 k1 k2 k3 k5 : Option Value} {ocN : Value} {odN : Option Addr} {es : Array DictEntry} {nN : Nat} {slN : Array (Option Value)}
    (aT : PySem.W.nsIn K mainGlobals "Table" = some (some (.ref CT)))
    (aQ : PySem.W.nsIn K mainGlobals "Question" = some (some (.ref CQ)))
    (z_isinstance : PySem.W.nsIn K mainGlobals "isinstance" = some none)
    (z_int : PySem.W.nsIn K mainGlobals "int" = some none)
    (z_bool : PySem.W.nsIn K mainGlobals "bool" = some none)
    (z_tuple : PySem.W.nsIn K mainGlobals "tuple" = some none)
    (z_len : PySem.W.nsIn K mainGlobals "len" = some none)
    (z_all : PySem.W.nsIn K mainGlobals "all" = some none)
    (z_sum : PySem.W.nsIn K mainGlobals "sum" = some none)
    (z_zip : PySem.W.nsIn K mainGlobals "zip" = some none)
    (z_range : PySem.W.nsIn K mainGlobals "range" = some none)
    (z_enumerate : PySem.W.nsIn K mainGlobals "enumerate" = some none)
    (z_max : PySem.W.nsIn K mainGlobals "max" = some none)
    (z_MV : PySem.W.nsIn K mainGlobals "MOST_VALUES" = some (some (.int 8 tk)))
    (a_is_whole : PySem.W.nsIn K mainGlobals "is_whole" = some (some (.ref f_is_whole)))
    (l_is_whole : K.lookup f_is_whole = some ⟨oc_is_whole, od_is_whole, .func (PySem.W.fnOf "is_whole" "is_whole" (defArgs s_is_whole) (defBody s_is_whole) (defScope s_is_whole) .none kV_is_whole dc_is_whole pm_is_whole an_is_whole cd_is_whole ct_is_whole), sl_is_whole⟩)
    (c_is_whole : PySem.W.codeIn K cd_is_whole "is_whole" = true)
    (k_is_whole : PySem.W.keepIn K (.ref f_is_whole) = true)
    (a_is_below : PySem.W.nsIn K mainGlobals "is_below" = some (some (.ref f_is_below)))
    (l_is_below : K.lookup f_is_below = some ⟨oc_is_below, od_is_below, .func (PySem.W.fnOf "is_below" "is_below" (defArgs s_is_below) (defBody s_is_below) (defScope s_is_below) .none kV_is_below dc_is_below pm_is_below an_is_below cd_is_below ct_is_below), sl_is_below⟩)
    (c_is_below : PySem.W.codeIn K cd_is_below "is_below" = true)
    (k_is_below : PySem.W.keepIn K (.ref f_is_below) = true)
    (a_check_below : PySem.W.nsIn K mainGlobals "check_below" = some (some (.ref f_check_below)))
    (l_check_below : K.lookup f_check_below = some ⟨oc_check_below, od_check_below, .func (PySem.W.fnOf "check_below" "check_below" (defArgs s_check_below) (defBody s_check_below) (defScope s_check_below) .none kV_check_below dc_check_below pm_check_below an_check_below cd_check_below ct_check_below), sl_check_below⟩)
    (c_check_below : PySem.W.codeIn K cd_check_below "check_below" = true)
    (k_check_below : PySem.W.keepIn K (.ref f_check_below) = true)
    (a_is_line : PySem.W.nsIn K mainGlobals "is_line" = some (some (.ref f_is_line)))
    (l_is_line : K.lookup f_is_line = some ⟨oc_is_line, od_is_line, .func (PySem.W.fnOf "is_line" "is_line" (defArgs s_is_line) (defBody s_is_line) (defScope s_is_line) .none kV_is_line dc_is_line pm_is_line an_is_line cd_is_line ct_is_line), sl_is_line⟩)
    (c_is_line : PySem.W.codeIn K cd_is_line "is_line" = true)
    (k_is_line : PySem.W.keepIn K (.ref f_is_line) = true)
    (a_is_grid : PySem.W.nsIn K mainGlobals "is_grid" = some (some (.ref f_is_grid)))
    (l_is_grid : K.lookup f_is_grid = some ⟨oc_is_grid, od_is_grid, .func (PySem.W.fnOf "is_grid" "is_grid" (defArgs s_is_grid) (defBody s_is_grid) (defScope s_is_grid) .none kV_is_grid dc_is_grid pm_is_grid an_is_grid cd_is_grid ct_is_grid), sl_is_grid⟩)
    (c_is_grid : PySem.W.codeIn K cd_is_grid "is_grid" = true)
    (k_is_grid : PySem.W.keepIn K (.ref f_is_grid) = true)
    (a_grid_turned : PySem.W.nsIn K mainGlobals "grid_turned" = some (some (.ref f_grid_turned)))
    (l_grid_turned : K.lookup f_grid_turned = some ⟨oc_grid_turned, od_grid_turned, .func (PySem.W.fnOf "grid_turned" "grid_turned" (defArgs s_grid_turned) (defBody s_grid_turned) (defScope s_grid_turned) .none kV_grid_turned dc_grid_turned pm_grid_turned an_grid_turned cd_grid_turned ct_grid_turned), sl_grid_turned⟩)
    (c_grid_turned : PySem.W.codeIn K cd_grid_turned "grid_turned" = true)
    (k_grid_turned : PySem.W.keepIn K (.ref f_grid_turned) = true)
    (a_is_counts : PySem.W.nsIn K mainGlobals "is_counts" = some (some (.ref f_is_counts)))
    (l_is_counts : K.lookup f_is_counts = some ⟨oc_is_counts, od_is_counts, .func (PySem.W.fnOf "is_counts" "is_counts" (defArgs s_is_counts) (defBody s_is_counts) (defScope s_is_counts) .none kV_is_counts dc_is_counts pm_is_counts an_is_counts cd_is_counts ct_is_counts), sl_is_counts⟩)
    (c_is_counts : PySem.W.codeIn K cd_is_counts "is_counts" = true)
    (k_is_counts : PySem.W.keepIn K (.ref f_is_counts) = true)
    (a_is_row : PySem.W.nsIn K mainGlobals "is_row" = some (some (.ref f_is_row)))
    (l_is_row : K.lookup f_is_row = some ⟨oc_is_row, od_is_row, .func (PySem.W.fnOf "is_row" "is_row" (defArgs s_is_row) (defBody s_is_row) (defScope s_is_row) .none kV_is_row dc_is_row pm_is_row an_is_row cd_is_row ct_is_row), sl_is_row⟩)
    (c_is_row : PySem.W.codeIn K cd_is_row "is_row" = true)
    (k_is_row : PySem.W.keepIn K (.ref f_is_row) = true)
    (a_law_numbers : PySem.W.nsIn K mainGlobals "_law_numbers" = some (some (.ref f_law_numbers)))
    (l_law_numbers : K.lookup f_law_numbers = some ⟨oc_law_numbers, od_law_numbers, .func (PySem.W.fnOf "_law_numbers" "_law_numbers" (defArgs s_law_numbers) (defBody s_law_numbers) (defScope s_law_numbers) .none kV_law_numbers dc_law_numbers pm_law_numbers an_law_numbers cd_law_numbers ct_law_numbers), sl_law_numbers⟩)
    (c_law_numbers : PySem.W.codeIn K cd_law_numbers "_law_numbers" = true)
    (k_law_numbers : PySem.W.keepIn K (.ref f_law_numbers) = true)
    (a_law_draw : PySem.W.nsIn K mainGlobals "_law_draw" = some (some (.ref f_law_draw)))
    (l_law_draw : K.lookup f_law_draw = some ⟨oc_law_draw, od_law_draw, .func (PySem.W.fnOf "_law_draw" "_law_draw" (defArgs s_law_draw) (defBody s_law_draw) (defScope s_law_draw) .none kV_law_draw dc_law_draw pm_law_draw an_law_draw cd_law_draw ct_law_draw), sl_law_draw⟩)
    (c_law_draw : PySem.W.codeIn K cd_law_draw "_law_draw" = true)
    (k_law_draw : PySem.W.keepIn K (.ref f_law_draw) = true)
    (a_law_grid : PySem.W.nsIn K mainGlobals "_law_grid" = some (some (.ref f_law_grid)))
    (l_law_grid : K.lookup f_law_grid = some ⟨oc_law_grid, od_law_grid, .func (PySem.W.fnOf "_law_grid" "_law_grid" (defArgs s_law_grid) (defBody s_law_grid) (defScope s_law_grid) .none kV_law_grid dc_law_grid pm_law_grid an_law_grid cd_law_grid ct_law_grid), sl_law_grid⟩)
    (c_law_grid : PySem.W.codeIn K cd_law_grid "_law_grid" = true)
    (k_law_grid : PySem.W.keepIn K (.ref f_law_grid) = true)
    (a_law_right : PySem.W.nsIn K mainGlobals "_law_right" = some (some (.ref f_law_right)))
    (l_law_right : K.lookup f_law_right = some ⟨oc_law_right, od_law_right, .func (PySem.W.fnOf "_law_right" "_law_right" (defArgs s_law_right) (defBody s_law_right) (defScope s_law_right) .none kV_law_right dc_law_right pm_law_right an_law_right cd_law_right ct_law_right), sl_law_right⟩)
    (c_law_right : PySem.W.codeIn K cd_law_right "_law_right" = true)
    (k_law_right : PySem.W.keepIn K (.ref f_law_right) = true)
    (a_Table_counts : PySem.W.findIn K (.ref CT) "counts" = some (some (.ref p_Table_counts)))
    (r1_Table_counts : PySem.W.recIn K p_Table_counts "property" = some (.ref f_Table_counts :: r_Table_counts))
    (g_Table_counts : PySem.W.specialIn K (.ref p_Table_counts) "__get__" = some (some (.builtin "property.__get__")))
    (t_Table_counts : PySem.W.takesIn K (.ref p_Table_counts) = some true)
    (l_Table_counts : K.lookup f_Table_counts = some ⟨oc_Table_counts, od_Table_counts, .func (PySem.W.fnOf "counts" "Table.counts" (defArgs s_Table_counts) (defBody s_Table_counts) (defScope s_Table_counts) .none kV_Table_counts dc_Table_counts pm_Table_counts an_Table_counts cd_Table_counts ct_Table_counts), sl_Table_counts⟩)
    (c_Table_counts : PySem.W.codeIn K cd_Table_counts "Table.counts" = true)
    (k_Table_counts : PySem.W.keepIn K (.ref f_Table_counts) = true)
    (a_Table_left : PySem.W.findIn K (.ref CT) "left" = some (some (.ref p_Table_left)))
    (r1_Table_left : PySem.W.recIn K p_Table_left "property" = some (.ref f_Table_left :: r_Table_left))
    (g_Table_left : PySem.W.specialIn K (.ref p_Table_left) "__get__" = some (some (.builtin "property.__get__")))
    (t_Table_left : PySem.W.takesIn K (.ref p_Table_left) = some true)
    (l_Table_left : K.lookup f_Table_left = some ⟨oc_Table_left, od_Table_left, .func (PySem.W.fnOf "left" "Table.left" (defArgs s_Table_left) (defBody s_Table_left) (defScope s_Table_left) .none kV_Table_left dc_Table_left pm_Table_left an_Table_left cd_Table_left ct_Table_left), sl_Table_left⟩)
    (c_Table_left : PySem.W.codeIn K cd_Table_left "Table.left" = true)
    (k_Table_left : PySem.W.keepIn K (.ref f_Table_left) = true)
    (a_Table_right : PySem.W.findIn K (.ref CT) "right" = some (some (.ref p_Table_right)))
    (r1_Table_right : PySem.W.recIn K p_Table_right "property" = some (.ref f_Table_right :: r_Table_right))
    (g_Table_right : PySem.W.specialIn K (.ref p_Table_right) "__get__" = some (some (.builtin "property.__get__")))
    (t_Table_right : PySem.W.takesIn K (.ref p_Table_right) = some true)
    (l_Table_right : K.lookup f_Table_right = some ⟨oc_Table_right, od_Table_right, .func (PySem.W.fnOf "right" "Table.right" (defArgs s_Table_right) (defBody s_Table_right) (defScope s_Table_right) .none kV_Table_right dc_Table_right pm_Table_right an_Table_right cd_Table_right ct_Table_right), sl_Table_right⟩)
    (c_Table_right : PySem.W.codeIn K cd_Table_right "Table.right" = true)
    (k_Table_right : PySem.W.keepIn K (.ref f_Table_right) = true)
    (a_Table_total : PySem.W.findIn K (.ref CT) "total" = some (some (.ref p_Table_total)))
    (r1_Table_total : PySem.W.recIn K p_Table_total "property" = some (.ref f_Table_total :: r_Table_total))
    (g_Table_total : PySem.W.specialIn K (.ref p_Table_total) "__get__" = some (some (.builtin "property.__get__")))
    (t_Table_total : PySem.W.takesIn K (.ref p_Table_total) = some true)
    (l_Table_total : K.lookup f_Table_total = some ⟨oc_Table_total, od_Table_total, .func (PySem.W.fnOf "total" "Table.total" (defArgs s_Table_total) (defBody s_Table_total) (defScope s_Table_total) .none kV_Table_total dc_Table_total pm_Table_total an_Table_total cd_Table_total ct_Table_total), sl_Table_total⟩)
    (c_Table_total : PySem.W.codeIn K cd_Table_total "Table.total" = true)
    (k_Table_total : PySem.W.keepIn K (.ref f_Table_total) = true)
    (a_Table_init : PySem.W.findIn K (.ref CT) "__init__" = some (some (.ref f_Table_init)))
    (l_Table_init : K.lookup f_Table_init = some ⟨oc_Table_init, od_Table_init, .func (PySem.W.fnOf "__init__" "Table.__init__" (defArgs s_Table_init) (defBody s_Table_init) (defScope s_Table_init) .none kV_Table_init dc_Table_init pm_Table_init an_Table_init cd_Table_init ct_Table_init), sl_Table_init⟩)
    (c_Table_init : PySem.W.codeIn K cd_Table_init "Table.__init__" = true)
    (k_Table_init : PySem.W.keepIn K (.ref f_Table_init) = true)
    (i_Table_init : PySem.W.isFn K (.ref f_Table_init) = true)
    (a_Table_lefts : PySem.W.findIn K (.ref CT) "lefts" = some (some (.ref f_Table_lefts)))
    (l_Table_lefts : K.lookup f_Table_lefts = some ⟨oc_Table_lefts, od_Table_lefts, .func (PySem.W.fnOf "lefts" "Table.lefts" (defArgs s_Table_lefts) (defBody s_Table_lefts) (defScope s_Table_lefts) .none kV_Table_lefts dc_Table_lefts pm_Table_lefts an_Table_lefts cd_Table_lefts ct_Table_lefts), sl_Table_lefts⟩)
    (c_Table_lefts : PySem.W.codeIn K cd_Table_lefts "Table.lefts" = true)
    (k_Table_lefts : PySem.W.keepIn K (.ref f_Table_lefts) = true)
    (i_Table_lefts : PySem.W.isFn K (.ref f_Table_lefts) = true)
    (a_Table_rights : PySem.W.findIn K (.ref CT) "rights" = some (some (.ref f_Table_rights)))
    (l_Table_rights : K.lookup f_Table_rights = some ⟨oc_Table_rights, od_Table_rights, .func (PySem.W.fnOf "rights" "Table.rights" (defArgs s_Table_rights) (defBody s_Table_rights) (defScope s_Table_rights) .none kV_Table_rights dc_Table_rights pm_Table_rights an_Table_rights cd_Table_rights ct_Table_rights), sl_Table_rights⟩)
    (c_Table_rights : PySem.W.codeIn K cd_Table_rights "Table.rights" = true)
    (k_Table_rights : PySem.W.keepIn K (.ref f_Table_rights) = true)
    (i_Table_rights : PySem.W.isFn K (.ref f_Table_rights) = true)
    (a_Table_turned : PySem.W.findIn K (.ref CT) "turned" = some (some (.ref f_Table_turned)))
    (l_Table_turned : K.lookup f_Table_turned = some ⟨oc_Table_turned, od_Table_turned, .func (PySem.W.fnOf "turned" "Table.turned" (defArgs s_Table_turned) (defBody s_Table_turned) (defScope s_Table_turned) .none kV_Table_turned dc_Table_turned pm_Table_turned an_Table_turned cd_Table_turned ct_Table_turned), sl_Table_turned⟩)
    (c_Table_turned : PySem.W.codeIn K cd_Table_turned "Table.turned" = true)
    (k_Table_turned : PySem.W.keepIn K (.ref f_Table_turned) = true)
    (i_Table_turned : PySem.W.isFn K (.ref f_Table_turned) = true)
    (a_Table_count : PySem.W.findIn K (.ref CT) "count" = some (some (.ref f_Table_count)))
    (l_Table_count : K.lookup f_Table_count = some ⟨oc_Table_count, od_Table_count, .func (PySem.W.fnOf "count" "Table.count" (defArgs s_Table_count) (defBody s_Table_count) (defScope s_Table_count) .none kV_Table_count dc_Table_count pm_Table_count an_Table_count cd_Table_count ct_Table_count), sl_Table_count⟩)
    (c_Table_count : PySem.W.codeIn K cd_Table_count "Table.count" = true)
    (k_Table_count : PySem.W.keepIn K (.ref f_Table_count) = true)
    (i_Table_count : PySem.W.isFn K (.ref f_Table_count) = true)
    (a_Table_contains : PySem.W.findIn K (.ref CT) "__contains__" = some (some (.ref f_Table_contains)))
    (l_Table_contains : K.lookup f_Table_contains = some ⟨oc_Table_contains, od_Table_contains, .func (PySem.W.fnOf "__contains__" "Table.__contains__" (defArgs s_Table_contains) (defBody s_Table_contains) (defScope s_Table_contains) .none kV_Table_contains dc_Table_contains pm_Table_contains an_Table_contains cd_Table_contains ct_Table_contains), sl_Table_contains⟩)
    (c_Table_contains : PySem.W.codeIn K cd_Table_contains "Table.__contains__" = true)
    (k_Table_contains : PySem.W.keepIn K (.ref f_Table_contains) = true)
    (i_Table_contains : PySem.W.isFn K (.ref f_Table_contains) = true)
    (a_Table_eq : PySem.W.findIn K (.ref CT) "__eq__" = some (some (.ref f_Table_eq)))
    (l_Table_eq : K.lookup f_Table_eq = some ⟨oc_Table_eq, od_Table_eq, .func (PySem.W.fnOf "__eq__" "Table.__eq__" (defArgs s_Table_eq) (defBody s_Table_eq) (defScope s_Table_eq) .none kV_Table_eq dc_Table_eq pm_Table_eq an_Table_eq cd_Table_eq ct_Table_eq), sl_Table_eq⟩)
    (c_Table_eq : PySem.W.codeIn K cd_Table_eq "Table.__eq__" = true)
    (k_Table_eq : PySem.W.keepIn K (.ref f_Table_eq) = true)
    (i_Table_eq : PySem.W.isFn K (.ref f_Table_eq) = true)
    (a_Question_init : PySem.W.findIn K (.ref CQ) "__init__" = some (some (.ref f_Question_init)))
    (l_Question_init : K.lookup f_Question_init = some ⟨oc_Question_init, od_Question_init, .func (PySem.W.fnOf "__init__" "Question.__init__" (defArgs s_Question_init) (defBody s_Question_init) (defScope s_Question_init) .none kV_Question_init dc_Question_init pm_Question_init an_Question_init cd_Question_init ct_Question_init), sl_Question_init⟩)
    (c_Question_init : PySem.W.codeIn K cd_Question_init "Question.__init__" = true)
    (k_Question_init : PySem.W.keepIn K (.ref f_Question_init) = true)
    (i_Question_init : PySem.W.isFn K (.ref f_Question_init) = true)
    (a_Question_eq : PySem.W.findIn K (.ref CQ) "__eq__" = some (some (.ref f_Question_eq)))
    (l_Question_eq : K.lookup f_Question_eq = some ⟨oc_Question_eq, od_Question_eq, .func (PySem.W.fnOf "__eq__" "Question.__eq__" (defArgs s_Question_eq) (defBody s_Question_eq) (defScope s_Question_eq) .none kV_Question_eq dc_Question_eq pm_Question_eq an_Question_eq cd_Question_eq ct_Question_eq), sl_Question_eq⟩)
    (c_Question_eq : PySem.W.codeIn K cd_Question_eq "Question.__eq__" = true)
    (k_Question_eq : PySem.W.keepIn K (.ref f_Question_eq) = true)
    (i_Question_eq : PySem.W.isFn K (.ref f_Question_eq) = true)
    (a_law : PySem.W.nsIn K mainGlobals "law" = some (some (.ref f_law)))
    (l_law : K.lookup f_law = some ⟨oc_law, od_law, .func (PySem.W.fnOf "law" "law" (defArgs s_law) (defBody s_law) (defScope s_law) .none kV_law dc_law pm_law an_law cd_law ct_law), sl_law⟩)
    (c_law : PySem.W.codeIn K cd_law "law" = true)
    (k_law : PySem.W.keepIn K (.ref f_law) = true)
    (pgT : PySem.W.plainGet K CT Str.empty = true)
    (hdT : PySem.W.hasDictIn K CT = true)
    (poT : PySem.W.plainOver K CT = true)
    (saT : PySem.W.findIn K (.ref CT) "__setattr__" = some (some (.builtin "object.__setattr__")))
    (mkT : PySem.W.makesIn K CT = true)
    (kcT : PySem.W.keepIn K (.ref CT) = true)
    (nfT : PySem.W.findIn K (.ref CT) "_counts" = some none)
    (haT : PySem.W.findIn K (.ref CT) "__class__" = some (some (.builtin "object.__class__")))
    (hmT : PySem.W.mroIn K CT (.type "object") = some true)
    (tyT : PySem.W.typeIn K (.ref CT) = some (.type "type"))
    (pgQ : PySem.W.plainGet K CQ Str.empty = true)
    (hdQ : PySem.W.hasDictIn K CQ = true)
    (poQ : PySem.W.plainOver K CQ = true)
    (saQ : PySem.W.findIn K (.ref CQ) "__setattr__" = some (some (.builtin "object.__setattr__")))
    (mkQ : PySem.W.makesIn K CQ = true)
    (kcQ : PySem.W.keepIn K (.ref CQ) = true)
    (nfQ : PySem.W.findIn K (.ref CQ) "_weights" = some none)
    (haQ : PySem.W.findIn K (.ref CQ) "__class__" = some (some (.builtin "object.__class__")))
    (hmQ : PySem.W.mroIn K CQ (.type "object") = some true)
    (tyQ : PySem.W.typeIn K (.ref CQ) = some (.type "type"))
    (su_NoneType : PySem.W.subIn K (.type "NoneType") (.ref CT) = some false)
    (su_int : PySem.W.subIn K (.type "int") (.ref CT) = some false)
    (su_tuple : PySem.W.subIn K (.type "tuple") (.ref CT) = some false)
    (su_list : PySem.W.subIn K (.type "list") (.ref CT) = some false)
    (su_Q : PySem.W.subIn K (.ref CQ) (.ref CT) = some false)
    (su_T : PySem.W.subIn K (.ref CT) (.ref CQ) = some false)
    (nQT : (Value.ref CQ == Value.ref CT) = false)
    (nTQ : (Value.ref CT == Value.ref CQ) = false)
    (hn : PySem.W.specialIn K (.builtin "object.__class__") "__get__" = some (some (.builtin "getset_descriptor.__get__")))
    (htk : PySem.W.takesIn K (.builtin "object.__class__") = some true)
    (xL : K.lookup CT = some (excClassObj nmT qT CT NT bsT [.type "object"] hdcT snT subT abT colT ddT k0 k1 k2 k3 k5 nw))
    (nL : K.lookup NT = some ⟨ocN, odN, .dict es nN, slN⟩)
    (sk : strKeysB es = true)
    (n1 : PySem.W.nsIn K NT "__eq__" = some (some (.ref f_Table_eq)))
    (n2 : PySem.W.nsIn K NT "__ne__" = some none)
    (oq : oc_Table_eq = .type "function") :
    ∃ fd : FuncData, (∀ (s : Shared) (v : Value), BindsTo s fd ⟨[v], []⟩ [("_law_script", v)]) ∧ ∀ base : Heap, K.In base → base.Ns mainGlobals mg → FnOk l.prog w K mg base CX0 10 fa fd ["_law_script"] (spLaw K) := by
  have e := hfa.symm.trans (PySem.W.mg_of X G a_law)
  cases e
  have F_is_whole := fun_mk (st := s_is_whole) l_is_whole c_is_whole k_is_whole
  have b_is_whole := F_is_whole.binds (ps := ["value"]) fun _ _ _ _ _ _ us hl => match us, hl with | [_], _ => rfl
  have D_is_whole : Df K mg "is_whole" s_is_whole ["value"] _ _ := ⟨F_is_whole, b_is_whole, PySem.W.mg_of X G a_is_whole⟩
  have F_is_below := fun_mk (st := s_is_below) l_is_below c_is_below k_is_below
  have b_is_below := F_is_below.binds (ps := ["size", "value"]) fun _ _ _ _ _ _ us hl => match us, hl with | [_, _], _ => rfl
  have D_is_below : Df K mg "is_below" s_is_below ["size", "value"] _ _ := ⟨F_is_below, b_is_below, PySem.W.mg_of X G a_is_below⟩
  have F_check_below := fun_mk (st := s_check_below) l_check_below c_check_below k_check_below
  have b_check_below := F_check_below.binds (ps := ["size", "value"]) fun _ _ _ _ _ _ us hl => match us, hl with | [_, _], _ => rfl
  have D_check_below : Df K mg "check_below" s_check_below ["size", "value"] _ _ := ⟨F_check_below, b_check_below, PySem.W.mg_of X G a_check_below⟩
  have F_is_line := fun_mk (st := s_is_line) l_is_line c_is_line k_is_line
  have b_is_line := F_is_line.binds (ps := ["value"]) fun _ _ _ _ _ _ us hl => match us, hl with | [_], _ => rfl
  have D_is_line : Df K mg "is_line" s_is_line ["value"] _ _ := ⟨F_is_line, b_is_line, PySem.W.mg_of X G a_is_line⟩
  have F_is_grid := fun_mk (st := s_is_grid) l_is_grid c_is_grid k_is_grid
  have b_is_grid := F_is_grid.binds (ps := ["value"]) fun _ _ _ _ _ _ us hl => match us, hl with | [_], _ => rfl
  have D_is_grid : Df K mg "is_grid" s_is_grid ["value"] _ _ := ⟨F_is_grid, b_is_grid, PySem.W.mg_of X G a_is_grid⟩
  have F_grid_turned := fun_mk (st := s_grid_turned) l_grid_turned c_grid_turned k_grid_turned
  have b_grid_turned := F_grid_turned.binds (ps := ["grid"]) fun _ _ _ _ _ _ us hl => match us, hl with | [_], _ => rfl
  have D_grid_turned : Df K mg "grid_turned" s_grid_turned ["grid"] _ _ := ⟨F_grid_turned, b_grid_turned, PySem.W.mg_of X G a_grid_turned⟩
  have F_is_counts := fun_mk (st := s_is_counts) l_is_counts c_is_counts k_is_counts
  have b_is_counts := F_is_counts.binds (ps := ["value"]) fun _ _ _ _ _ _ us hl => match us, hl with | [_], _ => rfl
  have D_is_counts : Df K mg "is_counts" s_is_counts ["value"] _ _ := ⟨F_is_counts, b_is_counts, PySem.W.mg_of X G a_is_counts⟩
  have F_is_row := fun_mk (st := s_is_row) l_is_row c_is_row k_is_row
  have b_is_row := F_is_row.binds (ps := ["left", "right", "value"]) fun _ _ _ _ _ _ us hl => match us, hl with | [_, _, _], _ => rfl
  have D_is_row : Df K mg "is_row" s_is_row ["left", "right", "value"] _ _ := ⟨F_is_row, b_is_row, PySem.W.mg_of X G a_is_row⟩
  have F_law_numbers := fun_mk (st := s_law_numbers) l_law_numbers c_law_numbers k_law_numbers
  have b_law_numbers := F_law_numbers.binds (ps := ["_law_cell", "_law_salt", "_law_sizes"]) fun _ _ _ _ _ _ us hl => match us, hl with | [_, _, _], _ => rfl
  have D_law_numbers : Df K mg "_law_numbers" s_law_numbers ["_law_cell", "_law_salt", "_law_sizes"] _ _ := ⟨F_law_numbers, b_law_numbers, PySem.W.mg_of X G a_law_numbers⟩
  have F_law_draw := fun_mk (st := s_law_draw) l_law_draw c_law_draw k_law_draw
  have b_law_draw := F_law_draw.binds (ps := ["_law_state", "_law_many"]) fun _ _ _ _ _ _ us hl => match us, hl with | [_, _], _ => rfl
  have D_law_draw : Df K mg "_law_draw" s_law_draw ["_law_state", "_law_many"] _ _ := ⟨F_law_draw, b_law_draw, PySem.W.mg_of X G a_law_draw⟩
  have F_law_grid := fun_mk (st := s_law_grid) l_law_grid c_law_grid k_law_grid
  have b_law_grid := F_law_grid.binds (ps := ["_law_state", "_law_left", "_law_right_here", "_law_most"]) fun _ _ _ _ _ _ us hl => match us, hl with | [_, _, _, _], _ => rfl
  have D_law_grid : Df K mg "_law_grid" s_law_grid ["_law_state", "_law_left", "_law_right_here", "_law_most"] _ _ := ⟨F_law_grid, b_law_grid, PySem.W.mg_of X G a_law_grid⟩
  have F_law_right := fun_mk (st := s_law_right) l_law_right c_law_right k_law_right
  have b_law_right := F_law_right.binds (ps := ["_law_table", "_law_counts"]) fun _ _ _ _ _ _ us hl => match us, hl with | [_, _], _ => rfl
  have D_law_right : Df K mg "_law_right" s_law_right ["_law_table", "_law_counts"] _ _ := ⟨F_law_right, b_law_right, PySem.W.mg_of X G a_law_right⟩
  have F_Table_counts := fun_mk (st := s_Table_counts) l_Table_counts c_Table_counts k_Table_counts
  have b_Table_counts := F_Table_counts.binds (ps := ["self"]) fun _ _ _ _ _ _ us hl => match us, hl with | [_], _ => rfl
  have P_Table_counts : Pf K CT "counts" "Table.counts" s_Table_counts _ _ _ := ⟨F_Table_counts, b_Table_counts, ⟨a_Table_counts, g_Table_counts, t_Table_counts, ⟨_, r1_Table_counts⟩⟩⟩
  have F_Table_left := fun_mk (st := s_Table_left) l_Table_left c_Table_left k_Table_left
  have b_Table_left := F_Table_left.binds (ps := ["self"]) fun _ _ _ _ _ _ us hl => match us, hl with | [_], _ => rfl
  have P_Table_left : Pf K CT "left" "Table.left" s_Table_left _ _ _ := ⟨F_Table_left, b_Table_left, ⟨a_Table_left, g_Table_left, t_Table_left, ⟨_, r1_Table_left⟩⟩⟩
  have F_Table_right := fun_mk (st := s_Table_right) l_Table_right c_Table_right k_Table_right
  have b_Table_right := F_Table_right.binds (ps := ["self"]) fun _ _ _ _ _ _ us hl => match us, hl with | [_], _ => rfl
  have P_Table_right : Pf K CT "right" "Table.right" s_Table_right _ _ _ := ⟨F_Table_right, b_Table_right, ⟨a_Table_right, g_Table_right, t_Table_right, ⟨_, r1_Table_right⟩⟩⟩
  have F_Table_total := fun_mk (st := s_Table_total) l_Table_total c_Table_total k_Table_total
  have b_Table_total := F_Table_total.binds (ps := ["self"]) fun _ _ _ _ _ _ us hl => match us, hl with | [_], _ => rfl
  have P_Table_total : Pf K CT "total" "Table.total" s_Table_total _ _ _ := ⟨F_Table_total, b_Table_total, ⟨a_Table_total, g_Table_total, t_Table_total, ⟨_, r1_Table_total⟩⟩⟩
  have F_Table_init := fun_mk (st := s_Table_init) l_Table_init c_Table_init k_Table_init
  have b_Table_init := F_Table_init.binds (ps := ["self", "counts"]) fun _ _ _ _ _ _ us hl => match us, hl with | [_, _], _ => rfl
  have M_Table_init : Mf K "__init__" "Table.__init__" s_Table_init ["self", "counts"] _ _ := ⟨F_Table_init, b_Table_init⟩
  have W_Table_init : Meth K CT "__init__" f_Table_init := ⟨a_Table_init, i_Table_init, k_Table_init⟩
  have F_Table_lefts := fun_mk (st := s_Table_lefts) l_Table_lefts c_Table_lefts k_Table_lefts
  have b_Table_lefts := F_Table_lefts.binds (ps := ["self"]) fun _ _ _ _ _ _ us hl => match us, hl with | [_], _ => rfl
  have M_Table_lefts : Mf K "lefts" "Table.lefts" s_Table_lefts ["self"] _ _ := ⟨F_Table_lefts, b_Table_lefts⟩
  have W_Table_lefts : Meth K CT "lefts" f_Table_lefts := ⟨a_Table_lefts, i_Table_lefts, k_Table_lefts⟩
  have F_Table_rights := fun_mk (st := s_Table_rights) l_Table_rights c_Table_rights k_Table_rights
  have b_Table_rights := F_Table_rights.binds (ps := ["self"]) fun _ _ _ _ _ _ us hl => match us, hl with | [_], _ => rfl
  have M_Table_rights : Mf K "rights" "Table.rights" s_Table_rights ["self"] _ _ := ⟨F_Table_rights, b_Table_rights⟩
  have W_Table_rights : Meth K CT "rights" f_Table_rights := ⟨a_Table_rights, i_Table_rights, k_Table_rights⟩
  have F_Table_turned := fun_mk (st := s_Table_turned) l_Table_turned c_Table_turned k_Table_turned
  have b_Table_turned := F_Table_turned.binds (ps := ["self"]) fun _ _ _ _ _ _ us hl => match us, hl with | [_], _ => rfl
  have M_Table_turned : Mf K "turned" "Table.turned" s_Table_turned ["self"] _ _ := ⟨F_Table_turned, b_Table_turned⟩
  have W_Table_turned : Meth K CT "turned" f_Table_turned := ⟨a_Table_turned, i_Table_turned, k_Table_turned⟩
  have F_Table_count := fun_mk (st := s_Table_count) l_Table_count c_Table_count k_Table_count
  have b_Table_count := F_Table_count.binds (ps := ["self", "left", "right"]) fun _ _ _ _ _ _ us hl => match us, hl with | [_, _, _], _ => rfl
  have M_Table_count : Mf K "count" "Table.count" s_Table_count ["self", "left", "right"] _ _ := ⟨F_Table_count, b_Table_count⟩
  have W_Table_count : Meth K CT "count" f_Table_count := ⟨a_Table_count, i_Table_count, k_Table_count⟩
  have F_Table_contains := fun_mk (st := s_Table_contains) l_Table_contains c_Table_contains k_Table_contains
  have b_Table_contains := F_Table_contains.binds (ps := ["self", "row"]) fun _ _ _ _ _ _ us hl => match us, hl with | [_, _], _ => rfl
  have M_Table_contains : Mf K "__contains__" "Table.__contains__" s_Table_contains ["self", "row"] _ _ := ⟨F_Table_contains, b_Table_contains⟩
  have W_Table_contains : Meth K CT "__contains__" f_Table_contains := ⟨a_Table_contains, i_Table_contains, k_Table_contains⟩
  have F_Table_eq := fun_mk (st := s_Table_eq) l_Table_eq c_Table_eq k_Table_eq
  have b_Table_eq := F_Table_eq.binds (ps := ["self", "other"]) fun _ _ _ _ _ _ us hl => match us, hl with | [_, _], _ => rfl
  have M_Table_eq : Mf K "__eq__" "Table.__eq__" s_Table_eq ["self", "other"] _ _ := ⟨F_Table_eq, b_Table_eq⟩
  have W_Table_eq : Meth K CT "__eq__" f_Table_eq := ⟨a_Table_eq, i_Table_eq, k_Table_eq⟩
  have F_Question_init := fun_mk (st := s_Question_init) l_Question_init c_Question_init k_Question_init
  have b_Question_init := F_Question_init.binds (ps := ["self", "weights"]) fun _ _ _ _ _ _ us hl => match us, hl with | [_, _], _ => rfl
  have M_Question_init : Mf K "__init__" "Question.__init__" s_Question_init ["self", "weights"] _ _ := ⟨F_Question_init, b_Question_init⟩
  have W_Question_init : Meth K CQ "__init__" f_Question_init := ⟨a_Question_init, i_Question_init, k_Question_init⟩
  have F_Question_eq := fun_mk (st := s_Question_eq) l_Question_eq c_Question_eq k_Question_eq
  have b_Question_eq := F_Question_eq.binds (ps := ["self", "other"]) fun _ _ _ _ _ _ us hl => match us, hl with | [_, _], _ => rfl
  have M_Question_eq : Mf K "__eq__" "Question.__eq__" s_Question_eq ["self", "other"] _ _ := ⟨F_Question_eq, b_Question_eq⟩
  have W_Question_eq : Meth K CQ "__eq__" f_Question_eq := ⟨a_Question_eq, i_Question_eq, k_Question_eq⟩
  have F_law := fun_mk (st := s_law) l_law c_law k_law
  have b_law := F_law.binds (ps := ["_law_script"]) fun _ _ _ _ _ _ us hl => match us, hl with | [_], _ => rfl
  have BTable : Kl K mg "Table" CT f_Table_init "_counts" := { cl := ⟨pgT, hdT, poT, saT⟩, nF := nfT, gC := PySem.W.mg_of X G aT, mkc := ⟨mkT, a_Table_init, i_Table_init, kcT⟩, ha := haT, hn := hn, htk := htk, hm := hmT }
  have BQuestion : Kl K mg "Question" CQ f_Question_init "_weights" := { cl := ⟨pgQ, hdQ, poQ, saQ⟩, nF := nfQ, gC := PySem.W.mg_of X G aQ, mkc := ⟨mkQ, a_Question_init, i_Question_init, kcQ⟩, ha := haQ, hn := hn, htk := htk, hm := hmQ }
  have T : Txt mg tk := { n_isinstance := PySem.W.mg_none_of X G z_isinstance, n_int := PySem.W.mg_none_of X G z_int, n_bool := PySem.W.mg_none_of X G z_bool, n_tuple := PySem.W.mg_none_of X G z_tuple, n_len := PySem.W.mg_none_of X G z_len, n_all := PySem.W.mg_none_of X G z_all, n_sum := PySem.W.mg_none_of X G z_sum, n_zip := PySem.W.mg_none_of X G z_zip, n_range := PySem.W.mg_none_of X G z_range, n_enumerate := PySem.W.mg_none_of X G z_enumerate, n_max := PySem.W.mg_none_of X G z_max, c_MOST_VALUES := PySem.W.mg_of X G z_MV }
  have NE : NeTxt K CT f_Table_eq := ⟨nmT, qT, NT, bsT, hdcT, snT, subT, abT, colT, ddT, k0, k1, k2, k3, k5, nw, ocN, odN, es, nN, slN, _, xL, nL, strKeys_of sk, nsFind_of nL n1, nsFind_of nL n2, l_Table_eq, oq⟩
  have O : Odds K CT CQ := ⟨⟨hdT, tyT⟩, ⟨su_NoneType, rfl⟩, ⟨su_int, rfl⟩, ⟨su_tuple, rfl⟩, ⟨su_list, rfl⟩, ⟨su_Q, nQT⟩⟩
  refine ⟨PySem.W.fnOf "law" "law" (defArgs s_law) (defBody s_law) (defScope s_law) .none kV_law dc_law pm_law an_law cd_law ct_law, fun s v => .of_eq rfl, fun base _ _ => ?_⟩
  have G1 := fun k => ok_whole (P := l.prog) (w := w) (base := base) (k := k) T D_is_whole
  have G2 := fun k => ok_below (k := k) D_is_whole (G1 k) T D_is_below
  have G3 := ok_check_below (k := 0) D_is_below (G2 0) T D_check_below
  have G4 := fun k => ok_line (k := k) D_is_whole (G1 k) T D_is_line
  have G5 := fun k => ok_grid (k := k) D_is_line (G4 k) T D_is_grid
  have G6 := ok_counts (k := 0) D_is_grid (G5 0) T D_is_counts
  have GT := ok_Table_init (k := 0) BTable T D_is_counts G6 M_Table_init
  have GQ := ok_Question_init (k := 0) BQuestion T D_is_grid (G5 1) M_Question_init
  have gt := fun k => ok_turned (P := l.prog) (w := w) (base := base) (k := k) T D_grid_turned
  have p1 := ok_Table_counts (P := l.prog) (w := w) (base := base) (k := 0) BTable T P_Table_counts
  have p2 := ok_Table_left (P := l.prog) (w := w) (base := base) (k := 0) BTable T P_Table_left
  have p3 := ok_Table_right (P := l.prog) (w := w) (base := base) (k := 0) BTable T P_Table_right
  have p4 := ok_total (P := l.prog) (w := w) (base := base) (k := 0) BTable T P_Table_total
  have m1 := ok_lefts (P := l.prog) (w := w) (base := base) (k := 0) BTable T M_Table_lefts
  have m2 := ok_rights (k := 0) BTable T D_grid_turned (gt 0) M_Table_rights
  have G7 := ok_is_row (k := 0) T D_is_below (G2 0) D_is_row
  have m3 := ok_tturned (k := 0) BTable T D_grid_turned (gt 4) M_Table_init GT M_Table_turned
  have m4 := ok_count (k := 0) BTable T D_check_below G3 P_Table_left p2 P_Table_right p3 M_Table_count
  have m5 := ok_has (k := 0) BTable T D_is_row G7 P_Table_left p2 P_Table_right p3 M_Table_contains
  have m6 := ok_Table_eq (P := l.prog) (w := w) (base := base) (k := 0) BTable T M_Table_eq
  have m7 := ok_Question_eq (P := l.prog) (w := w) (base := base) (k := 0) BQuestion T M_Question_eq
  have g1 := ok_num (P := l.prog) (w := w) (base := base) (k := 0) T D_law_numbers
  have g2 := ok_draw (P := l.prog) (w := w) (base := base) (k := 0) T D_law_draw
  have g3 := ok_gc (k := 0) D_law_draw g2 T D_law_grid
  have g4 := ok_law_right (k := 0) BTable T P_Table_counts p1 P_Table_left p2 P_Table_right p3 P_Table_total p4 M_Table_lefts W_Table_lefts m1 M_Table_rights W_Table_rights m2 M_Table_count W_Table_count m4 M_Table_contains W_Table_contains m5 M_Table_turned W_Table_turned m3 M_Table_eq W_Table_eq m6 M_Table_init GT D_law_right
  exact ok_law (k := 0) BTable BQuestion T O ⟨hdQ, tyQ⟩ ⟨su_T, nTQ⟩ NE D_law_numbers g1 D_law_draw g2 D_law_grid g3 D_law_right g4 P_Table_counts p1 M_Table_eq W_Table_eq m6 M_Question_eq W_Question_eq m7 M_Table_turned W_Table_turned m3 M_Table_init GT M_Question_init GQ ⟨F_law, b_law, hfa⟩
theorem walk {l : PySem.W.OpenLaw} {q : Program} {loose : List Str} {XP : (Str → Option Value) → Heap → Prop} {YP : World → Heap → Prop} {d : DefRec} {K : Params → PySem.W.Frag} (hn : l.most = some 63) (hdf : d.params.defaults = [])
    (hY : ∀ (w : World) (h : Heap), YP w h → (K w.params).In h)
    (F : ∀ (w : World) (mg : Str → Option Value) (fa : Addr) (h : Heap), (K w.params).In h → h.Ns mainGlobals mg → mg d.name = some (.ref fa) →
      ∃ fd : FuncData, (∀ (s : Shared) (u : Value), BindsTo s fd ⟨[u], []⟩ [("_law_script", u)]) ∧ ∀ base : Heap, (K w.params).In base → base.Ns mainGlobals mg → FnOk l.prog w (K w.params) mg base CX0 10 fa fd ["_law_script"] (spLaw (K w.params))) :
    PySem.W.WalkO q loose XP YP l.row.toRowW d [] (fun f vs => PySem.call f vs) :=
  L2.walk_ofK (n := 63) (k := 10) (x := "_law_script") (CX := CX0) (sp := spLaw) hn (by decide) hdf ⟨rfl, by decide, by decide⟩ hY F (fun K H a ns hl _ hS => ⟨a, ns, rfl, hS, hl, fun _ => rfl⟩) fun _ _ _ _ z => z
end K02
open PySem PySem.W PyProof.Rows
set_option maxRecDepth 100000 in
set_option maxHeartbeats 0 in
theorem PySem.Challenge.cw_surecounts_k02_tables_holds : PySem.Challenge.rw_surecounts_k02_tables.Holds := by
  w_on; o_law; k_head; (case hw => w_witness2)
  k_fill
  refine K02.walk (l := PySem.Challenge.rw_surecounts_k02_tables) rfl rfl (fun w h Y => PySem.W.kIn_of Y) ?F
  case F =>
    intro w mg fa h KX G hmg
    refine' K02.all_mk KX G hmg ?aT ?aQ ?z_isinstance ?z_int ?z_bool ?z_tuple ?z_len ?z_all ?z_sum ?z_zip ?z_range ?z_enumerate ?z_max ?z_MV ?a_is_whole ?l_is_whole ?c_is_whole ?k_is_whole ?a_is_below ?l_is_below ?c_is_below ?k_is_below ?a_check_below ?l_check_below ?c_check_below ?k_check_below ?a_is_line ?l_is_line ?c_is_line ?k_is_line ?a_is_grid ?l_is_grid ?c_is_grid ?k_is_grid ?a_grid_turned ?l_grid_turned ?c_grid_turned ?k_grid_turned ?a_is_counts ?l_is_counts ?c_is_counts ?k_is_counts ?a_is_row ?l_is_row ?c_is_row ?k_is_row ?a_law_numbers ?l_law_numbers ?c_law_numbers ?k_law_numbers ?a_law_draw ?l_law_draw ?c_law_draw ?k_law_draw ?a_law_grid ?l_law_grid ?c_law_grid ?k_law_grid ?a_law_right ?l_law_right ?c_law_right ?k_law_right ?a_Table_counts ?r1_Table_counts ?g_Table_counts ?t_Table_counts ?l_Table_counts ?c_Table_counts ?k_Table_counts ?a_Table_left ?r1_Table_left ?g_Table_left ?t_Table_left ?l_Table_left ?c_Table_left ?k_Table_left ?a_Table_right ?r1_Table_right ?g_Table_right ?t_Table_right ?l_Table_right ?c_Table_right ?k_Table_right ?a_Table_total ?r1_Table_total ?g_Table_total ?t_Table_total ?l_Table_total ?c_Table_total ?k_Table_total ?a_Table_init ?l_Table_init ?c_Table_init ?k_Table_init ?i_Table_init ?a_Table_lefts ?l_Table_lefts ?c_Table_lefts ?k_Table_lefts ?i_Table_lefts ?a_Table_rights ?l_Table_rights ?c_Table_rights ?k_Table_rights ?i_Table_rights ?a_Table_turned ?l_Table_turned ?c_Table_turned ?k_Table_turned ?i_Table_turned ?a_Table_count ?l_Table_count ?c_Table_count ?k_Table_count ?i_Table_count ?a_Table_contains ?l_Table_contains ?c_Table_contains ?k_Table_contains ?i_Table_contains ?a_Table_eq ?l_Table_eq ?c_Table_eq ?k_Table_eq ?i_Table_eq ?a_Question_init ?l_Question_init ?c_Question_init ?k_Question_init ?i_Question_init ?a_Question_eq ?l_Question_eq ?c_Question_eq ?k_Question_eq ?i_Question_eq ?a_law ?l_law ?c_law ?k_law ?pgT ?hdT ?poT ?saT ?mkT ?kcT ?nfT ?haT ?hmT ?tyT ?pgQ ?hdQ ?poQ ?saQ ?mkQ ?kcQ ?nfQ ?haQ ?hmQ ?tyQ ?su_NoneType ?su_int ?su_tuple ?su_list ?su_Q ?su_T ?nQT ?nTQ ?hn ?htk ?xL ?nL ?sk ?n1 ?n2 ?oq
    (case aT => k_is)
    (case aQ => k_is)
    (case z_isinstance => k_is)
    (case z_int => k_is)
    (case z_bool => k_is)
    (case z_tuple => k_is)
    (case z_len => k_is)
    (case z_all => k_is)
    (case z_sum => k_is)
    (case z_zip => k_is)
    (case z_range => k_is)
    (case z_enumerate => k_is)
    (case z_max => k_is)
    (case z_MV => k_is)
    (case a_is_whole => k_is)
    (case l_is_whole => k_is)
    (case c_is_whole => k_is)
    (case k_is_whole => k_is)
    (case a_is_below => k_is)
    (case l_is_below => k_is)
    (case c_is_below => k_is)
    (case k_is_below => k_is)
    (case a_check_below => k_is)
    (case l_check_below => k_is)
    (case c_check_below => k_is)
    (case k_check_below => k_is)
    (case a_is_line => k_is)
    (case l_is_line => k_is)
    (case c_is_line => k_is)
    (case k_is_line => k_is)
    (case a_is_grid => k_is)
    (case l_is_grid => k_is)
    (case c_is_grid => k_is)
    (case k_is_grid => k_is)
    (case a_grid_turned => k_is)
    (case l_grid_turned => k_is)
    (case c_grid_turned => k_is)
    (case k_grid_turned => k_is)
    (case a_is_counts => k_is)
    (case l_is_counts => k_is)
    (case c_is_counts => k_is)
    (case k_is_counts => k_is)
    (case a_is_row => k_is)
    (case l_is_row => k_is)
    (case c_is_row => k_is)
    (case k_is_row => k_is)
    (case a_law_numbers => k_is)
    (case l_law_numbers => k_is)
    (case c_law_numbers => k_is)
    (case k_law_numbers => k_is)
    (case a_law_draw => k_is)
    (case l_law_draw => k_is)
    (case c_law_draw => k_is)
    (case k_law_draw => k_is)
    (case a_law_grid => k_is)
    (case l_law_grid => k_is)
    (case c_law_grid => k_is)
    (case k_law_grid => k_is)
    (case a_law_right => k_is)
    (case l_law_right => k_is)
    (case c_law_right => k_is)
    (case k_law_right => k_is)
    (case a_Table_counts => k_is)
    (case r1_Table_counts => k_is)
    (case g_Table_counts => k_is)
    (case t_Table_counts => k_is)
    (case l_Table_counts => k_is)
    (case c_Table_counts => k_is)
    (case k_Table_counts => k_is)
    (case a_Table_left => k_is)
    (case r1_Table_left => k_is)
    (case g_Table_left => k_is)
    (case t_Table_left => k_is)
    (case l_Table_left => k_is)
    (case c_Table_left => k_is)
    (case k_Table_left => k_is)
    (case a_Table_right => k_is)
    (case r1_Table_right => k_is)
    (case g_Table_right => k_is)
    (case t_Table_right => k_is)
    (case l_Table_right => k_is)
    (case c_Table_right => k_is)
    (case k_Table_right => k_is)
    (case a_Table_total => k_is)
    (case r1_Table_total => k_is)
    (case g_Table_total => k_is)
    (case t_Table_total => k_is)
    (case l_Table_total => k_is)
    (case c_Table_total => k_is)
    (case k_Table_total => k_is)
    (case a_Table_init => k_is)
    (case l_Table_init => k_is)
    (case c_Table_init => k_is)
    (case k_Table_init => k_is)
    (case i_Table_init => k_is)
    (case a_Table_lefts => k_is)
    (case l_Table_lefts => k_is)
    (case c_Table_lefts => k_is)
    (case k_Table_lefts => k_is)
    (case i_Table_lefts => k_is)
    (case a_Table_rights => k_is)
    (case l_Table_rights => k_is)
    (case c_Table_rights => k_is)
    (case k_Table_rights => k_is)
    (case i_Table_rights => k_is)
    (case a_Table_turned => k_is)
    (case l_Table_turned => k_is)
    (case c_Table_turned => k_is)
    (case k_Table_turned => k_is)
    (case i_Table_turned => k_is)
    (case a_Table_count => k_is)
    (case l_Table_count => k_is)
    (case c_Table_count => k_is)
    (case k_Table_count => k_is)
    (case i_Table_count => k_is)
    (case a_Table_contains => k_is)
    (case l_Table_contains => k_is)
    (case c_Table_contains => k_is)
    (case k_Table_contains => k_is)
    (case i_Table_contains => k_is)
    (case a_Table_eq => k_is)
    (case l_Table_eq => k_is)
    (case c_Table_eq => k_is)
    (case k_Table_eq => k_is)
    (case i_Table_eq => k_is)
    (case a_Question_init => k_is)
    (case l_Question_init => k_is)
    (case c_Question_init => k_is)
    (case k_Question_init => k_is)
    (case i_Question_init => k_is)
    (case a_Question_eq => k_is)
    (case l_Question_eq => k_is)
    (case c_Question_eq => k_is)
    (case k_Question_eq => k_is)
    (case i_Question_eq => k_is)
    (case a_law => k_is)
    (case l_law => k_is)
    (case c_law => k_is)
    (case k_law => k_is)
    (case pgT => k_is)
    (case hdT => k_is)
    (case poT => k_is)
    (case saT => k_is)
    (case mkT => k_is)
    (case kcT => k_is)
    (case nfT => k_is)
    (case haT => k_is)
    (case hmT => k_is)
    (case tyT => k_is)
    (case pgQ => k_is)
    (case hdQ => k_is)
    (case poQ => k_is)
    (case saQ => k_is)
    (case mkQ => k_is)
    (case kcQ => k_is)
    (case nfQ => k_is)
    (case haQ => k_is)
    (case hmQ => k_is)
    (case tyQ => k_is)
    (case su_NoneType => k_is)
    (case su_int => k_is)
    (case su_tuple => k_is)
    (case su_list => k_is)
    (case su_Q => k_is)
    (case su_T => k_is)
    (case nQT => first | rfl | decide +kernel | k_is)
    (case nTQ => first | rfl | decide +kernel | k_is)
    (case hn => k_is)
    (case htk => k_is)
    (case xL => k_is)
    (case nL => k_is)
    (case sk => first | rfl | decide +kernel)
    (case n1 => k_is)
    (case n2 => k_is)
    (case oq => first | rfl | k_is)
