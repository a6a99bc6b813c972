import PyProof.Rows.All
import Wide.All
import OpenK.AllK
import Wide.FinOn
import PyProof.EqAt
import PyProof.EqKinds
import PyProof.TupleCall
import PySem.Challenge.RW_surecounts_k41_spreads_refused
import HandS.ForMost
import HandS.Exc
import HandS.ExcOwn
import HandS.TryOnly
import HandS.WordsExc
import HandS.Zip
import HandS.Conv
import HandS.IsInst
import HandS.Deep
import HandS.TupAny
import HandS.Strs
import HandS.SetFor
import HandS.Evl
import HandS.Style
import HandS.Defaults
import HandS.Property
import HandS.CallSlots
import HandS.TupMul
import KE.KTupSum
import KE.KExcInit
import HandS.ExcIs
set_option Elab.async false
set_option linter.all false
set_option maxRecDepth 100000
set_option maxHeartbeats 2100000
/-! several clauses «except X as n», one after the other -/
namespace TA5
open PySem L2 PySem.Spec PyProof.Rows
abbrev TSx := Addr → Value → Option Addr → TS
def wAll (K : PySem.W.Frag) (Wout : WX) (D : Ends) : List (Value × Nat × TSx) → WX
  | [] => Wout
  | (c, i, ts) :: r => fun cls d σ H => ∃ b, PySem.W.exmOne K cls c = some b ∧
    (b = true → ∀ a, H a = none → ts a cls d { nx := fun σ' H' => D.nx (σ'.set i none) H', rt := D.rt, bk := fun σ' H' => D.bk (σ'.set i none) H', ct := fun σ' H' => D.ct (σ'.set i none) H' } (σ.set i (some (.ref a))) H) ∧ (b = false → wAll K Wout D r cls d σ H)
inductive Hds (X : Cx) : List ExceptHandler → List (Value × Nat × TSx) → Prop
  | nil : Hds X [] []
  | cons {x n : Str} {i : Nat} {c : Value} {ts : TSx} {b₀ : Stmt} {suite : List Stmt} {np pos' : Pos} {hds : List ExceptHandler} {l : List (Value × Nat × TSx)} (hi : X.N[i]? = some n) (hln : X.env.kindOf n = some .local) (hc : Names X x c)
      (hsu : ∀ (a : Addr) (oe : Obj) (cls : Value) (d : Option Addr) (pn : List (Addr × Obj)), Zc cls d oe → (∃ vs, oe.data = .fields vs) → PSs (X.suite a ((a, oe) :: pn)) (b₀ :: suite) (ts a cls d)) (r : Hds X hds l) :
      Hds X (.ExceptHandler (some (.Name x np)) (some n) (b₀ :: suite) pos' :: hds) ((c, i, ts) :: l)
section
variable {X : Cx} {body : List Stmt} {h₀ : ExceptHandler} {hds : List ExceptHandler} {l : List (Value × Nat × TSx)} {pos : Pos} {tb : WX → TS} {Wout : WX}
theorem ps_try_all (hs : X.stack = X.env :: X.outer) (hf : X.env.frame = some X.env.locals) (hN : X.N.Nodup) (tk : Takes X Wout)
    (hb : ∀ (W : WX) (pn : List (Addr × Obj)) (xe : Value → Shared → Prop), Takes (X.tr pn xe) W → PassesOwn (model X.prog X.w) X.A X.env xe → PSs (X.tr pn xe) body (tb W))
    (hh : Hds X (h₀ :: hds) l) : PS X (.Try body (h₀ :: hds) [] [] pos) (fun D σ H => tb (wAll X.K Wout D l) D σ H) := by
  refine ⟨fun pins s σ H D I h => ?_⟩
  have ok := I.ok; have hfr : X.A.frames = some (X.env :: X.outer) := by rw [I.ok.frames, hs]
  refine wpAny_Try_except ?_
  refine wpAny_mono ((hb (wAll X.K Wout D l) (X.pn ++ pins) (fun e s₁ => wpAny (model X.prog X.w) X.A (noteFrame e X.env) (fun _ s₂ => wpAny (model X.prog X.w) X.A (setFlight e none) (fun _ s₃ =>
    wpAny (model X.prog X.w) X.A (handleBy e X.env (h₀ :: hds)) (SP X pins D) X.xe s₃) X.xe s₂) X.xe s₁) (fun u s' xx => ?_) PassesOwn.looking).run [] s σ H D (I.toTry _) h) (fun f s1 hsp => ?_) (fun e s1 he => he)
  · obtain ⟨a, B, sI, pins', σ', H', cls, d, rfl, J', nb, up, sky, na, os, ag, w⟩ := xx
    have J : Inv X pins σ' H' sI := J'.ofTry ok; have sky' : Sky B (X.env :: X.outer) a (Zc cls d) X.env.locals s'.heap := by rw [← hs]; exact sky
    show wpAny (model X.prog X.w) X.A (noteFrame (.ref a) X.env) _ _ _
    refine Sky.land Zc.steady hfr hf sky' fun h3 fl3 up3 => ?_
    have J3 : Inv X pins σ' H' { s' with heap := h3 } := J.landed nb fl3.1 (up.trans up3) os ag; obtain ⟨oe3, vs3, he3, hz3, hd3⟩ := fl3.there
    have notFr : ∀ {hq : Heap} {oq : Obj} {vq : Array Value}, hq.FunFrames B (X.env :: X.outer) → hq.get? a = some oq → oq.data = .fields vq → a ∉ frs (X.env :: X.outer) := fun {hq oq vq} ff e dd hm => by
      obtain ⟨_, o', e', hnf⟩ := ff.mem hm; rw [e] at e'; cases e'
      exact hnf _ dd
    have nfr := notFr fl3.2.2.1 he3 hd3
    have nL : a ≠ X.env.locals := fun z => nfr (List.mem_filterMap.mpr ⟨X.env, List.mem_cons_self, by rw [hf, z]⟩); have nF : a ∉ X.fs := fun hm => by
      obtain ⟨e, he, q⟩ := List.mem_filterMap.mp hm; exact nfr (List.mem_filterMap.mpr ⟨e, List.mem_cons_of_mem _ he, q⟩)
    have S3 := J3.suite he3 hd3 na nL nF
    have go : ∀ {hds' : List ExceptHandler} {l' : List (Value × Nat × TSx)}, Hds X hds' l' → wAll X.K Wout D l' cls d σ' H' → wpAny (model X.prog X.w) X.A (handleBy (.ref a) X.env hds') (SP X pins D) X.xe { s' with heap := h3 } := by
      intro hds' l' hk
      induction hk with
      | nil =>
        intro w
        refine wpAny_handleBy_nil ?_
        obtain ⟨k1, k2, k3, oe, vs, T, oT, ts', he, hz, hd, h1, hr⟩ := id fl3
        unfold PySem.passOn
        refine wpAny_bind (wpAny_field he hd h1 ?_); rw [if_neg (show ¬ ((Value.ref T == Value.none) = true) from by simp)]
        have fin : wpAny (model X.prog X.w) X.A (setFlight (.ref a) X.env.frame) (fun _ s4 => wpAny (model X.prog X.w) X.A (throw (.ref a) : Sem Flow) (SP X pins D) X.xe s4) X.xe { s' with heap := h3 } := by
          rw [hf]
          refine HandSPX.setFlight_upZ fl3 fun h4 hh4 up4 => wpAny_throw (tk _ _ ?_)
          exact ⟨a, B, sI, pins, σ', H', cls, d, rfl, J, nb, (up.trans up3).trans up4, .inr (.inr (by rw [hs]; exact hh4)), na, os, ag, w⟩
        first
          | exact wpAny_bind (wpAny_pure (wpAny_bind fin))
          | exact wpAny_bind fin
      | @cons x n i c ts b₀ suite np pos' hds2 l2 hi hln hc hsu r ih =>
        intro w
        obtain ⟨b, hb1, hyes, hno⟩ := w
        refine wpAny_handleBy_cons (codeAny_handlers_test ?_) (by intro q; cases q)
        have LT : PySem.W.Looks (model X.prog X.w) h3 (typeOf (.ref a)) cls := fun A Q E s k q => wpAny_typeOf_ref (k _ _ he3) (by rw [hz3.1]; exact q)
        have LM := PySem.W.exm_one (M := model X.prog X.w) (J3.kIn) LT hb1
        have test : ∀ {Q : Value → Shared → Prop} {E : Value → Shared → Prop}, Q c { s' with heap := h3 } → wpAny (model X.prog X.w) (X.A.mark (some (.ref a))) (eval (.Name x np) X.env) Q E { s' with heap := h3 } := fun {Q E} q => by
          obtain ⟨hg, hdbg, hm | ⟨hm, hv, hnn⟩⟩ := hc
          · exact ld_glob (X := X.suite a ((a, oe3) :: (X.pn ++ pins))) S3 hg hm q hdbg
          · exact ld_blt (X := X.suite a ((a, oe3) :: (X.pn ++ pins))) S3 hg hm hv q hnn hdbg
        refine test (LM.here ?_)
        cases b with
        | true =>
          refine codeAny_handlers_suite_as ?_
          refine HandSPX.lands_againZ fl3 fun h4 fl4 up4 => ?_
          have J4 : Inv X pins σ' H' { s' with heap := h4 } := J.landed nb fl4.1 ((up.trans up3).trans up4) os ag
          obtain ⟨oe4, vs4, he4, hz4, hd4⟩ := fl4.there
          have S4 := J4.suite he4 hd4 na nL nF
          refine store_ok (X := X.suite a ((a, oe4) :: (X.pn ++ pins))) (v := .ref a) S4 hN hi (.inl hln) rfl (fun s5 S5 => ?_) (.inr hln)
          refine wpAny_mono ((hsu a oe4 cls d (X.pn ++ pins) hz4 ⟨_, hd4⟩).run [] s5 _ H' _ S5 (hyes rfl a na)) (fun f s6 hsp => ?_) (fun _ _ z => False.elim z)
          have end_ : ∀ {σ6 : L2.St} {H6 : Hp} {Q : Shared → Prop}, Inv (X.suite a ((a, oe4) :: (X.pn ++ pins))) [] σ6 H6 s6 → (∀ s7, Inv X pins (σ6.set i none) H6 s7 → Q s7) →
              wpAny (model X.prog X.w) X.A (do bindName X.env n .none; unbindBehindTheSuite X.env n pos') (fun _ s7 => Q s7) X.xe s6 := fun {σ6 H6 Q} S6 hq => gone_ok (S6.unsuite ok) hN hi hln hq
          cases f with
          | next => obtain ⟨σ6, H6, S6, q6⟩ := hsp; exact end_ S6 fun s7 J7 => ⟨_, _, J7, q6⟩
          | brk => obtain ⟨σ6, H6, S6, q6⟩ := hsp; exact end_ S6 fun s7 J7 => ⟨_, _, J7, q6⟩
          | cont => obtain ⟨σ6, H6, S6, q6⟩ := hsp; exact end_ S6 fun s7 J7 => ⟨_, _, J7, q6⟩
          | ret u => obtain ⟨v6, σ6, H6, S6, r6, q6⟩ := hsp; exact end_ S6 fun s7 J7 => ⟨_, _, _, J7, r6, q6⟩
        | false =>
          show wpAny _ X.A (handleBy (.ref a) X.env hds2) _ _ _
          exact ih (hno rfl)
    exact go hh w
  · cases f with
    | next => obtain ⟨σ', H', J', q⟩ := hsp; exact wpAny_execs_nil ⟨σ', H', J'.ofTry ok, q⟩
    | brk => obtain ⟨σ', H', J', q⟩ := hsp; exact ⟨σ', H', J'.ofTry ok, q⟩
    | cont => obtain ⟨σ', H', J', q⟩ := hsp; exact ⟨σ', H', J'.ofTry ok, q⟩
    | ret u => obtain ⟨v, σ', H', J', r, q⟩ := hsp; exact ⟨v, σ', H', J'.ofTry ok, r, q⟩
end
end TA5
/-! C(e, ..) where __init__ may raise; sum and max of a tuple of ints -/
namespace TA5
open PySem L2 PySem.Spec PyProof.Rows
section
variable {X : Cx} {CX : CXT} {k : Nat} {f C : Addr} {fd : FuncData} {ps : List Str} {sp : Sp} {dvs : List V} {ds : List Value} {E : L2.St → XK} {x : Str} {p pos : Pos} {e : Expr} {es : List Expr} {t : TA}
def tMakeS (C : Addr) (sp : Sp) (dvs : List V) (E : L2.St → XK) (t : TA) : TE := fun σ H Q => t σ H fun vs H1 => ∀ x dx, H1 x = none → H1 dx = none → dx ≠ x → sp (.ref x :: (vs ++ dvs)) (upd (upd H1 dx (.own x)) x (.ins C dx [])) (fun v H2 => v = .non ∧ Q (.ref x) H2) (E σ)
theorem run_makeS {pins : List (Addr × Obj)} {σ : L2.St} {H : Hp} {s : Shared} {Q : VK} {us : List Value} {vs : List V} (M : Mk X.K C f) (F : FnOk X.prog X.w X.K X.mg X.base CX k f fd ps sp) (hr : Room (k + 1) X.A) (hb : Binds X.K fd ps ds) (hd : Vals dvs ds)
    (hx : PassesAt CX X σ (E σ)) (I : Inv X pins σ H s) (r : Vals vs us)
    (h : ∀ x dx, H x = none → H dx = none → dx ≠ x → sp (.ref x :: (vs ++ dvs)) (upd (upd H dx (.own x)) x (.ins C dx [])) (fun v H2 => v = .non ∧ Q (.ref x) H2) (E σ)) :
    wpAny (model X.prog X.w) X.A (call (.ref C) us) (EP X pins σ Q) X.xe s := by
  have hq := h (s.heap.objs.size + 1) s.heap.objs.size (I.hok.fresh (Nat.le_succ _)) (I.hok.fresh (Nat.le_refl _)) (Nat.ne_of_lt (Nat.lt_succ_self _))
  have I2 := Inv.made (C := C) I
  have r2 : Vals (V.ref (s.heap.objs.size + 1) :: (vs ++ dvs)) (Value.ref (s.heap.objs.size + 1) :: (us ++ ds)) := .cons rfl (r.append hd)
  have hl : (Value.ref (s.heap.objs.size + 1) :: us ++ ds).length = ps.length := by
    have e := r2.length
    rw [F.len _ _ _ _ hq] at e
    exact e.symm
  refine wpAny_call (make_map (f := f) I.kIn M.makes M.init (beq_iff_eq.mp M.fn) (codeAny_mono (F.run _ X.stack _ _ ⟨Value.ref (s.heap.objs.size + 1) :: us, []⟩ (Value.ref (s.heap.objs.size + 1) :: (us ++ ds)) _ _ (E σ) (hr.make C us [])
    (I2.env0.make C us []) (hb _ (Value.ref (s.heap.objs.size + 1) :: us) I2.kIn hl) r2 hq) fun r s' hq' => ?_))
  cases r with
  | error e => exact hx pins _ _ e s' I2 hq'
  | ok fl =>
    cases fl with
    | ret u =>
      obtain ⟨v, H', I3, rv, ev, q3⟩ := I2.after hq'
      subst ev
      exact ⟨rv, ⟨V.ref (s.heap.objs.size + 1), H', I3, rfl, q3⟩⟩
    | next => exact False.elim hq'
    | brk => exact False.elim hq'
    | cont => exact False.elim hq'
theorem pe_makeS (M : Mk X.K C f) (F : FnOk X.prog X.w X.K X.mg X.base CX k f fd ps sp) (hr : Room (k + 1) X.A) (hg : Gl X x) (hm : X.mg x = some (.ref C)) (hb : Binds X.K fd ps ds) (hd : Vals dvs ds) (hx : ∀ σ, PassesAt CX X σ (E σ))
    (ha : PA X (e :: es) t) (hdb : (x == ("__debug__" : Str)) = false := by decide) (he : starEach (e :: es) X.env = (false, eval e X.env) :: starEach es X.env := by rfl) (hpl : (backTo pos (starEach es X.env)).any (·.1) = false := by rfl) :
    PE X (.Call (.Name x p) (e :: es) [] pos) (tMakeS C sp dvs E t) := by
  refine ⟨fun pins s σ H Q I h => ?_⟩
  refine wpAny_Call_Name_kw (ld_glob I hg hm ?_ hdb)
  refine PySem.W.callWith_K (h₀ := X.base) I.ok.mod.kin M.kp (thn (ha.run pos pins s σ H _ I h) fun us s1 ⟨vs, H1, I1, r, q⟩ => ⟨I1.kIn, ?_⟩) he hpl
  exact run_makeS M F hr hb hd (hx σ) I1 r q
end
section
variable {X : Cx}
def rSumT (K : PySem.W.Frag) : List V → Hp → VK → Prop := fun vs H Q => ∃ (a : Addr) (ns : List Int), vs = [V.ref a] ∧ SqT K H a (ns.map V.int) ∧ Q (.int ns.sum) H
theorem cr_sumT (hc : X.calm = true) : CallR X (.builtin "sum") (rSumT X.K) := by
  intro pins s σ H vs us Q I r h
  obtain ⟨a, ns, rfl, hs, q⟩ := h
  obtain ⟨its, rv, pt, hz⟩ := I.tuple hs
  rw [Vals.ref1 r]
  have hi := rv.ints
  have hl : s.heap.IsTuple a its.toArray := pt
  obtain ⟨xs, e⟩ := hi.allInts.items
  have hn : numsOf (intItems xs).toList = ns := by rw [← e]; exact hi.numsOf
  rw [nums_intItems] at hn
  rw [e] at hl
  refine PySem.W.ktm_sumG (I.ok.hd hc) hl fun h' tk t' hk => ?_
  rw [preSum_eq, List.take_of_length_le (by simp), hn]
  exact ⟨.int _, H, I.kept hk, ⟨_, rfl⟩, q⟩
theorem max_intTup {prog : Program} {w : World} {A : Around} {E : Value → Shared → Prop} {s : Shared} {t : Addr} {xs : Array (Int × Tok)} {Q : Value → Shared → Prop} (hh : A.handled = none) (ht : s.heap.IsTuple t (intItems xs)) (hsz : 0 < xs.size)
    (h : ∀ v h' tk, (intItems xs)[argBest (fun i j => decide (numAt xs i > numAt xs j)) (xs.size - 1)]? = some v → (∀ b o, s.heap.get? b = some o → h'.get? b = some o) → Q v { s with heap := h', toks := tk }) :
    wpAny (model prog w) A (call (.builtin "max") [.ref t]) Q E s := by
  obtain ⟨o, ho, hc, n, hd⟩ := id ht
  have hne : t ≠ s.heap.objs.size := Nat.ne_of_lt (Heap.lt_size ho)
  refine call_max_walk (wpAny_pyIter_tuple ht ?_)
  refine ⟨_, [_, t], [_], _, _, _, _, rfl, Walks.tuple (A := A.in1) hh _ t hne (intItems xs), ⟨⟨_, Heap.get?_push_size _ rfl, rfl, rfl⟩, ht.at fun o e => Heap.get?_push_of_some _ e⟩, fun b hb => ?_, by simpa [intItems] using hsz, CmpOf.ints_gt (numAt xs) (fun _ _ => intItems_at), fun v h' tk hP hk => ?_⟩
  · rcases List.mem_cons.mp hb with rfl | hb
    · exact Heap.lt_size (Heap.get?_push_size _ rfl)
    · obtain rfl := List.mem_singleton.mp hb
      exact Heap.lt_size (Heap.get?_push_of_some _ ho)
  · exact h v h' tk (by simpa [intItems] using hP) fun b o e => hk b o (fun hb => absurd (Heap.lt_size e) ((List.mem_singleton.mp hb) ▸ Nat.lt_irrefl _)) (Heap.get?_push_of_some _ e)
def rMaxT (K : PySem.W.Frag) : List V → Hp → VK → Prop := fun vs H Q => ∃ (a : Addr) (ns : List Int), vs = [V.ref a] ∧ SqT K H a (ns.map V.int) ∧ 0 < ns.length ∧ ∀ m, m ∈ ns → (∀ y, y ∈ ns → y ≤ m) → Q (.int m) H
theorem cr_maxT (hc : X.calm = true) : CallR X (.builtin "max") (rMaxT X.K) := by
  intro pins s σ H vs us Q I r h
  obtain ⟨a, ns, rfl, hs, hne, q⟩ := h
  obtain ⟨its, rv, pt, hz⟩ := I.tuple hs
  rw [Vals.ref1 r]
  have hi := rv.ints
  have hl : s.heap.IsTuple a its.toArray := pt
  obtain ⟨xs, e⟩ := hi.allInts.items
  have hn : numsOf (intItems xs).toList = ns := by rw [← e]; exact hi.numsOf
  rw [nums_intItems] at hn
  subst hn
  rw [e] at hl
  have hsz : 0 < xs.size := by simpa using hne
  refine max_intTup (I.ok.hd hc) hl hsz fun v h' tk hv hk => ?_
  obtain ⟨t, rfl⟩ := intItems_at hv
  obtain ⟨h1, h2⟩ := argBest_gt (numAt xs) (xs.size - 1)
  refine ⟨.int _, H, I.kept hk, ⟨_, rfl⟩, q _ ?_ fun a ha => ?_⟩
  · rw [numAt_eq]; exact PySem.getD_mem (by rw [List.length_map, Array.length_toList]; omega)
  · obtain ⟨j, hj, rfl⟩ := mem_getD ha
    rw [List.length_map, Array.length_toList] at hj
    rw [← numAt_eq]; exact h2 j (by omega)
end
end TA5

namespace PySem
open Builtin
/-- a class's chain behind itself: own classes, then a base's -/
structure Tail (bm : List Value) (newId : String) : Prop where
  base : ∃ B initId tail, ExcBaseFacts B newId initId tail ∧ ∀ X : String, bm.contains (.type X) = tail.contains (.type X)
  pass : ∀ self C, refuseLoop self "__setattr__" (.ref C :: bm) = pure ()
  obj : bm.contains (.type "object") = true
end PySem
namespace TA5
open PySem PySem.W PySem.Calls PyProof.Rows PySem.HandSPX PySem.Builtin PySem.Builtin.ObjectAttr
theorem tail_ve : Tail [.type "ValueError", .type "Exception", .type "BaseException", .type "object"] "ValueError.__new__" := ⟨⟨_, _, _, PySem.F.excBase_ValueError, fun _ => rfl⟩, fun self C => by rw [refuseLoop_ref]; exact PySem.F.store_ValueError.passes self, rfl⟩
theorem tail_rt : Tail [.type "RuntimeError", .type "Exception", .type "BaseException", .type "object"] "RuntimeError.__new__" := ⟨⟨_, _, _, PySem.F.excBase_RuntimeError, fun _ => rfl⟩, fun self C => by rw [refuseLoop_ref]; exact PySem.F.store_RuntimeError.passes self, rfl⟩
theorem tail_ex {S : Addr} : Tail [.ref S, .type "Exception", .type "BaseException", .type "object"] "Exception.__new__" := ⟨⟨_, _, _, PySem.F.excBase_Exception, fun X => by rw [List.contains_cons]; rfl⟩, fun self C => by rw [refuseLoop_ref, refuseLoop_ref]; exact PySem.F.store_Exception.passes self, rfl⟩
theorem one_size (v : Value) : [v].length ≤ sizeLine := by
  rw [sizeLine_eq]
  exact (by decide : 1 ≤ 16777216)
theorem ldC {M : Model} {s : Shared} {name : Str} {scope : Scope} {L a : Addr} {cd : Value} {m : Str → Option Value} {x : Str} {pos : Pos} {v : Value} {Q : Value → Shared → Prop} {A : Around} {E : Value → Shared → Prop} (hn : s.heap.Ns L m) (hv : m x = some v) (h : Q v s)
    (hk : scope.kind = .function := by rfl) (hl : (envOfC name scope L a cd).kindOf x = some .local := by rfl) (hd : (x == ("__debug__" : Str)) = false := by decide) :
    wpAny M A (eval (.Name x pos) (envOfC name scope L a cd)) Q E s := wpAny_Name (wpAny_loadName_local hk hl hn hv h) hd
section
variable {prog : Program} {w : World} {A : Around} {R : Result → Shared → Prop} {hp : Heap} {g : Array GenState} {d : Drawn} {t : Nat} {os : OsState}
theorem exc_osaT {K : W.Frag} {name : Str} {tk : Tok} {v : Value} {x C : Addr} {fv : Array Value} {cd : ClassData} {bm : List Value}
    (X : K.In hp) (hx : hp.get? x = some { cls := .ref C, data := .fields fv }) (hcd : W.clsIn K C = some cd) (hps : ∀ self C, refuseLoop self "__setattr__" (.ref C :: bm) = pure ()) (hobj : bm.contains (.type "object") = true) (hmro : cd.mro = .ref C :: bm) (ha : W.findIn K (.ref C) name = some none)
    (hq : ∀ h' tk' dx, (∀ b o, b ≠ x → hp.get? b = some o → h'.get? b = some o) → hp.objs.size ≤ dx → dx ≠ x → h'.get? x = some { cls := .ref C, dict := some dx, data := .fields fv } →
      h'.Ns1 dx (fun y => if y = name then some v else none) → R (.ok (.ret .none)) ⟨h', g, d, tk', os⟩) (hh : cd.hasDict = true := by rfl) :
    codeAny (model prog w) A (.call (.builtin "object.__setattr__") ⟨[.ref x, .str name tk, v], []⟩) R ⟨hp, g, d, t, os⟩ := by
  have I : W.InstAt hp x { cls := .ref C, data := .fields fv } C none := ⟨hx, rfl, rfl, trivial⟩
  have SF := F.store_object
  have ne : cd.mro.isEmpty = false := by rw [hmro] <;> rfl
  have hob : cd.mro.contains (.type "object") = true := by rw [hmro, List.contains_cons, hobj, Bool.or_true]
  have hxs : x ≠ hp.objs.size := Nat.ne_of_lt (Heap.lt_size hx)
  have sub : W.Looks (model prog w) hp (isInstance (.ref x) (.type "object")) true := I.type.andThen (W.looks_mroIn X (by unfold W.mroIn; rw [hcd, Option.bind_some, if_neg (by rw [ne]; decide), hob]))
  refine codeAny_call_builtin SF.slot.plain SF.entry (@W.check_slot (model prog w) _ _ ⟨hp, g, d, t, os⟩ "object.__setattr__" "object" "__setattr__" (.ref x) [.str name tk, v] [] _ SF.kind SF.split sub (SF.args (.ref x) (.str name tk) v) ?_)
  have hmr : W.Looks (model prog w) hp (mroOf (.ref C)) cd.mro := (W.looks_clsIn X hcd).andThen .now
  have L3 : W.Looks (model prog w) hp (storeTaker? none) none := .now
  have hcls : W.Looks (model prog w) hp (classData C) cd := W.looks_clsIn X hcd
  rw [W.osa_eq, refuse_eq]
  refine wpAny_bind (wpAny_bind (I.type.at (wpAny_bind (hmr.at ?_))))
  rw [hmro, hps]
  refine wpAny_pure (wpAny_bind (I.type.at (wpAny_bind ((W.looks_findIn X ha).at (wpAny_bind (L3.at ?_))))))
  show wpAny _ _ (storeInOwnDict (.ref x) (.ref C) (.str name tk) name v false) _ _ _
  clear hmro ne hob hmr sub
  obtain ⟨nm, bs, mro, ns, qn, hd, sn, sb, ab, col, del⟩ := cd
  dsimp only at hh
  subst hh
  unfold storeInOwnDict ownDictForStores
  repeat (first | with_reducible refine store_in_new ?_ ?_ | with_reducible refine wpAny_loadPart_at hx ?_ | with_reducible refine hcls.at ?_ | wp_step)
  · exact ⟨_, #[], _, (Heap.get?_update_ne _ _ _ _ hxs.symm).trans (Heap.get?_push_at rfl rfl), rfl, fun e he => absurd he (by simp), fun _ => rfl⟩
  · intro h' tk' hn' hs
    have hx₁ : (hp.push { cls := .type "dict", data := .dict #[] }).get? x = some { cls := .ref C, data := .fields fv } := Heap.get?_push_of_some _ hx
    refine hq h' tk' hp.objs.size (fun b o hb ho => ?_) (Nat.le_refl _) hxs.symm ?_ hn'
    · exact (hs.2 b (Nat.ne_of_lt (Heap.lt_size ho))).trans ((Heap.get?_update_ne _ _ _ _ hb).trans (Heap.get?_push_of_some _ ho))
    · exact (hs.2 x hxs).trans (Heap.get?_update_self _ hx₁ rfl)
end
end TA5

namespace PySem
namespace ErrC
open PySem.W PySem.Calls PyProof.Rows PySem.HandSPX
def iA (p1 p2 : Pos) : Arguments := { posonlyargs := [], args := [{ arg := "self", annotation := none, pos := p1 }, { arg := "part", annotation := none, pos := p2 }], vararg := none, kwonlyargs := [], kw_defaults := [], kwarg := none, defaults := [] }
def iB (q1 q2 q3 q4 : Pos) : List Stmt := [.Assign [.Attribute (.Name "self" q1) "part" q2] (.Name "part" q3) q4]
def iS : Scope := { kind := .function, names := [(PySem.Str.ofString "self", .local), (PySem.Str.ofString "part", .local)], isGenerator := false, isCoroutine := false, more := [] }
/-- what the written part says of the error class x, at C, and of its __init__, at fI -/
structure ErrTxt (K : Frag) (mg : Str → Option Value) (x q : Str) (C fI : Addr) : Prop where
  gC : mg x = some (.ref C)
  cls : ∃ nm qq N bs bm sn sub ab col dd k0 k1 k2 k3 k5 newId, K.lookup C = some (excClassObj nm qq C N bs bm true sn sub ab col dd k0 k1 k2 k3 k5 newId) ∧ Tail bm newId
  sa : findIn K (.ref C) "__setattr__" = some (some (.builtin "object.__setattr__"))
  ga : findIn K (.ref C) "__getattribute__" = some (some (.builtin "BaseException.__getattribute__"))
  gg : findIn K (.ref C) "__getattr__" = some none
  noN : findIn K (.ref C) "part" = some none
  iC : findIn K (.ref C) "__init__" = some (some (.ref fI))
  tC : typeIn K (.ref fI) = some (.type "function")
  kC : keepIn K (.ref C) = true
  exC : subIn K (.ref C) (.type "BaseException") = some true
  tyC : typeIn K (.ref C) = some (.type "type")
  hdC : hasDictIn K C = true
  te : exmOne K (.ref C) (.ref C) = some true
  fn : ∃ (oc : Value) (od : Option Addr) (doc pm : Value) (an : Option Addr) (cdv ct : Value) (osl : Array (Option Value)) (p1 p2 q1 q2 q3 q4 : Pos),
    K.lookup fI = some ⟨oc, od, .func (fnOf "__init__" q (iA p1 p2) (iB q1 q2 q3 q4) iS .none .none doc pm an cdv ct), osl⟩ ∧ codeIn K cdv q = true
structure InitEnd (h h' : Heap) (x C dx t1 : Addr) (v : Value) : Prop where
  keep : ∀ b o, b ≠ x → h.get? b = some o → h'.get? b = some o
  obj : h'.get? x = some { cls := .ref C, dict := some dx, data := .fields #[.ref t1, .none, .none, .none, .bool false, .none] }
  dbig : h.objs.size ≤ dx
  dne : dx ≠ x
  ns : h'.Ns1 dx (fun y => if y = "part" then some v else none)
structure OwnMade (h h' : Heap) (e C d : Addr) (v : Value) : Prop where
  keep : ∀ b o, h.get? b = some o → h'.get? b = some o
  new : h.objs.size ≤ e
  obj : ∃ oe vs, h'.get? e = some oe ∧ oe.cls = .ref C ∧ oe.dict = some d ∧ oe.data = .fields vs ∧ vs[1]? = some .none
  dbig : h.objs.size ≤ d
  dne : d ≠ e
  ns : h'.Ns1 d (fun y => if y = "part" then some v else none)
section
variable {prog : Program} {w : World} {A : Around} {E : Value → Shared → Prop} {R : Result → Shared → Prop} {s : Shared} {K : Frag} {mg : Str → Option Value} {C fI : Addr} {xn q : Str}
theorem err_init (T : ErrTxt K mg xn q C fI) {x t0 : Addr} {v : Value} (X : K.In s.heap) (hlim : s.heap.NoLimit) (hx : s.heap.get? x = some (excO C t0)) (hnx : K.lookup x = none) (hroom : A.depth < recursionLimit)
    (hq : ∀ h' tk dx, InitEnd s.heap h' x C dx t0 v → R (.ok (.ret .none)) { s with heap := h', toks := tk }) :
    codeAny (model prog w) A (.call (.ref fI) ⟨[.ref x, v], []⟩) R s := by
  obtain ⟨oc, od, doc, pm, an, cdv, ct, osl, p1, p2, q1, q2, q3, q4, ho, hcd⟩ := T.fn
  obtain ⟨nm, qq, N, bs, bm, sn, sub, ab, col, dd, k0, k1, k2, k3, k5, newId, hC, hbm⟩ := T.cls
  have hcl : clsIn K C = some { name := nm, bases := bs, mro := .ref C :: bm, ns := N, qualname := qq, hasDict := true, slotNames := sn, subclasses := sub, abstract := ab, collection := col, hasDel := false } := by unfold clsIn; rw [hC] <;> rfl
  refine Att.call_fn (binds := [("self", .ref x), ("part", v)]) X hlim ho hcd hroom (BindsTo.of_eq (by first | rfl | with_unfolding_all rfl)) (by first | rfl | decide | with_unfolding_all rfl) (fun s₁ IC => ?_) rfl rfl rfl
  obtain ⟨h₁, tk₁, rfl⟩ := IC.toInCall.same
  have k : ∀ b o, s.heap.get? b = some o → h₁.get? b = some o := IC.toInCall.keep
  have hn := IC.toInCall.ns
  have hxL : s.heap.objs.size ≠ x := Nat.ne_of_gt (Heap.lt_size hx)
  have X₁ : K.In h₁ := X.keeps k
  have hx₁ := k _ _ hx
  show wpAny _ _ (execs _ _) _ _ _
  refine wpAny_execs_cons (plainObj_wpAny_Assign_Attribute ?_)
  refine TA5.ldC (v := v) hn (by first | rfl | with_unfolding_all rfl | kernel_rfl) (TA5.ldC (v := .ref x) hn (by first | rfl | with_unfolding_all rfl | kernel_rfl) ?_)
  refine set_plain X₁ (ox := excO C t0) (od := none) ⟨hx₁, rfl, rfl, trivial⟩ T.sa ?_
  refine TA5.exc_osaT X₁ hx₁ hcl hbm.pass hbm.obj rfl T.noN (fun h₃ tk₃ dx k₃ dn dne hx₃ hn₃ => ?_)
  show wpAny _ _ (execs _ _) _ _ _
  have z : s.heap.objs.size < h₁.objs.size := hn.lt
  exact wpAny_execs_nil (hq h₃ tk₃ dx ⟨fun b o hb e => k₃ b o hb (k b o e), hx₃, Nat.le_of_lt (Nat.lt_of_lt_of_le z dn), dne, hn₃⟩)
theorem err_made (T : ErrTxt K mg xn q C fI) {v : Value} (X : K.In s.heap) (hlim : s.heap.NoLimit) (hroom : A.depth + 1 < recursionLimit)
    (hq : ∀ h' tk e d, OwnMade s.heap h' e C d v → R (.ok (.ret (.ref e))) { s with heap := h', toks := tk }) :
    codeAny (model prog w) A (.call (.ref C) ⟨[v], []⟩) R s := by
  obtain ⟨nm, qq, N, bs, bm, sn, sub, ab, col, dd, k0, k1, k2, k3, k5, newId, hC, hbm⟩ := T.cls
  obtain ⟨B, initId, tail, F, hT⟩ := hbm.base
  obtain ⟨hp, g, dr, tk, os⟩ := s
  have k : ∀ b o, hp.get? b = some o → ((hp.push (kdv_tup [v])).push (excO C hp.objs.size)).get? b = some o := fun b o e => Heap.get?_push_of_some _ (Heap.get?_push_of_some _ e)
  have hget : ((hp.push (kdv_tup [v])).push (excO C hp.objs.size)).get? (hp.objs.size + 1) = some (excO C hp.objs.size) := by heap_get
  have hnx : K.lookup (hp.objs.size + 1) = none := by
    cases e : K.lookup (hp.objs.size + 1) with
    | none => rfl
    | some o =>
      have z : hp.get? (hp.objs.size + 1) = some o := X _ _ e
      exact absurd (Nat.lt_of_succ_lt (Heap.lt_size z)) (Nat.lt_irrefl _)
  refine call_own F hT (X _ _ hC) (looks_findIn X T.iC) (fun self => bind_fn X self T.tC) (TA5.one_size v) ?_
  refine err_init (s := ⟨(hp.push (kdv_tup [v])).push (excO C hp.objs.size), g, dr, tk, os⟩) T (X.keeps k) (hlim.keeps k) hget hnx ?_ fun h' tk' dx ⟨k', hx, dn, dne, hns⟩ => ?_
  · show A.depth + 1 < recursionLimit
    exact hroom
  · have old : ∀ b o, hp.get? b = some o → h'.get? b = some o := fun b o e => k' b o (Nat.ne_of_lt (Nat.lt_succ_of_lt (Heap.lt_size e))) (k b o e)
    have z : hp.objs.size + 1 + 1 ≤ dx := by
      first
        | (simpa only [Heap.size_push] using dn)
        | exact dn
        | (have q := dn; rw [Heap.size_push, Heap.size_push] at q; exact q)
    exact ⟨rfl, hq h' tk' (hp.objs.size + 1) dx ⟨old, Nat.le_succ _, ⟨_, _, hx, rfl, rfl, rfl, rfl⟩, Nat.le_trans (Nat.le_trans (Nat.le_succ _) (Nat.le_succ _)) z, dne, hns⟩⟩
end
end ErrC
end PySem
namespace ErrCL
open PySem L2 PySem.Spec PyProof.Rows
theorem relO_err {v : V} {v' : Value} (r : RelV v v') (f : Str) : RelO (List.lookup f [(("part" : Str), v)]) (if f = "part" then some v' else none) := by
  by_cases hw : f = "part"
  · subst hw
    rw [if_pos rfl]
    have q : List.lookup ("part" : Str) [(("part" : Str), v)] = some v := by simp [List.lookup]
    rw [q]
    exact r
  · rw [if_neg hw]
    have qw : (f == ("part" : Str)) = false := by simpa using hw
    have q2 : List.lookup f [(("part" : Str), v)] = none := by simp [List.lookup, qw]
    rw [q2]
    trivial
section
variable {X : Cx} {C fI : Addr} {xn q : Str}
def tMkErr (C : Addr) (ta : TA) : L2.St → Hp → XK → Prop := fun σ H Q => ta σ H fun vs H1 => ∃ v, vs = [v] ∧ ∀ d, H1 d = none → Q (.ref C) (some d) (upd H1 d (.xd [(("part" : Str), v)]))
theorem pmk_err {a : Expr} {ta : TA} {p pos : Pos} {k : Nat} (T : PySem.ErrC.ErrTxt X.K X.mg xn q C fI) (hr : Room k X.A) (ha : PA X [a] ta) (hg : Gl X xn := by rfl) (hdb : (xn == ("__debug__" : Str)) = false := by decide)
    (he : starEach (a :: []) X.env = (false, eval a X.env) :: starEach [] X.env := by rfl) (hpl : (backTo pos (starEach [] X.env)).any (·.1) = false := by rfl) :
    PMk X (.Call (.Name xn p) [a] [] pos) (tMkErr C ta) := by
  intro pins s σ H Q I h
  refine wpAny_Call_Name_kw (ld_glob I hg T.gC ?_ hdb)
  refine PySem.W.callWith_K (h₀ := X.base) I.ok.mod.kin T.kC (thn (ha.run pos pins s σ H _ I h) fun us s1 hh => ?_) he hpl
  obtain ⟨vs, H1, I1, r1, v, ev, q1⟩ := hh
  subst ev
  refine ⟨I1.kIn, ?_⟩
  cases r1 with
  | cons rv rn =>
    rename_i v' us'
    cases rn
    show wpAny _ _ (call (.ref C) [v']) _ _ _
    have hlim := I1.nolimit
    obtain ⟨hp, g, dr, tk, os⟩ := s1
    refine wpAny_call (PySem.ErrC.err_made T I1.kIn hlim (by have := hr.dp; omega) fun h' tk' e d M => ?_)
    show MkP X pins σ Q (.ref e) ⟨h', g, dr, tk', os⟩
    obtain ⟨oe, fv, hoe, hc, hd, hdat, h1⟩ := M.obj
    have hns := M.ns
    obtain ⟨G', g1, g2⟩ := restrict h' fun b => decide (b ≠ e)
    have gk : ∀ b, b ≠ e → G'.get? b = h'.get? b := fun b hb => g1 b (decide_eq_true hb)
    have ge : G'.get? e = none := g2 e (by simp)
    have old : ∀ b o, hp.get? b = some o → G'.get? b = some o := fun b o q => (gk b (Nat.ne_of_lt (Nat.lt_of_lt_of_le (Heap.lt_size q) M.new))).trans (M.keep b o q)
    have ob : ObjOk X.prog X.w (upd H1 d (.xd [(("part" : Str), v)])) G' d (.xd [(("part" : Str), v)]) :=
      ⟨_, hns.at (fun o q => (gk d M.dne).trans q), fun f => relO_err rv f⟩
    have J : Inv X pins σ (upd H1 d (.xd [(("part" : Str), v)])) ⟨G', g, dr, tk', os⟩ := I1.laid (t' := tk') old M.dbig ob
    refine ⟨e, oe, fv, ⟨G', g, dr, tk', os⟩, _, .ref C, some d, rfl, J, fun b o q => ?_, ge, hoe, ⟨hc, hd⟩, hdat, h1, ?_, rfl, I1.bare, raises_own T.exC T.tyC, q1 d (I1.hok.fresh M.dbig)⟩
    · by_cases hb : b = e
      · have q' : G'.get? b = some o := q
        rw [hb, ge] at q'; cases q'
      · exact (gk b hb).symm.trans q
    · rw [upd_ne (Ne.symm M.dne)]
      exact I1.hok.fresh M.new
def tRaiseErr (C : Addr) (W : WX) (ta : TA) : TS := fun _ σ H => tMkErr C ta σ H fun cls d H' => W cls d σ H'
theorem ps_raiseErr {a : Expr} {ta : TA} {W : WX} {p pos pos2 : Pos} {k : Nat} (hc : X.calm = true) (T : PySem.ErrC.ErrTxt X.K X.mg xn q C fI) (hr : Room k X.A) (tk : Takes X W) (ha : PA X [a] ta) (hg : Gl X xn := by rfl) (hdb : (xn == ("__debug__" : Str)) = false := by decide)
    (he : starEach (a :: []) X.env = (false, eval a X.env) :: starEach [] X.env := by rfl) (hpl : (backTo pos (starEach [] X.env)).any (·.1) = false := by rfl) :
    PS X (.Raise (some (.Call (.Name xn p) [a] [] pos)) none pos2) (tRaiseErr C W ta) := ps_raise hc tk (pmk_err T hr ha hg hdb he hpl)
def tFldErr (C : Addr) (a : Addr) (cls : Value) (d : Option Addr) (te : TE) : TE := fun σ H Q => te σ H fun x H1 => x = .ref a ∧ cls = .ref C ∧ ∃ (dd : Addr) (v : V), d = some dd ∧ H1 dd = some (.xd [(("part" : Str), v)]) ∧ Q v H1
theorem pe_fldErr {a : Addr} {oe : Obj} {cls : Value} {d : Option Addr} {pn : List (Addr × Obj)} {e : Expr} {te : TE} {pos : Pos} (T : PySem.ErrC.ErrTxt X.K X.mg xn q C fI) (hz : Zc cls d oe) (hf : ∃ vs, oe.data = .fields vs) (he : PE (X.suite a ((a, oe) :: pn)) e te)
    (hb : attributeBase e "part" X.env (eval e X.env) = eval e X.env := by rfl) :
    PE (X.suite a ((a, oe) :: pn)) (.Attribute e "part" pos) (tFldErr C a cls d te) := by
  refine ⟨fun pins s σ H Q I h => ?_⟩
  refine attr_of hb (thn (he.run pins s σ H _ I h) fun u s1 hh => ?_)
  obtain ⟨x, H1, I1, rx, ex, ec, dd, v, ed, ea, q⟩ := hh
  subst ex
  obtain rfl : u = Value.ref a := rx
  subst ec
  subst ed
  obtain ⟨ha, _⟩ := I1.pin (a, oe) (List.mem_append_left _ List.mem_cons_self)
  obtain ⟨vs, hd⟩ := hf
  have hx : ObjOk X.prog X.w H1 s1.heap dd (.xd [(("part" : Str), v)]) := I1.hok dd _ ea
  obtain ⟨mA, hns, hr⟩ := hx
  obtain ⟨od, ho, hl⟩ := lookIn_ns hns
  have l : List.lookup ("part" : Str) [(("part" : Str), v)] = some v := by simp [List.lookup]
  obtain ⟨u, hu, ru⟩ := RelO.some_of (v := v) (o := mA "part") (by rw [← l]; exact hr "part")
  have J : PySem.W.InstAt s1.heap a oe C (some od) := ⟨ha, hz.1, by unfold PySem.W.notCls; rw [hd] <;> rfl, by rw [hz.2]; exact ho⟩
  exact HandSPX.exc_get I1.kIn J T.ga T.gg T.exC (PySem.W.findObj_own T.hdC T.noN rfl (by rw [hl, hu])) (handed_of ru) ⟨v, H1, I1.tok _, ru, q⟩
end
end ErrCL

namespace PySem
namespace ErrV
open PySem.W PySem.Calls PyProof.Rows PySem.HandSPX
def iA (p1 p2 : Pos) : Arguments := { posonlyargs := [], args := [{ arg := "self", annotation := none, pos := p1 }, { arg := "value", annotation := none, pos := p2 }], vararg := none, kwonlyargs := [], kw_defaults := [], kwarg := none, defaults := [] }
def iB (q1 q2 q3 q4 : Pos) : List Stmt := [.Assign [.Attribute (.Name "self" q1) "value" q2] (.Name "value" q3) q4]
def iS : Scope := { kind := .function, names := [(PySem.Str.ofString "self", .local), (PySem.Str.ofString "value", .local)], isGenerator := false, isCoroutine := false, more := [] }
/-- what the written part says of the error class x, at C, and of its __init__, at fI -/
structure ErrTxt (K : Frag) (mg : Str → Option Value) (x q : Str) (C fI : Addr) : Prop where
  gC : mg x = some (.ref C)
  cls : ∃ nm qq N bs bm sn sub ab col dd k0 k1 k2 k3 k5 newId, K.lookup C = some (excClassObj nm qq C N bs bm true sn sub ab col dd k0 k1 k2 k3 k5 newId) ∧ Tail bm newId
  sa : findIn K (.ref C) "__setattr__" = some (some (.builtin "object.__setattr__"))
  ga : findIn K (.ref C) "__getattribute__" = some (some (.builtin "BaseException.__getattribute__"))
  gg : findIn K (.ref C) "__getattr__" = some none
  noN : findIn K (.ref C) "value" = some none
  iC : findIn K (.ref C) "__init__" = some (some (.ref fI))
  tC : typeIn K (.ref fI) = some (.type "function")
  kC : keepIn K (.ref C) = true
  exC : subIn K (.ref C) (.type "BaseException") = some true
  tyC : typeIn K (.ref C) = some (.type "type")
  hdC : hasDictIn K C = true
  te : exmOne K (.ref C) (.ref C) = some true
  fn : ∃ (oc : Value) (od : Option Addr) (doc pm : Value) (an : Option Addr) (cdv ct : Value) (osl : Array (Option Value)) (p1 p2 q1 q2 q3 q4 : Pos),
    K.lookup fI = some ⟨oc, od, .func (fnOf "__init__" q (iA p1 p2) (iB q1 q2 q3 q4) iS .none .none doc pm an cdv ct), osl⟩ ∧ codeIn K cdv q = true
structure InitEnd (h h' : Heap) (x C dx t1 : Addr) (v : Value) : Prop where
  keep : ∀ b o, b ≠ x → h.get? b = some o → h'.get? b = some o
  obj : h'.get? x = some { cls := .ref C, dict := some dx, data := .fields #[.ref t1, .none, .none, .none, .bool false, .none] }
  dbig : h.objs.size ≤ dx
  dne : dx ≠ x
  ns : h'.Ns1 dx (fun y => if y = "value" then some v else none)
structure OwnMade (h h' : Heap) (e C d : Addr) (v : Value) : Prop where
  keep : ∀ b o, h.get? b = some o → h'.get? b = some o
  new : h.objs.size ≤ e
  obj : ∃ oe vs, h'.get? e = some oe ∧ oe.cls = .ref C ∧ oe.dict = some d ∧ oe.data = .fields vs ∧ vs[1]? = some .none
  dbig : h.objs.size ≤ d
  dne : d ≠ e
  ns : h'.Ns1 d (fun y => if y = "value" then some v else none)
section
variable {prog : Program} {w : World} {A : Around} {E : Value → Shared → Prop} {R : Result → Shared → Prop} {s : Shared} {K : Frag} {mg : Str → Option Value} {C fI : Addr} {xn q : Str}
theorem err_init (T : ErrTxt K mg xn q C fI) {x t0 : Addr} {v : Value} (X : K.In s.heap) (hlim : s.heap.NoLimit) (hx : s.heap.get? x = some (excO C t0)) (hnx : K.lookup x = none) (hroom : A.depth < recursionLimit)
    (hq : ∀ h' tk dx, InitEnd s.heap h' x C dx t0 v → R (.ok (.ret .none)) { s with heap := h', toks := tk }) :
    codeAny (model prog w) A (.call (.ref fI) ⟨[.ref x, v], []⟩) R s := by
  obtain ⟨oc, od, doc, pm, an, cdv, ct, osl, p1, p2, q1, q2, q3, q4, ho, hcd⟩ := T.fn
  obtain ⟨nm, qq, N, bs, bm, sn, sub, ab, col, dd, k0, k1, k2, k3, k5, newId, hC, hbm⟩ := T.cls
  have hcl : clsIn K C = some { name := nm, bases := bs, mro := .ref C :: bm, ns := N, qualname := qq, hasDict := true, slotNames := sn, subclasses := sub, abstract := ab, collection := col, hasDel := false } := by unfold clsIn; rw [hC] <;> rfl
  refine Att.call_fn (binds := [("self", .ref x), ("value", v)]) X hlim ho hcd hroom (BindsTo.of_eq (by first | rfl | with_unfolding_all rfl)) (by first | rfl | decide | with_unfolding_all rfl) (fun s₁ IC => ?_) rfl rfl rfl
  obtain ⟨h₁, tk₁, rfl⟩ := IC.toInCall.same
  have k : ∀ b o, s.heap.get? b = some o → h₁.get? b = some o := IC.toInCall.keep
  have hn := IC.toInCall.ns
  have hxL : s.heap.objs.size ≠ x := Nat.ne_of_gt (Heap.lt_size hx)
  have X₁ : K.In h₁ := X.keeps k
  have hx₁ := k _ _ hx
  show wpAny _ _ (execs _ _) _ _ _
  refine wpAny_execs_cons (plainObj_wpAny_Assign_Attribute ?_)
  refine TA5.ldC (v := v) hn (by first | rfl | with_unfolding_all rfl | kernel_rfl) (TA5.ldC (v := .ref x) hn (by first | rfl | with_unfolding_all rfl | kernel_rfl) ?_)
  refine set_plain X₁ (ox := excO C t0) (od := none) ⟨hx₁, rfl, rfl, trivial⟩ T.sa ?_
  refine TA5.exc_osaT X₁ hx₁ hcl hbm.pass hbm.obj rfl T.noN (fun h₃ tk₃ dx k₃ dn dne hx₃ hn₃ => ?_)
  show wpAny _ _ (execs _ _) _ _ _
  have z : s.heap.objs.size < h₁.objs.size := hn.lt
  exact wpAny_execs_nil (hq h₃ tk₃ dx ⟨fun b o hb e => k₃ b o hb (k b o e), hx₃, Nat.le_of_lt (Nat.lt_of_lt_of_le z dn), dne, hn₃⟩)
theorem err_made (T : ErrTxt K mg xn q C fI) {v : Value} (X : K.In s.heap) (hlim : s.heap.NoLimit) (hroom : A.depth + 1 < recursionLimit)
    (hq : ∀ h' tk e d, OwnMade s.heap h' e C d v → R (.ok (.ret (.ref e))) { s with heap := h', toks := tk }) :
    codeAny (model prog w) A (.call (.ref C) ⟨[v], []⟩) R s := by
  obtain ⟨nm, qq, N, bs, bm, sn, sub, ab, col, dd, k0, k1, k2, k3, k5, newId, hC, hbm⟩ := T.cls
  obtain ⟨B, initId, tail, F, hT⟩ := hbm.base
  obtain ⟨hp, g, dr, tk, os⟩ := s
  have k : ∀ b o, hp.get? b = some o → ((hp.push (kdv_tup [v])).push (excO C hp.objs.size)).get? b = some o := fun b o e => Heap.get?_push_of_some _ (Heap.get?_push_of_some _ e)
  have hget : ((hp.push (kdv_tup [v])).push (excO C hp.objs.size)).get? (hp.objs.size + 1) = some (excO C hp.objs.size) := by heap_get
  have hnx : K.lookup (hp.objs.size + 1) = none := by
    cases e : K.lookup (hp.objs.size + 1) with
    | none => rfl
    | some o =>
      have z : hp.get? (hp.objs.size + 1) = some o := X _ _ e
      exact absurd (Nat.lt_of_succ_lt (Heap.lt_size z)) (Nat.lt_irrefl _)
  refine call_own F hT (X _ _ hC) (looks_findIn X T.iC) (fun self => bind_fn X self T.tC) (TA5.one_size v) ?_
  refine err_init (s := ⟨(hp.push (kdv_tup [v])).push (excO C hp.objs.size), g, dr, tk, os⟩) T (X.keeps k) (hlim.keeps k) hget hnx ?_ fun h' tk' dx ⟨k', hx, dn, dne, hns⟩ => ?_
  · show A.depth + 1 < recursionLimit
    exact hroom
  · have old : ∀ b o, hp.get? b = some o → h'.get? b = some o := fun b o e => k' b o (Nat.ne_of_lt (Nat.lt_succ_of_lt (Heap.lt_size e))) (k b o e)
    have z : hp.objs.size + 1 + 1 ≤ dx := by
      first
        | (simpa only [Heap.size_push] using dn)
        | exact dn
        | (have q := dn; rw [Heap.size_push, Heap.size_push] at q; exact q)
    exact ⟨rfl, hq h' tk' (hp.objs.size + 1) dx ⟨old, Nat.le_succ _, ⟨_, _, hx, rfl, rfl, rfl, rfl⟩, Nat.le_trans (Nat.le_trans (Nat.le_succ _) (Nat.le_succ _)) z, dne, hns⟩⟩
end
end ErrV
end PySem
namespace ErrVL
open PySem L2 PySem.Spec PyProof.Rows
theorem relO_err {v : V} {v' : Value} (r : RelV v v') (f : Str) : RelO (List.lookup f [(("value" : Str), v)]) (if f = "value" then some v' else none) := by
  by_cases hw : f = "value"
  · subst hw
    rw [if_pos rfl]
    have q : List.lookup ("value" : Str) [(("value" : Str), v)] = some v := by simp [List.lookup]
    rw [q]
    exact r
  · rw [if_neg hw]
    have qw : (f == ("value" : Str)) = false := by simpa using hw
    have q2 : List.lookup f [(("value" : Str), v)] = none := by simp [List.lookup, qw]
    rw [q2]
    trivial
section
variable {X : Cx} {C fI : Addr} {xn q : Str}
def tMkErr (C : Addr) (ta : TA) : L2.St → Hp → XK → Prop := fun σ H Q => ta σ H fun vs H1 => ∃ v, vs = [v] ∧ ∀ d, H1 d = none → Q (.ref C) (some d) (upd H1 d (.xd [(("value" : Str), v)]))
theorem pmk_err {a : Expr} {ta : TA} {p pos : Pos} {k : Nat} (T : PySem.ErrV.ErrTxt X.K X.mg xn q C fI) (hr : Room k X.A) (ha : PA X [a] ta) (hg : Gl X xn := by rfl) (hdb : (xn == ("__debug__" : Str)) = false := by decide)
    (he : starEach (a :: []) X.env = (false, eval a X.env) :: starEach [] X.env := by rfl) (hpl : (backTo pos (starEach [] X.env)).any (·.1) = false := by rfl) :
    PMk X (.Call (.Name xn p) [a] [] pos) (tMkErr C ta) := by
  intro pins s σ H Q I h
  refine wpAny_Call_Name_kw (ld_glob I hg T.gC ?_ hdb)
  refine PySem.W.callWith_K (h₀ := X.base) I.ok.mod.kin T.kC (thn (ha.run pos pins s σ H _ I h) fun us s1 hh => ?_) he hpl
  obtain ⟨vs, H1, I1, r1, v, ev, q1⟩ := hh
  subst ev
  refine ⟨I1.kIn, ?_⟩
  cases r1 with
  | cons rv rn =>
    rename_i v' us'
    cases rn
    show wpAny _ _ (call (.ref C) [v']) _ _ _
    have hlim := I1.nolimit
    obtain ⟨hp, g, dr, tk, os⟩ := s1
    refine wpAny_call (PySem.ErrV.err_made T I1.kIn hlim (by have := hr.dp; omega) fun h' tk' e d M => ?_)
    show MkP X pins σ Q (.ref e) ⟨h', g, dr, tk', os⟩
    obtain ⟨oe, fv, hoe, hc, hd, hdat, h1⟩ := M.obj
    have hns := M.ns
    obtain ⟨G', g1, g2⟩ := restrict h' fun b => decide (b ≠ e)
    have gk : ∀ b, b ≠ e → G'.get? b = h'.get? b := fun b hb => g1 b (decide_eq_true hb)
    have ge : G'.get? e = none := g2 e (by simp)
    have old : ∀ b o, hp.get? b = some o → G'.get? b = some o := fun b o q => (gk b (Nat.ne_of_lt (Nat.lt_of_lt_of_le (Heap.lt_size q) M.new))).trans (M.keep b o q)
    have ob : ObjOk X.prog X.w (upd H1 d (.xd [(("value" : Str), v)])) G' d (.xd [(("value" : Str), v)]) :=
      ⟨_, hns.at (fun o q => (gk d M.dne).trans q), fun f => relO_err rv f⟩
    have J : Inv X pins σ (upd H1 d (.xd [(("value" : Str), v)])) ⟨G', g, dr, tk', os⟩ := I1.laid (t' := tk') old M.dbig ob
    refine ⟨e, oe, fv, ⟨G', g, dr, tk', os⟩, _, .ref C, some d, rfl, J, fun b o q => ?_, ge, hoe, ⟨hc, hd⟩, hdat, h1, ?_, rfl, I1.bare, raises_own T.exC T.tyC, q1 d (I1.hok.fresh M.dbig)⟩
    · by_cases hb : b = e
      · have q' : G'.get? b = some o := q
        rw [hb, ge] at q'; cases q'
      · exact (gk b hb).symm.trans q
    · rw [upd_ne (Ne.symm M.dne)]
      exact I1.hok.fresh M.new
def tRaiseErr (C : Addr) (W : WX) (ta : TA) : TS := fun _ σ H => tMkErr C ta σ H fun cls d H' => W cls d σ H'
theorem ps_raiseErr {a : Expr} {ta : TA} {W : WX} {p pos pos2 : Pos} {k : Nat} (hc : X.calm = true) (T : PySem.ErrV.ErrTxt X.K X.mg xn q C fI) (hr : Room k X.A) (tk : Takes X W) (ha : PA X [a] ta) (hg : Gl X xn := by rfl) (hdb : (xn == ("__debug__" : Str)) = false := by decide)
    (he : starEach (a :: []) X.env = (false, eval a X.env) :: starEach [] X.env := by rfl) (hpl : (backTo pos (starEach [] X.env)).any (·.1) = false := by rfl) :
    PS X (.Raise (some (.Call (.Name xn p) [a] [] pos)) none pos2) (tRaiseErr C W ta) := ps_raise hc tk (pmk_err T hr ha hg hdb he hpl)
def tFldErr (C : Addr) (a : Addr) (cls : Value) (d : Option Addr) (te : TE) : TE := fun σ H Q => te σ H fun x H1 => x = .ref a ∧ cls = .ref C ∧ ∃ (dd : Addr) (v : V), d = some dd ∧ H1 dd = some (.xd [(("value" : Str), v)]) ∧ Q v H1
theorem pe_fldErr {a : Addr} {oe : Obj} {cls : Value} {d : Option Addr} {pn : List (Addr × Obj)} {e : Expr} {te : TE} {pos : Pos} (T : PySem.ErrV.ErrTxt X.K X.mg xn q C fI) (hz : Zc cls d oe) (hf : ∃ vs, oe.data = .fields vs) (he : PE (X.suite a ((a, oe) :: pn)) e te)
    (hb : attributeBase e "value" X.env (eval e X.env) = eval e X.env := by rfl) :
    PE (X.suite a ((a, oe) :: pn)) (.Attribute e "value" pos) (tFldErr C a cls d te) := by
  refine ⟨fun pins s σ H Q I h => ?_⟩
  refine attr_of hb (thn (he.run pins s σ H _ I h) fun u s1 hh => ?_)
  obtain ⟨x, H1, I1, rx, ex, ec, dd, v, ed, ea, q⟩ := hh
  subst ex
  obtain rfl : u = Value.ref a := rx
  subst ec
  subst ed
  obtain ⟨ha, _⟩ := I1.pin (a, oe) (List.mem_append_left _ List.mem_cons_self)
  obtain ⟨vs, hd⟩ := hf
  have hx : ObjOk X.prog X.w H1 s1.heap dd (.xd [(("value" : Str), v)]) := I1.hok dd _ ea
  obtain ⟨mA, hns, hr⟩ := hx
  obtain ⟨od, ho, hl⟩ := lookIn_ns hns
  have l : List.lookup ("value" : Str) [(("value" : Str), v)] = some v := by simp [List.lookup]
  obtain ⟨u, hu, ru⟩ := RelO.some_of (v := v) (o := mA "value") (by rw [← l]; exact hr "value")
  have J : PySem.W.InstAt s1.heap a oe C (some od) := ⟨ha, hz.1, by unfold PySem.W.notCls; rw [hd] <;> rfl, by rw [hz.2]; exact ho⟩
  exact HandSPX.exc_get I1.kIn J T.ga T.gg T.exC (PySem.W.findObj_own T.hdC T.noN rfl (by rw [hl, hu])) (handed_of ru) ⟨v, H1, I1.tok _, ru, q⟩
end
end ErrVL
namespace TA5
open PySem L2 PySem.Spec PyProof.Rows
section
variable {X : Cx}
/-- set(t), t a tuple of ints -/
def rSetTI (K : PySem.W.Frag) (w : World) : List V → Hp → VK → Prop := fun xs H Q => ∃ (p : Addr) (ns : List Int), xs = [.ref p] ∧ SqT K H p (ns.map V.int) ∧ ns.length ≤ 1000 ∧ ∀ (a : Addr) (c : Nat), H a = none → c ≤ ns.length → Q (.ref a) (upd H a (SetO w a (fun j => decide (j ∈ ns)) c))
theorem cr_setTI (hc : X.calm = true) : CallR X (.type "set") (rSetTI X.K X.w) := by
  intro pins s σ H xs us Q I r h
  obtain ⟨p, ns, e, hq, hl, q⟩ := h
  subst e
  cases r with
  | cons r rr =>
    cases rr
    cases r
    obtain ⟨its, rv, pt, hz⟩ := I.tuple hq
    have hi : IntsAre its.toArray.toList ns := ints_of_vals rv
    refine call_set_tupI ns (I.ok.hd hc) (show s.heap.IsTuple p its.toArray from pt) hi (by unfold scanBound; omega) fun h' tk c R1 hcn k => ?_
    have fr : H s.heap.objs.size = none := I.hok.fresh (Nat.le_refl _)
    exact ⟨.ref s.heap.objs.size, _, I.laid (t' := tk) k (Nat.le_refl _) (setO_new R1), rfl, q _ c fr hcn⟩
end
end TA5
namespace Ev2
open PySem PySem.Spec PyProof.Rows L2 Evl RZ

abbrev HP := V → Hp → Prop
def Mono (P : HP) : Prop := ∀ v H H', Evl.Ex H H' → P v H → P v H'
/-- what never changes is kept: all but lists -/
def Fx (H H' : Hp) : Prop := ∀ a o, H a = some o → (∀ xs, o ≠ .lst xs) → H' a = some o
theorem Fx.of {H H' : Hp} (e : Evl.Ex H H') : Fx H H' := fun a o h _ => e a o h
theorem Fx.refl (H : Hp) : Fx H H := fun _ _ h _ => h
theorem Fx.trans {H H1 H2 : Hp} (a : Fx H H1) (b : Fx H1 H2) : Fx H H2 := fun x o h n => b x o (a x o h n) n
theorem Fx.lst {H : Hp} {D : Addr} {xs ys : List V} (h : H D = some (.lst xs)) : Fx H (upd H D (.lst ys)) := fun a o e n => by
  by_cases ha : a = D
  · subst ha; rw [h] at e; cases e; exact absurd rfl (n xs)
  · rw [upd_ne ha]; exact e
def MonoF (P : HP) : Prop := ∀ v H H', Fx H H' → P v H → P v H'
theorem MonoF.mono {P : HP} (m : MonoF P) : Mono P := fun v H H' e p => m v H H' (Fx.of e) p
def EvP (te : TE) (σ : L2.St) (H : Hp) (P : HP) : Prop := ∀ H1, Evl.Ex H H1 → ∀ Q : VK, (∀ v H2, Evl.Ex H1 H2 → P v H2 → Q v H2) → te σ H1 Q
def EvAP (ta : TA) (σ : L2.St) (H : Hp) (P : List V → Hp → Prop) : Prop := ∀ H1, Evl.Ex H H1 → ∀ Q : List V → Hp → Prop, (∀ v H2, Evl.Ex H1 H2 → P v H2 → Q v H2) → ta σ H1 Q
def EvTP (tt : TT) (σ : L2.St) (H : Hp) (b : Bool) : Prop := EvT tt σ H b
def RP (r : R2) (x y : V) (H : Hp) (P : HP) : Prop := ∀ Q : VK, (∀ v H2, Evl.Ex H H2 → P v H2 → Q v H2) → r x y H Q
/-- a list just made whose items are so -/
def LstP (n : Nat) (P : Nat → HP) : HP := fun v H => ∃ p ys, v = .ref p ∧ H p = some (.lst ys) ∧ ys.length = n ∧ ∀ i y, ys[i]? = some y → P i y H
def TupP (n : Nat) (P : Nat → HP) : HP := fun v H => ∃ p ys, v = .ref p ∧ H p = some (.tup ys) ∧ ys.length = n ∧ ∀ i y, ys[i]? = some y → P i y H
def Is (x : V) : HP := fun v _ => v = x
theorem mono_is {x : V} : Mono (Is x) := fun _ _ _ _ h => h
theorem mono_lst {n : Nat} {P : Nat → HP} (m : ∀ i, Mono (P i)) : Mono (LstP n P) := fun v H H' e ⟨p, ys, h1, h2, h3, h4⟩ => ⟨p, ys, h1, e _ _ h2, h3, fun i y hy => m i _ _ _ e (h4 i y hy)⟩
theorem mono_tup {n : Nat} {P : Nat → HP} (m : ∀ i, Mono (P i)) : Mono (TupP n P) := fun v H H' e ⟨p, ys, h1, h2, h3, h4⟩ => ⟨p, ys, h1, e _ _ h2, h3, fun i y hy => m i _ _ _ e (h4 i y hy)⟩
section
variable {K : PySem.W.Frag} {σ : L2.St} {H H' : Hp} {ta tb te : TE} {P R S : HP} {r : R2} {v : V}
theorem EvP.mono (h : EvP te σ H P) (e : Evl.Ex H H') : EvP te σ H' P := fun H1 a Q q => h H1 (e.trans a) Q q
theorem EvP.imp (h : EvP te σ H P) (k : ∀ v H1, Evl.Ex H H1 → P v H1 → R v H1) : EvP te σ H R := fun H1 a Q q => h H1 a Q fun v H2 e p => q v H2 e (k v H2 (a.trans e) p)
theorem evp_of (h : Ev te σ H v) : EvP te σ H (Is v) := fun H1 a Q q => h H1 a Q fun H2 e => q v H2 e rfl
theorem EvP.ev (h : EvP te σ H (Is v)) : Ev te σ H v := fun H1 a Q q => h H1 a Q fun x H2 e p => by rw [show x = v from p]; exact q H2 e
theorem evp_var {i : Nat} (h : σ[i]? = some (some v)) (p : P v H) (m : Mono P) : EvP (tVar i) σ H P := fun H1 e Q q => ⟨v, h, q v H1 (Ex.refl H1) (m _ _ _ e p)⟩
theorem evp_op (ha : EvP ta σ H P) (hb : EvP tb σ H R) (m : Mono P) (hr : ∀ x y H1, Evl.Ex H H1 → P x H1 → R y H1 → RP r x y H1 S) : EvP (tOp r ta tb) σ H S := fun H1 e Q q =>
  ha H1 e _ fun x H2 e2 p => hb H2 (e.trans e2) _ fun y H3 e3 p' => hr x y H3 ((e.trans e2).trans e3) (m _ _ _ e3 p) p' Q fun z H4 e4 s => q z H4 ((e2.trans e3).trans e4) s
theorem evp_un {u : V → Hp → VK → Prop} (ha : EvP ta σ H P) (hr : ∀ x H1, Evl.Ex H H1 → P x H1 → ∀ Q : VK, (∀ v H2, Evl.Ex H1 H2 → S v H2 → Q v H2) → u x H1 Q) : EvP (tUn u ta) σ H S := fun H1 e Q q =>
  ha H1 e _ fun x H2 e2 p => hr x H2 (e.trans e2) p Q fun z H4 e4 s => q z H4 (e2.trans e4) s
theorem eap_nil : EvAP tNil σ H (fun vs _ => vs = []) := fun H1 e Q q => q [] H1 (Ex.refl H1) rfl
theorem eap_one (h : EvP te σ H P) : EvAP (tCons te tNil) σ H (fun vs H1 => ∃ x, vs = [x] ∧ P x H1) := fun H1 e Q q => h H1 e _ fun x H2 e2 p => q [x] H2 e2 ⟨x, rfl, p⟩
theorem eap_two (h : EvP te σ H P) (h2 : EvP ta σ H R) (m : Mono P) : EvAP (tCons te (tCons ta tNil)) σ H (fun vs H1 => ∃ x y, vs = [x, y] ∧ P x H1 ∧ R y H1) := fun H1 e Q q =>
  h H1 e _ fun x H2 e2 p => h2 H2 (e.trans e2) _ fun y H3 e3 p' => q [x, y] H3 (e2.trans e3) ⟨x, y, rfl, m _ _ _ e3 p, p'⟩
theorem eap_three {tc : TE} (h : EvP te σ H P) (h2 : EvP ta σ H R) (h3 : EvP tc σ H S) (m : Mono P) (m2 : Mono R) : EvAP (tCons te (tCons ta (tCons tc tNil))) σ H (fun vs H1 => ∃ x y z, vs = [x, y, z] ∧ P x H1 ∧ R y H1 ∧ S z H1) := fun H1 e Q q =>
  h H1 e _ fun x H2 e2 p => h2 H2 (e.trans e2) _ fun y H3 e3 p' => h3 H3 ((e.trans e2).trans e3) _ fun z H4 e4 p'' => q [x, y, z] H4 ((e2.trans e3).trans e4) ⟨x, y, z, rfl, m _ _ _ (e3.trans e4) p, m2 _ _ _ e4 p', p''⟩
/-- a def's promise, of such arguments -/
def SpP (sp : Sp) (A : List V → Hp → Prop) (S : HP) : Prop := ∀ vs H1, A vs H1 → ∀ Q : VK, (∀ v H2, Evl.Ex H1 H2 → S v H2 → Q v H2) → ∀ E : XK, sp vs H1 Q E
theorem evp_call {sp : Sp} {E : XK} {ta : TA} {A : List V → Hp → Prop} (h : EvAP ta σ H A) (hs : SpP sp A S) : EvP (tCall sp [] E ta) σ H S := fun H1 e Q q =>
  h H1 e _ fun vs H2 e2 a => by
    have z := hs vs H2 a Q (fun v H3 e3 s => q v H3 (e2.trans e3) s) E
    show sp (vs ++ []) H2 Q E
    rw [List.append_nil]
    exact z
theorem evp_cb {rr : List V → Hp → VK → Prop} {ta : TA} {A : List V → Hp → Prop} (h : EvAP ta σ H A) (hs : ∀ vs H1, A vs H1 → ∀ Q : VK, (∀ v H2, Evl.Ex H1 H2 → S v H2 → Q v H2) → rr vs H1 Q) : EvP (tCB rr ta) σ H S := fun H1 e Q q =>
  h H1 e _ fun vs H2 e2 a => hs vs H2 a Q fun v H3 e3 s => q v H3 (e2.trans e3) s
theorem eu_tupP {ta : TA} {A : List V → Hp → Prop} (h : EvAP ta σ H A) (hl : ∀ vs H1, A vs H1 → vs.length ≤ 100000) (m : ∀ vs H1 H2, Evl.Ex H1 H2 → A vs H1 → A vs H2) : EvP (tTup ta) σ H (fun v H1 => ∃ p vs, v = .ref p ∧ H1 p = some (.tup vs) ∧ A vs H1) := fun H1 e Q q =>
  h H1 e _ fun vs H2 e2 a => ⟨sz_of (hl vs H2 a), fun p hp => q _ _ (e2.trans (Ex.new hp)) ⟨p, vs, rfl, upd_same, m _ _ _ (Ex.new hp) a⟩⟩
/-- tuple(a new list) -/
theorem evp_tuple {n : Nat} {Pi : Nat → HP} (h : EvP te σ H (LstP n Pi)) (m : ∀ i, Mono (Pi i)) :
    EvP (tCB (fun xs H Q => ∃ p ys, xs = [.ref p] ∧ ((SqL K H p ys ∧ ∀ l, H l = none → Q (.ref l) (upd H l (.tup ys))) ∨ (SqT K H p ys ∧ Q (.ref p) H))) (tCons te tNil)) σ H (TupP n Pi) := fun H1 e Q q =>
  h H1 e _ fun v H2 e2 ⟨p, ys, hv, hp, hl, hi⟩ => by
    subst hv
    exact ⟨p, ys, rfl, .inl ⟨sq_of hp, fun l hl' => q _ _ (e2.trans (Ex.new hl')) ⟨l, ys, rfl, upd_same, hl, fun i y hy => m i _ _ _ (Ex.new hl') (hi i y hy)⟩⟩⟩

/-! ### what is walked -/
structure Turns (J : It) (n : Nat) (Pre : Hp → Prop) (item : Nat → V → Hp → Prop) : Prop where
  mono : ∀ H H', Fx H H' → Pre H → Pre H'
  go : ∀ i H, i < n → Pre H → J.go i H
  stop : ∀ H, Pre H → J.stop n H
  yld : ∀ i H x H', i < n → Pre H → J.yld i H x H' → Evl.Ex H H' ∧ item i x H'
def WiP (wi : TI) (σ : L2.St) (H : Hp) (n : Nat) (item : Nat → V → Hp → Prop) : Prop := ∀ H1, Evl.Ex H H1 → ∀ R : It → Hp → Prop, (∀ J H2 Pre, Evl.Ex H1 H2 → Turns J n Pre item → Pre H2 → R J H2) → wi σ H1 R
theorem wi_tup {tl : TE} {n : Nat} {Pi : Nat → HP} (h : EvP tl σ H (TupP n Pi)) (m : ∀ i, MonoF (Pi i)) : WiP (iTup K tl) σ H n (fun i x H => Pi i x H) := fun H1 e R k =>
  h H1 e _ fun v H2 e2 ⟨p, ys, hv, hp, hl, hi⟩ => by
    subst hv
    refine ⟨p, rfl, ⟨ys, st_of hp⟩, k _ H2 (fun H => H p = some (.tup ys) ∧ ∀ i y, ys[i]? = some y → Pi i y H) e2 ?_ ⟨hp, hi⟩⟩
    refine ⟨fun H H' e ⟨a, b⟩ => ⟨e _ _ a (fun _ z => nomatch z), fun i y hy => m i _ _ _ e (b i y hy)⟩, fun i H hlt ⟨a, _⟩ => ?_, fun H ⟨a, _⟩ => ?_, fun i H x H' hlt ⟨a, b⟩ y => ?_⟩
    · exact ⟨ys, _, st_of a, List.getElem?_eq_getElem (by omega)⟩
    · exact ⟨ys, st_of a, by omega⟩
    · obtain ⟨rfl, f⟩ := y
      have hx : ys[i]? = some x := by first | exact f ys (st_of a) | (obtain ⟨zs, z1, z2⟩ := f; exact z2)
      exact ⟨Ex.refl _, b i x hx⟩
theorem wi_rng {ta : TA} {n : Nat} (h : EvAP ta σ H (fun vs _ => vs = [.int (n : Int)])) (hn : n ≤ 100000) : WiP (iRng1 ta) σ H n (fun i x _ => x = .int (i : Int)) := fun H1 e R k =>
  h H1 e _ fun vs H2 e2 hv => by
    subst hv
    refine ⟨(n : Int), rfl, by omega, by omega, ?_⟩
    refine k _ H2 (fun _ => True) e2 ⟨fun _ _ _ _ => trivial, fun i H hlt _ => ?_, fun H _ => ?_, fun i H x H' hlt _ y => ?_⟩ trivial
    · show i < (n : Int).toNat
      simpa using hlt
    · show (n : Int).toNat ≤ n
      simp
    · obtain ⟨rfl, rfl⟩ := y
      exact ⟨Ex.refl _, by rw [Int.zero_add]⟩
theorem wi_zip {tl tr : TE} {n : Nat} {Pi Ri : Nat → HP} (h : EvP tl σ H (TupP n Pi)) (h2 : EvP tr σ H (TupP n Ri)) (m : ∀ i, MonoF (Pi i)) (m2 : ∀ i, MonoF (Ri i)) :
    WiP (iZipA K (tCons tl (tCons tr tNil))) σ H n (fun i x H => ∃ T u v, x = .ref T ∧ H T = some (.tup [u, v]) ∧ Pi i u H ∧ Ri i v H) := fun H1 e R k =>
  h H1 e _ fun v H2 e2 ⟨p, ys, hv, hp, hl, hi⟩ => h2 H2 (e.trans e2) _ fun v' H3 e3 ⟨q, zs, hv', hq, hl', hi'⟩ => by
    subst hv
    subst hv'
    refine ⟨p, q, ys, zs, rfl, .inr ⟨st_of (e3 _ _ hp), st_of hq, ?_⟩⟩
    refine k _ H3 (fun H => H p = some (.tup ys) ∧ H q = some (.tup zs) ∧ (∀ i y, ys[i]? = some y → Pi i y H) ∧ ∀ i y, zs[i]? = some y → Ri i y H) (e2.trans e3) ?_ ⟨e3 _ _ hp, hq, fun i y hy => (m i).mono _ _ _ e3 (hi i y hy), hi'⟩
    refine ⟨fun H H' e ⟨a, b, c, d⟩ => ⟨e _ _ a (fun _ z => nomatch z), e _ _ b (fun _ z => nomatch z), fun i y hy => m i _ _ _ e (c i y hy), fun i y hy => m2 i _ _ _ e (d i y hy)⟩, fun i H hlt ⟨a, b, _, _⟩ => ?_, fun H ⟨a, b, _, _⟩ => ?_, fun i H x H' hlt ⟨a, b, c, d⟩ y => ?_⟩
    · exact ⟨ys, zs, _, _, st_of a, st_of b, List.getElem?_eq_getElem (by omega), List.getElem?_eq_getElem (by omega)⟩
    · exact ⟨ys, zs, st_of a, st_of b, .inl (by omega)⟩
    · obtain ⟨T, u, w, rfl, hT, rfl, f1, f2⟩ := y
      have ex := Ex.new (o := .tup [u, w]) hT
      exact ⟨ex, T, u, w, rfl, upd_same, (m i).mono _ _ _ ex (c i u (f1 ys (st_of a))), (m2 i).mono _ _ _ ex (d i w (f2 zs (st_of b)))⟩
/-- targets -/
def GP (g : TG) (x : V) (σ0 : L2.St) (H : Hp) (S : L2.St → Hp → Prop) : Prop := ∀ Q : L2.St → Hp → Prop, (∀ σ2, S σ2 H → Q σ2 H) → g x σ0 H Q
theorem g_pair {x : V} {T : Addr} {u w : V} {σ0 : L2.St} {i j : Nat} (hx : x = .ref T) (h : H T = some (.tup [u, w])) : GP (gTup K 2 (gCons (gName i) (gCons (gName j) gNil))) x σ0 H (fun σ2 _ => σ2 = (σ0.set i (some u)).set j (some w)) := fun Q q =>
  ⟨T, [u, w], hx, st_of h, rfl, u, [w], rfl, w, [], rfl, rfl, q _ rfl⟩
/-- a comprehension without tests -/
theorem evp_lc {wi : TI} {g : TG} {vs : List Nat} {n : Nat} {item : Nat → V → Hp → Prop} {Sg : Nat → L2.St → Hp → Prop} {Pi : Nat → HP} (hw : WiP wi σ H n item) (hn : n ≤ 40000)
    (hg : ∀ i x H1, i < n → Evl.Ex H H1 → item i x H1 → GP g x (wipe σ vs) H1 (fun σ2 H2 => wipe σ2 vs = wipe σ vs ∧ Sg i σ2 H2)) (he : ∀ i σ2 H1, i < n → Evl.Ex H H1 → Sg i σ2 H1 → EvP te σ2 H1 (Pi i)) (m : ∀ i, MonoF (Pi i)) :
    EvP (tLc wi g tYes te vs) σ H (LstP n Pi) := fun H1 e Q q => hw H1 e _ fun J H2 Pre e2 T pre => fun D hD => by
  refine ⟨fun i k H3 => k = n - i ∧ i ≤ n ∧ H2 D = none ∧ Evl.Ex H2 H3 ∧ ∃ ys, H3 D = some (.lst ys) ∧ ys.length = i ∧ ∀ j y, ys[j]? = some y → Pi j y H3, ⟨n, by simp, Nat.zero_le _, hD, Ex.new hD, [], upd_same, rfl, fun j y hy => by simp at hy⟩, ?_⟩
  rintro i k H3 ⟨rfl, hi, hD', ex, ys, hys, hl, hP⟩
  have pre3 := T.mono _ _ (Fx.of ex) pre
  by_cases hlt : i < n
  · refine .inr ⟨T.go i H3 hlt pre3, fun H4 => H2 D = none ∧ Evl.Ex H2 H4 ∧ ∃ ys, H4 D = some (.lst ys) ∧ ys.length = i + 1 ∧ ∀ j y, ys[j]? = some y → Pi j y H4, fun H4 ⟨a, b, c⟩ => ⟨n - (i + 1), by omega, rfl, by omega, a, b, c⟩, fun x H4 y => ?_⟩
    obtain ⟨e4, it⟩ := T.yld i H3 x H4 hlt pre3 y
    refine hg i x H4 hlt (((e.trans e2).trans ex).trans e4) it _ fun σ2 ⟨hw2, hs⟩ => ⟨hw2, ?_⟩
    unfold tYes
    dsimp only
    rw [if_pos rfl]
    refine he i σ2 H4 hlt (((e.trans e2).trans ex).trans e4) hs H4 (Ex.refl _) _ fun z H5 e5 hz => ?_
    have hys5 := e5 _ _ (e4 _ _ hys)
    have ex5 : Evl.Ex H2 (upd H5 D (.lst (ys ++ [z]))) := Ex.mut ((ex.trans e4).trans e5) hD'
    refine ⟨ys, hys5, sz_lt (by omega), hD', ex5, ys ++ [z], upd_same, by simp [hl], fun j y hy => ?_⟩
    have key : Pi j y H5 := by
      by_cases hj : j < ys.length
      · rw [List.getElem?_append_left hj] at hy
        exact (m j).mono _ _ _ (e4.trans e5) (hP j y hy)
      · rw [List.getElem?_append_right (by omega)] at hy
        have : j - ys.length = 0 := by
          rcases Nat.eq_zero_or_pos (j - ys.length) with z0 | z0
          · exact z0
          · rw [List.getElem?_eq_none (by simp; omega)] at hy; cases hy
        rw [this] at hy
        have ej : j = i := by omega
        have ey : z = y := by simpa using hy
        rw [ej, ← ey]
        exact hz
    exact m j _ _ _ (Fx.lst hys5) key
  · have hinn : i = n := by omega
    subst hinn
    exact .inl ⟨T.stop H3 pre3, q _ H3 (e2.trans ex) ⟨D, ys, rfl, hys, hl, hP⟩⟩
end
end Ev2
namespace Ev2
open PySem PySem.Spec PyProof.Rows L2 Evl RZ
/-- a state to draw from: the list at s holds the pool's list (at p) and a place -/
structure Dr (s p : Addr) (xs : List Int) (H : Hp) : Prop where
  ne : p ≠ s
  at_ : ∃ k : Nat, H s = some (.lst [.ref p, .int (k : Int)])
  pool : H p = some (.lst (xs.map V.int))
/-- all but the state is kept -/
def Gs (s : Addr) (H H' : Hp) : Prop := ∀ a o, a ≠ s → H a = some o → H' a = some o
theorem Gs.refl (s : Addr) (H : Hp) : Gs s H H := fun _ _ _ h => h
theorem Gs.trans {s : Addr} {H H1 H2 : Hp} (a : Gs s H H1) (b : Gs s H1 H2) : Gs s H H2 := fun x o n h => b x o n (a x o n h)
theorem Gs.of {s : Addr} {H H' : Hp} (e : Evl.Ex H H') : Gs s H H' := fun a o _ h => e a o h
theorem Dr.ex {s p : Addr} {xs : List Int} {H H' : Hp} (d : Dr s p xs H) (e : Evl.Ex H H') : Dr s p xs H' := ⟨d.ne, let ⟨k, h⟩ := d.at_; ⟨k, e _ _ h⟩, e _ _ d.pool⟩
theorem Gs.fx {s p : Addr} {xs : List Int} {H H' : Hp} (g : Gs s H H') (d : Dr s p xs H) : Fx H H' := fun a o h n => by
  by_cases ha : a = s
  · subst ha
    obtain ⟨k, hk⟩ := d.at_
    rw [hk] at h; cases h; exact absurd rfl (n _)
  · exact g a o ha h
def EvD (s p : Addr) (xs : List Int) (te : TE) (σ : L2.St) (H : Hp) (P : HP) : Prop := ∀ H1, Gs s H H1 → Dr s p xs H1 → ∀ Q : VK, (∀ v H2, Gs s H1 H2 → Dr s p xs H2 → P v H2 → Q v H2) → te σ H1 Q
section
variable {K : PySem.W.Frag} {σ : L2.St} {H H' : Hp} {ta tb te : TE} {P R S : HP} {r : R2} {v : V} {s p : Addr} {xs : List Int}
theorem EvD.imp (h : EvD s p xs te σ H P) (k : ∀ v H1, P v H1 → R v H1) : EvD s p xs te σ H R := fun H1 a d Q q => h H1 a d Q fun v H2 e d2 p => q v H2 e d2 (k v H2 p)
/-- a comprehension over range(n) whose items draw -/
theorem evd_lc {tn : TA} {vs : List Nat} {n j : Nat} {Pi : Nat → HP} (hw : ∀ H1, EvAP tn σ H1 (fun vs _ => vs = [.int (n : Int)])) (hn : n ≤ 40000) (hz : ∀ x, wipe ((wipe σ vs).set j (some x)) vs = wipe σ vs)
    (he : ∀ (i : Nat), i < n → EvD s p xs te ((wipe σ vs).set j (some (.int (i : Int)))) H (Pi i)) (m : ∀ i, MonoF (Pi i)) :
    EvD s p xs (tLc (iRng1 tn) (gName j) tYes te vs) σ H (LstP n Pi) := fun H1 e d Q q => hw H1 H1 (Ex.refl _) _ fun vs' H2 e2 hv => by
  subst hv
  refine ⟨(n : Int), rfl, by omega, by omega, fun D hD => ?_⟩
  have d2 := d.ex e2
  have hDs : D ≠ s := fun z => by obtain ⟨k, hk⟩ := d2.at_; rw [z, hk] at hD; cases hD
  have hDp : D ≠ p := fun z => by have := d2.pool; rw [← z, hD] at this; cases this
  refine ⟨fun i k H3 => k = n - i ∧ i ≤ n ∧ Gs s H2 H3 ∧ Dr s p xs H3 ∧ ∃ ys, H3 D = some (.lst ys) ∧ ys.length = i ∧ ∀ j y, ys[j]? = some y → Pi j y H3, ⟨n, by simp, Nat.zero_le _, Gs.of (Ex.new hD), d2.ex (Ex.new hD), [], upd_same, rfl, fun j y hy => by simp at hy⟩, ?_⟩
  rintro i k H3 ⟨rfl, hi, ex, d3, ys, hys, hl, hP⟩
  by_cases hlt : i < n
  · refine .inr ⟨by show i < (n : Int).toNat; simpa using hlt, fun H4 => Gs s H2 H4 ∧ Dr s p xs H4 ∧ ∃ ys, H4 D = some (.lst ys) ∧ ys.length = i + 1 ∧ ∀ j y, ys[j]? = some y → Pi j y H4, fun H4 ⟨a, b, c⟩ => ⟨n - (i + 1), by omega, rfl, by omega, a, b, c⟩, fun x H4 y => ?_⟩
    obtain ⟨rfl, rfl⟩ := y
    refine ⟨hz _, ?_⟩
    unfold tYes
    dsimp only
    rw [if_pos rfl]
    rw [Int.zero_add]
    refine he i hlt H4 ((e.trans (Gs.of e2)).trans ex) d3 _ fun z H5 e5 d5 hz => ?_
    have hys5 := e5 _ _ hDs hys
    refine ⟨ys, hys5, sz_lt (by omega), ?_, ?_, ys ++ [z], upd_same, by simp [hl], fun j y hy => ?_⟩
    · intro a o ha h
      have hna : a ≠ D := fun q => by rw [q, hD] at h; cases h
      rw [upd_ne hna]
      exact e5 _ _ ha (ex _ _ ha h)
    · refine ⟨d5.ne, ?_, ?_⟩
      · obtain ⟨k, hk⟩ := d5.at_
        exact ⟨k, by rw [upd_ne hDs.symm]; exact hk⟩
      · rw [upd_ne hDp.symm]; exact d5.pool
    · have key : Pi j y H5 := by
        by_cases hj : j < ys.length
        · rw [List.getElem?_append_left hj] at hy
          exact m j _ _ _ (Gs.fx e5 d3) (hP j y hy)
        · rw [List.getElem?_append_right (by omega)] at hy
          have : j - ys.length = 0 := by
            rcases Nat.eq_zero_or_pos (j - ys.length) with z0 | z0
            · exact z0
            · rw [List.getElem?_eq_none (by simp; omega)] at hy; cases hy
          rw [this] at hy
          have ej : j = i := by omega
          have ey : z = y := by simpa using hy
          rw [ej, ← ey]
          exact hz
      exact m j _ _ _ (Fx.lst hys5) key
  · have hinn : i = n := by omega
    subst hinn
    exact .inl ⟨by show (i : Int).toNat ≤ i; simp, q _ H3 ((Gs.of e2).trans ex) d3 ⟨D, ys, rfl, hys, hl, hP⟩⟩
theorem evd_tuple {n : Nat} {Pi : Nat → HP} (h : EvD s p xs te σ H (LstP n Pi)) (m : ∀ i, MonoF (Pi i)) :
    EvD s p xs (tCB (fun xs H Q => ∃ p ys, xs = [.ref p] ∧ ((SqL K H p ys ∧ ∀ l, H l = none → Q (.ref l) (upd H l (.tup ys))) ∨ (SqT K H p ys ∧ Q (.ref p) H))) (tCons te tNil)) σ H (TupP n Pi) := fun H1 e d Q q =>
  h H1 e d _ fun v H2 e2 d2 ⟨p, ys, hv, hp, hl, hi⟩ => by
    subst hv
    exact ⟨p, ys, rfl, .inl ⟨sq_of hp, fun l hl' => q _ _ (e2.trans (Gs.of (Ex.new hl'))) (d2.ex (Ex.new hl')) ⟨l, ys, rfl, upd_same, hl, fun i y hy => (m i).mono _ _ _ (Ex.new hl') (hi i y hy)⟩⟩⟩
/-- a pure reading, in a state -/
theorem evd_of (h : ∀ H1, Gs s H H1 → Dr s p xs H1 → EvP te σ H1 P) : EvD s p xs te σ H P := fun H1 e d Q q => h H1 e d H1 (Ex.refl _) Q fun v H2 e2 p => q v H2 (Gs.of e2) (d.ex e2) p

/-! ### two fors: the ints of all, one after the other -/
def acc2 (f : Nat → Nat → V) (m : Nat → Nat) : Nat → List V
  | 0 => []
  | i + 1 => acc2 f m i ++ (List.range (m i)).map (f i)
theorem evp_lc2 {wi wi1 : TI} {g g1 : TG} {vs vs1 : List Nat} {n : Nat} {mm : Nat → Nat} {item : Nat → V → Hp → Prop} {item1 : Nat → Nat → V → Hp → Prop} {Sg : Nat → L2.St → Hp → Prop} {Sg1 : Nat → Nat → L2.St → Hp → Prop} {f : Nat → Nat → V}
    (hw : WiP wi σ H n item) (hn : n ≤ 100) (hmm : ∀ i, mm i ≤ 100)
    (hg : ∀ i x H1, i < n → Evl.Ex H H1 → item i x H1 → GP g x (wipe σ vs) H1 (fun σ2 H2 => wipe σ2 vs = wipe σ vs ∧ Sg i σ2 H2))
    (hw1 : ∀ i σ2 H1, i < n → Evl.Ex H H1 → Sg i σ2 H1 → WiP wi1 σ2 H1 (mm i) (item1 i))
    (hg1 : ∀ i j σ2 x H1 H2, i < n → j < mm i → Evl.Ex H H1 → Sg i σ2 H1 → Fx H1 H2 → item1 i j x H2 → GP g1 x (wipe σ2 vs1) H2 (fun σ3 H3 => wipe σ3 vs1 = wipe σ2 vs1 ∧ Sg1 i j σ3 H3))
    (he : ∀ i j σ3 H1, i < n → j < mm i → Evl.Ex H H1 → Sg1 i j σ3 H1 → Ev te σ3 H1 (f i j)) :
    EvP (tLc2 wi g tYes wi1 g1 tYes te vs vs1) σ H (fun v H1 => ∃ p, v = .ref p ∧ H1 p = some (.lst (acc2 f mm n))) := fun H1 e Q q => hw H1 e _ fun J H2 Pre e2 T pre => fun D hD => by
  have hlen : ∀ i, i ≤ n → (acc2 f mm i).length ≤ 100 * i := by
    intro i
    induction i with
    | zero => intro _; simp [acc2]
    | succ i ih => intro h; have := ih (by omega); have := hmm i; simp [acc2]; omega
  refine ⟨fun i k H3 => k = n - i ∧ i ≤ n ∧ Evl.Ex H2 H3 ∧ H3 D = some (.lst (acc2 f mm i)), ⟨n, by simp, Nat.zero_le _, Ex.new hD, upd_same⟩, ?_⟩
  rintro i k H3 ⟨rfl, hi, ex, hys⟩
  have pre3 := T.mono _ _ (Fx.of ex) pre
  by_cases hlt : i < n
  · refine .inr ⟨T.go i H3 hlt pre3, fun H4 => Evl.Ex H2 H4 ∧ H4 D = some (.lst (acc2 f mm (i + 1))), fun H4 ⟨a, b⟩ => ⟨n - (i + 1), by omega, rfl, by omega, a, b⟩, fun x H4 y => ?_⟩
    obtain ⟨e4, it⟩ := T.yld i H3 x H4 hlt pre3 y
    have exH4 := ((e.trans e2).trans ex).trans e4
    refine hg i x H4 hlt exH4 it _ fun σ2 ⟨hw2, hs⟩ => ⟨hw2, ?_⟩
    unfold tYes
    dsimp only
    rw [if_pos rfl]
    refine hw1 i σ2 H4 hlt exH4 hs H4 (Ex.refl _) _ fun J1 H5 Pre1 e5 T1 pre1 => ?_
    have hys5 := e5 _ _ (e4 _ _ hys)
    refine ⟨fun j k H6 => k = mm i - j ∧ j ≤ mm i ∧ Evl.Ex H2 H6 ∧ Fx H5 H6 ∧ H6 D = some (.lst (acc2 f mm i ++ (List.range j).map (f i))), ⟨mm i, by simp, Nat.zero_le _, (ex.trans e4).trans e5, Fx.refl _, by simpa using hys5⟩, ?_⟩
    rintro j k H6 ⟨rfl, hj, ex6, fx6, hys6⟩
    have pre6 := T1.mono _ _ fx6 pre1
    by_cases hlt1 : j < mm i
    · refine .inr ⟨T1.go j H6 hlt1 pre6, fun H7 => Evl.Ex H2 H7 ∧ Fx H5 H7 ∧ H7 D = some (.lst (acc2 f mm i ++ (List.range (j + 1)).map (f i))), fun H7 ⟨a, b, c⟩ => ⟨mm i - (j + 1), by omega, rfl, by omega, a, b, c⟩, fun x1 H7 y1 => ?_⟩
      obtain ⟨e7, it1⟩ := T1.yld j H6 x1 H7 hlt1 pre6 y1
      have ex7 : Evl.Ex H H7 := (e.trans e2).trans (ex6.trans e7)
      refine hg1 i j σ2 x1 H4 H7 hlt hlt1 exH4 hs ((Fx.of e5).trans (fx6.trans (Fx.of e7))) it1 _ fun σ3 ⟨hw3, hs3⟩ => ⟨hw3, ?_⟩
      rw [if_pos rfl]
      refine he i j σ3 H7 hlt hlt1 ex7 hs3 H7 (Ex.refl _) _ fun H8 e8 => ?_
      have hys8 := e8 _ _ (e7 _ _ hys6)
      have hl8 := hlen i (by omega)
      have hmi := hmm i
      refine ⟨_, hys8, sz_lt (by simp; omega), Ex.mut ((ex6.trans e7).trans e8) hD, (fx6.trans (Fx.of (e7.trans e8))).trans (Fx.lst hys8), ?_⟩
      rw [upd_same, List.range_succ, List.map_append, List.append_assoc]
      rfl
    · have hjm : j = mm i := by omega
      subst hjm
      exact .inl ⟨T1.stop H6 pre6, ex6, hys6⟩
  · have hinn : i = n := by omega
    subst hinn
    exact .inl ⟨T.stop H3 pre3, q _ H3 (e2.trans ex) ⟨D, rfl, hys⟩⟩
end
end Ev2
set_option maxHeartbeats 4100000
namespace K20
open PySem PySem.Spec PyProof.Rows L2 Evl RZ Ev2 TA5
abbrev rLenQ (K : PySem.W.Frag) : List V → Hp → VK → Prop := fun xs H Q => ∃ p ys, xs = [.ref p] ∧ (SqL K H p ys ∨ SqT K H p ys) ∧ Q (.int ys.length) H
abbrev rTupQ (K : PySem.W.Frag) : List V → Hp → VK → Prop := fun xs H Q => ∃ p ys, xs = [.ref p] ∧ ((SqL K H p ys ∧ ∀ l, H l = none → Q (.ref l) (upd H l (.tup ys))) ∨ (SqT K H p ys ∧ Q (.ref p) H))
def topS (i : Nat) : Stmt := PySem.Challenge.pw_surecounts_k41_spreads_refused.main.body.getD i (.Pass ⟨0, 0, 0, 0⟩)
/-- what the top has written of the built-in names and of the one number -/
structure Txt (mg : Str → Option Value) (tk : Tok) : Prop where
  n_isinstance : mg "isinstance" = none
  n_int : mg "int" = none
  n_bool : mg "bool" = none
  n_tuple : mg "tuple" = none
  n_len : mg "len" = none
  n_range : mg "range" = none
  n_enumerate : mg "enumerate" = none
  n_max : mg "max" = none
  n_min : mg "min" = none
  n_sum : mg "sum" = none
  n_all : mg "all" = none
  n_zip : mg "zip" = none
  n_list : mg "list" = none
  c_MOST_HEIGHTS : mg "MOST_HEIGHTS" = some (.int 64 tk)
structure Df (K : PySem.W.Frag) (mg : Str → Option Value) (x : Str) (st : Stmt) (ps : List Str) (f : Addr) (fd : FuncData) : Prop where
  F : Fun K x x st f fd
  b : Binds K fd ps []
  g : mg x = some (.ref f)
/-- a grid: m rows of n ints, by place -/
def Grid (m n : Nat) (f : Nat → Nat → Int) : HP := TupP m fun i => TupP n fun j => Is (.int (f i j))
theorem mf_is {x : V} : MonoF (Is x) := fun _ _ _ _ h => h
theorem mf_tup {n : Nat} {P : Nat → HP} (m : ∀ i, MonoF (P i)) : MonoF (TupP n P) := fun v H H' e ⟨p, ys, h1, h2, h3, h4⟩ => ⟨p, ys, h1, e _ _ h2 (fun _ z => nomatch z), h3, fun i y hy => m i _ _ _ e (h4 i y hy)⟩
theorem mf_row {n : Nat} {f : Nat → Int} : MonoF (TupP n fun j => Is (.int (f j))) := mf_tup fun _ => mf_is
theorem mf_grid {m n : Nat} {f : Nat → Nat → Int} : MonoF (Grid m n f) := mf_tup fun _ => mf_row
def Tr : HP := Is (.bl true)
section
variable {K : PySem.W.Frag} {σ : L2.St} {H : Hp} {ta tb te : TE} {P : HP}
theorem tup_get {n : Nat} {Pi : Nat → HP} {v : V} {i : Nat} (h : TupP n Pi v H) (hi : i < n) : ∃ p ys y, v = .ref p ∧ H p = some (.tup ys) ∧ ys.length = n ∧ ys[i]? = some y ∧ Pi i y H := by
  obtain ⟨p, ys, h1, h2, h3, h4⟩ := h
  exact ⟨p, ys, _, h1, h2, h3, List.getElem?_eq_getElem (by omega), h4 i _ (List.getElem?_eq_getElem (by omega))⟩
/-- a list whose items are known is known -/
theorem lst_is {n : Nat} {w : Nat → V} {v : V} (h : LstP n (fun i => Is (w i)) v H) : ∃ p, v = .ref p ∧ H p = some (.lst ((List.range n).map w)) := by
  obtain ⟨p, ys, h1, h2, h3, h4⟩ := h
  refine ⟨p, h1, ?_⟩
  rw [h2]
  have : ys = (List.range n).map w := by
    apply List.ext_getElem?
    intro i
    by_cases hi : i < n
    · rw [List.getElem?_map, List.getElem?_range hi, List.getElem?_eq_getElem (by omega)]
      exact congrArg some (h4 i _ (List.getElem?_eq_getElem (by omega)))
    · rw [List.getElem?_eq_none (by omega), List.getElem?_eq_none (by simp; omega)]
  rw [this]
theorem evp_all {n : Nat} (h : EvP te σ H (LstP n (fun _ => Tr))) : EvP (tCB (rAll K) (tCons te tNil)) σ H Tr := fun H1 e Q q => h H1 e _ fun v H2 e2 p => by
  obtain ⟨l, rfl, hl⟩ := lst_is p
  refine ⟨l, (List.range n).map (fun _ => true), rfl, ?_, ?_⟩
  · rw [List.map_map]; exact sq_of hl
  · have : ((List.range n).map (fun _ => true)).all id = true := by simp
    rw [this]
    exact q _ H2 e2 rfl
theorem evp_isi {t u : Value} {c : V} {b : Bool} (h : EvP te σ H P) (ht : ∀ x H1, P x H1 → TyX K H1 x t) (hc : ClsV c u) (e : PySem.W.kitOne K t u = some b) : EvP (tCB (rIsi K) (tCons te (tCons (tC c) tNil))) σ H (Is (.bl b)) := fun H1 e1 Q q =>
  h H1 e1 _ fun x H2 e2 p => ⟨x, c, t, u, b, rfl, hc, ht x H2 p, e, q _ H2 e2 rfl⟩
theorem evp_len {n : Nat} {Pi : Nat → HP} (h : EvP te σ H (TupP n Pi)) : EvP (tCB (rLenQ K) (tCons te tNil)) σ H (Is (.int (n : Int))) := fun H1 e Q q =>
  h H1 e _ fun v H2 e2 ⟨p, ys, h1, h2, h3, h4⟩ => ⟨p, ys, by rw [h1], .inr (st_of h2), by rw [h3]; exact q _ H2 e2 rfl⟩
theorem evp_c {v : V} : EvP (tC v) σ H (Is v) := evp_of ev_c
theorem evp_ixT {n : Nat} {Pi : Nat → HP} {i : Nat} (ha : EvP ta σ H (TupP n Pi)) (hb : EvP tb σ H (Is (.int (i : Int)))) (hi : i < n) (m : ∀ i, MonoF (Pi i)) : EvP (tOp (rIxT K) ta tb) σ H (Pi i) := fun H1 e Q q =>
  ha H1 e _ fun v H2 e2 h => hb H2 (e.trans e2) _ fun y H3 e3 hy => by
    obtain ⟨p, ys, z, rfl, hp, hl, hz, hpz⟩ := tup_get h hi
    exact ⟨p, ys, _, z, rfl, hy, st_of (e3 _ _ hp), atI_nat hz, q z H3 (e2.trans e3) ((m i).mono _ _ _ e3 hpz)⟩
/-- two ints, one operation -/
theorem evp_I0 {g : Int → Int → V} {i j : Int} (ha : EvP ta σ H (Is (.int i))) (hb : EvP tb σ H (Is (.int j))) : EvP (tOp (rI0 g) ta tb) σ H (Is (g i j)) := evp_of (ev_op ha.ev hb.ev rv_I0)
theorem evp_I {C : Int → Int → Prop} {g : Int → Int → V} {i j : Int} (ha : EvP ta σ H (Is (.int i))) (hb : EvP tb σ H (Is (.int j))) (hc : C i j) : EvP (tOp (rI C g) ta tb) σ H (Is (g i j)) := evp_of (ev_op ha.ev hb.ev (rv_I hc))
theorem evp_eq {x y : V} (ha : EvP ta σ H (Is x)) (hb : EvP tb σ H (Is y)) (hs : scal x y = true) : EvP (tOp rEq ta tb) σ H (Is (.bl (decide (x = y)))) := evp_of (ev_op ha.ev hb.ev (rv_eq hs))
theorem evp_ne {x y : V} (ha : EvP ta σ H (Is x)) (hb : EvP tb σ H (Is y)) (hs : scal x y = true) : EvP (tOp rNe ta tb) σ H (Is (.bl (!decide (x = y)))) := evp_of (ev_op ha.ev hb.ev (rv_ne hs))
theorem evp_is {x y : V} (h : EvP te σ H (Is x)) (e : x = y) : EvP te σ H (Is y) := e ▸ h
theorem evp_chain {g g' : Int → Int → V} {i j k : Int} {b b' : Bool} {tc : TE} (ha : EvP ta σ H (Is (.int i))) (hb : EvP tb σ H (Is (.int j))) (hc : EvP tc σ H (Is (.int k))) (h1 : g i j = .bl b) (h2 : g' j k = .bl b') :
    EvP (tChain (rI0 g) (rI0 g') ta tb tc) σ H (Is (.bl (b && b'))) := fun H1 e Q q =>
  ha.ev H1 e _ fun H2 e2 => hb.ev H2 (e.trans e2) _ fun H3 e3 => ⟨i, j, rfl, rfl, b, h1, by
    cases b with
    | true =>
      refine iteT ?_
      exact hc.ev H3 ((e.trans e2).trans e3) _ fun H4 e4 => ⟨j, k, rfl, rfl, by rw [h2]; exact q _ H4 ((e2.trans e3).trans e4) rfl⟩
    | false => exact iteF (q _ H3 (e2.trans e3) rfl)⟩
theorem evp_and {a b : Bool} (h1 : EvP ta σ H (Is (.bl a))) (h2 : a = true → EvP tb σ H (Is (.bl b))) : EvP (tAndV ta tb) σ H (Is (.bl (a && b))) := evp_of (ev_andV h1.ev fun h => (h2 h).ev)
theorem evp_or {a b : Bool} (h1 : EvP ta σ H (Is (.bl a))) (h2 : a = false → EvP tb σ H (Is (.bl b))) : EvP (tOrV ta tb) σ H (Is (.bl (a || b))) := evp_of (ev_orV h1.ev fun h => (h2 h).ev)
theorem evp_not {a : Bool} (h1 : EvP ta σ H (Is (.bl a))) : EvP (tNotV ta) σ H (Is (.bl (!a))) := evp_of (ev_notV h1.ev)
theorem et_bl {b : Bool} (h : EvP te σ H (Is (.bl b))) : EvT (tB te) σ H b := et_B h.ev
theorem et_tst {b : Bool} (h : EvP te σ H (Is (.bl b))) : EvT (tTest te) σ H b := et_test h.ev
theorem evp_gl {m n : Nat} {f : Nat → Nat → Int} {i : Nat} {v : V} (h : σ[i]? = some (some v)) (p : Grid m n f v H) : EvP (tVar i) σ H (Grid m n f) := evp_var h p mf_grid.mono
end
theorem g_name {i : Nat} {x : V} {σ0 : L2.St} {H : Hp} {S : L2.St → Hp → Prop} (h : S (σ0.set i (some x)) H) : GP (gName i) x σ0 H S := fun Q q => q _ h
theorem scs (N ps : List Str) (sc : Scope) (h : sc.kind = .function ∧ sc.isCoroutine = false ∧ sc.isGenerator = false) (h1 : (decide N.Nodup) = true) (h2 : N.take ps.length = ps) (h3 : (ps.all fun x => sc.names.lookup x == some .local || sc.names.lookup x == some .cell) = true) (h4 : (sc.names.all fun y => y.2 != .free) = true) : FnScope N ps sc := by
  refine ⟨h.1, h.2.1, h.2.2, of_decide_eq_true h1, h2, fun x hx => ?_, fun y hy e => ?_⟩
  · have := List.all_eq_true.mp h3 x hx
    simpa using this
  · have := List.all_eq_true.mp h4 y hy
    rw [e] at this
    simp at this
end K20
namespace K20
open PySem PySem.Spec PyProof.Rows L2 Evl RZ Ev2 TA5
abbrev s_law_numbers : Stmt := topS 21
abbrev N_law_numbers : List Str := ["_law_cell", "_law_salt", "_law_sizes", "_law_whole", "_law_left", "_law_result", "_law_k", "_law_one"]
theorem sc_law_numbers : FnScope N_law_numbers ["_law_cell", "_law_salt", "_law_sizes"] (defScope s_law_numbers) := ⟨rfl, rfl, rfl, by decide +kernel, rfl, by decide +kernel, by decide +kernel⟩
abbrev s_law_draw : Stmt := topS 22
abbrev N_law_draw : List Str := ["_law_state", "_law_many", "_law_at"]
theorem sc_law_draw : FnScope N_law_draw ["_law_state", "_law_many"] (defScope s_law_draw) := ⟨rfl, rfl, rfl, by decide +kernel, rfl, by decide +kernel, by decide +kernel⟩
abbrev s_law_pool : Stmt := topS 23
abbrev N_law_pool : List Str := ["_law_cell", "_law_salt", "_law_many"]
theorem sc_law_pool : FnScope N_law_pool ["_law_cell", "_law_salt", "_law_many"] (defScope s_law_pool) := ⟨rfl, rfl, rfl, by decide +kernel, rfl, by decide +kernel, by decide +kernel⟩
/-- an int with c -/
def BI (c : Int → Prop) : HP := fun v _ => ∃ i, v = .int i ∧ c i
theorem mf_bi {c : Int → Prop} : MonoF (BI c) := fun _ _ _ _ h => h
section
variable {K : PySem.W.Frag} {σ : L2.St} {H : Hp} {ta tb te : TE} {P : HP} {tz : TS} {D : Ends}
theorem q_asgP {i : Nat} (h : EvP te σ H P) (k : ∀ v H1, Evl.Ex H H1 → P v H1 → tz D (σ.set i (some v)) H1) : tSeq (tAsg te (gName i)) tz D σ H := h H (Ex.refl H) _ fun v H1 e p => k v H1 e p
theorem q_appP {l : Addr} {xs : List V} (hl : H l = some (.lst xs)) (ha : Ev ta σ H (.ref l)) (h : EvP te σ H P) (hz : xs.length < 100000) (k : ∀ v H1, Evl.Ex H H1 → P v H1 → tz D σ (upd H1 l (.lst (xs ++ [v])))) :
    tSeq (tDrop (tBM K "list" rAppend ta (tCons te tNil))) tz D σ H := ha H (Ex.refl H) _ fun H1 e1 =>
  ⟨Or.inl ⟨rfl, xs, sq_of (e1 l _ hl)⟩, h H1 e1 _ fun v H2 e2 p => ⟨l, xs, v, rfl, rfl, e2 l _ (e1 l _ hl), sz_lt hz, k v H2 (e1.trans e2) p⟩⟩
theorem s_appP {l : Addr} {xs : List V} (hl : H l = some (.lst xs)) (ha : Ev ta σ H (.ref l)) (h : EvP te σ H P) (hz : xs.length < 100000) (k : ∀ v H1, Evl.Ex H H1 → P v H1 → D.nx σ (upd H1 l (.lst (xs ++ [v])))) :
    tDrop (tBM K "list" rAppend ta (tCons te tNil)) D σ H := ha H (Ex.refl H) _ fun H1 e1 =>
  ⟨Or.inl ⟨rfl, xs, sq_of (e1 l _ hl)⟩, h H1 e1 _ fun v H2 e2 p => ⟨l, xs, v, rfl, rfl, e2 l _ (e1 l _ hl), sz_lt hz, k v H2 (e1.trans e2) p⟩⟩
theorem evp_bI {C : Int → Int → Prop} {g : Int → Int → Int} {c d e : Int → Prop} (ha : EvP ta σ H (BI c)) (hb : EvP tb σ H (BI d)) (h : ∀ i j, c i → d j → C i j ∧ e (g i j)) : EvP (tOp (rI C fun i j => .int (g i j)) ta tb) σ H (BI e) :=
  evp_op ha hb mf_bi.mono fun x y H1 _ ⟨i, hx, hc⟩ ⟨j, hy, hd⟩ Q q => ⟨i, j, hx, hy, (h i j hc hd).1, q _ H1 (Ex.refl H1) ⟨_, rfl, (h i j hc hd).2⟩⟩
theorem evp_b0 {g : Int → Int → Int} {c d e : Int → Prop} (ha : EvP ta σ H (BI c)) (hb : EvP tb σ H (BI d)) (h : ∀ i j, c i → d j → e (g i j)) : EvP (tOp (rI0 fun i j => .int (g i j)) ta tb) σ H (BI e) :=
  evp_op ha hb mf_bi.mono fun x y H1 _ ⟨i, hx, hc⟩ ⟨j, hy, hd⟩ Q q => ⟨i, j, hx, hy, q _ H1 (Ex.refl H1) ⟨_, rfl, h i j hc hd⟩⟩
theorem evp_bi {i : Int} {c : Int → Prop} (h : EvP te σ H (Is (.int i))) (hc : c i) : EvP te σ H (BI c) := h.imp fun v H1 _ p => ⟨i, p, hc⟩
theorem evp_bv {n : Nat} {i : Int} {c : Int → Prop} (h : σ[n]? = some (some (.int i))) (hc : c i) : EvP (tVar n) σ H (BI c) := evp_bi (evp_var h rfl mono_is) hc
theorem evp_bc {i : Int} {c : Int → Prop} (hc : c i) : EvP (tC (.int i)) σ H (BI c) := evp_bi evp_c hc
theorem evp_ixL {p : Addr} {xs : List V} {i : Nat} {v : V} (ha : EvP ta σ H (Is (.ref p))) (hp : SqL K H p xs) (hb : EvP tb σ H (Is (.int (i : Int)))) (hv : xs[i]? = some v) : EvP (tOp (rIxL K) ta tb) σ H (Is v) := evp_of (ev_op ha.ev hb.ev (rv_ixL hp (atI_nat hv)))
end
section
variable {P : Program} {w : World} {K : PySem.W.Frag} {mg : Str → Option Value} {base : Heap} {tk : Tok} {k : Nat}
def spNum : Sp := fun vs H Q _ => ∃ (c s : Int) (a : Addr) (zs : List Int), vs = [.int c, .int s, .ref a] ∧ H a = some (.lst (zs.map V.int)) ∧ (∀ z ∈ zs, 1 ≤ z ∧ z ≤ 1000) ∧ zs.length ≤ 1000 ∧ (0 ≤ s ∧ s ≤ 100000) ∧
  ∀ (p : Addr) (xs : List Int) (H2 : Hp), Evl.Ex H H2 → H p = none → H2 p = some (.lst (xs.map V.int)) → Q (.ref p) H2
theorem fm {a b : Int} (h : 0 < b) : b ≠ 0 ∧ (0 ≤ a.fmod b ∧ a.fmod b < b) := ⟨by omega, Int.fmod_nonneg_of_pos a h, Int.fmod_lt_of_pos a h⟩
theorem ok_num {fa : Addr} {fd : FuncData} (T : Txt mg tk) (D : Df K mg "_law_numbers" s_law_numbers ["_law_cell", "_law_salt", "_law_sizes"] fa fd) :
    FnOk P w K mg base CX0 (k + 1) fa fd ["_law_cell", "_law_salt", "_law_sizes"] spNum := by
  refine D.F.ok sc_law_numbers (fun vs H Q E h => ?_) (fun cdv A outer s H vs Q E hr h => ?_)
  · obtain ⟨c, s, a, zs, rfl, _⟩ := h
    rfl
  · obtain ⟨c, t, a, zs, rfl, ha, hz, hzl, ht, q⟩ := h
    have nd := sc_law_numbers.nd
    refine ⟨_, (pss_cons (ps_set (i := 3) nd rfl (Or.inl rfl) (pe_callB (call_max2 rfl) (by rfl) T.n_max PyProof.Rows.boot_max (pa_cons (pv 0) (pa_cons (pe_op op_sub (pe_un un_neg pe_int) (pv 0)) pa_nil)))) (pss_cons (ps_set (i := 4) nd rfl (Or.inl rfl) (pv 3)) (pss_cons (ps_set (i := 5) nd rfl (Or.inl rfl) (pe_lst pa_nil)) (pss_cons (ps_for PassesOwn.never rfl (pi_range1 (by rfl) T.n_range (pa_cons (pe_callB (r := rLenQ K) call_len_seq (by rfl) T.n_len PySem.boot_len (pa_cons (pv 2) pa_nil)) pa_nil)) (pg_name (i := 6) nd rfl (Or.inl rfl)) (pss_one (ps_if (PW.pt (pw_and (pt_cmpR op_ge (pv 3) (pe_op op_pow pe_int pe_int) (nomark _)) (pw_and1 (pt_cmpR op_gt (pv 4) pe_int (nomark _))))) (pss_cons (ps_expr (pe_bm PySem.F.plainAttrs_list PySem.F.slot_list_append PySem.F.type_list_append mt_append (pv 5) (pa_cons (pe_op op_modN (pv 4) (pe_ix (r := rIxL K) ix_list (pv 2) (pv 6) (fun _ _ => rfl))) pa_nil))) (pss_one (ps_set (i := 4) nd rfl (Or.inl rfl) (pe_op op_fdivN (pv 4) (pe_ix (r := rIxL K) ix_list (pv 2) (pv 6) (fun _ _ => rfl)))))) (pss_cons (ps_set (i := 7) nd rfl (Or.inl rfl) (pe_op op_modN (pe_op op_pow (pe_op op_add (pe_op op_add (pe_op op_modN (pv 3) pe_int) (pe_op op_mul pe_int (pv 1))) pe_int) pe_int) pe_int)) (pss_cons (ps_set (i := 7) nd rfl (Or.inl rfl) (pe_op op_modN (pe_op op_mul (pe_op op_add (pv 7) (pe_op op_mul pe_int (pe_op op_add (pv 6) pe_int))) (pe_op op_add (pv 6) pe_int)) pe_int)) (pss_cons (ps_set (i := 7) nd rfl (Or.inl rfl) (pe_op op_modN (pe_op op_mul (pe_op op_modN (pe_op op_pow (pv 7) pe_int) pe_int) pe_int) pe_int)) (pss_one (ps_expr (pe_bm PySem.F.plainAttrs_list PySem.F.slot_list_append PySem.F.type_list_append mt_append (pv 5) (pa_cons (pe_op op_modN (pe_op op_fdivN (pv 7) pe_int) (pe_ix (r := rIxL K) ix_list (pv 2) (pv 6) (fun _ _ => rfl))) pa_nil)))))))))) (pss_one (ps_ret (pv 5))))))), ?_⟩
    refine q_asgP (P := BI fun _ => True) (fun H1 e1 Q q => ?_) fun v1 H1 e1 ⟨W, hW, _⟩ => ?_
    · exact ⟨_, rfl, 1, rfl, _, rfl, -1, c, rfl, rfl, c, _, rfl, q _ H1 (Ex.refl _) ⟨_, rfl, trivial⟩⟩
    subst hW
    refine q_asgP (P := Is (.int W)) (evp_var rfl rfl mono_is) fun v2 H2 e2 hv2 => ?_
    subst hv2
    refine q_asgL (el_lst ea_nil (by decide)) fun p H3 hp e3 h3 => ?_
    have hpH : H p = none := fresh_back (e1.trans e2) hp
    have ex3 : Evl.Ex H H3 := (e1.trans e2).trans e3
    have key : ∀ (i : Nat) (σ' : L2.St) (H' : Hp), True := fun _ _ _ => trivial
    refine q_forR1 (n := (zs.length : Int)) (ea_cons (EvP.ev (te := tCB (rLenQ K) (tCons (tVar 2) tNil)) fun H4 e4 Q q => ⟨_, rfl, a, _, rfl, .inl (sq_of ((ex3.trans e4) _ _ ha)), by rw [List.length_map]; exact q _ H4 (Ex.refl _) rfl⟩) ea_nil) (by omega)
      (fun i σ' H' => ∃ (L : Int) (xs : List Int) (k1 k2 : Option V), σ' = [some (.int c), some (.int t), some (.ref a), some (.int W), some (.int L), some (.ref p), k1, k2] ∧ xs.length = i ∧ Evl.Ex H H' ∧ H' p = some (.lst (xs.map V.int)))
      (fun H4 e4 => ⟨W, [], none, none, rfl, rfl, ex3.trans e4, e4 _ _ h3⟩) (fun i σ' H' hi ⟨L, xs, k1, k2, hs, hl, ex', hp'⟩ => ?_) (fun σ' H' ⟨L, xs, k1, k2, hs, hl, ex', hp'⟩ => ?_)
    · subst hs
      have hzi : (zs.map V.int)[i]? = some (.int (zs[i]'(by omega))) := by rw [List.getElem?_map, List.getElem?_eq_getElem (by omega)]; rfl
      have hzb := hz (zs[i]'(by omega)) (List.getElem_mem _)
      generalize zs[i]'(by omega) = z at hzi hzb
      have step : ∀ (σ2 : L2.St) (H5 : Hp) (e : Evl.Ex H' H5), σ2[2]? = some (some (.ref a)) → σ2[6]? = some (some (.int (i : Int))) → EvP (tOp (rIxL K) (tVar 2) (tVar 6)) σ2 H5 (BI fun x => 1 ≤ x ∧ x ≤ 1000) := fun σ2 H5 e h2 h6 =>
        evp_bi (evp_ixL (evp_var h2 rfl mono_is) (sq_of ((ex'.trans e) _ _ ha)) (evp_var h6 rfl mono_is) hzi) hzb
      have fin : ∀ (v : V) (H5 : Hp) (L' : Int) (k2' : Option V), Evl.Ex H' H5 → (∃ x, v = .int x ∧ True) → (fun i σ' H' => ∃ (L : Int) (xs : List Int) (k1 k2 : Option V), σ' = [some (.int c), some (.int t), some (.ref a), some (.int W), some (.int L), some (.ref p), k1, k2] ∧ xs.length = i ∧ Evl.Ex H H' ∧ H' p = some (.lst (xs.map V.int))) (i + 1)
          [some (.int c), some (.int t), some (.ref a), some (.int W), some (.int L'), some (.ref p), some (.int (i : Int)), k2'] (upd H5 p (.lst (xs.map V.int ++ [v]))) := fun v H5 L' k2' e ⟨x, hx, _⟩ => by
        subst hx
        refine ⟨L', xs ++ [x], some (.int (i : Int)), k2', rfl, by simp [hl], Ex.mut (ex'.trans e) hpH, ?_⟩
        rw [upd_same, List.map_append]; rfl
      have hW : EvP (tVar 3) [some (.int c), some (.int t), some (.ref a), some (.int W), some (.int L), some (.ref p), some (.int (i : Int)), k2] H' (Is (.int W)) := evp_var rfl rfl mono_is
      have hpw : EvP (tOp (rI CPow fun i j => .int (i ^ j.toNat)) (tC (.int 10)) (tC (.int 18))) [some (.int c), some (.int t), some (.ref a), some (.int W), some (.int L), some (.ref p), some (.int (i : Int)), k2] H' (Is (.int (10 ^ (18 : Int).toNat))) := evp_I evp_c evp_c ⟨by decide, by decide, by decide⟩
      refine s_if (et_and (et_tst (evp_I0 (g := fun i j => .bl (decide (j ≤ i))) hW hpw)) fun _ => et_tst (evp_I0 (g := fun i j => .bl (decide (j < i))) (evp_var (v := .int L) rfl rfl mono_is) evp_c)) (fun _ H5 e5 => ?_) (fun _ H5 e5 => ?_)
      · refine q_appP (P := BI fun _ => True) (e5 _ _ hp') (ev_var rfl) (evp_bI (c := fun _ => True) (e := fun _ => True) (evp_bv rfl trivial) (step _ H5 e5 rfl rfl) fun i j _ hj => ⟨by omega, trivial⟩) (by simp; omega) fun v H6 e6 hv => ?_
        have st6 : EvP (tOp (rIxL K) (tVar 2) (tVar 6)) [some (.int c), some (.int t), some (.ref a), some (.int W), some (.int L), some (.ref p), some (.int (i : Int)), k2] (upd H6 p (.lst (xs.map V.int ++ [v]))) (BI fun x => 1 ≤ x ∧ x ≤ 1000) :=
          evp_bi (evp_ixL (evp_var rfl rfl mono_is) (sq_of ((Ex.mut ((ex'.trans e5).trans e6) hpH) _ _ ha)) (evp_var rfl rfl mono_is) hzi) hzb
        have hdv := evp_bI (C := CDivN) (g := fun i j => i.fdiv j) (c := fun _ => True) (e := fun _ => True) (evp_bv (n := 4) (i := L) rfl trivial) st6 fun i j _ hj => ⟨⟨by omega, by omega⟩, trivial⟩
        refine hdv _ (Ex.refl _) _ fun v7 H7 e7 ⟨x7, hx7, _⟩ => ?_
        subst hx7
        obtain ⟨x, hx, _⟩ := hv
        subst hx
        refine ⟨x7, xs ++ [x], some (.int (i : Int)), k2, rfl, by simp [hl], (Ex.mut ((ex'.trans e5).trans e6) hpH).trans e7, ?_⟩
        rw [e7 _ _ upd_same, List.map_append]; rfl
      · have hone : ∀ (k2' : Option V) (H6 : Hp), EvP (tVar 3) [some (.int c), some (.int t), some (.ref a), some (.int W), some (.int L), some (.ref p), some (.int (i : Int)), k2'] H6 (BI fun _ => True) := fun k2' H6 => evp_bv rfl trivial
        refine q_asgP (P := BI fun x => 0 ≤ x ∧ x < 2147483647) (evp_bI (c := fun _ => True) (d := fun x => x = 2147483647) (evp_bI (c := fun x => 0 ≤ x ∧ x < 10 ^ 18) (d := fun x => x = 3) (e := fun _ => True) (evp_b0 (c := fun x => 0 ≤ x ∧ x < 10 ^ 17) (d := fun x => x = 1) (evp_b0 (c := fun x => 0 ≤ x ∧ x < 2147483629) (d := fun x => 0 ≤ x ∧ x ≤ 791900000)
          (evp_bI (d := fun x => x = 2147483629) (hone k2 H5) (evp_bc rfl) fun i j _ hj => by subst hj; exact fm (by decide)) (evp_bI (c := fun x => x = 7919) (d := fun x => x = t) (evp_bc rfl) (evp_bv rfl rfl) fun i j hi hj => by subst hi; subst hj; exact ⟨.inl ⟨by decide, by decide⟩, by omega⟩)
          fun i j hi hj => by omega) (evp_bc rfl) fun i j hi hj => by omega) (evp_bc rfl) fun i j hi hj => ⟨⟨by omega, by omega, by omega⟩, trivial⟩) (evp_bc rfl) fun i j _ hj => by subst hj; exact fm (by decide)) fun v6 H6 e6 ⟨x6, hx6, hb6⟩ => ?_
        subst hx6
        refine q_asgP (P := BI fun x => 0 ≤ x ∧ x < 2147483629) (evp_bI (c := fun _ => True) (d := fun x => x = 2147483629) (evp_bI (c := fun _ => True) (d := fun x => 0 ≤ x ∧ x ≤ 2000) (e := fun _ => True) (evp_b0 (c := fun _ => True) (d := fun _ => True) (e := fun _ => True) (evp_bv rfl trivial)
          (evp_bI (c := fun x => x = 104729) (d := fun _ => True) (evp_bc rfl) (evp_b0 (c := fun _ => True) (d := fun _ => True) (evp_bv rfl trivial) (evp_bc trivial) fun _ _ _ _ => trivial) fun i j hi hj => by subst hi; exact ⟨.inl ⟨by decide, by decide⟩, trivial⟩) fun _ _ _ _ => trivial)
          (evp_b0 (c := fun x => x = (i : Int)) (d := fun x => x = 3) (evp_bv rfl rfl) (evp_bc rfl) fun i j hi hj => by omega) fun i j _ hj => ⟨.inr ⟨by omega, by omega⟩, trivial⟩) (evp_bc rfl) fun i j _ hj => by subst hj; exact fm (by decide)) fun v7 H7 e7 ⟨x7, hx7, hb7⟩ => ?_
        subst hx7
        refine q_asgP (P := BI fun x => 0 ≤ x ∧ x < 2147483629) (evp_bI (c := fun _ => True) (d := fun x => x = 2147483629) (evp_bI (c := fun x => 0 ≤ x ∧ x < 2147483647) (d := fun x => x = 48271) (e := fun _ => True) (evp_bI (c := fun _ => True) (d := fun x => x = 2147483647) (evp_bI (c := fun x => 0 ≤ x ∧ x < 2147483629) (d := fun x => x = 5) (e := fun _ => True)
          (evp_bv rfl hb7) (evp_bc rfl) fun i j hi hj => ⟨⟨by omega, by omega, by omega⟩, trivial⟩) (evp_bc rfl) fun i j _ hj => by subst hj; exact fm (by decide)) (evp_bc rfl) fun i j hi hj => ⟨.inl ⟨by omega, by omega⟩, trivial⟩) (evp_bc rfl) fun i j _ hj => by subst hj; exact fm (by decide)) fun v8 H8 e8 ⟨x8, hx8, hb8⟩ => ?_
        subst hx8
        refine s_appP (P := BI fun _ => True) (((e5.trans e6).trans (e7.trans e8)) _ _ hp') (ev_var rfl) (evp_bI (c := fun _ => True) (evp_bI (C := CDivN) (g := fun i j => i.fdiv j) (c := fun _ => True) (d := fun x => x = 16) (e := fun _ => True) (evp_bv rfl trivial) (evp_bc rfl) fun i j _ hj => by subst hj; exact ⟨⟨by decide, by decide⟩, trivial⟩)
          (step _ H8 ((e5.trans e6).trans (e7.trans e8)) rfl rfl) fun i j _ hj => ⟨by omega, trivial⟩) (by simp; omega) fun v9 H9 e9 hv9 => ?_
        exact fin v9 H9 L _ (((e5.trans e6).trans (e7.trans e8)).trans e9) hv9
    · subst hs
      exact ⟨_, rfl, q p xs H' ex' hpH hp'⟩
end
section
variable {P : Program} {w : World} {K : PySem.W.Frag} {mg : Str → Option Value} {base : Heap} {tk : Tok} {k : Nat}
theorem evp_if {σ : L2.St} {H : Hp} {t : TT} {ta tb : TE} {b : Bool} {P : HP} (h : EvT t σ H b) (h1 : b = true → EvP ta σ H P) (h2 : b = false → EvP tb σ H P) : EvP (tIf t ta tb) σ H P := fun H1 e Q q => h H1 e _ fun H2 e2 => by
  cases b with
  | true => exact iteT (h1 rfl H2 (e.trans e2) _ fun v H3 e3 p => q v H3 (e2.trans e3) p)
  | false => exact iteF (h2 rfl H2 (e.trans e2) _ fun v H3 e3 p => q v H3 (e2.trans e3) p)
abbrev rInt1 : List V → Hp → VK → Prop := fun xs H Q => (∃ i, xs = [.int i] ∧ Q (.int i) H) ∨ ∃ k, xs = [.bl k] ∧ Q (.int (if k = true then 1 else 0)) H
theorem evp_int1 {σ : L2.St} {H : Hp} {te : TE} {i : Int} (h : EvP te σ H (Is (.int i))) : EvP (tCB rInt1 (tCons te tNil)) σ H (Is (.int i)) := evp_cb (eap_one h) fun vs H1 ⟨x, e, hx⟩ Q q => .inl ⟨i, by rw [e, show x = .int i from hx], q _ H1 (Ex.refl _) rfl⟩
def spDraw : Sp := fun vs H Q _ => ∃ (s p : Addr) (xs : List Int) (m : Int), vs = [.ref s, .int m] ∧ Dr s p xs H ∧ 1 ≤ m ∧ ∀ v H2, Gs s H H2 → Dr s p xs H2 → BI (fun r => 0 ≤ r ∧ r < m) v H2 → Q v H2
theorem ok_draw {fa : Addr} {fd : FuncData} (T : Txt mg tk) (D : Df K mg "_law_draw" s_law_draw ["_law_state", "_law_many"] fa fd) :
    FnOk P w K mg base CX0 (k + 1) fa fd ["_law_state", "_law_many"] spDraw := by
  refine D.F.ok sc_law_draw (fun vs H Q E h => ?_) (fun cdv A outer s H vs Q E hr h => ?_)
  · obtain ⟨s, p, xs, m, rfl, _⟩ := h
    rfl
  · obtain ⟨s, p, xs, m, rfl, d, hm, q⟩ := h
    have nd := sc_law_draw.nd
    refine ⟨_, (pss_cons (ps_set (i := 2) nd rfl (Or.inl rfl) (pe_ix (r := rIxL K) ix_list (pv 0) pe_int (fun _ _ => rfl))) (pss_cons (ps_asg (pe_op op_add (pv 2) pe_int) (pg_sub (pv 0) pe_int set_list)) (pss_one (ps_ret (pe_ifExp (pt_cmpR op_lt (pv 2) (pe_callB (r := rLenQ K) call_len_seq (by rfl) T.n_len PySem.boot_len (pa_cons (pe_ix (r := rIxL K) ix_list (pv 0) pe_int (fun _ _ => rfl)) pa_nil)) (nomark _)) (pe_op op_modN (pe_callTy call_int1 (by rfl) T.n_int PyProof.Rows.boot_int (pa_cons (pe_ix (r := rIxL K) ix_list (pe_ix (r := rIxL K) ix_list (pv 0) pe_int (fun _ _ => rfl)) (pv 2) (fun _ _ => rfl)) pa_nil)) (pv 1)) pe_int))))), ?_⟩
    obtain ⟨n, hn⟩ := d.at_
    refine q_asgP (evp_ixL (i := 1) (v := .int (n : Int)) (evp_var rfl rfl mono_is) (sq_of hn) evp_c rfl) fun v1 H1 e1 hv1 => ?_
    subst hv1
    refine q_setL (j := 1) (e1 _ _ hn) (EvP.ev (evp_I0 (g := fun i j => .int (i + j)) (evp_var (v := .int (n : Int)) rfl rfl mono_is) evp_c)) (ev_var rfl) ev_c (by simp) fun H2 e2 => ?_
    have d2 := d.ex (e1.trans e2)
    have hset : ([V.ref p, .int (n : Int)].set 1 (.int ((n : Int) + 1))) = [V.ref p, .int ((n + 1 : Nat) : Int)] := rfl
    rw [hset]
    have d3 : Dr s p xs (upd H2 s (.lst [V.ref p, .int ((n + 1 : Nat) : Int)])) := ⟨d.ne, ⟨n + 1, upd_same⟩, by rw [upd_ne d.ne]; exact d2.pool⟩
    have g3 : Gs s H (upd H2 s (.lst [V.ref p, .int ((n + 1 : Nat) : Int)])) := fun a o ha h => by rw [upd_ne ha]; exact (e1.trans e2) _ _ h
    generalize upd H2 s (.lst [V.ref p, .int ((n + 1 : Nat) : Int)]) = H3 at d3 g3
    obtain ⟨n3, hn3⟩ := d3.at_
    have hp : EvP (tOp (rIxL K) (tVar 0) (tC (.int 0))) [some (.ref s), some (.int m), some (.int (n : Int))] H3 (fun v H => v = .ref p ∧ H p = some (.lst (xs.map V.int))) :=
      (evp_ixL (i := 0) (v := .ref p) (evp_var rfl rfl mono_is) (sq_of hn3) evp_c rfl).imp fun v H4 e4 hv => ⟨hv, e4 _ _ d3.pool⟩
    have hlen : EvP (tCB (rLenQ K) (tCons (tOp (rIxL K) (tVar 0) (tC (.int 0))) tNil)) [some (.ref s), some (.int m), some (.int (n : Int))] H3 (Is (.int (xs.length : Int))) := evp_cb (eap_one hp) fun vs H4 ⟨x, e, hx, hpl⟩ Q q =>
      ⟨p, _, by rw [e, hx], .inl (sq_of hpl), by rw [List.length_map]; exact q _ H4 (Ex.refl _) rfl⟩
    have hat : EvP (tVar 2) [some (.ref s), some (.int m), some (.int (n : Int))] H3 (Is (.int (n : Int))) := evp_var rfl rfl mono_is
    refine evp_if (b := decide ((n : Int) < (xs.length : Int))) (P := BI fun r => 0 ≤ r ∧ r < m) (et_tst (evp_I0 (g := fun i j => .bl (decide (i < j))) hat hlen)) (fun hb => ?_) (fun _ => evp_bc (by omega)) H3 (Ex.refl H3) _ fun v H4 e4 hv => q v H4 (g3.trans (Gs.of e4)) (d3.ex e4) hv
    have hlt : n < xs.length := by have := of_decide_eq_true hb; omega
    have hx : (xs.map V.int)[n]? = some (.int xs[n]) := by rw [List.getElem?_map, List.getElem?_eq_getElem hlt]; rfl
    refine evp_bI (c := fun _ => True) (d := fun x => x = m) (evp_bi (evp_int1 (i := xs[n]) (evp_op hp hat (fun v H H' e h => ⟨h.1, e _ _ h.2⟩) fun x y H4 e4 ⟨h1, h2⟩ hy Q q => ⟨p, _, (n : Int), _, h1, hy, sq_of h2, atI_nat hx, q _ H4 (Ex.refl _) rfl⟩)) trivial) (evp_bv rfl rfl) fun i j _ hj => by subst hj; exact fm (by omega)
def spPool : Sp := fun vs H Q _ => ∃ (c s m : Int), vs = [.int c, .int s, .int m] ∧ (0 ≤ s ∧ s ≤ 100000) ∧ (0 ≤ m ∧ m ≤ 1000) ∧ ∀ (a : Addr) (H2 : Hp), Evl.Ex H H2 → H a = none → (∃ p xs, Dr a p xs H2) → Q (.ref a) H2
theorem rep_flat (m : Nat) : (List.replicate m [V.int 420]).flatten = (List.replicate m (420 : Int)).map V.int := by
  induction m with
  | zero => rfl
  | succ m ih => rw [List.replicate_succ, List.flatten_cons, ih]; rfl
theorem ok_pool {fa f1 : Addr} {fd fd1 : FuncData} (D__law_numbers : Df K mg "_law_numbers" s_law_numbers ["_law_cell", "_law_salt", "_law_sizes"] f1 fd1) (G__law_numbers : FnOk P w K mg base CX0 (k + 1) f1 fd1 ["_law_cell", "_law_salt", "_law_sizes"] spNum) (T : Txt mg tk)
    (D : Df K mg "_law_pool" s_law_pool ["_law_cell", "_law_salt", "_law_many"] fa fd) : FnOk P w K mg base CX0 (k + 2) fa fd ["_law_cell", "_law_salt", "_law_many"] spPool := by
  refine D.F.ok sc_law_pool (fun vs H Q E h => ?_) (fun cdv A outer s H vs Q E hr h => ?_)
  · obtain ⟨c, s, m, rfl, _⟩ := h
    rfl
  · obtain ⟨c, t, m, rfl, ht, ⟨hm0, hm1⟩, q⟩ := h
    have nd := sc_law_pool.nd
    refine ⟨_, (pss_one (ps_ret (pe_lst (pa_cons (pe_call G__law_numbers (hr.mono (by omega)) (by rfl) D__law_numbers.g D__law_numbers.F.kp D__law_numbers.b .nil pass0 (pa_cons (pv 0) (pa_cons (pv 1) (pa_cons (pe_op op_rep (pe_lst (pa_cons pe_int pa_nil)) (pv 2)) pa_nil)))) (pa_cons pe_int pa_nil))))), ?_⟩
    refine ⟨_, rfl, _, rfl, by decide, fun l hl => ⟨_, rfl, l, m, [.int 420], rfl, rfl, upd_same, by omega, by omega, sz_of (by simp; omega), fun b hb => ?_⟩⟩
    rw [rep_flat]
    have e1 : Evl.Ex H (upd H l (.lst [.int 420])) := Ex.new hl
    have e2 : Evl.Ex H (upd (upd H l (.lst [.int 420])) b (.lst ((List.replicate m.toNat (420 : Int)).map V.int))) := e1.trans (Ex.new hb)
    refine ⟨c, t, b, List.replicate m.toNat 420, rfl, upd_same, fun z hz => by rw [(List.mem_replicate.mp hz).2]; decide, by simp; omega, ht, fun p xs H2 e3 hp hxs => ?_⟩
    refine ⟨by show 2 ≤ sizeLine; decide, fun a ha => ?_⟩
    have e4 := e2.trans e3
    refine q a _ (e4.trans (Ex.new ha)) (fresh_back e4 ha) ⟨p, xs, fun z => ?_, ⟨0, upd_same⟩, ?_⟩
    · rw [← z, hxs] at ha; cases ha
    · rw [upd_ne (fun z => by rw [← z, hxs] at ha; cases ha)]; exact hxs
end
end K20
namespace K20
open PySem PySem.Spec PyProof.Rows L2 Evl RZ Ev2 TA5
abbrev s_is_whole : Stmt := topS 7
abbrev N_is_whole : List Str := ["value"]
theorem sc_is_whole : FnScope N_is_whole ["value"] (defScope s_is_whole) := ⟨rfl, rfl, rfl, by decide +kernel, rfl, by decide +kernel, by decide +kernel⟩
abbrev s_is_count : Stmt := topS 8
abbrev N_is_count : List Str := ["value"]
theorem sc_is_count : FnScope N_is_count ["value"] (defScope s_is_count) := ⟨rfl, rfl, rfl, by decide +kernel, rfl, by decide +kernel, by decide +kernel⟩
abbrev s_is_limits : Stmt := topS 11
abbrev N_is_limits : List Str := ["value"]
theorem sc_is_limits : FnScope N_is_limits ["value"] (defScope s_is_limits) := ⟨rfl, rfl, rfl, by decide +kernel, rfl, by decide +kernel, by decide +kernel⟩
abbrev s_is_most : Stmt := topS 12
abbrev N_is_most : List Str := ["value"]
theorem sc_is_most : FnScope N_is_most ["value"] (defScope s_is_most) := ⟨rfl, rfl, rfl, by decide +kernel, rfl, by decide +kernel, by decide +kernel⟩
abbrev s_least_greatest : Stmt := topS 13
abbrev N_least_greatest : List Str := ["rows", "different", "most"]
theorem sc_least_greatest : FnScope N_least_greatest ["rows", "different", "most"] (defScope s_least_greatest) := ⟨rfl, rfl, rfl, by decide +kernel, rfl, by decide +kernel, by decide +kernel⟩
abbrev s_possible_pairs : Stmt := topS 14
abbrev N_possible_pairs : List Str := ["size", "rows", "different", "most", "found", "many", "least", "greatest"]
theorem sc_possible_pairs : FnScope N_possible_pairs ["size", "rows", "different", "most"] (defScope s_possible_pairs) := ⟨rfl, rfl, rfl, by decide +kernel, rfl, by decide +kernel, by decide +kernel⟩
abbrev s_law_splits : Stmt := topS 24
abbrev N_law_splits : List Str := ["_law_total", "_law_many", "_law_found", "_law_first", "_law_rest"]
theorem sc_law_splits : FnScope N_law_splits ["_law_total", "_law_many"] (defScope s_law_splits) := ⟨rfl, rfl, rfl, by decide +kernel, rfl, by decide +kernel, by decide +kernel⟩
abbrev s_law_told : Stmt := topS 25
abbrev N_law_told : List Str := ["_law_heights", "_law_height"]
theorem sc_law_told : FnScope N_law_told ["_law_heights"] (defScope s_law_told) := ⟨rfl, rfl, rfl, by decide +kernel, rfl, by decide +kernel, by decide +kernel⟩
abbrev s_law_holds : Stmt := topS 26
abbrev N_law_holds : List Str := ["_law_told_here", "_law_heights", "_law_size", "_law_rows", "_law_different", "_law_most", "_law_many", "_law_kinds", "_law_top"]
theorem sc_law_holds : FnScope N_law_holds ["_law_told_here", "_law_heights"] (defScope s_law_holds) := ⟨rfl, rfl, rfl, by decide +kernel, rfl, by decide +kernel, by decide +kernel⟩
abbrev s_law_heard : Stmt := topS 27
abbrev N_law_heard : List Str := ["_law_size", "_law_rows", "_law_different", "_law_most", "e", "_law_spread"]
theorem sc_law_heard : FnScope N_law_heard ["_law_size", "_law_rows", "_law_different", "_law_most"] (defScope s_law_heard) := ⟨rfl, rfl, rfl, by decide +kernel, rfl, by decide +kernel, by decide +kernel⟩
abbrev s_law_limits : Stmt := topS 28
abbrev N_law_limits : List Str := ["_law_state", "_law_low"]
theorem sc_law_limits : FnScope N_law_limits ["_law_state"] (defScope s_law_limits) := ⟨rfl, rfl, rfl, by decide +kernel, rfl, by decide +kernel, by decide +kernel⟩
abbrev s_Spread_init : Stmt := inClass (topS 19) 0
abbrev N_Spread_init : List Str := ["self", "size", "rows", "different", "most", "limits"]
theorem sc_Spread_init : FnScope N_Spread_init ["self", "size", "rows", "different", "most"] (defScope s_Spread_init) := ⟨rfl, rfl, rfl, by decide +kernel, rfl, by decide +kernel, by decide +kernel⟩
abbrev s_Spread_rows : Stmt := inClass (topS 19) 2
abbrev N_Spread_rows : List Str := ["self"]
theorem sc_Spread_rows : FnScope N_Spread_rows ["self"] (defScope s_Spread_rows) := ⟨rfl, rfl, rfl, by decide +kernel, rfl, by decide +kernel, by decide +kernel⟩
abbrev s_Spread_different : Stmt := inClass (topS 19) 3
abbrev N_Spread_different : List Str := ["self"]
theorem sc_Spread_different : FnScope N_Spread_different ["self"] (defScope s_Spread_different) := ⟨rfl, rfl, rfl, by decide +kernel, rfl, by decide +kernel, by decide +kernel⟩
abbrev s_Spread_most : Stmt := inClass (topS 19) 4
abbrev N_Spread_most : List Str := ["self"]
theorem sc_Spread_most : FnScope N_Spread_most ["self"] (defScope s_Spread_most) := ⟨rfl, rfl, rfl, by decide +kernel, rfl, by decide +kernel, by decide +kernel⟩
/-! ### data: flat things, tuples and lists of them, a tuple of these -/
def fl : V → PyData → Prop
  | .non, d => d = .none
  | .bl b, d => d = .bool b
  | .int i, d => d = .int i
  | .str x, d => d = .str x
  | _, _ => False
inductive It (H : Hp) : V → PyData → Prop
  | flat {v : V} {d : PyData} (h : fl v d) : It H v d
  | tup {a : Addr} {xs : List V} {ds : List PyData} (h : H a = some (.tup xs)) (p : Paired fl xs ds) : It H (.ref a) (.tuple ds)
  | lst {a : Addr} {xs : List V} {ds : List PyData} (h : H a = some (.lst xs)) (p : Paired fl xs ds) : It H (.ref a) (.list ds)
def Va (ds : List PyData) : HP := fun v H => ∃ a xs, v = .ref a ∧ H a = some (.tup xs) ∧ Paired (It H) xs ds
theorem fl_flat {v : V} {d : PyData} (h : fl v d) : flatV v = true := by
  cases v <;> first | rfl | exact h.elim
theorem fls_flat : ∀ {xs : List V} {ds : List PyData}, Paired fl xs ds → xs.all flatV = true
  | _, _, .nil => rfl
  | _, _, .cons h t => by rw [List.all_cons, fl_flat h, fls_flat t]; rfl
/-- tuples and lists of flat things are kept -/
def Kx (H H' : Hp) : Prop := ∀ a o, H a = some o → ((∃ xs, o = .tup xs) ∨ (∃ xs, o = .lst xs ∧ xs.all flatV = true)) → H' a = some o
theorem Kx.of {H H' : Hp} (e : Evl.Ex H H') : Kx H H' := fun a o h _ => e a o h
theorem Kx.gs {s p : Addr} {xs : List Int} {H H' : Hp} (g : Gs s H H') (d : Dr s p xs H) : Kx H H' := fun a o h k => by
  by_cases ha : a = s
  · subst ha
    obtain ⟨n, hn⟩ := d.at_
    rw [hn] at h
    cases h
    rcases k with ⟨xs, e⟩ | ⟨xs, e, f⟩
    · cases e
    · cases e; cases f
  · exact g a o ha h
theorem It.mono {H H' : Hp} (k : Kx H H') {v : V} {d : PyData} (h : It H v d) : It H' v d := by
  cases h with
  | flat h => exact .flat h
  | tup h p => exact .tup (k _ _ h (.inl ⟨_, rfl⟩)) p
  | lst h p => exact .lst (k _ _ h (.inr ⟨_, rfl, fls_flat p⟩)) p
theorem its_mono {H H' : Hp} (k : Kx H H') : ∀ {xs : List V} {ds : List PyData}, Paired (It H) xs ds → Paired (It H') xs ds
  | _, _, .nil => .nil
  | _, _, .cons h t => .cons (h.mono k) (its_mono k t)
theorem Va.kx {H H' : Hp} (k : Kx H H') {ds : List PyData} {v : V} (h : Va ds v H) : Va ds v H' := by
  obtain ⟨a, xs, e, ha, p⟩ := h
  exact ⟨a, xs, e, k _ _ ha (.inl ⟨_, rfl⟩), its_mono k p⟩
theorem mono_va {ds : List PyData} : Mono (Va ds) := fun _ _ _ e h => Va.kx (Kx.of e) h
theorem mono_it {d : PyData} : Mono (fun v H => It H v d) := fun _ _ _ e h => h.mono (Kx.of e)
theorem Paired.len {α β : Type} {R : α → β → Prop} : ∀ {xs : List α} {ys : List β}, Paired R xs ys → xs.length = ys.length
  | _, _, .nil => rfl
  | _, _, .cons _ t => by simp [Paired.len t]
theorem Paired.at {α β : Type} {R : α → β → Prop} : ∀ {xs : List α} {ys : List β} {i : Nat} {x : α}, Paired R xs ys → xs[i]? = some x → ∃ y, ys[i]? = some y ∧ R x y
  | _, _, i, x, .nil, h => by simp at h
  | _, _, 0, x, .cons h t, e => by simp at e; subst e; exact ⟨_, rfl, h⟩
  | _, _, i + 1, x, .cons h t, e => by obtain ⟨y, h1, h2⟩ := Paired.at t (i := i) (by simpa using e); exact ⟨y, by simpa using h1, h2⟩
def isI : PyData → Bool
  | .int _ => true
  | _ => false
def dI : PyData → Int
  | .int i => i
  | _ => 0
theorem all_range {α : Type} (f : α → Bool) (d : α) : ∀ ds : List α, (List.range ds.length).all (fun i => f (ds.getD i d)) = ds.all f
  | [] => rfl
  | x :: ds => by
    rw [List.length_cons, List.range_succ_eq_map, List.all_cons, List.all_map, List.all_cons]
    have ih := all_range f d ds
    rw [← ih]
    rfl
section
variable {K : PySem.W.Frag} {σ : L2.St} {H : Hp} {ta tb te : TE} {P : HP}
theorem evp_allB {n : Nat} {b : Nat → Bool} (h : EvP te σ H (LstP n (fun i => Is (.bl (b i))))) : EvP (tCB (rAll K) (tCons te tNil)) σ H (Is (.bl ((List.range n).all b))) := fun H1 e Q q => h H1 e _ fun v H2 e2 p => by
  obtain ⟨l, rfl, hl⟩ := lst_is p
  refine ⟨l, (List.range n).map b, rfl, ?_, ?_⟩
  · rw [List.map_map]; exact sq_of hl
  · rw [List.all_map]
    exact q _ H2 e2 rfl
/-- zip of a tuple and a shorter one -/
theorem wi_zipL {tl tr : TE} {n m : Nat} {Pi Ri : Nat → HP} (h : EvP tl σ H (TupP m Pi)) (h2 : EvP tr σ H (TupP n Ri)) (hnm : n ≤ m) (m1 : ∀ i, MonoF (Pi i)) (m2 : ∀ i, MonoF (Ri i)) :
    WiP (iZipA K (tCons tl (tCons tr tNil))) σ H n (fun i x H => ∃ T u v, x = .ref T ∧ H T = some (.tup [u, v]) ∧ Pi i u H ∧ Ri i v H) := fun H1 e R k =>
  h H1 e _ fun v H2 e2 ⟨p, ys, hv, hp, hl, hi⟩ => h2 H2 (e.trans e2) _ fun v' H3 e3 ⟨q, zs, hv', hq, hl', hi'⟩ => by
    subst hv
    subst hv'
    refine ⟨p, q, ys, zs, rfl, .inr ⟨st_of (e3 _ _ hp), st_of hq, ?_⟩⟩
    refine k _ H3 (fun H => H p = some (.tup ys) ∧ H q = some (.tup zs) ∧ (∀ i y, ys[i]? = some y → Pi i y H) ∧ ∀ i y, zs[i]? = some y → Ri i y H) (e2.trans e3) ?_ ⟨e3 _ _ hp, hq, fun i y hy => (m1 i).mono _ _ _ e3 (hi i y hy), hi'⟩
    refine ⟨fun H H' e ⟨a, b, c, d⟩ => ⟨e _ _ a (fun _ z => nomatch z), e _ _ b (fun _ z => nomatch z), fun i y hy => m1 i _ _ _ e (c i y hy), fun i y hy => m2 i _ _ _ e (d i y hy)⟩, fun i H hlt ⟨a, b, _, _⟩ => ?_, fun H ⟨a, b, _, _⟩ => ?_, fun i H x H' hlt ⟨a, b, c, d⟩ y => ?_⟩
    · exact ⟨ys, zs, _, _, st_of a, st_of b, List.getElem?_eq_getElem (by omega), List.getElem?_eq_getElem (by omega)⟩
    · exact ⟨ys, zs, st_of a, st_of b, .inr (by omega)⟩
    · obtain ⟨T, u, w, rfl, hT, rfl, f1, f2⟩ := y
      have ex := Ex.new (o := .tup [u, w]) hT
      exact ⟨ex, T, u, w, rfl, upd_same, (m1 i).mono _ _ _ ex (c i u (f1 ys (st_of a))), (m2 i).mono _ _ _ ex (d i w (f2 zs (st_of b)))⟩
theorem g_pair' {x : V} {T : Addr} {u w : V} {σ0 : L2.St} {i j : Nat} {S : L2.St → Hp → Prop} (hx : x = .ref T) (h : H T = some (.tup [u, w])) (hS : S ((σ0.set i (some u)).set j (some w)) H) : GP (gTup K 2 (gCons (gName i) (gCons (gName j) gNil))) x σ0 H S := fun Q q =>
  ⟨T, [u, w], hx, st_of h, rfl, u, [w], rfl, w, [], rfl, rfl, q _ hS⟩
/-- types -/
def tyD : PyData → String
  | .none => "NoneType" | .bool _ => "bool" | .int _ => "int" | .str _ => "str" | .tuple _ => "tuple" | .list _ => "list" | _ => "dict"
theorem ty_it {v : V} {d : PyData} (h : It H v d) : TyX K H v (.type (tyD d)) := by
  cases h with
  | flat h => cases v <;> first | exact h.elim | (cases h; exact .base (by constructor))
  | tup h p => exact .base (.tup h)
  | lst h p => exact .base (.lst h)
theorem evp_isiD {T : String} {d : PyData} {b : Bool} (h : EvP te σ H (fun v H => It H v d)) (e : kitB (tyD d) T = some b) : EvP (tCB (rIsi K) (tCons te (tCons (tC (.ty T)) tNil))) σ H (Is (.bl b)) :=
  evp_isi h (fun x H1 p => ty_it p) (.ty T) (kit_ty e)
end
theorem kit_int (d : PyData) : kitB (tyD d) "int" = some (match d with | .bool _ => true | .int _ => true | _ => false) := by
  cases d with
  | none => exact (show kitB "NoneType" "int" = some false by decide +kernel)
  | bool _ => exact (show kitB "bool" "int" = some true by decide +kernel)
  | int _ => exact (show kitB "int" "int" = some true by decide +kernel)
  | str _ => exact (show kitB "str" "int" = some false by decide +kernel)
  | list _ => exact (show kitB "list" "int" = some false by decide +kernel)
  | tuple _ => exact (show kitB "tuple" "int" = some false by decide +kernel)
  | dict _ => exact (show kitB "dict" "int" = some false by decide +kernel)
theorem kit_bool (d : PyData) : kitB (tyD d) "bool" = some (match d with | .bool _ => true | _ => false) := by
  cases d with
  | none => exact (show kitB "NoneType" "bool" = some false by decide +kernel)
  | bool _ => exact (show kitB "bool" "bool" = some true by decide +kernel)
  | int _ => exact (show kitB "int" "bool" = some false by decide +kernel)
  | str _ => exact (show kitB "str" "bool" = some false by decide +kernel)
  | list _ => exact (show kitB "list" "bool" = some false by decide +kernel)
  | tuple _ => exact (show kitB "tuple" "bool" = some false by decide +kernel)
  | dict _ => exact (show kitB "dict" "bool" = some false by decide +kernel)
theorem kit_str (d : PyData) : kitB (tyD d) "str" = some (match d with | .str _ => true | _ => false) := by
  cases d with
  | none => exact (show kitB "NoneType" "str" = some false by decide +kernel)
  | bool _ => exact (show kitB "bool" "str" = some false by decide +kernel)
  | int _ => exact (show kitB "int" "str" = some false by decide +kernel)
  | str _ => exact (show kitB "str" "str" = some true by decide +kernel)
  | list _ => exact (show kitB "list" "str" = some false by decide +kernel)
  | tuple _ => exact (show kitB "tuple" "str" = some false by decide +kernel)
  | dict _ => exact (show kitB "dict" "str" = some false by decide +kernel)
theorem kit_tup (d : PyData) : kitB (tyD d) "tuple" = some (match d with | .tuple _ => true | _ => false) := by
  cases d with
  | none => exact (show kitB "NoneType" "tuple" = some false by decide +kernel)
  | bool _ => exact (show kitB "bool" "tuple" = some false by decide +kernel)
  | int _ => exact (show kitB "int" "tuple" = some false by decide +kernel)
  | str _ => exact (show kitB "str" "tuple" = some false by decide +kernel)
  | list _ => exact (show kitB "list" "tuple" = some false by decide +kernel)
  | tuple _ => exact (show kitB "tuple" "tuple" = some true by decide +kernel)
  | dict _ => exact (show kitB "dict" "tuple" = some false by decide +kernel)
section
variable {P : Program} {w : World} {K : PySem.W.Frag} {mg : Str → Option Value} {base : Heap} {tk : Tok} {k : Nat}
def spWhole : Sp := fun vs H Q _ => ∃ (x : V) (d : PyData), vs = [x] ∧ It H x d ∧ ∀ v H2, Evl.Ex H H2 → v = .bl (isI d) → Q v H2
theorem ok_whole {f : Addr} {fd : FuncData} (T : Txt mg tk) (D : Df K mg "is_whole" s_is_whole ["value"] f fd) : FnOk P w K mg base CX0 (k + 1) f fd ["value"] spWhole := by
  refine D.F.ok sc_is_whole (fun vs H Q E h => ?_) (fun cdv A outer s H vs Q E hr h => ?_)
  · obtain ⟨x, d, rfl, _⟩ := h
    rfl
  · obtain ⟨x, d, rfl, hx, q⟩ := h
    refine ⟨_, (pss_one (ps_ret (pe_and (pe_callB (r := rIsi K) call_isi (by rfl) T.n_isinstance PyProof.Rows.boot_isinstance (pa_cons (pv 0) (pa_cons (pe_bltn (v := .ty "int") (by rfl) T.n_int PyProof.Rows.boot_int rfl) pa_nil))) (pe_one (pe_not (pe_callB (r := rIsi K) call_isi (by rfl) T.n_isinstance PyProof.Rows.boot_isinstance (pa_cons (pv 0) (pa_cons (pe_bltn (v := .ty "bool") (by rfl) T.n_bool PyProof.Rows.boot_bool rfl) pa_nil)))))))), ?_⟩
    have h0 : EvP (tVar 0) (start N_is_whole [x]) H (fun v H => It H v d) := evp_var rfl hx mono_it
    refine evp_is (evp_and (evp_isiD (K := K) h0 (kit_int d)) fun _ => evp_not (evp_isiD (K := K) h0 (kit_bool d))) ?_ H (Ex.refl H) _ q
    cases d <;> rfl
theorem it_int {H : Hp} {x : V} {d : PyData} (h : It H x d) (hi : isI d = true) : ∃ i, x = .int i ∧ d = .int i := by
  cases h with
  | flat h => cases x <;> first | exact h.elim | (cases h; first | exact ⟨_, rfl, rfl⟩ | cases hi)
  | tup h p => cases hi
  | lst h p => cases hi
end
end K20
namespace K20
open PySem PySem.Spec PyProof.Rows L2 Evl RZ Ev2 TA5
section
variable {K : PySem.W.Frag} {σ : L2.St} {H : Hp} {ta tb te : TE} {P : HP}
theorem cutV_from {xs : List V} {k : Nat} : cutV xs (some (k : Int)) none = xs.drop k := by
  unfold cutV
  rw [HT.sIx_nat, HT.sIx_none]
  by_cases h : k ≤ xs.length
  · rw [Nat.min_eq_left h, List.take_of_length_le (by simp)]
  · rw [Nat.min_eq_right (by omega), List.drop_length, List.drop_of_length_le (by omega)]; simp
theorem cutV_to {xs : List V} {k : Nat} : cutV xs none (some (k : Int)) = xs.take k := by
  unfold cutV
  rw [HT.sIx_nat, HT.sIx_none, List.drop_zero, Nat.sub_zero]
  by_cases h : k ≤ xs.length
  · rw [Nat.min_eq_left h]
  · rw [Nat.min_eq_right (by omega), List.take_length, List.take_of_length_le (by omega)]
theorem evp_slA {tl th : TO} {a : Addr} {xs : List V} {lo hi : Option Int} (h : Ev te σ H (.ref a)) (h1 : EvO tl σ H lo) (h2 : EvO th σ H hi) (hs : H a = some (.tup xs)) :
    EvP (tSl (rSlA K) te tl th) σ H (fun v H1 => ∃ p, v = .ref p ∧ H1 p = some (.tup (cutV xs lo hi))) := fun H1 e Q q =>
  h H1 e _ fun H2 e2 => h1 H2 (e.trans e2) _ fun H3 e3 => h2 H3 ((e.trans e2).trans e3) _ fun H4 e4 => by
    have ex := ((e.trans e2).trans e3).trans e4
    refine ⟨a, xs, rfl, st_of (ex _ _ hs), fun ⟨w1, w2⟩ => ?_, fun _ p hp => q _ _ (((e2.trans e3).trans e4).trans (Ex.new hp)) ⟨p, rfl, upd_same⟩⟩
    refine q _ H4 ((e2.trans e3).trans e4) ⟨a, rfl, ?_⟩
    rw [ex _ _ hs]
    unfold cutV
    rw [w1, w2, List.drop_zero, Nat.sub_zero, List.take_length]
theorem fl_it {H : Hp} {v : V} {d : PyData} (h : fl v d) : It H v d := .flat h
theorem getD_some {ds : List PyData} {i : Nat} {d : PyData} (h : ds[i]? = some d) : ds.getD i .none = d := by rw [List.getD_eq_getElem?_getD, h]; rfl
theorem tup_fl {xs : List V} {ds : List PyData} {a : Addr} (p : Paired fl xs ds) (h : H a = some (.tup xs)) : TupP ds.length (fun i v _ => fl v (ds.getD i .none)) (.ref a) H :=
  ⟨a, xs, rfl, h, Paired.len p, fun i y hy => by
    obtain ⟨d, h1, h2⟩ := Paired.at p hy
    rw [getD_some h1]; exact h2⟩
theorem mf_fl {d : PyData} : MonoF (fun v _ => fl v d) := fun _ _ _ _ h => h
def isTup : PyData → Bool
  | .tuple _ => true
  | _ => false
def isStr : PyData → Bool
  | .str _ => true
  | _ => false
theorem kit_tup' (d : PyData) : kitB (tyD d) "tuple" = some (isTup d) := by rw [kit_tup]; cases d <;> rfl
theorem kit_str' (d : PyData) : kitB (tyD d) "str" = some (isStr d) := by rw [kit_str]; cases d <;> rfl
def SmallD : PyData → Bool
  | .tuple ds => decide (ds.length ≤ 50)
  | _ => true
theorem fl_int {v : V} {i : Int} (h : fl v (.int i)) : v = .int i := by
  cases v <;> first | exact h.elim | (cases h; try rfl)
end
section
variable {K : PySem.W.Frag} {σ : L2.St} {H : Hp} {ta tb te : TE} {P : HP}
theorem evp_ixM {n : Nat} {Pi : Nat → HP} {i : Nat} (ha : EvP ta σ H (TupP n Pi)) (hb : EvP tb σ H (Is (.int (i : Int)))) (hi : i < n) (m : ∀ i, Mono (Pi i)) : EvP (tOp (rIxT K) ta tb) σ H (Pi i) := fun H1 e Q q =>
  ha H1 e _ fun v H2 e2 h => hb H2 (e.trans e2) _ fun y H3 e3 hy => by
    obtain ⟨p, ys, z, rfl, hp, hl, hz, hpz⟩ := tup_get h hi
    exact ⟨p, ys, _, z, rfl, hy, st_of (e3 _ _ hp), atI_nat hz, q z H3 (e2.trans e3) ((m i) _ _ _ e3 hpz)⟩
theorem va_tup {ds : List PyData} {v : V} (h : Va ds v H) : TupP ds.length (fun i v H => It H v (ds.getD i .none)) v H := by
  obtain ⟨a, xs, rfl, ha, p⟩ := h
  exact ⟨a, xs, rfl, ha, Paired.len p, fun i y hy => by
    obtain ⟨d, h1, h2⟩ := Paired.at p hy
    rw [getD_some h1]; exact h2⟩
theorem va_ty {ds : List PyData} {v : V} (h : Va ds v H) : TyX K H v (.type "tuple") := by
  obtain ⟨a, xs, rfl, ha, p⟩ := h
  exact .base (.tup ha)
theorem it_str {x : V} {w : Str} (h : It H x (.str w)) : x = .str w := by
  cases h with
  | flat h => cases x <;> first | exact h.elim | (cases h; try rfl)
theorem evp_va {ds : List PyData} {i : Nat} {x : V} (hs : σ[i]? = some (some x)) (hx : Va ds x H) : EvP (tVar i) σ H (TupP ds.length (fun i v H => It H v (ds.getD i .none))) := evp_var hs (va_tup hx) (mono_tup fun _ => mono_it)
theorem evp_at {ds : List PyData} {i j : Nat} {x : V} (hs : σ[i]? = some (some x)) (hx : Va ds x H) (hj : j < ds.length) : EvP (tOp (rIxT K) (tVar i) (tC (.int (j : Int)))) σ H (fun v H => It H v (ds.getD j .none)) := evp_ixM (evp_va hs hx) evp_c hj fun _ => mono_it
theorem evp_word {w : Str} {rest : List PyData} {i : Nat} {x : V} (hs : σ[i]? = some (some x)) (hx : Va (.str w :: rest) x H) (u : Str) : EvP (tOp rEq (tOp (rIxT K) (tVar i) (tC (.int ((0 : Nat) : Int)))) (tC (.str u))) σ H (Is (.bl (decide (w = u)))) := by
  refine evp_is (evp_eq (x := .str w) (y := .str u) ((evp_at (K := K) hs hx (by simp)).imp fun v H1 _ p => it_str p) evp_c rfl) ?_
  simp
theorem evp_many {ds : List PyData} {i : Nat} {x : V} (hs : σ[i]? = some (some x)) (hx : Va ds x H) (k : Nat) : EvP (tOp rEq (tCB (rLenQ K) (tCons (tVar i) tNil)) (tC (.int (k : Int)))) σ H (Is (.bl (decide (ds.length = k)))) := by
  refine evp_is (evp_eq (evp_len (evp_va hs hx)) (evp_c (v := .int (k : Int))) rfl) ?_
  simp [Int.ofNat_inj]
end
end K20
namespace K20
open PySem PySem.Spec PyProof.Rows L2 Evl RZ Ev2 TA5
abbrev rNon : R2 := fun x y H Q => y = .non ∧ Q (.bl (decide (x = .non))) H
abbrev rNoN : R2 := fun x y H Q => y = .non ∧ Q (.bl (!decide (x = .non))) H
/-! the mirrors -/
def isC : PyData → Bool
  | .int i => decide (i ≥ 0)
  | _ => false
def szB : PyData → Bool
  | .int i => decide (1 ≤ i) && decide (i ≤ 64)
  | _ => false
def limB : PyData → Bool
  | .tuple [a, b] => isC a && (isC b && decide (dI a ≤ dI b))
  | _ => false
def mostB : PyData → Bool
  | .none => true
  | .int i => decide (i ≥ 1)
  | _ => false
def OI : Option Int → V
  | none => .non
  | some i => .int i
def hiM (r1 d : Int) : Option Int → Int
  | none => r1
  | some m => if d * m < r1 then d * m else r1
def lgM (r0 r1 d : Int) (m : Option Int) : Int × Int :=
  if d = 0 then (r0, if 0 < r1 then 0 else r1) else (if d > r0 then d else r0, hiM r1 d m)
def Pr (i j : Int) : HP := fun v H => ∃ p, v = .ref p ∧ H p = some (.tup [.int i, .int j])
theorem mono_pr {i j : Int} : Mono (Pr i j) := fun _ _ _ e ⟨p, h1, h2⟩ => ⟨p, h1, e _ _ h2⟩
section
variable {K : PySem.W.Frag} {σ : L2.St} {H : Hp} {ta tb te : TE} {P : HP}
theorem evp_non {x : V} (h : EvP te σ H (Is x)) : EvP (tOp rNon te (tC .non)) σ H (Is (.bl (decide (x = .non)))) := fun H1 e Q q => h H1 e _ fun v H2 e2 hv => ⟨rfl, by rw [show v = x from hv]; exact q _ H2 e2 rfl⟩
theorem evp_noN {x : V} (h : EvP te σ H (Is x)) : EvP (tOp rNoN te (tC .non)) σ H (Is (.bl (!decide (x = .non)))) := fun H1 e Q q => h H1 e _ fun v H2 e2 hv => ⟨rfl, by rw [show v = x from hv]; exact q _ H2 e2 rfl⟩
abbrev rMin2 : List V → Hp → VK → Prop := fun xs H Q => ∃ i j, xs = [.int i, .int j] ∧ Q (.int (if j < i then j else i)) H
abbrev rMax2 : List V → Hp → VK → Prop := fun xs H Q => ∃ i j, xs = [.int i, .int j] ∧ Q (.int (if j > i then j else i)) H
theorem evp_min {i j : Int} (ha : EvP ta σ H (Is (.int i))) (hb : EvP tb σ H (Is (.int j))) : EvP (tCB rMin2 (tCons ta (tCons tb tNil))) σ H (Is (.int (if j < i then j else i))) := fun H1 e Q q =>
  eap_two ha hb mono_is H1 e _ fun vs H2 e2 ⟨x, y, hv, hx, hy⟩ => ⟨i, j, by rw [hv, show x = _ from hx, show y = _ from hy], q _ H2 e2 rfl⟩
theorem evp_max {i j : Int} (ha : EvP ta σ H (Is (.int i))) (hb : EvP tb σ H (Is (.int j))) : EvP (tCB rMax2 (tCons ta (tCons tb tNil))) σ H (Is (.int (if j > i then j else i))) := fun H1 e Q q =>
  eap_two ha hb mono_is H1 e _ fun vs H2 e2 ⟨x, y, hv, hx, hy⟩ => ⟨i, j, by rw [hv, show x = _ from hx, show y = _ from hy], q _ H2 e2 rfl⟩
theorem evp_tup2 {x y : V} (ha : EvP ta σ H (Is x)) (hb : EvP tb σ H (Is y)) : EvP (tTup (tCons ta (tCons tb tNil))) σ H (fun v H1 => ∃ p, v = .ref p ∧ H1 p = some (.tup [x, y])) := fun H1 e Q q =>
  eu_tup (ea_cons ha.ev (ea_cons hb.ev ea_nil)) (show 2 ≤ 100000 by decide) H1 e Q fun p H2 _ e2 hp => q _ H2 e2 ⟨p, rfl, hp⟩
theorem evp_pr {i j : Int} (ha : EvP ta σ H (Is (.int i))) (hb : EvP tb σ H (Is (.int j))) : EvP (tTup (tCons ta (tCons tb tNil))) σ H (Pr i j) := evp_tup2 ha hb
theorem pr_tup {i j : Int} {v : V} (h : Pr i j v H) : TupP 2 (fun k v _ => v = .int (if k = 0 then i else j)) v H := by
  obtain ⟨p, h1, h2⟩ := h
  refine ⟨p, _, h1, h2, rfl, fun k y hy => ?_⟩
  match k, hy with
  | 0, hy => cases hy; rfl
  | 1, hy => cases hy; rfl
  | k + 2, hy => simp at hy
theorem evp_pr0 {i j : Int} (h : EvP te σ H (Pr i j)) : EvP (tOp (rIxT K) te (tC (.int 0))) σ H (Is (.int i)) := evp_ixM (i := 0) (n := 2) (Pi := fun k v _ => v = .int (if k = 0 then i else j)) (h.imp fun v H1 _ p => pr_tup p) (evp_c (v := .int ((0 : Nat) : Int))) (by decide) fun _ _ _ _ _ z => z
theorem evp_pr1 {i j : Int} (h : EvP te σ H (Pr i j)) : EvP (tOp (rIxT K) te (tC (.int 1))) σ H (Is (.int j)) := evp_ixM (i := 1) (n := 2) (Pi := fun k v _ => v = .int (if k = 0 then i else j)) (h.imp fun v H1 _ p => pr_tup p) (evp_c (v := .int ((1 : Nat) : Int))) (by decide) fun _ _ _ _ _ z => z
end
section
variable {P : Program} {w : World} {K : PySem.W.Frag} {mg : Str → Option Value} {base : Heap} {tk : Tok} {k : Nat}
theorem sp_whole_it {d : PyData} : SpP spWhole (fun vs H1 => ∃ y, vs = [y] ∧ It H1 y d) (Is (.bl (isI d))) := fun vs H1 ⟨y, e, hy⟩ Q q E => ⟨y, d, e, hy, q⟩
def spCount : Sp := fun vs H Q _ => ∃ (x : V) (d : PyData), vs = [x] ∧ It H x d ∧ ∀ v H2, Evl.Ex H H2 → v = .bl (isC d) → Q v H2
theorem sp_count_it {d : PyData} : SpP spCount (fun vs H1 => ∃ y, vs = [y] ∧ It H1 y d) (Is (.bl (isC d))) := fun vs H1 ⟨y, e, hy⟩ Q q E => ⟨y, d, e, hy, q⟩
theorem ok_count {f f1 : Addr} {fd fd1 : FuncData} (D_is_whole : Df K mg "is_whole" s_is_whole ["value"] f1 fd1) (G_is_whole : FnOk P w K mg base CX0 (k + 1) f1 fd1 ["value"] spWhole) (T : Txt mg tk) (D : Df K mg "is_count" s_is_count ["value"] f fd) :
    FnOk P w K mg base CX0 (k + 2) f fd ["value"] spCount := by
  refine D.F.ok sc_is_count (fun vs H Q E h => ?_) (fun cdv A outer s H vs Q E hr h => ?_)
  · obtain ⟨x, d, rfl, _⟩ := h
    rfl
  · obtain ⟨x, d, rfl, hx, q⟩ := h
    refine ⟨_, (pss_one (ps_ret (pe_and (pe_call G_is_whole (hr.mono (by omega)) (by rfl) D_is_whole.g D_is_whole.F.kp D_is_whole.b .nil pass0 (pa_cons (pv 0) pa_nil)) (pe_one (pe_cmpR op_ge (pv 0) pe_int (nomark _)))))), ?_⟩
    have h1 : EvP (tVar 0) (start N_is_count [x]) H (fun v H => It H v d) := evp_var rfl hx mono_it
    refine evp_is (evp_and (a := isI d) (b := isC d) (evp_call (E := E0) (eap_one h1) sp_whole_it) fun hi => ?_) ?_ H (Ex.refl H) _ q
    · obtain ⟨i, rfl, rfl⟩ := it_int hx hi
      exact evp_I0 (g := fun i j => .bl (decide (i ≥ j))) (evp_var (v := .int i) rfl rfl mono_is) (evp_c (v := .int 0))
    · cases d <;> rfl
def spLim : Sp := fun vs H Q _ => ∃ (x : V) (d : PyData), vs = [x] ∧ It H x d ∧ ∀ v H2, Evl.Ex H H2 → v = .bl (limB d) → Q v H2
theorem sp_lim_it {d : PyData} : SpP spLim (fun vs H1 => ∃ y, vs = [y] ∧ It H1 y d) (Is (.bl (limB d))) := fun vs H1 ⟨y, e, hy⟩ Q q E => ⟨y, d, e, hy, q⟩
theorem isC_int {d : PyData} (h : isC d = true) : ∃ i, d = .int i ∧ 0 ≤ i := by
  cases d <;> first | exact ⟨_, rfl, of_decide_eq_true h⟩ | cases h
theorem ok_limits {f f1 : Addr} {fd fd1 : FuncData} (D_is_count : Df K mg "is_count" s_is_count ["value"] f1 fd1) (G_is_count : FnOk P w K mg base CX0 (k + 2) f1 fd1 ["value"] spCount) (T : Txt mg tk) (D : Df K mg "is_limits" s_is_limits ["value"] f fd) :
    FnOk P w K mg base CX0 (k + 3) f fd ["value"] spLim := by
  refine D.F.ok sc_is_limits (fun vs H Q E h => ?_) (fun cdv A outer s H vs Q E hr h => ?_)
  · obtain ⟨x, d, rfl, _⟩ := h
    rfl
  · obtain ⟨x, d, rfl, hx, q⟩ := h
    refine ⟨_, (pss_cons (ps_if (PW.pt (pw_or (pt_not (pt_val (pe_callB (r := rIsi K) call_isi (by rfl) T.n_isinstance PyProof.Rows.boot_isinstance (pa_cons (pv 0) (pa_cons (pe_bltn (v := .ty "tuple") (by rfl) T.n_tuple PyProof.Rows.boot_tuple rfl) pa_nil))))) (pw_or1 (pt_cmpR op_ne (pe_callB (r := rLenQ K) call_len_seq (by rfl) T.n_len PySem.boot_len (pa_cons (pv 0) pa_nil)) pe_int (nomark _))))) (pss_one (ps_ret pe_bl)) pss_nil) (pss_one (ps_ret (pe_and (pe_call G_is_count (hr.mono (by omega)) (by rfl) D_is_count.g D_is_count.F.kp D_is_count.b .nil pass0 (pa_cons (pe_ix (r := rIxT K) ix_tup (pv 0) pe_int (fun _ _ => rfl)) pa_nil)) (pe_and (pe_call G_is_count (hr.mono (by omega)) (by rfl) D_is_count.g D_is_count.F.kp D_is_count.b .nil pass0 (pa_cons (pe_ix (r := rIxT K) ix_tup (pv 0) pe_int (fun _ _ => rfl)) pa_nil)) (pe_one (pe_cmpR op_le (pe_ix (r := rIxT K) ix_tup (pv 0) pe_int (fun _ _ => rfl)) (pe_ix (r := rIxT K) ix_tup (pv 0) pe_int (fun _ _ => rfl)) (nomark _)))))))), ?_⟩
    have h1 : EvP (tVar 0) (start N_is_limits [x]) H (fun v H => It H v d) := evp_var rfl hx mono_it
    by_cases ht : isTup d = true
    · obtain ⟨ds, rfl⟩ : ∃ ds, d = .tuple ds := by cases d <;> first | exact ⟨_, rfl⟩ | (cases ht; done)
      cases hx with
      | flat hx => cases x <;> first | exact hx.elim | (cases hx; done)
      | @tup a xs _ ha p =>
        have hT : ∀ {H' : Hp}, Evl.Ex H H' → EvP (tVar 0) (start N_is_limits [.ref a]) H' (TupP ds.length (fun i v _ => fl v (ds.getD i .none))) := fun ex => evp_var rfl (tup_fl p (ex _ _ ha)) (mf_tup fun _ => mf_fl).mono
        refine s_when (b := !true || !decide (ds.length = 2)) (et_or (et_not (et_tst (evp_isiD (K := K) h1 (kit_tup' (.tuple ds))))) fun _ => et_tst (evp_is (evp_ne (evp_len (hT (Ex.refl H))) (evp_c (v := .int 2)) rfl) (by simp; omega))) (fun hb H1 e1 => ?_) (fun hb H1 e1 => ?_)
        · have hl : ds.length ≠ 2 := by simpa using hb
          refine s_ret ev_c fun H2 e2 => q _ H2 (e1.trans e2) ?_
          congr 1
          match ds, hl with
          | [], _ => rfl
          | [_], _ => rfl
          | [_, _], hl => exact absurd rfl hl
          | _ :: _ :: _ :: _, _ => rfl
        · have hl : ds.length = 2 := by simpa using hb
          obtain ⟨a0, b0, rfl⟩ : ∃ a0 b0, ds = [a0, b0] := by
            match ds, hl with
            | [a0, b0], _ => exact ⟨a0, b0, rfl⟩
          have i0 : EvP (tOp (rIxT K) (tVar 0) (tC (.int 0))) (start N_is_limits [.ref a]) H1 (fun v _ => fl v a0) := evp_ixT (K := K) (i := 0) (hT e1) (evp_c (v := .int ((0 : Nat) : Int))) (Nat.succ_pos 1) fun _ => mf_fl
          have i1 : EvP (tOp (rIxT K) (tVar 0) (tC (.int 1))) (start N_is_limits [.ref a]) H1 (fun v _ => fl v b0) := evp_ixT (K := K) (i := 1) (hT e1) (evp_c (v := .int ((1 : Nat) : Int))) (Nat.lt_succ_self 1) fun _ => mf_fl
          refine s_ret (EvP.ev (evp_and (evp_call (E := E0) (eap_one (i0.imp fun v H2 _ h => fl_it h)) sp_count_it) fun hc => evp_and (evp_call (E := E0) (eap_one (i1.imp fun v H2 _ h => fl_it h)) sp_count_it) fun hc2 => ?_)) fun H2 e2 => q _ H2 (e1.trans e2) rfl
          obtain ⟨i, rfl, _⟩ := isC_int hc
          obtain ⟨j, rfl, _⟩ := isC_int hc2
          exact evp_I0 (g := fun i j => .bl (decide (i ≤ j))) (i0.imp fun v H2 _ h => fl_int h) (i1.imp fun v H2 _ h => fl_int h)
    · have hf : isTup d = false := by simpa using ht
      refine s_when (b := true) (et_is (et_or (b := true) (et_not (et_tst (evp_isiD (K := K) h1 (kit_tup' d)))) fun hc => ?_) ?_) (fun hb H1 e1 => s_ret ev_c fun H2 e2 => q _ H2 (e1.trans e2) (by congr 1; cases d <;> first | rfl | (cases hf; done))) (fun hb => by cases hb)
      · rw [hf] at hc; cases hc
      · rw [hf]; rfl
def spMost : Sp := fun vs H Q _ => ∃ (x : V) (d : PyData), vs = [x] ∧ It H x d ∧ ∀ v H2, Evl.Ex H H2 → v = .bl (mostB d) → Q v H2
theorem sp_most_it {d : PyData} : SpP spMost (fun vs H1 => ∃ y, vs = [y] ∧ It H1 y d) (Is (.bl (mostB d))) := fun vs H1 ⟨y, e, hy⟩ Q q E => ⟨y, d, e, hy, q⟩
theorem it_none {x : V} {d : PyData} {H : Hp} (h : It H x d) : decide (x = .non) = (match d with | .none => true | _ => false) := by
  cases h with
  | flat h => cases x <;> first | exact h.elim | (cases h; rfl)
  | tup h p => rfl
  | lst h p => rfl
theorem ok_most {f f1 : Addr} {fd fd1 : FuncData} (D_is_whole : Df K mg "is_whole" s_is_whole ["value"] f1 fd1) (G_is_whole : FnOk P w K mg base CX0 (k + 1) f1 fd1 ["value"] spWhole) (T : Txt mg tk) (D : Df K mg "is_most" s_is_most ["value"] f fd) :
    FnOk P w K mg base CX0 (k + 2) f fd ["value"] spMost := by
  refine D.F.ok sc_is_most (fun vs H Q E h => ?_) (fun cdv A outer s H vs Q E hr h => ?_)
  · obtain ⟨x, d, rfl, _⟩ := h
    rfl
  · obtain ⟨x, d, rfl, hx, q⟩ := h
    refine ⟨_, (pss_one (ps_ret (pe_or (pe_cmpR (r := rNon) op_isN (pv 0) pe_non (nomark _)) (pe_one (pe_and (pe_call G_is_whole (hr.mono (by omega)) (by rfl) D_is_whole.g D_is_whole.F.kp D_is_whole.b .nil pass0 (pa_cons (pv 0) pa_nil)) (pe_one (pe_cmpR op_ge (pv 0) pe_int (nomark _)))))))), ?_⟩
    have h1 : EvP (tVar 0) (start N_is_most [x]) H (fun v H => It H v d) := evp_var rfl hx mono_it
    have h0 : EvP (tVar 0) (start N_is_most [x]) H (Is x) := evp_var rfl rfl mono_is
    refine evp_is (evp_or (b := mostB d) (evp_is (evp_non h0) (congrArg V.bl (it_none hx))) fun hn => evp_is (evp_and (a := isI d) (b := mostB d) (evp_call (E := E0) (eap_one h1) sp_whole_it) fun hi => ?_) ?_) ?_ H (Ex.refl H) _ q
    · obtain ⟨i, rfl, rfl⟩ := it_int hx hi
      exact evp_I0 (g := fun i j => .bl (decide (i ≥ j))) h0 (evp_c (v := .int 1))
    · cases d <;> first | rfl | (cases hn; done)
    · cases d <;> rfl
/-! the least and the greatest rows of so many different values -/
def spLg : Sp := fun vs H Q _ => ∃ (x : V) (r0 r1 d : Int) (m : Option Int), vs = [x, .int d, OI m] ∧ Pr r0 r1 x H ∧ (0 ≤ d ∧ d ≤ 1000) ∧ ∀ v H2, Evl.Ex H H2 → Pr (lgM r0 r1 d m).1 (lgM r0 r1 d m).2 v H2 → Q v H2
theorem ok_lg {f : Addr} {fd : FuncData} (T : Txt mg tk) (D : Df K mg "least_greatest" s_least_greatest ["rows", "different", "most"] f fd) : FnOk P w K mg base CX0 (k + 1) f fd ["rows", "different", "most"] spLg := by
  refine D.F.ok sc_least_greatest (fun vs H Q E h => ?_) (fun cdv A outer s H vs Q E hr h => ?_)
  · obtain ⟨x, r0, r1, d, m, rfl, _⟩ := h
    rfl
  · obtain ⟨x, r0, r1, d, m, rfl, hx, hd, q⟩ := h
    refine ⟨_, (pss_cons (ps_if (pt_cmpR op_eq (pv 1) pe_int (nomark _)) (pss_one (ps_ret (pe_tup (pa_cons (pe_ix (r := rIxT K) ix_tup (pv 0) pe_int (fun _ _ => rfl)) (pa_cons (pe_callB (call_min2 rfl) (by rfl) T.n_min PyProof.Rows.boot_min (pa_cons (pe_ix (r := rIxT K) ix_tup (pv 0) pe_int (fun _ _ => rfl)) (pa_cons pe_int pa_nil))) pa_nil))))) pss_nil) (pss_one (ps_ret (pe_tup (pa_cons (pe_callB (call_max2 rfl) (by rfl) T.n_max PyProof.Rows.boot_max (pa_cons (pe_ix (r := rIxT K) ix_tup (pv 0) pe_int (fun _ _ => rfl)) (pa_cons (pv 1) pa_nil))) (pa_cons (pe_ifExp (pt_cmpR (r := rNon) op_isN (pv 2) pe_non (nomark _)) (pe_ix (r := rIxT K) ix_tup (pv 0) pe_int (fun _ _ => rfl)) (pe_callB (call_min2 rfl) (by rfl) T.n_min PyProof.Rows.boot_min (pa_cons (pe_ix (r := rIxT K) ix_tup (pv 0) pe_int (fun _ _ => rfl)) (pa_cons (pe_op op_mul (pv 1) (pv 2)) pa_nil)))) pa_nil)))))), ?_⟩
    have v0 : ∀ {H' : Hp}, Evl.Ex H H' → EvP (tVar 0) (start N_least_greatest [x, .int d, OI m]) H' (Pr r0 r1) := fun e => evp_var rfl (mono_pr _ _ _ e hx) mono_pr
    have v1 : ∀ {H' : Hp}, EvP (tVar 1) (start N_least_greatest [x, .int d, OI m]) H' (Is (.int d)) := evp_var rfl rfl mono_is
    have v2 : ∀ {H' : Hp}, EvP (tVar 2) (start N_least_greatest [x, .int d, OI m]) H' (Is (OI m)) := evp_var rfl rfl mono_is
    refine s_when (b := decide (d = 0)) (et_tst (evp_is (evp_eq v1 (evp_c (v := .int 0)) rfl) (by simp))) (fun hb H1 e1 => ?_) (fun hb H1 e1 => ?_)
    · have hd0 : d = 0 := of_decide_eq_true hb
      refine evp_pr (evp_pr0 (K := K) (v0 e1)) (evp_min (evp_pr1 (K := K) (v0 e1)) (evp_c (v := .int 0))) H1 (Ex.refl _) _ fun v H2 e2 hv => q v H2 (e1.trans e2) ?_
      rw [show lgM r0 r1 d m = (r0, if 0 < r1 then 0 else r1) by unfold lgM; rw [if_pos hd0]]
      exact hv
    · have hd0 : ¬ d = 0 := of_decide_eq_false hb
      have go : ∀ z : Int, hiM r1 d m = z → EvP (tIf (tTest (tOp rNon (tVar 2) (tC .non))) (tOp (rIxT K) (tVar 0) (tC (.int 1))) (tCB rMin2 (tCons (tOp (rIxT K) (tVar 0) (tC (.int 1))) (tCons (tOp (rI CMul fun i j => .int (i * j)) (tVar 1) (tVar 2)) tNil)))) (start N_least_greatest [x, .int d, OI m]) H1 (Is (.int z)) := fun z hz => by
        cases m with
        | none => exact evp_if (b := true) (et_tst (evp_is (evp_non v2) rfl)) (fun _ => evp_is (evp_pr1 (K := K) (v0 e1)) (by rw [← hz]; rfl)) (fun z => nomatch z)
        | some m => exact evp_if (b := false) (et_tst (evp_is (evp_non v2) rfl)) (fun z => nomatch z) (fun _ => evp_is (evp_min (evp_pr1 (K := K) (v0 e1)) (evp_I (C := CMul) (g := fun i j => .int (i * j)) v1 (v2 (H' := H1)) (.inl ⟨by omega, by omega⟩))) (by rw [← hz]; rfl))
      refine evp_pr (evp_max (evp_pr0 (K := K) (v0 e1)) v1) (go _ rfl) H1 (Ex.refl _) _ fun v H2 e2 hv => q v H2 (e1.trans e2) ?_
      rw [show lgM r0 r1 d m = (if d > r0 then d else r0, hiM r1 d m) by unfold lgM; rw [if_neg hd0]]
      exact hv
end
end K20
namespace K20
open PySem PySem.Spec PyProof.Rows L2 Evl RZ Ev2 TA5
theorem Paired.snoc {α β : Type} {R : α → β → Prop} : ∀ {xs : List α} {ys : List β} {x : α} {y : β}, Paired R xs ys → R x y → Paired R (xs ++ [x]) (ys ++ [y])
  | _, _, _, _, .nil, r => .cons r .nil
  | _, _, _, _, .cons h t, r => .cons h (Paired.snoc t r)
theorem Paired.impl {α β : Type} {R S : α → β → Prop} (k : ∀ x y, R x y → S x y) : ∀ {xs : List α} {ys : List β}, Paired R xs ys → Paired S xs ys
  | _, _, .nil => .nil
  | _, _, .cons h t => .cons (k _ _ h) (Paired.impl k t)
/-! ### a comprehension with a test -/
def WiX (wi : TI) (σ : L2.St) (H : Hp) (n : Nat) (item : Nat → V → Hp → Prop) : Prop := ∀ H1, Evl.Ex H H1 → ∀ R : L2.It → Hp → Prop, (∀ J H2, Evl.Ex H1 H2 → (∀ i H3, Evl.Ex H2 H3 → (i < n → J.go i H3) ∧ (n ≤ i → J.stop i H3) ∧ (i < n → ∀ x H', J.yld i H3 x H' → Evl.Ex H3 H' ∧ item i x H')) → R J H2) → wi σ H1 R
section
variable {K : PySem.W.Frag} {σ : L2.St} {H : Hp} {ta tb te tl : TE} {tt : TT}
theorem wx_list {a : Addr} {xs : List V} (h : Ev tl σ H (.ref a)) (hs : H a = some (.lst xs)) : WiX (iList K tl) σ H xs.length (fun i x _ => xs[i]? = some x) := fun H1 e R k =>
  h H1 e _ fun H2 e2 => ⟨a, rfl, ⟨xs, sq_of ((e.trans e2) _ _ hs)⟩, k _ H2 e2 fun i H3 e3 => by
    have h3 := sq_of (K := K) ((e.trans e2).trans e3 _ _ hs)
    exact ⟨fun hi => ⟨xs, _, h3, List.getElem?_eq_getElem hi⟩, fun hi => ⟨xs, h3, hi⟩, fun hi x H' ⟨y1, y2⟩ => by rw [y1]; exact ⟨Ex.refl _, y2 xs h3⟩⟩⟩
theorem wx_tup {n : Nat} {Pi : Nat → HP} (h : EvP tl σ H (TupP n Pi)) (m : ∀ i, Mono (Pi i)) : WiX (iTup K tl) σ H n Pi := fun H1 e R k =>
  h H1 e _ fun v H2 e2 ⟨a, xs, hv, ha, hl, hi⟩ => ⟨a, hv, ⟨xs, st_of ha⟩, k _ H2 e2 fun i H3 e3 => by
    have h3 := st_of (K := K) (e3 _ _ ha)
    exact ⟨fun hlt => ⟨xs, _, h3, List.getElem?_eq_getElem (by omega)⟩, fun hlt => ⟨xs, h3, by omega⟩, fun hlt x H' ⟨y1, y2⟩ => by rw [y1]; exact ⟨Ex.refl _, m i _ _ _ e3 (hi i x (y2 xs h3))⟩⟩⟩
theorem evp_lcF {wi : TI} {g : TG} {vs : List Nat} {n : Nat} {item : Nat → V → Hp → Prop} {Sg : Nat → L2.St → Hp → Prop} {f : Nat → Bool} {Pi : Nat → HP} (hw : WiX wi σ H n item) (hn : n ≤ 40000)
    (hg : ∀ i x H1, i < n → Evl.Ex H H1 → item i x H1 → GP g x (wipe σ vs) H1 (fun σ2 H2 => wipe σ2 vs = wipe σ vs ∧ Sg i σ2 H2)) (ht : ∀ i σ2 H1, i < n → Evl.Ex H H1 → Sg i σ2 H1 → EvT tt σ2 H1 (f i))
    (he : ∀ i σ2 H1, i < n → Evl.Ex H H1 → Sg i σ2 H1 → EvP te σ2 H1 (Pi i)) (m : ∀ i, MonoF (Pi i)) :
    EvP (tLc wi g tt te vs) σ H (fun v H1 => ∃ p ys, v = .ref p ∧ H1 p = some (.lst ys) ∧ Paired (fun y i => Pi i y H1) ys ((List.range n).filter f)) := fun H1 e Q q => hw H1 e _ fun J H2 e2 T => fun D hD => by
  refine ⟨fun i k H3 => k = n - i ∧ i ≤ n ∧ Evl.Ex H2 H3 ∧ ∃ ys, H3 D = some (.lst ys) ∧ Paired (fun y i => Pi i y H3) ys ((List.range i).filter f), ⟨n, by simp, Nat.zero_le _, Ex.new hD, [], upd_same, .nil⟩, ?_⟩
  rintro i k H3 ⟨rfl, hi, ex, ys, hys, hP⟩
  obtain ⟨tg, ts, ty⟩ := T i H3 ex
  by_cases hlt : i < n
  · refine .inr ⟨tg hlt, fun H4 => Evl.Ex H2 H4 ∧ ∃ ys, H4 D = some (.lst ys) ∧ Paired (fun y i => Pi i y H4) ys ((List.range (i + 1)).filter f), fun H4 ⟨a, b⟩ => ⟨n - (i + 1), by omega, rfl, by omega, a, b⟩, fun x H4 y => ?_⟩
    obtain ⟨e4, it⟩ := ty hlt x H4 y
    have ex4 := ((e.trans e2).trans ex).trans e4
    refine hg i x H4 hlt ex4 it _ fun σ2 ⟨hw2, hs⟩ => ⟨hw2, ?_⟩
    refine ht i σ2 H4 hlt ex4 hs H4 (Ex.refl _) _ fun H5 e5 => ?_
    cases hb : f i with
    | true =>
      rw [if_pos rfl]
      refine he i σ2 H4 hlt ex4 hs H5 e5 _ fun z H6 e6 hz => ?_
      have hys6 := e6 _ _ (e5 _ _ (e4 _ _ hys))
      have hl6 : ys.length ≤ i := by
        rw [Paired.len hP]
        exact Nat.le_trans (List.length_filter_le _ _) (by simp)
      refine ⟨_, hys6, sz_lt (by omega), Ex.mut (((ex.trans e4).trans e5).trans e6) hD, _, upd_same, ?_⟩
      rw [List.range_succ, List.filter_append, List.filter_cons, if_pos hb]
      exact Paired.impl (fun _ j h => m j _ _ _ (Fx.lst hys6) h) (Paired.snoc (Paired.impl (fun _ j h => (m j).mono _ _ _ ((e4.trans e5).trans e6) h) hP) hz)
    | false =>
      rw [if_neg (by decide)]
      refine ⟨(ex.trans e4).trans e5, ys, e5 _ _ (e4 _ _ hys), ?_⟩
      rw [List.range_succ, List.filter_append, List.filter_cons, if_neg (by rw [hb]; decide)]
      simp only [List.filter_nil, List.append_nil]
      exact Paired.impl (fun _ j h => (m j).mono _ _ _ (e4.trans e5) h) hP
  · have hinn : i = n := by omega
    subst hinn
    exact .inl ⟨ts (Nat.le_refl _), q _ H3 (e2.trans ex) ⟨D, ys, rfl, hys, hP⟩⟩
end

section
variable {K : PySem.W.Frag} {σ : L2.St} {H : Hp} {ta tb te tl : TE} {P : HP}
theorem wx_lst {n : Nat} {Pi : Nat → HP} (h : EvP tl σ H (LstP n Pi)) (m : ∀ i, Mono (Pi i)) : WiX (iList K tl) σ H n Pi := fun H1 e R k =>
  h H1 e _ fun v H2 e2 ⟨a, xs, hv, ha, hl, hi⟩ => ⟨a, hv, ⟨xs, sq_of ha⟩, k _ H2 e2 fun i H3 e3 => by
    have h3 := sq_of (K := K) (e3 _ _ ha)
    exact ⟨fun hlt => ⟨xs, _, h3, List.getElem?_eq_getElem (by omega)⟩, fun hlt => ⟨xs, h3, by omega⟩, fun hlt x H' ⟨y1, y2⟩ => by rw [y1]; exact ⟨Ex.refl _, m i _ _ _ e3 (hi i x (y2 xs h3))⟩⟩⟩
theorem wi_rng2 {ta : TA} {lo hi : Int} (h : EvAP ta σ H (fun vs _ => vs = [.int lo, .int hi])) (hb : -(2 ^ 62) ≤ lo ∧ lo < 2 ^ 62 ∧ -(2 ^ 62) ≤ hi ∧ hi < 2 ^ 62) : WiP (iRng2 ta) σ H (hi - lo).toNat (fun i x _ => x = .int (lo + (i : Int))) := fun H1 e R k =>
  h H1 e _ fun vs H2 e2 hv => by
    subst hv
    refine ⟨lo, hi, rfl, hb, ?_⟩
    refine k _ H2 (fun _ => True) e2 ⟨fun _ _ _ _ => trivial, fun i H hlt _ => ?_, fun H _ => ?_, fun i H x H' hlt _ y => ?_⟩ trivial
    · exact hlt
    · exact Nat.le_refl _
    · obtain ⟨rfl, rfl⟩ := y
      exact ⟨Ex.refl _, rfl⟩
/-- (int, (int, int)) -/
def Pq (i a b : Int) : HP := fun v H => ∃ p t, v = .ref p ∧ H p = some (.tup [.int i, .ref t]) ∧ H t = some (.tup [.int a, .int b])
theorem mf_pq {i a b : Int} : MonoF (Pq i a b) := fun _ _ _ e ⟨p, t, h1, h2, h3⟩ => ⟨p, t, h1, e _ _ h2 (fun _ z => nomatch z), e _ _ h3 (fun _ z => nomatch z)⟩
theorem evp_pq {i a b : Int} (h1 : EvP ta σ H (Is (.int i))) (h2 : EvP tb σ H (Pr a b)) : EvP (tTup (tCons ta (tCons tb tNil))) σ H (Pq i a b) := fun H1 e Q q =>
  h1 H1 e _ fun x H2 e2 hx => h2 H2 (e.trans e2) _ fun y H3 e3 ⟨t, hy, ht⟩ => ⟨by show 2 ≤ sizeLine; decide, fun p hp => by
    rw [show x = .int i from hx, hy]
    exact q _ _ ((e2.trans e3).trans (Ex.new hp)) ⟨p, t, rfl, upd_same, Ex.new hp _ _ ht⟩⟩
theorem g_pq {i a b : Int} {x : V} {σ0 : L2.St} {i1 i2 i3 : Nat} {S : L2.St → Hp → Prop} (h : Pq i a b x H) (hS : S (((σ0.set i1 (some (.int i))).set i2 (some (.int a))).set i3 (some (.int b))) H) :
    GP (gTup K 2 (gCons (gName i1) (gCons (gTup K 2 (gCons (gName i2) (gCons (gName i3) gNil))) gNil))) x σ0 H S := fun Q q => by
  obtain ⟨p, t, h1, h2, h3⟩ := h
  exact ⟨p, _, h1, st_of h2, rfl, _, _, rfl, _, _, rfl, t, _, rfl, st_of h3, rfl, _, _, rfl, _, _, rfl, rfl, rfl, q _ hS⟩
theorem evp_tup3 {x y z : V} {tc : TE} (ha : EvP ta σ H (Is x)) (hb : EvP tb σ H (Is y)) (hc : EvP tc σ H (Is z)) : EvP (tTup (tCons ta (tCons tb (tCons tc tNil)))) σ H (fun _ _ => True) := fun H1 e Q q =>
  eu_tup (ea_cons ha.ev (ea_cons hb.ev (ea_cons hc.ev ea_nil))) (show 3 ≤ 100000 by decide) H1 e Q fun p H2 _ e2 hp => q _ H2 e2 trivial
end
def possK (n d0 d1 : Int) : Nat := ((if n < d1 then n else d1) + 1 - d0).toNat
def posL (n r0 r1 d0 d1 : Int) (m : Option Int) : List Nat := (List.range (possK n d0 d1)).filter fun i => decide ((lgM r0 r1 (d0 + (i : Int)) m).1 ≤ (lgM r0 r1 (d0 + (i : Int)) m).2)
section
variable {K : PySem.W.Frag} {σ : L2.St} {H : Hp} {te : TE} {P : HP} {D : Ends}
theorem s_ret_P (h : EvP te σ H P) (k : ∀ v H1, Evl.Ex H H1 → P v H1 → D.rt v H1) : tRet te D σ H := h H (Ex.refl H) _ fun v H1 e p => k v H1 e p
end
section
variable {P : Program} {w : World} {K : PySem.W.Frag} {mg : Str → Option Value} {base : Heap} {tk : Tok} {k : Nat}
def spPairs : Sp := fun vs H Q _ => ∃ (x z : V) (n r0 r1 d0 d1 : Int) (m : Option Int), vs = [.int n, x, z, OI m] ∧ Pr r0 r1 x H ∧ Pr d0 d1 z H ∧ (1 ≤ n ∧ n ≤ 64) ∧ (0 ≤ d0 ∧ d0 ≤ 1000 ∧ 0 ≤ d1) ∧
  ∀ v H2, Evl.Ex H H2 → (∃ p ys, v = .ref p ∧ H2 p = some (.lst ys) ∧ ys.length = (posL n r0 r1 d0 d1 m).length) → Q v H2
theorem ok_pairs {f f1 : Addr} {fd fd1 : FuncData} (D_least_greatest : Df K mg "least_greatest" s_least_greatest ["rows", "different", "most"] f1 fd1) (G_least_greatest : FnOk P w K mg base CX0 (k + 1) f1 fd1 ["rows", "different", "most"] spLg) (T : Txt mg tk)
    (D : Df K mg "possible_pairs" s_possible_pairs ["size", "rows", "different", "most"] f fd) : FnOk P w K mg base CX0 (k + 2) f fd ["size", "rows", "different", "most"] spPairs := by
  refine D.F.ok sc_possible_pairs (fun vs H Q E h => ?_) (fun cdv A outer s H vs Q E hr h => ?_)
  · obtain ⟨x, z, n, r0, r1, d0, d1, m, rfl, _⟩ := h
    rfl
  · obtain ⟨x, z, n, r0, r1, d0, d1, m, rfl, hx, hz, hn, hd, q⟩ := h
    have nd := sc_possible_pairs.nd
    refine ⟨_, (pss_cons (ps_setLc (i := 4) (wi := iRng2 _) (g := gName 5) (own := [("many", 5)]) (by rfl) nd rfl rfl (by rfl) (pi_range2 (by rfl) T.n_range (pa_cons (pe_ix (r := rIxT K) ix_tup (pv 2) pe_int (fun _ _ => rfl)) (pa_cons (pe_op op_add (pe_callB (call_min2 rfl) (by rfl) T.n_min PyProof.Rows.boot_min (pa_cons (pe_ix (r := rIxT K) ix_tup (pv 2) pe_int (fun _ _ => rfl)) (pa_cons (pv 0) pa_nil))) pe_int) pa_nil))) (blkOk_by (by kernel_rfl)) (fun _ _ _ _ _ => (pg_name (i := 5) nd rfl (Or.inl rfl))) (fun _ _ _ _ _ => pts_nil) (fun _ _ _ _ _ => (pe_tup (pa_cons (pv 5) (pa_cons (pe_call G_least_greatest (hr.mono (by omega)) (by rfl) D_least_greatest.g D_least_greatest.F.kp D_least_greatest.b .nil pass0 (pa_cons (pv 1) (pa_cons (pv 5) (pa_cons (pv 3) pa_nil)))) pa_nil))))) (pss_one (ps_ret (pe_lc (wi := iList K _) (g := gTup K 2 (gCons (gName 5) (gCons (gTup K 2 (gCons (gName 6) (gCons (gName 7) gNil))) gNil))) (own := [("many", 5), ("least", 6), ("greatest", 7)]) (by rfl) nd (pi_list (pv 4)) (blkOk_by (by kernel_rfl)) (fun _ _ _ _ _ => (pg_tup rfl (pgs_cons (pg_name (i := 5) nd rfl (Or.inl rfl)) (pgs_cons (pg_tup rfl (pgs_cons (pg_name (i := 6) nd rfl (Or.inl rfl)) (pgs_cons (pg_name (i := 7) nd rfl (Or.inl rfl)) pgs_nil))) pgs_nil)))) (fun _ _ _ _ _ => (pts_one (pt_cmpR op_le (pv 6) (pv 7) (nomark _)))) (fun _ _ _ _ _ => (pe_tup (pa_cons (pv 5) (pa_cons (pv 6) (pa_cons (pv 7) pa_nil))))))))), ?_⟩
    have v0 : ∀ {H' : Hp}, EvP (tVar 0) (start N_possible_pairs [.int n, x, z, OI m]) H' (Is (.int n)) := evp_var rfl rfl mono_is
    have v2 : ∀ {H' : Hp}, Evl.Ex H H' → EvP (tVar 2) (start N_possible_pairs [.int n, x, z, OI m]) H' (Pr d0 d1) := fun e => evp_var rfl (mono_pr _ _ _ e hz) mono_pr
    have hmin : (if n < d1 then n else d1) ≤ 64 ∧ 0 ≤ (if n < d1 then n else d1) := by split <;> omega
    have hk : possK n d0 d1 ≤ 65 := by unfold possK; omega
    have hi : ∀ i : Nat, i < possK n d0 d1 → 0 ≤ d0 + (i : Int) ∧ d0 + (i : Int) ≤ 1000 := fun i hi => by unfold possK at hi; omega
    refine q_asgP (evp_lc (vs := [5]) (g := gName 5) (n := possK n d0 d1) (Pi := fun i => Pq (d0 + (i : Int)) (lgM r0 r1 (d0 + (i : Int)) m).1 (lgM r0 r1 (d0 + (i : Int)) m).2)
      (wi_rng2 (ta := tCons (tOp (rIxT K) (tVar 2) (tC (.int 0))) (tCons (tOp (rI0 fun i j => .int (i + j)) (tCB rMin2 (tCons (tOp (rIxT K) (tVar 2) (tC (.int 1))) (tCons (tVar 0) tNil))) (tC (.int 1))) tNil)) (lo := d0) (hi := (if n < d1 then n else d1) + 1)
        (fun H1 e Q q => eap_two (evp_pr0 (K := K) (v2 (Ex.refl H))) (evp_I0 (g := fun i j => .int (i + j)) (evp_min (evp_pr1 (K := K) (v2 (Ex.refl H))) v0) (evp_c (v := .int 1))) mono_is H1 e _ fun vs H2 e2 ⟨a, b, hv, ha, hb⟩ => q _ H2 e2 (by rw [hv, show a = _ from ha, show b = _ from hb])) (by omega)) (by omega)
      (Sg := fun i σ2 _ => σ2 = [some (.int n), some x, some z, some (OI m), none, some (.int (d0 + (i : Int))), none, none]) (fun i y H1 _ _ hy => by subst hy; exact g_name (i := 5) ⟨rfl, rfl⟩) (fun i σ2 H1 hlt e1 hs => by
        subst hs
        refine evp_pq (evp_var (i := 5) rfl rfl mono_is) (evp_call (E := E0) (S := Pr (lgM r0 r1 (d0 + (i : Int)) m).1 (lgM r0 r1 (d0 + (i : Int)) m).2) (eap_three (P := Pr r0 r1) (R := Is (.int (d0 + (i : Int)))) (S := Is (OI m)) (evp_var (i := 1) (v := x) rfl (mono_pr _ _ _ e1 hx) mono_pr) (evp_var (i := 5) rfl rfl mono_is) (evp_var (i := 3) rfl rfl mono_is) mono_pr mono_is) fun vs H2 ⟨a, b, c, hv, ha, hb, hc⟩ Q q E => ⟨a, r0, r1, d0 + (i : Int), m, by rw [hv, show b = _ from hb, show c = _ from hc], ha, hi i hlt, fun v H3 e3 h3 => q v H3 e3 h3⟩)) fun _ => mf_pq) fun v4 H1 e1 h4 => ?_
    have v4' : EvP (tVar 4) [some (.int n), some x, some z, some (OI m), some v4, none, none, none] H1 (LstP (possK n d0 d1) fun i => Pq (d0 + (i : Int)) (lgM r0 r1 (d0 + (i : Int)) m).1 (lgM r0 r1 (d0 + (i : Int)) m).2) := fun H2 e2 Q q => ⟨v4, rfl, q v4 H2 (Ex.refl _) (by
      obtain ⟨a, ys, h1, h2, h3, h5⟩ := h4
      exact ⟨a, ys, h1, e2 _ _ h2, h3, fun i y hy => mf_pq.mono _ _ _ e2 (h5 i y hy)⟩)⟩
    refine s_ret_P (evp_lcF (vs := [5, 6, 7]) (g := gTup K 2 (gCons (gName 5) (gCons (gTup K 2 (gCons (gName 6) (gCons (gName 7) gNil))) gNil))) (f := fun i => decide ((lgM r0 r1 (d0 + (i : Int)) m).1 ≤ (lgM r0 r1 (d0 + (i : Int)) m).2)) (Pi := fun _ _ _ => True) (wx_lst (K := K) v4' fun _ => mf_pq.mono) (by omega)
      (Sg := fun i σ2 _ => σ2 = [some (.int n), some x, some z, some (OI m), some v4, some (.int (d0 + (i : Int))), some (.int (lgM r0 r1 (d0 + (i : Int)) m).1), some (.int (lgM r0 r1 (d0 + (i : Int)) m).2)]) (fun i y H2 hlt e2 hy => g_pq hy ⟨rfl, rfl⟩)
      (fun i σ2 H2 hlt e2 hs => by subst hs; exact et_tst (evp_I0 (g := fun i j => .bl (decide (i ≤ j))) (evp_var (i := 6) rfl rfl mono_is) (evp_var (i := 7) rfl rfl mono_is)))
      (fun i σ2 H2 hlt e2 hs => by subst hs; exact evp_tup3 (evp_var (i := 5) rfl rfl mono_is) (evp_var (i := 6) rfl rfl mono_is) (evp_var (i := 7) rfl rfl mono_is)) fun _ _ _ _ _ _ => trivial) fun v H2 e2 ⟨p, ys, hv, hp, hP⟩ => q v H2 (e1.trans e2) ⟨p, ys, hv, hp, ?_⟩
    rw [Paired.len hP]
    rfl
end
end K20
namespace K20
open PySem PySem.Spec PyProof.Rows L2 Evl RZ Ev2 TA5
abbrev EVT (K : PySem.W.Frag) (mg : Str → Option Value) (C f : Addr) : Prop := PySem.ErrV.ErrTxt K mg "InvalidNumber" "InvalidNumber.__init__" C f
abbrev EST (K : PySem.W.Frag) (mg : Str → Option Value) (C f : Addr) : Prop := PySem.ErrV.ErrTxt K mg "InvalidSpread" "InvalidSpread.__init__" C f
abbrev ECT (K : PySem.W.Frag) (mg : Str → Option Value) (C f : Addr) : Prop := PySem.ErrC.ErrTxt K mg "Contradictory" "Contradictory.__init__" C f
structure SpK (K : PySem.W.Frag) (mg : Str → Option Value) (C fI : Addr) : Prop where
  cl : Cls K C
  n1 : NoAttr K C "_size"
  n2 : NoAttr K C "_rows"
  n3 : NoAttr K C "_different"
  n4 : NoAttr K C "_most"
  gC : mg "Spread" = some (.ref C)
  mkc : Mk K C fI
def Rz (fn : Str) (C : Addr) (x : V) (H : Hp) (E : XK) : Prop := ∀ (d : Addr) (H2 : Hp), Evl.Ex H H2 → H2 d = some (.xd [(fn, x)]) → E (.ref C) (some d) H2
def RzT (fn : Str) (C : Addr) (xs : List V) (H : Hp) (E : XK) : Prop := ∀ (d p : Addr) (H2 : Hp), Evl.Ex H H2 → H2 p = some (.tup xs) → H2 d = some (.xd [(fn, .ref p)]) → E (.ref C) (some d) H2
def numL : PyData → Int × Int
  | .tuple [a, b] => (dI a, dI b)
  | _ => (0, 0)
def mo : PyData → Option Int
  | .int i => some i
  | _ => none
def posD (d1 d2 d3 d4 : PyData) : List Nat := posL (dI d1) (numL d2).1 (numL d2).2 (numL d3).1 (numL d3).2 (mo d4)
def flds (x y z w : V) : List (Str × V) := [("_size", x), ("_rows", y), ("_different", z), ("_most", w)]
def spMk (C CV CS CC : Addr) : Sp := fun vs H Q E => ∃ (a dx : Addr) (x y z w : V) (d1 d2 d3 d4 : PyData), vs = [.ref a, x, y, z, w] ∧ H a = some (.ins C dx []) ∧ It H x d1 ∧ It H y d2 ∧ It H z d3 ∧ It H w d4 ∧
  (szB d1 = false → Rz "value" CV x H E) ∧ (szB d1 = true → limB d2 = false → Rz "value" CS y H E) ∧ (szB d1 = true → limB d2 = true → limB d3 = false → Rz "value" CS z H E) ∧
  (szB d1 = true → limB d2 = true → limB d3 = true → mostB d4 = false → Rz "value" CS w H E) ∧
  (szB d1 = true → limB d2 = true → limB d3 = true → mostB d4 = true → (numL d3).1 ≤ 1000 ∧ ((posD d1 d2 d3 d4).length = 0 → RzT "part" CC [x, y, z, w] H E) ∧
    ((posD d1 d2 d3 d4).length ≠ 0 → ∀ H2, Evl.Ex (fun b => if b = a then none else H b) H2 → H2 a = some (.ins C dx (flds x y z w)) → Q .non H2))
def F1 (x : V) : List (Str × V) := [("_size", x)]
def F2 (x y : V) : List (Str × V) := [("_size", x), ("_rows", y)]
def F3 (x y z : V) : List (Str × V) := [("_size", x), ("_rows", y), ("_different", z)]
theorem put1 {x : V} : putF "_size" x [] = F1 x := rfl
theorem put_ne {f g : Str} {v x : V} {r : List (Str × V)} (h : g ≠ f) : putF f v ((g, x) :: r) = (g, x) :: putF f v r := if_neg h
theorem put2 {x y : V} : putF "_rows" y (F1 x) = F2 x y := by
  unfold F1 F2
  rw [put_ne (by decide)]; rfl
theorem put3 {x y z : V} : putF "_different" z (F2 x y) = F3 x y z := by
  unfold F2 F3
  rw [put_ne (by decide), put_ne (by decide)]; rfl
theorem put4 {x y z w : V} : putF "_most" w (F3 x y z) = flds x y z w := by
  unfold F3 flds
  rw [put_ne (by decide), put_ne (by decide), put_ne (by decide)]; rfl
theorem lim_pr {x : V} {d : PyData} {H : Hp} (h : It H x d) (hl : limB d = true) : Pr (numL d).1 (numL d).2 x H ∧ 0 ≤ (numL d).1 ∧ 0 ≤ (numL d).2 := by
  obtain ⟨ds, rfl⟩ : ∃ ds, d = .tuple ds := by cases d <;> first | exact ⟨_, rfl⟩ | (cases hl; done)
  match ds, hl with
  | [], hl => cases hl
  | [_], hl => cases hl
  | _ :: _ :: _ :: _, hl => cases hl
  | [a, b], hl =>
    have hl' : (isC a && (isC b && decide (dI a ≤ dI b))) = true := hl
    simp only [Bool.and_eq_true, decide_eq_true_eq] at hl'
    obtain ⟨i, rfl, hi⟩ := isC_int hl'.1
    obtain ⟨j, rfl, hj⟩ := isC_int hl'.2.1
    cases h with
    | flat h => cases x <;> first | exact h.elim | (cases h; done)
    | @tup p xs _ hp pp =>
      cases pp with
      | cons h1 t =>
        cases t with
        | cons h2 t =>
          cases t
          rw [fl_int h1, fl_int h2] at hp
          exact ⟨⟨p, rfl, hp⟩, hi, hj⟩
theorem most_oi {x : V} {d : PyData} {H : Hp} (h : It H x d) (hm : mostB d = true) : x = OI (mo d) := by
  cases h with
  | flat h => cases x <;> first | exact h.elim | (cases h; first | rfl | (cases hm; done))
  | tup h p => cases hm
  | lst h p => cases hm
theorem sz_int {x : V} {d : PyData} {H : Hp} (h : It H x d) (hs : szB d = true) : x = .int (dI d) ∧ 1 ≤ dI d ∧ dI d ≤ 64 := by
  obtain ⟨i, e1, e2⟩ := it_int h (by cases d <;> first | rfl | (cases hs; done))
  subst e1
  subst e2
  have : (decide (1 ≤ i) && decide (i ≤ 64)) = true := hs
  simp only [Bool.and_eq_true, decide_eq_true_eq] at this
  exact ⟨rfl, this⟩
section
variable {K : PySem.W.Frag} {σ : L2.St} {H : Hp} {ta te : TE}
theorem evp_lenL {N : Nat} (h : EvP te σ H (fun v H1 => ∃ p ys, v = .ref p ∧ H1 p = some (.lst ys) ∧ ys.length = N)) : EvP (tCB (rLenQ K) (tCons te tNil)) σ H (Is (.int (N : Int))) := fun H1 e Q q =>
  h H1 e _ fun v H2 e2 ⟨p, ys, h1, h2, h3⟩ => ⟨p, ys, by rw [h1], .inl (sq_of h2), by rw [h3]; exact q _ H2 e2 rfl⟩
end
section
variable {P : Program} {w : World} {K : PySem.W.Frag} {mg : Str → Option Value} {base : Heap} {tk : Tok} {k : Nat} {C fI CV iV CS iS CC iC : Addr}
theorem ok_init {f1 f2 f3 f4 : Addr} {fd d1 d2 d3 d4 : FuncData} (EV : EVT K mg CV iV) (ES : EST K mg CS iS) (EC : ECT K mg CC iC) (SK : SpK K mg C fI) (T : Txt mg tk)
    (D_is_whole : Df K mg "is_whole" s_is_whole ["value"] f1 d1) (G_is_whole : FnOk P w K mg base CX0 (k + 1) f1 d1 ["value"] spWhole)
    (D_is_limits : Df K mg "is_limits" s_is_limits ["value"] f2 d2) (G_is_limits : FnOk P w K mg base CX0 (k + 3) f2 d2 ["value"] spLim)
    (D_is_most : Df K mg "is_most" s_is_most ["value"] f3 d3) (G_is_most : FnOk P w K mg base CX0 (k + 2) f3 d3 ["value"] spMost)
    (D_possible_pairs : Df K mg "possible_pairs" s_possible_pairs ["size", "rows", "different", "most"] f4 d4) (G_possible_pairs : FnOk P w K mg base CX0 (k + 2) f4 d4 ["size", "rows", "different", "most"] spPairs)
    {dvs : List V} (F : FunD K "__init__" "Spread.__init__" (defArgs s_Spread_init) (defBody s_Spread_init) (defScope s_Spread_init) dvs [] fI fd) :
    FnOk P w K mg base (L2.CX P w) (k + 6) fI fd ["self", "size", "rows", "different", "most"] (spMk C CV CS CC) := by
  refine F.ok sc_Spread_init (fun vs H Q E h => ?_) (fun cdv A outer s H vs Q E hr h => ?_)
  · obtain ⟨a, dx, x, y, z, w, d1, d2, d3, d4, rfl, _⟩ := h
    rfl
  · obtain ⟨a, dx, x, y, z, w, d1, d2, d3, d4, rfl, ha, hx, hy, hz, hw, k1, k2, k3, k4, k5⟩ := h
    have nd := sc_Spread_init.nd
    refine ⟨_, (pss_cons (ps_if (PW.pt (pw_or (pt_not (pt_val (pe_call G_is_whole (hr.mono (by omega)) (by rfl) D_is_whole.g D_is_whole.F.kp D_is_whole.b .nil pass0 (pa_cons (pv 1) pa_nil)))) (pw_or1 (pt_not (pt_chain op_le op_le pe_int (pv 1) (pe_glob (v := .int 64) rfl T.c_MOST_HEIGHTS ⟨_, rfl⟩)))))) (pss_one (ErrVL.ps_raiseErr rfl EV hr (takes_of rfl rfl rfl rfl) (pa_cons (pv 1) pa_nil))) pss_nil) (pss_cons (ps_for (passes_of rfl) rfl (pi_tup (pe_tup (pa_cons (pv 2) (pa_cons (pv 3) pa_nil)))) (pg_name (i := 5) nd rfl (Or.inl rfl)) (pss_one (ps_if (pt_not (pt_val (pe_call G_is_limits (hr.mono (by omega)) (by rfl) D_is_limits.g D_is_limits.F.kp D_is_limits.b .nil pass0 (pa_cons (pv 5) pa_nil)))) (pss_one (ErrVL.ps_raiseErr rfl ES hr (takes_of rfl rfl rfl rfl) (pa_cons (pv 5) pa_nil))) pss_nil))) (pss_cons (ps_if (pt_not (pt_val (pe_call G_is_most (hr.mono (by omega)) (by rfl) D_is_most.g D_is_most.F.kp D_is_most.b .nil pass0 (pa_cons (pv 4) pa_nil)))) (pss_one (ErrVL.ps_raiseErr rfl ES hr (takes_of rfl rfl rfl rfl) (pa_cons (pv 4) pa_nil))) pss_nil) (pss_cons (ps_if (pt_cmpR op_eq (pe_callB (r := rLenQ K) call_len_seq (by rfl) T.n_len PySem.boot_len (pa_cons (pe_call G_possible_pairs (hr.mono (by omega)) (by rfl) D_possible_pairs.g D_possible_pairs.F.kp D_possible_pairs.b .nil pass0 (pa_cons (pv 1) (pa_cons (pv 2) (pa_cons (pv 3) (pa_cons (pv 4) pa_nil))))) pa_nil)) pe_int (nomark _)) (pss_one (ErrCL.ps_raiseErr rfl EC hr (takes_of rfl rfl rfl rfl) (pa_cons (pe_tup (pa_cons (pv 1) (pa_cons (pv 2) (pa_cons (pv 3) (pa_cons (pv 4) pa_nil))))) pa_nil))) pss_nil) (pss_cons (ps_fld (pv 0) (pv 1) rfl) (pss_cons (ps_fld (pv 0) (pv 2) rfl) (pss_cons (ps_fld (pv 0) (pv 3) rfl) (pss_one (ps_fld (pv 0) (pv 4) rfl))))))))), ?_⟩
    have v1 : ∀ {σ' : L2.St} {H' : Hp}, σ'[1]? = some (some x) → Evl.Ex H H' → EvP (tVar 1) σ' H' (fun v H => It H v d1) := fun h e => evp_var h (hx.mono (Kx.of e)) mono_it
    have v4 : ∀ {σ' : L2.St} {H' : Hp}, σ'[4]? = some (some w) → Evl.Ex H H' → EvP (tVar 4) σ' H' (fun v H => It H v d4) := fun h e => evp_var h (hw.mono (Kx.of e)) mono_it
    -- the size
    refine q_when (b := !szB d1) (et_is (et_or (a := !isI d1) (b := !szB d1) (et_not (et_bl (evp_call (E := E0) (eap_one (v1 rfl (Ex.refl H))) sp_whole_it))) fun hi => ?_) (by cases d1 <;> first | rfl | (simp [isI]))) (fun hb H1 e1 => ⟨x, rfl, x, rfl, fun d hd => k1 (by simpa using hb) d _ (e1.trans (Ex.new hd)) upd_same⟩) fun hb H1 e1 => ?_
    · obtain ⟨i, rfl, rfl⟩ := it_int hx (by simpa using hi)
      exact et_not (et_tst (evp_chain (g := fun i j => .bl (decide (i ≤ j))) (g' := fun i j => .bl (decide (i ≤ j))) (evp_c (v := .int 1)) (evp_var (v := .int i) (i := 1) rfl rfl mono_is) (evp_c (v := .int 64)) rfl rfl))
    have hs1 : szB d1 = true := by simpa using hb
    clear hb
    -- the limits
    refine ⟨y, rfl, z, rfl, by show 2 ≤ sizeLine; decide, fun p hp => ⟨p, rfl, ⟨[y, z], st_of upd_same⟩, ?_⟩⟩
    have e2 : Evl.Ex H (upd H1 p (.tup [y, z])) := e1.trans (Ex.new hp)
    have turn : ∀ (D : Ends) (v : V) (dv : PyData) (H' : Hp), Evl.Ex H H' → It H v dv → (limB dv = false → Rz "value" CS v H E) → (limB dv = true → ∀ H1, Evl.Ex H' H1 → D.nx [some (.ref a), some x, some y, some z, some w, some v] H1) →
        tIfS (tNot (tB (tCall spLim [] E0 (tCons (tVar 5) tNil)))) (ErrVL.tRaiseErr CS (fun cls d _ H => E cls d H) (tCons (tVar 5) tNil)) tNext D [some (.ref a), some x, some y, some z, some w, some v] H' := fun D v dv H' ex hv hbad hgood =>
      s_when (b := !limB dv) (et_not (et_bl (evp_call (E := E0) (eap_one (evp_var (i := 5) (v := v) rfl (hv.mono (Kx.of ex)) mono_it)) sp_lim_it))) (fun hb H1 e1 => ⟨v, rfl, v, rfl, fun d hd => hbad (by simpa using hb) d _ ((ex.trans e1).trans (Ex.new hd)) upd_same⟩) fun hb H1 e1 => hgood (by simpa using hb) H1 e1
    refine for_tup (xs := [y, z]) (fun i σ' H' => ∃ s5, σ' = [some (.ref a), some x, some y, some z, some w, s5] ∧ Evl.Ex H H' ∧ H' p = some (.tup [y, z]) ∧ (1 ≤ i → limB d2 = true) ∧ (2 ≤ i → limB d3 = true)) ⟨none, rfl, e2, upd_same, fun z => absurd z (by decide), fun z => absurd z (by decide)⟩ (fun i σ' H' _ ⟨_, _, _, h, _⟩ => st_of h) (fun i v σ' H' hv ⟨s5, hs, ex, hpt, h1, h2⟩ => ?_) (fun σ' H' ⟨s5, hs, ex, hpt, h1, h2⟩ => ?_)
    · subst hs
      match i, hv with
      | 0, hv => cases hv; exact turn _ _ d2 H' ex hy (k2 hs1) fun g H1 e1 => ⟨some y, rfl, ex.trans e1, e1 _ _ hpt, fun _ => g, fun z => absurd z (by decide)⟩
      | 1, hv => cases hv; exact turn _ _ d3 H' ex hz (k3 hs1 (h1 (by decide))) fun g H1 e1 => ⟨some z, rfl, ex.trans e1, e1 _ _ hpt, fun _ => h1 (by decide), fun _ => g⟩
      | i + 2, hv => simp at hv
    subst hs
    have hl2 : limB d2 = true := h1 (Nat.le_succ 1)
    have hl3 : limB d3 = true := h2 (Nat.le_refl 2)
    -- most
    refine q_when (b := !mostB d4) (et_not (et_bl (evp_call (E := E0) (eap_one (v4 rfl ex)) sp_most_it))) (fun hb H3 e3 => ⟨w, rfl, w, rfl, fun d hd => k4 hs1 hl2 hl3 (by simpa using hb) d _ ((ex.trans e3).trans (Ex.new hd)) upd_same⟩) fun hb H3 e3' => ?_
    have hm4 : mostB d4 = true := by simpa using hb
    have e3 := ex.trans e3'
    obtain ⟨hbd, kp, q⟩ := k5 hs1 hl2 hl3 hm4
    obtain ⟨hx1, hn⟩ := sz_int hx hs1
    obtain ⟨hy1, hr0, hr1⟩ := lim_pr hy hl2
    obtain ⟨hz1, hd0, hd1⟩ := lim_pr hz hl3
    have hw1 := most_oi hw hm4
    -- the pairs
    have hlen := evp_lenL (K := K) (N := (posD d1 d2 d3 d4).length) (evp_call (E := E0) (sp := spPairs) (σ := [some (.ref a), some x, some y, some z, some w, s5]) (H := H3) (ta := tCons (tVar 1) (tCons (tVar 2) (tCons (tVar 3) (tCons (tVar 4) tNil)))) (A := fun vs H1 => vs = [x, y, z, w] ∧ Evl.Ex H H1) (fun H4 e4 Q q => ⟨x, rfl, y, rfl, z, rfl, w, rfl, q _ H4 (Ex.refl _) ⟨rfl, e3.trans e4⟩⟩) fun vs H4 ⟨hv, e4⟩ Q q E => ⟨y, z, dI d1, (numL d2).1, (numL d2).2, (numL d3).1, (numL d3).2, mo d4, by rw [hv, hx1, hw1], mono_pr _ _ _ e4 hy1, mono_pr _ _ _ e4 hz1, hn, ⟨hd0, hbd, hd1⟩, fun v H5 e5 h5 => q v H5 e5 h5⟩)
    refine q_when (b := decide ((posD d1 d2 d3 d4).length = 0)) (et_tst (evp_is (evp_eq hlen (evp_c (v := .int 0)) rfl) (by simp))) (fun hb H4 e4 => ⟨x, rfl, y, rfl, z, rfl, w, rfl, by show 4 ≤ sizeLine; decide, fun t ht => ⟨.ref t, rfl, fun d hd => kp (of_decide_eq_true hb) d t _ ((e3.trans e4).trans ((Ex.new ht).trans (Ex.new hd))) (Ex.new hd _ _ upd_same) upd_same⟩⟩) fun hb H4 e4' => ?_
    have e4 := e3.trans e4'
    have hne : (posD d1 d2 d3 d4).length ≠ 0 := of_decide_eq_false hb
    -- the fields
    refine ⟨x, rfl, .ref a, rfl, a, C, dx, [], rfl, e4 _ _ ha, SK.cl, SK.n1, (by show 0 < 1000; decide), ?_⟩
    rw [put1]
    refine ⟨y, rfl, .ref a, rfl, a, C, dx, F1 x, rfl, upd_same, SK.cl, SK.n2, (by show 1 < 1000; decide), ?_⟩
    rw [put2]
    refine ⟨z, rfl, .ref a, rfl, a, C, dx, F2 x y, rfl, upd_same, SK.cl, SK.n3, (by show 2 < 1000; decide), ?_⟩
    rw [put3]
    refine ⟨w, rfl, .ref a, rfl, a, C, dx, F3 x y z, rfl, upd_same, SK.cl, SK.n4, (by show 3 < 1000; decide), ?_⟩
    rw [put4]
    refine q hne _ (fun b o hb => ?_) upd_same
    dsimp only at hb
    by_cases hba : b = a
    · rw [if_pos hba] at hb; cases hb
    · rw [if_neg hba] at hb; rw [upd_ne hba, upd_ne hba, upd_ne hba, upd_ne hba]; exact e4 _ _ hb
end
end K20
namespace K20
open PySem PySem.Spec PyProof.Rows L2 Evl RZ Ev2 TA5
theorem make_ex {H : Hp} {x dx C : Addr} (hx : H x = none) (hdx : H dx = none) (hne : dx ≠ x) : Evl.Ex H (upd (upd H dx (.own x)) x (.ins C dx [])) := (Ex.new hdx).trans (Ex.new (by rw [upd_ne hne.symm]; exact hx))

def Spr (C : Addr) (x y z w : V) : HP := fun v H => ∃ a dx, v = .ref a ∧ H a = some (.ins C dx (flds x y z w))
theorem mf_spr {C : Addr} {x y z w : V} : MonoF (Spr C x y z w) := fun _ _ _ e ⟨a, dx, h1, h2⟩ => ⟨a, dx, h1, e _ _ h2 (fun _ z => nomatch z)⟩
theorem lk2 {x y z w : V} : (flds x y z w).lookup ("_rows" : Str) = some y := rfl
theorem lk3 {x y z w : V} : (flds x y z w).lookup ("_different" : Str) = some z := rfl
theorem lk4 {x y z w : V} : (flds x y z w).lookup ("_most" : Str) = some w := rfl
theorem made_ex {H H2 : Hp} {a dx C : Addr} {o : HO} (ha : H a = none) (hd : H dx = none) (hne : dx ≠ a) (e : Evl.Ex (fun b => if b = a then none else (upd (upd H dx (.own a)) a o) b) H2) : Evl.Ex H H2 := fun b o hb => e b o (by
    have hbx : b ≠ a := fun z => by rw [z, ha] at hb; cases hb
    dsimp only
    rw [if_neg hbx, upd_ne hbx, upd_ne (fun z => by rw [z, hd] at hb; cases hb)]
    exact hb)
structure Pf (K : PySem.W.Frag) (C : Addr) (x qual : Str) (st : Stmt) (p f : Addr) (fd : FuncData) : Prop where
  F : Fun K x qual st f fd
  b : Binds K fd ["self"] []
  hp : PropOf K C x p f
structure FD (K : PySem.W.Frag) (x qual : Str) (st : Stmt) (ps : List Str) (dvs : List V) (f : Addr) (fd : FuncData) : Prop where
  F : FunD K x qual (defArgs st) (defBody st) (defScope st) dvs [] f fd
  b : Binds K fd ps []
def Ls (xs : List V) : HP := fun v H => ∃ p, v = .ref p ∧ H p = some (.lst xs)
theorem evp_prop {σ : L2.St} {H : Hp} {te : TE} {C : Addr} {x y z w : V} {S : HP} {sp : Sp} {E : XK} (h : EvP te σ H (Spr C x y z w)) (hs : SpP sp (fun vs H1 => ∃ v, vs = [v] ∧ Spr C x y z w v H1) S) : EvP (tProp C sp [] E te) σ H S := fun H1 e Q q => h H1 e _ fun v H2 e2 ⟨a, dx, h1, h2⟩ =>
  ⟨a, dx, _, h1, h2, hs _ H2 ⟨_, rfl, a, dx, rfl, h2⟩ Q (fun v H3 e3 s => q v H3 (e2.trans e3) s) E⟩
def spProp (C : Addr) (g : V → V → V → V → V) : Sp := fun vs H Q _ => ∃ (v x y z w : V), vs = [v] ∧ Spr C x y z w v H ∧ ∀ H2, Evl.Ex H H2 → Q (g x y z w) H2
section
variable {P : Program} {w : World} {K : PySem.W.Frag} {mg : Str → Option Value} {base : Heap} {tk : Tok} {k : Nat} {C fI CV iV CS iS CC iC p f : Addr} {fd : FuncData}
theorem ok_rows (SK : SpK K mg C fI) (PP : Pf K C "rows" "Spread.rows" s_Spread_rows p f fd) : FnOk P w K mg base CX0 (k + 1) f fd ["self"] (spProp C fun _ y _ _ => y) := by
  refine PP.F.ok sc_Spread_rows (fun vs H Q E h => ?_) (fun cdv A outer s H vs Q E hr h => ?_)
  · obtain ⟨v, x, y, z, w, rfl, _⟩ := h
    rfl
  · obtain ⟨v, x, y, z, w, rfl, ⟨a, dx, rfl, ha⟩, q⟩ := h
    exact ⟨_, (pss_one (ps_ret (pe_fld (pv 0) rfl))), _, rfl, a, C, dx, _, y, rfl, ha, SK.cl, SK.n2, lk2, q H (Ex.refl _)⟩
theorem ok_different (SK : SpK K mg C fI) (PP : Pf K C "different" "Spread.different" s_Spread_different p f fd) : FnOk P w K mg base CX0 (k + 1) f fd ["self"] (spProp C fun _ _ z _ => z) := by
  refine PP.F.ok sc_Spread_different (fun vs H Q E h => ?_) (fun cdv A outer s H vs Q E hr h => ?_)
  · obtain ⟨v, x, y, z, w, rfl, _⟩ := h
    rfl
  · obtain ⟨v, x, y, z, w, rfl, ⟨a, dx, rfl, ha⟩, q⟩ := h
    exact ⟨_, (pss_one (ps_ret (pe_fld (pv 0) rfl))), _, rfl, a, C, dx, _, z, rfl, ha, SK.cl, SK.n3, lk3, q H (Ex.refl _)⟩
theorem ok_mostp (SK : SpK K mg C fI) (PP : Pf K C "most" "Spread.most" s_Spread_most p f fd) : FnOk P w K mg base CX0 (k + 1) f fd ["self"] (spProp C fun _ _ _ w => w) := by
  refine PP.F.ok sc_Spread_most (fun vs H Q E h => ?_) (fun cdv A outer s H vs Q E hr h => ?_)
  · obtain ⟨v, x, y, z, w, rfl, _⟩ := h
    rfl
  · obtain ⟨v, x, y, z, w, rfl, ⟨a, dx, rfl, ha⟩, q⟩ := h
    exact ⟨_, (pss_one (ps_ret (pe_fld (pv 0) rfl))), _, rfl, a, C, dx, _, w, rfl, ha, SK.cl, SK.n4, lk4, q H (Ex.refl _)⟩
def PartL (x y z w : V) : HP := fun v H => ∃ p t, v = .ref p ∧ H p = some (.lst [.str "part", .ref t]) ∧ H t = some (.tup [x, y, z, w])
def spHeard : Sp := fun vs H Q _ => ∃ (x y z w : V) (d1 d2 d3 d4 : PyData), vs = [x, y, z, w] ∧ It H x d1 ∧ It H y d2 ∧ It H z d3 ∧ It H w d4 ∧
  (szB d1 = false → ∀ v H2, Evl.Ex H H2 → Ls [.str "number", x] v H2 → Q v H2) ∧ (szB d1 = true → limB d2 = false → ∀ v H2, Evl.Ex H H2 → Ls [.str "none", y] v H2 → Q v H2) ∧
  (szB d1 = true → limB d2 = true → limB d3 = false → ∀ v H2, Evl.Ex H H2 → Ls [.str "none", z] v H2 → Q v H2) ∧
  (szB d1 = true → limB d2 = true → limB d3 = true → mostB d4 = false → ∀ v H2, Evl.Ex H H2 → Ls [.str "none", w] v H2 → Q v H2) ∧
  (szB d1 = true → limB d2 = true → limB d3 = true → mostB d4 = true → (numL d3).1 ≤ 1000 ∧ ((posD d1 d2 d3 d4).length = 0 → ∀ v H2, Evl.Ex H H2 → PartL x y z w v H2 → Q v H2) ∧
    ((posD d1 d2 d3 d4).length ≠ 0 → ∀ v H2, Evl.Ex H H2 → Ls [.str "spread", y, z, w] v H2 → Q v H2))
theorem ok_heard {f1 f2 f3 f4 p2 p3 p4 : Addr} {fd1 fd2 fd3 fd4 : FuncData} {dvs : List V} (EV : EVT K mg CV iV) (ES : EST K mg CS iS) (EC : ECT K mg CC iC) (SK : SpK K mg C f1)
    (hSV : PySem.W.exmOne K (.ref CS) (.ref CV) = some false) (hCV : PySem.W.exmOne K (.ref CC) (.ref CV) = some false) (hCS : PySem.W.exmOne K (.ref CC) (.ref CS) = some false)
    (M_init : FD K "__init__" "Spread.__init__" s_Spread_init ["self", "size", "rows", "different", "most"] dvs f1 fd1) (G_init : FnOk P w K mg base (L2.CX P w) (k + 6) f1 fd1 ["self", "size", "rows", "different", "most"] (spMk C CV CS CC))
    (P_rows : Pf K C "rows" "Spread.rows" s_Spread_rows p2 f2 fd2) (G_rows : FnOk P w K mg base CX0 (k + 1) f2 fd2 ["self"] (spProp C fun _ y _ _ => y))
    (P_different : Pf K C "different" "Spread.different" s_Spread_different p3 f3 fd3) (G_different : FnOk P w K mg base CX0 (k + 1) f3 fd3 ["self"] (spProp C fun _ _ z _ => z))
    (P_most : Pf K C "most" "Spread.most" s_Spread_most p4 f4 fd4) (G_most : FnOk P w K mg base CX0 (k + 1) f4 fd4 ["self"] (spProp C fun _ _ _ w => w))
    (D : Df K mg "_law_heard" s_law_heard ["_law_size", "_law_rows", "_law_different", "_law_most"] f fd) : FnOk P w K mg base CX0 (k + 8) f fd ["_law_size", "_law_rows", "_law_different", "_law_most"] spHeard := by
  refine D.F.ok sc_law_heard (fun vs H Q E h => ?_) (fun cdv A outer s H vs Q E hr h => ?_)
  · obtain ⟨x, y, z, w, d1, d2, d3, d4, rfl, _⟩ := h
    rfl
  · obtain ⟨x, y, z, w, d1, d2, d3, d4, rfl, hx, hy, hz, hw, k1, k2, k3, k4, k5⟩ := h
    have nd := sc_law_heard.nd
    have PRP : ∀ {X : Cx}, True := fun {_} => trivial
    refine ⟨_, (pss_one (ps_try_all rfl rfl nd takes0 (fun W pn xe tkW po => pss_cons (ps_set (i := 5) nd rfl (Or.inl rfl) (pe_makeS SK.mkc G_init (hr.mono (by omega)) (by rfl) SK.gC M_init.b .nil (fun σ => passAt tkW σ) (pa_cons (pv 0) (pa_cons (pv 1) (pa_cons (pv 2) (pa_cons (pv 3) pa_nil))))))
        (pss_one (ps_ret (pe_lst (pa_cons pe_str (pa_cons (pe_prop (pv 5) SK.cl P_rows.hp G_rows (hr.mono (by omega)) P_rows.b .nil pass0 rfl) (pa_cons (pe_prop (pv 5) SK.cl P_different.hp G_different (hr.mono (by omega)) P_different.b .nil pass0 rfl) (pa_cons (pe_prop (pv 5) SK.cl P_most.hp G_most (hr.mono (by omega)) P_most.b .nil pass0 rfl) pa_nil))))))))
      (Hds.cons (i := 4) rfl rfl ⟨by rfl, by decide, .inl EV.gC⟩ (fun a oe cls d pn hz hf => pss_one (ps_ret (pe_lst (pa_cons pe_str (pa_cons (ErrVL.pe_fldErr EV hz hf (pv 4)) pa_nil))))) (Hds.cons (i := 4) rfl rfl ⟨by rfl, by decide, .inl ES.gC⟩ (fun a oe cls d pn hz hf => pss_one (ps_ret (pe_lst (pa_cons pe_str (pa_cons (ErrVL.pe_fldErr ES hz hf (pv 4)) pa_nil)))))
        (Hds.cons (i := 4) rfl rfl ⟨by rfl, by decide, .inl EC.gC⟩ (fun a oe cls d pn hz hf => pss_one (ps_ret (pe_lst (pa_cons pe_str (pa_cons (ErrCL.pe_fldErr EC hz hf (pv 4)) pa_nil))))) .nil))))), ?_⟩
    refine ⟨x, rfl, y, rfl, z, rfl, w, rfl, fun a dx hx0 hd0 hne => ?_⟩
    have em : Evl.Ex H (upd (upd H dx (.own a)) a (.ins C dx [])) := make_ex hx0 hd0 hne
    refine ⟨a, dx, x, y, z, w, d1, d2, d3, d4, rfl, upd_same, hx.mono (Kx.of em), hy.mono (Kx.of em), hz.mono (Kx.of em), hw.mono (Kx.of em), fun b1 d H2 e h2 => ?_, fun b1 b2 d H2 e h2 => ?_, fun b1 b2 b3 d H2 e h2 => ?_, fun b1 b2 b3 b4 d H2 e h2 => ?_, fun b1 b2 b3 b4 => ?_⟩
    · exact ⟨true, EV.te, fun _ a hna => ⟨_, rfl, rfl, rfl, d, x, rfl, h2, sz_of (show 2 ≤ 100000 by decide), fun p hp => k1 b1 _ _ ((em.trans e).trans (Ex.new hp)) ⟨p, rfl, upd_same⟩⟩, fun z => by cases z⟩
    · exact ⟨false, hSV, fun z => (by cases z), fun _ => ⟨true, ES.te, fun _ a hna => ⟨_, rfl, rfl, rfl, d, y, rfl, h2, sz_of (show 2 ≤ 100000 by decide), fun p hp => k2 b1 b2 _ _ ((em.trans e).trans (Ex.new hp)) ⟨p, rfl, upd_same⟩⟩, fun z => by cases z⟩⟩
    · exact ⟨false, hSV, fun z => (by cases z), fun _ => ⟨true, ES.te, fun _ a hna => ⟨_, rfl, rfl, rfl, d, z, rfl, h2, sz_of (show 2 ≤ 100000 by decide), fun p hp => k3 b1 b2 b3 _ _ ((em.trans e).trans (Ex.new hp)) ⟨p, rfl, upd_same⟩⟩, fun z => by cases z⟩⟩
    · exact ⟨false, hSV, fun z => (by cases z), fun _ => ⟨true, ES.te, fun _ a hna => ⟨_, rfl, rfl, rfl, d, w, rfl, h2, sz_of (show 2 ≤ 100000 by decide), fun p hp => k4 b1 b2 b3 b4 _ _ ((em.trans e).trans (Ex.new hp)) ⟨p, rfl, upd_same⟩⟩, fun z => by cases z⟩⟩
    · obtain ⟨hb, kp, q⟩ := k5 b1 b2 b3 b4
      refine ⟨hb, fun hl d t H2 e ht h2 => ?_, fun hl H2 e h2 => ⟨rfl, ?_⟩⟩
      · exact ⟨false, hCV, fun z => (by cases z), fun _ => ⟨false, hCS, fun z => (by cases z), fun _ => ⟨true, EC.te, fun _ a hna => ⟨_, rfl, rfl, rfl, d, .ref t, rfl, h2, sz_of (show 2 ≤ 100000 by decide), fun p hp => kp hl _ _ ((em.trans e).trans (Ex.new hp)) ⟨p, t, rfl, upd_same, Ex.new hp _ _ ht⟩⟩, fun z => by cases z⟩⟩⟩
      · have e' := made_ex (C := C) hx0 hd0 hne e
        have hs : ∀ {σ : L2.St} {H3 : Hp}, σ[5]? = some (some (.ref a)) → Evl.Ex H2 H3 → EvP (tVar 5) σ H3 (Spr C x y z w) := fun h e3 => evp_var h ⟨a, dx, rfl, e3 _ _ h2⟩ mf_spr.mono
        have pr : ∀ {σ : L2.St} {g : V → V → V → V → V}, σ[5]? = some (some (.ref a)) → EvP (tProp C (spProp C g) [] E0 (tVar 5)) σ H2 (Is (g x y z w)) := fun {σ g} h => evp_prop (hs h (Ex.refl _)) fun vs H1 ⟨v, e, hv⟩ Q q E => ⟨v, x, y, z, w, e, hv, fun H3 e3 => q _ H3 e3 rfl⟩
        exact el_lst (ea_cons ev_c (ea_cons (pr (g := fun _ y _ _ => y) rfl).ev (ea_cons (pr (g := fun _ _ z _ => z) rfl).ev (ea_cons (pr (g := fun _ _ _ w => w) rfl).ev ea_nil)))) (show 4 ≤ 100000 by decide) H2 (Ex.refl _) _ fun p H3 _ e3 hp => q hl _ H3 (e'.trans e3) ⟨p, rfl, hp⟩
end
end K20
namespace K20
open PySem PySem.Spec PyProof.Rows L2 Evl RZ Ev2 TA5
def Tu (l : List Int) : HP := fun v H => ∃ a, v = .ref a ∧ H a = some (.tup (l.map V.int))
theorem mf_tu {l : List Int} : MonoF (Tu l) := fun _ _ _ e ⟨a, h1, h2⟩ => ⟨a, h1, e _ _ h2 (fun _ z => nomatch z)⟩
def TLs (ls : List (List Int)) : HP := LstP ls.length fun i => Tu (ls.getD i [])
theorem mono_tls {ls : List (List Int)} : Mono (TLs ls) := fun _ _ _ e ⟨p, ys, h1, h2, h3, h4⟩ => ⟨p, ys, h1, e _ _ h2, h3, fun i y hy => mf_tu.mono _ _ _ e (h4 i y hy)⟩
def splitsL : Nat → Nat → List (List Int)
  | 0, _ => [[]]
  | n + 1, t => (List.range (t + 1)).flatMap fun f => (splitsL n (t - f)).map fun r => (f : Int) :: r
def preL (n t i : Nat) : List (List Int) := (List.range i).flatMap fun f => (splitsL n (t - f)).map fun r => (f : Int) :: r
theorem splits_len : (List.range 4).all (fun m => (List.range 7).all fun t => decide ((splitsL m t).length ≤ 84) && (List.range 8).all fun i => decide ((preL m t i).length ≤ 1000)) = true := by decide +kernel
theorem pre_len {m t i : Nat} (hm : m < 4) (ht : t < 7) (hi : i < 8) : (splitsL m t).length ≤ 84 ∧ (preL m t i).length ≤ 1000 := by
  have h1 := List.all_eq_true.mp splits_len m (List.mem_range.mpr hm)
  have h2 := List.all_eq_true.mp h1 t (List.mem_range.mpr ht)
  simp only [Bool.and_eq_true, decide_eq_true_eq] at h2
  exact ⟨h2.1, of_decide_eq_true (List.all_eq_true.mp h2.2 i (List.mem_range.mpr hi))⟩
theorem pre_succ (n t i : Nat) : preL n t (i + 1) = preL n t i ++ (splitsL n (t - i)).map fun r => (i : Int) :: r := by
  unfold preL
  rw [List.range_succ, List.flatMap_append]
  simp
section
variable {K : PySem.W.Frag} {σ : L2.St} {H : Hp} {ta tb te tl : TE}
theorem tls_of {n : Nat} {Pi : Nat → HP} {ls : List (List Int)} {v : V} (h : LstP n Pi v H) (hn : n = ls.length) (hp : ∀ i y, i < n → Pi i y H → Tu (ls.getD i []) y H) : TLs ls v H := by
  obtain ⟨p, ys, h1, h2, h3, h4⟩ := h
  refine ⟨p, ys, h1, h2, by omega, fun i y hy => hp i y ?_ (h4 i y hy)⟩
  have := (List.getElem?_eq_some_iff.mp hy).1
  omega
theorem evp_cat {as bs : List (List Int)} (ha : EvP ta σ H (TLs as)) (hb : EvP tb σ H (TLs bs)) (hz : as.length + bs.length ≤ 100000) : EvP (tOp rCat ta tb) σ H (TLs (as ++ bs)) := fun H1 e Q q =>
  ha H1 e _ fun v H2 e2 hv => hb H2 (e.trans e2) _ fun w H3 e3 ⟨p2, zs, g1, g2, g3, g4⟩ => by
    obtain ⟨p, ys, h1, h2, h3, h4⟩ := mono_tls _ _ _ e3 hv
    refine ⟨p, p2, ys, zs, h1, g1, h2, g2, sz_of (by omega), fun l hl => ?_⟩
    have ex : Evl.Ex H3 (upd H3 l (.lst (ys ++ zs))) := Ex.new hl
    refine q _ _ ((e2.trans e3).trans ex) ⟨l, ys ++ zs, rfl, upd_same, by simp [h3, g3], fun i y hy => mf_tu.mono _ _ _ ex ?_⟩
    by_cases hi : i < ys.length
    · rw [List.getElem?_append_left hi] at hy
      have := h4 i y hy
      rwa [List.getD_eq_getElem?_getD, List.getElem?_append_left (by omega), ← List.getD_eq_getElem?_getD]
    · rw [List.getElem?_append_right (by omega)] at hy
      have := g4 (i - ys.length) y hy
      rw [List.getD_eq_getElem?_getD, List.getElem?_append_right (by omega), ← List.getD_eq_getElem?_getD]
      rwa [h3] at this
theorem evp_catT {i : Int} {l : List Int} (ha : EvP ta σ H (Is (.int i))) (hb : EvP tb σ H (Tu l)) (hl : l.length ≤ 1000) : EvP (tOp (rCatT K) (tTup (tCons ta tNil)) tb) σ H (Tu (i :: l)) := fun H1 e Q q =>
  ha H1 e _ fun x H2 e2 hx => ⟨by show 1 ≤ sizeLine; decide, fun p hp => by
    have ex : Evl.Ex H2 (upd H2 p (.tup [x])) := Ex.new hp
    have lp : (upd H2 p (.tup [x])) p = some (.tup [x]) := upd_same
    generalize upd H2 p (.tup [x]) = H2' at ex lp
    refine hb H2' ((e.trans e2).trans ex) _ fun y H3 e3 ⟨a, hy, hal⟩ => ⟨p, a, [x], l.map V.int, rfl, hy, st_of (e3 _ _ lp), st_of hal, by simp, sz_of (by simp; omega), fun hn => ?_, fun hn l' hl' => ?_⟩
    · have : l = [] := by simpa using hn
      subst this
      exact q _ H3 ((e2.trans ex).trans e3) ⟨p, rfl, by rw [e3 _ _ lp, show x = .int i from hx]; rfl⟩
    · exact q _ _ (((e2.trans ex).trans e3).trans (Ex.new hl')) ⟨l', rfl, by rw [upd_same, show x = .int i from hx]; rfl⟩⟩
end
theorem evp_ofL {te : TE} {σ : L2.St} {H : Hp} (h : EvL te σ H []) : EvP te σ H (TLs []) := fun H1 e Q q => h H1 e Q fun p H2 _ e2 hp => q _ H2 e2 ⟨p, [], rfl, hp, rfl, fun i y hy => by simp at hy⟩
theorem et_yes {σ : L2.St} {H : Hp} : EvT tYes σ H true := fun H1 e Q q => q H1 (Ex.refl _)
theorem paired_tls {ls : List (List Int)} {c : Int} {v : V} {H : Hp} (h : ∃ p ys, v = .ref p ∧ H p = some (.lst ys) ∧ Paired (fun y i => Tu (c :: (ls.getD i [])) y H) ys ((List.range ls.length).filter fun _ => true)) : TLs (ls.map fun r => c :: r) v H := by
  obtain ⟨p, ys, h1, h2, h3⟩ := h
  have e : (List.range ls.length).filter (fun _ => true) = List.range ls.length := List.filter_eq_self.mpr fun _ _ => rfl
  rw [e] at h3
  refine ⟨p, ys, h1, h2, by rw [Paired.len h3]; simp, fun i y hy => ?_⟩
  obtain ⟨j, g1, g2⟩ := Paired.at h3 hy
  rw [List.getElem?_range] at g1
  · cases g1
    rw [List.getD_eq_getElem?_getD, List.getElem?_map]
    have hi : i < ls.length := by
      have := (List.getElem?_eq_some_iff.mp hy).1
      rw [Paired.len h3] at this
      simpa using this
    rw [List.getD_eq_getElem?_getD, List.getElem?_eq_getElem hi] at g2
    rw [List.getElem?_eq_getElem hi]
    exact g2
  · have := (List.getElem?_eq_some_iff.mp hy).1
    rw [Paired.len h3] at this
    simpa using this
theorem splits_mem : ∀ (m t : Nat) (l : List Int), l ∈ splitsL m t → l.length = m
  | 0, t, l, h => by simp [splitsL] at h; subst h; rfl
  | m + 1, t, l, h => by
    simp only [splitsL, List.mem_flatMap, List.mem_map] at h
    obtain ⟨f, _, r, hr, rfl⟩ := h
    simp [splits_mem m _ r hr]
theorem mem_len (m t j : Nat) : ((splitsL m t).getD j []).length ≤ m := by
  rw [List.getD_eq_getElem?_getD]
  cases h : (splitsL m t)[j]? with
  | none => exact Nat.zero_le _
  | some l => exact Nat.le_of_eq (splits_mem m t l (List.mem_of_getElem? h))
section
variable {P : Program} {w : World} {K : PySem.W.Frag} {mg : Str → Option Value} {base : Heap} {tk : Tok} {k : Nat}
def spS (n : Nat) : Sp := fun vs H Q _ => ∃ t m : Nat, vs = [.int (t : Int), .int (m : Int)] ∧ m < n ∧ m < 4 ∧ t < 7 ∧ ∀ v H2, Evl.Ex H H2 → TLs (splitsL m t) v H2 → Q v H2
theorem ok_splits {f : Addr} {fd : FuncData} (T : Txt mg tk) (D : Df K mg "_law_splits" s_law_splits ["_law_total", "_law_many"] f fd) : ∀ n : Nat, FnOk P w K mg base CX0 (k + n + 1) f fd ["_law_total", "_law_many"] (spS n)
  | 0 => D.F.ok sc_law_splits (fun vs H Q E ⟨_, _, _, h, _⟩ => absurd h (Nat.not_lt_zero _)) (fun cdv A outer s H vs Q E hr ⟨_, _, _, h, _⟩ => absurd h (Nat.not_lt_zero _))
  | n + 1 => by
    have G__law_splits := ok_splits T D n
    refine D.F.ok sc_law_splits (fun vs H Q E h => ?_) (fun cdv A outer s H vs Q E hr h => ?_)
    · obtain ⟨t, m, rfl, _⟩ := h
      rfl
    · obtain ⟨t, m, rfl, hmn, hm4, ht, q⟩ := h
      have nd := sc_law_splits.nd
      have D__law_splits := D
      refine ⟨_, (pss_cons (ps_if (pt_cmpR op_eq (pv 1) pe_int (nomark _)) (pss_one (ps_ret (pe_lst (pa_cons (pe_tup pa_nil) pa_nil)))) pss_nil) (pss_cons (ps_set (i := 2) nd rfl (Or.inl rfl) (pe_lst pa_nil)) (pss_cons (ps_for PassesOwn.never rfl (pi_range1 (by rfl) T.n_range (pa_cons (pe_op op_add (pv 0) pe_int) pa_nil)) (pg_name (i := 3) nd rfl (Or.inr rfl)) (pss_one (ps_set (i := 2) nd rfl (Or.inl rfl) (pe_op (r := rCat) op_cat (pv 2) (pe_lc (wi := iList K _) (g := gName 4) (own := [("_law_rest", 4)]) (by rfl) nd (pi_list (pe_call G__law_splits (hr.mono (by omega)) (by rfl) D__law_splits.g D__law_splits.F.kp D__law_splits.b .nil pass0 (pa_cons (pe_op op_sub (pv 0) (pv 3)) (pa_cons (pe_op op_sub (pv 1) pe_int) pa_nil)))) (blkOk_by (by kernel_rfl)) (fun _ _ _ _ _ => (pg_name (i := 4) nd rfl (Or.inl rfl))) (fun _ _ _ _ _ => pts_nil) (fun _ _ _ _ _ => (pe_op (r := rCatT K) op_catT (pe_tup (pa_cons (pv 3) pa_nil)) (pv 4)))))))) (pss_one (ps_ret (pv 2)))))), ?_⟩
      have v0 : ∀ {σ' : L2.St} {H' : Hp}, σ'[0]? = some (some (.int (t : Int))) → EvP (tVar 0) σ' H' (Is (.int (t : Int))) := fun h => evp_var h rfl mono_is
      have v1 : ∀ {σ' : L2.St} {H' : Hp}, σ'[1]? = some (some (.int (m : Int))) → EvP (tVar 1) σ' H' (Is (.int (m : Int))) := fun h => evp_var h rfl mono_is
      refine q_when (b := decide (m = 0)) (et_tst (evp_is (evp_eq (v1 rfl) (evp_c (v := .int 0)) rfl) (by simp))) (fun hb H1 e1 => ?_) fun hb H1 e1 => ?_
      · have hm0 : m = 0 := of_decide_eq_true hb
        subst hm0
        refine ⟨by show 0 ≤ sizeLine; decide, fun p hp => ⟨by show 1 ≤ sizeLine; decide, fun l hl => q _ _ (e1.trans ((Ex.new hp).trans (Ex.new hl))) ⟨l, [.ref p], rfl, upd_same, rfl, fun i y hy => ?_⟩⟩⟩
        match i, hy with
        | 0, hy => cases hy; exact ⟨p, rfl, Ex.new hl _ _ upd_same⟩
        | i + 1, hy => simp at hy
      · have hm0 : m ≠ 0 := of_decide_eq_false hb
        obtain ⟨m', rfl⟩ : ∃ m', m = m' + 1 := ⟨m - 1, by omega⟩
        refine q_asgP (evp_ofL (el_lst ea_nil (by decide))) fun v2 H2 e2 h2 => ?_
        refine q_forR1 (n := (t : Int) + 1) (ea_cons (evp_I0 (g := fun i j => .int (i + j)) (v0 rfl) (evp_c (v := .int 1))).ev ea_nil) (by omega) (fun i σ' H' => ∃ p s3, σ' = [some (.int (t : Int)), some (.int ((m' + 1 : Nat) : Int)), some p, s3, none] ∧ Evl.Ex H H' ∧ TLs (preL m' t i) p H')
          (fun H3 e3 => ⟨v2, none, rfl, (e1.trans e2).trans e3, mono_tls _ _ _ e3 h2⟩) (fun i σ' H' hi ⟨p, s3, hs, ex, hp⟩ => ?_) (fun σ' H' ⟨p, s3, hs, ex, hp⟩ => ?_)
        · subst hs
          have hlen := pre_len (m := m') (t := t) (i := i) (by omega) ht (by omega)
          have hlen2 := pre_len (m := m') (t := t - i) (i := 0) (by omega) (by omega) (by omega)
          have hcall : EvP (tCall (spS n) [] E0 (tCons (tOp (rI0 fun i j => .int (i - j)) (tVar 0) (tVar 3)) (tCons (tOp (rI0 fun i j => .int (i - j)) (tVar 1) (tC (.int 1))) tNil))) [some (.int (t : Int)), some (.int ((m' + 1 : Nat) : Int)), some p, some (.int (i : Int)), none] H' (TLs (splitsL m' (t - i))) :=
            evp_call (E := E0) (eap_two (P := Is (.int ((t - i : Nat) : Int))) (R := Is (.int (m' : Int))) (evp_is (evp_I0 (g := fun i j => .int (i - j)) (v0 rfl) (evp_var (i := 3) (v := .int (i : Int)) rfl rfl mono_is)) (by rw [show ((t - i : Nat) : Int) = (t : Int) - (i : Int) by omega])) (evp_is (evp_I0 (g := fun i j => .int (i - j)) (v1 rfl) (evp_c (v := .int 1))) (by rw [show (m' : Int) = ((m' + 1 : Nat) : Int) - 1 by omega])) mono_is) fun vs H3 ⟨a, b, hv, ha, hb⟩ Q q E => ⟨t - i, m', by rw [hv, show a = _ from ha, show b = _ from hb], by omega, by omega, by omega, fun v H4 e4 h4 => q v H4 e4 h4⟩
          have hlc := evp_lcF (te := tOp (rCatT K) (tTup (tCons (tVar 3) tNil)) (tVar 4)) (tt := tYes) (vs := [4]) (g := gName 4) (f := fun _ => true) (n := (splitsL m' (t - i)).length) (Pi := fun j => Tu ((i : Int) :: ((splitsL m' (t - i)).getD j []))) (wx_lst (K := K) hcall fun _ => mf_tu.mono) (by omega)
            (Sg := fun j σ2 H2 => ∃ y, σ2 = [some (.int (t : Int)), some (.int ((m' + 1 : Nat) : Int)), some p, some (.int (i : Int)), some y] ∧ Tu ((splitsL m' (t - i)).getD j []) y H2) (fun j y H3 hj e3 hy => g_name (i := 4) ⟨rfl, y, rfl, hy⟩) (fun j σ2 H3 hj e3 _ => et_yes)
            (fun j σ2 H3 hj e3 ⟨y, hs, hy⟩ => by subst hs; exact evp_catT (K := K) (evp_var (i := 3) rfl rfl mono_is) (evp_var (i := 4) (v := y) rfl hy mf_tu.mono) (by have := mem_len m' (t - i) j; omega)) fun _ => mf_tu
          refine evp_cat (evp_var (i := 2) (v := p) rfl hp mono_tls) (hlc.imp fun v H3 _ h => paired_tls h) (by rw [List.length_map]; omega) H' (Ex.refl _) _ fun v H3 e3 hv => ⟨v, some (.int (i : Int)), rfl, ex.trans e3, by rw [pre_succ]; exact hv⟩
        · subst hs
          refine ⟨p, rfl, q p H' ex ?_⟩
          have : ((t : Int) + 1).toNat = t + 1 := by omega
          rw [this] at hp
          exact hp
end
end K20
namespace K20
open PySem PySem.Spec PyProof.Rows L2 Evl RZ Ev2 TA5
def maxL : List Int → Int
  | [] => 0
  | [a] => a
  | a :: b :: r => if maxL (b :: r) > a then maxL (b :: r) else a
theorem maxL_mem : ∀ l : List Int, l ≠ [] → maxL l ∈ l ∧ ∀ y ∈ l, y ≤ maxL l
  | [], h => absurd rfl h
  | [a], _ => by simp [maxL]
  | a :: b :: r, _ => by
    have ih := maxL_mem (b :: r) (by simp)
    have e : maxL (a :: b :: r) = if maxL (b :: r) > a then maxL (b :: r) else a := rfl
    rw [e]
    by_cases h : maxL (b :: r) > a
    · rw [if_pos h]
      refine ⟨List.mem_cons_of_mem _ ih.1, fun y hy => ?_⟩
      rcases List.mem_cons.mp hy with rfl | hy
      · omega
      · exact ih.2 y hy
    · rw [if_neg h]
      refine ⟨List.mem_cons_self .., fun y hy => ?_⟩
      rcases List.mem_cons.mp hy with rfl | hy
      · omega
      · have := ih.2 y hy; omega
theorem max_is {l : List Int} {m : Int} (h1 : m ∈ l) (h2 : ∀ y, y ∈ l → y ≤ m) : m = maxL l := by
  have hn : l ≠ [] := fun e => by rw [e] at h1; cases h1
  have := maxL_mem l hn
  have a := this.2 m h1
  have b := h2 _ this.1
  omega
def cntL (l : List Int) : Nat := (l.filter fun x => decide (x > 0)).length
theorem filter_range (p : Int → Bool) : ∀ l : List Int, ((List.range l.length).filter fun i => p (l.getD i 0)).length = (l.filter p).length
  | [] => rfl
  | x :: l => by
    have ih := filter_range p l
    rw [List.length_cons, List.range_succ_eq_map, List.filter_cons, List.filter_map, List.filter_cons]
    have e : ((fun i => p ((x :: l).getD i 0)) ∘ Nat.succ) = fun i => p (l.getD i 0) := by funext i; rfl
    rw [e]
    have e0 : p ((x :: l).getD 0 0) = p x := rfl
    rw [e0]
    cases p x
    · rw [if_neg (by decide), if_neg (by decide), List.length_map]; exact ih
    · rw [if_pos rfl, if_pos rfl, List.length_cons, List.length_cons, List.length_map, ih]
def T3 (a b c : Int) : HP := fun v H => ∃ p, v = .ref p ∧ H p = some (.tup [.int a, .int b, .int c])
def topB (mx : Int) : Option Int → Bool
  | none => true
  | some m => decide (mx ≤ m)
def holdsB (n r0 r1 d0 d1 : Int) (m : Option Int) (hs : List Int) : Bool :=
  !(!decide ((hs.length : Int) = n) || (!(decide (r0 ≤ hs.sum) && decide (hs.sum ≤ r1)) || !(decide (d0 ≤ (cntL hs : Int)) && decide ((cntL hs : Int) ≤ d1)))) && topB (maxL hs) m
/-- (size, rows, different, most) -/
def Told4 (n r0 r1 d0 d1 : Int) (m : Option Int) : HP := fun v H => ∃ p y z, v = .ref p ∧ H p = some (.tup [.int n, y, z, OI m]) ∧ Pr r0 r1 y H ∧ Pr d0 d1 z H
theorem mono_told {n r0 r1 d0 d1 : Int} {m : Option Int} : Mono (Told4 n r0 r1 d0 d1 m) := fun _ _ _ e ⟨p, y, z, h1, h2, h3, h4⟩ => ⟨p, y, z, h1, e _ _ h2, mono_pr _ _ _ e h3, mono_pr _ _ _ e h4⟩
section
variable {K : PySem.W.Frag} {σ : L2.St} {H : Hp} {ta tb te tl : TE}
theorem tu_tup {l : List Int} {v : V} (h : Tu l v H) : TupP l.length (fun i => Is (.int (l.getD i 0))) v H := by
  obtain ⟨a, h1, h2⟩ := h
  refine ⟨a, _, h1, h2, by simp, fun i y hy => ?_⟩
  rw [List.getElem?_map] at hy
  rw [List.getD_eq_getElem?_getD]
  cases e : l[i]? with
  | none => rw [e] at hy; cases hy
  | some c => rw [e] at hy; cases hy; rfl
theorem evp_sumT {l : List Int} (h : EvP te σ H (Tu l)) : EvP (tCB (rSumT K) (tCons te tNil)) σ H (Is (.int l.sum)) := fun H1 e Q q => h H1 e _ fun v H2 e2 ⟨a, h1, h2⟩ => ⟨a, l, by rw [h1], st_of h2, q _ H2 e2 rfl⟩
theorem evp_maxT {l : List Int} (h : EvP te σ H (Tu l)) (hl : l ≠ []) : EvP (tCB (rMaxT K) (tCons te tNil)) σ H (Is (.int (maxL l))) := fun H1 e Q q => h H1 e _ fun v H2 e2 ⟨a, h1, h2⟩ =>
  ⟨a, l, by rw [h1], st_of h2, List.length_pos_iff.mpr hl, fun m hm hle => q _ H2 e2 (by rw [max_is hm hle]; rfl)⟩
theorem q_asgG {te : TE} {g : TG} {tz : TS} {D : Ends} (h : te σ H (fun v H1 => g v σ H1 fun σ2 H2 => tz D σ2 H2)) : tSeq (tAsg te g) tz D σ H := h
end
section
variable {P : Program} {w : World} {K : PySem.W.Frag} {mg : Str → Option Value} {base : Heap} {tk : Tok} {k : Nat}
def spTold : Sp := fun vs H Q _ => ∃ (x : V) (hs : List Int), vs = [x] ∧ Tu hs x H ∧ hs ≠ [] ∧ hs.length ≤ 100 ∧ ∀ v H2, Evl.Ex H H2 → T3 hs.sum (cntL hs) (maxL hs) v H2 → Q v H2
theorem ok_told {f : Addr} {fd : FuncData} (T : Txt mg tk) (D : Df K mg "_law_told" s_law_told ["_law_heights"] f fd) : FnOk P w K mg base CX0 (k + 1) f fd ["_law_heights"] spTold := by
  refine D.F.ok sc_law_told (fun vs H Q E h => ?_) (fun cdv A outer s H vs Q E hr h => ?_)
  · obtain ⟨x, hs, rfl, _⟩ := h
    rfl
  · obtain ⟨x, hs, rfl, hx, hne, hl, q⟩ := h
    have nd := sc_law_told.nd
    refine ⟨_, (pss_one (ps_ret (pe_tup (pa_cons (pe_callB (r := rSumT K) (cr_sumT rfl) (by rfl) T.n_sum PyProof.Rows.boot_sum (pa_cons (pv 0) pa_nil)) (pa_cons (pe_callB (r := rLenQ K) call_len_seq (by rfl) T.n_len PySem.boot_len (pa_cons (pe_lc (wi := iTup K _) (g := gName 1) (own := [("_law_height", 1)]) (by rfl) nd (pi_tup (pv 0)) (blkOk_by (by kernel_rfl)) (fun _ _ _ _ _ => (pg_name (i := 1) nd rfl (Or.inl rfl))) (fun _ _ _ _ _ => (pts_one (pt_cmpR op_gt (pv 1) pe_int (nomark _)))) (fun _ _ _ _ _ => (pv 1))) pa_nil)) (pa_cons (pe_callB (r := rMaxT K) (cr_maxT rfl) (by rfl) T.n_max PyProof.Rows.boot_max (pa_cons (pv 0) pa_nil)) pa_nil)))))), ?_⟩
    have v0 : ∀ {H' : Hp}, Evl.Ex H H' → EvP (tVar 0) (start N_law_told [x]) H' (Tu hs) := fun e => evp_var rfl (mf_tu.mono _ _ _ e hx) mf_tu.mono
    have hcnt : EvP (tCB (rLenQ K) (tCons (tLc (iTup K (tVar 0)) (gName 1) (tTest (tOp (rI0 fun i j => .bl (decide (i > j))) (tVar 1) (tC (.int 0)))) (tVar 1) [1]) tNil)) (start N_law_told [x]) H (Is (.int (cntL hs : Int))) :=
      evp_lenL (K := K) ((evp_lcF (vs := [1]) (g := gName 1) (f := fun i => decide (hs.getD i 0 > 0)) (n := hs.length) (Pi := fun i => Is (.int (hs.getD i 0))) (wx_tup (K := K) ((v0 (Ex.refl H)).imp fun v H1 _ h => tu_tup h) fun _ => mono_is) (by omega)
        (Sg := fun i σ2 _ => σ2 = [some x, some (.int (hs.getD i 0))]) (fun i y H1 hi e1 hy => by rw [show y = _ from hy]; exact g_name (i := 1) ⟨rfl, rfl⟩) (fun i σ2 H1 hi e1 hs2 => by subst hs2; exact et_tst (evp_I0 (g := fun i j => .bl (decide (i > j))) (evp_var (i := 1) rfl rfl mono_is) (evp_c (v := .int 0))))
        (fun i σ2 H1 hi e1 hs2 => by subst hs2; exact evp_var (i := 1) rfl rfl mono_is) fun _ => mf_is).imp fun v H1 _ ⟨p, ys, h1, h2, h3⟩ => ⟨p, ys, h1, h2, by rw [Paired.len h3]; exact filter_range (fun x => decide (x > 0)) hs⟩)
    exact eu_tup (ea_cons (evp_sumT (K := K) (v0 (Ex.refl H))).ev (ea_cons hcnt.ev (ea_cons (evp_maxT (K := K) (v0 (Ex.refl H)) hne).ev ea_nil))) (show 3 ≤ 100000 by decide) H (Ex.refl _) _ fun p H2 _ e2 hp => q _ H2 e2 ⟨p, rfl, hp⟩
def spHolds : Sp := fun vs H Q _ => ∃ (x y : V) (n r0 r1 d0 d1 : Int) (m : Option Int) (hs : List Int), vs = [x, y] ∧ Told4 n r0 r1 d0 d1 m x H ∧ Tu hs y H ∧ hs ≠ [] ∧ hs.length ≤ 100 ∧ ∀ v H2, Evl.Ex H H2 → v = .bl (holdsB n r0 r1 d0 d1 m hs) → Q v H2
theorem ok_holds {f f1 : Addr} {fd fd1 : FuncData} (T : Txt mg tk) (D__law_told : Df K mg "_law_told" s_law_told ["_law_heights"] f1 fd1) (G__law_told : FnOk P w K mg base CX0 (k + 1) f1 fd1 ["_law_heights"] spTold)
    (D : Df K mg "_law_holds" s_law_holds ["_law_told_here", "_law_heights"] f fd) : FnOk P w K mg base CX0 (k + 2) f fd ["_law_told_here", "_law_heights"] spHolds := by
  refine D.F.ok sc_law_holds (fun vs H Q E h => ?_) (fun cdv A outer s H vs Q E hr h => ?_)
  · obtain ⟨x, y, n, r0, r1, d0, d1, m, hs, rfl, _⟩ := h
    rfl
  · obtain ⟨x, y, n, r0, r1, d0, d1, m, hs, rfl, ⟨p, yr, yd, rfl, hp, hyr, hyd⟩, hy, hne, hl, q⟩ := h
    have nd := sc_law_holds.nd
    refine ⟨_, (pss_cons (ps_asg (pv 0) (pg_tup rfl (pgs_cons (pg_name (i := 2) nd rfl (Or.inl rfl)) (pgs_cons (pg_name (i := 3) nd rfl (Or.inl rfl)) (pgs_cons (pg_name (i := 4) nd rfl (Or.inl rfl)) (pgs_cons (pg_name (i := 5) nd rfl (Or.inl rfl)) pgs_nil)))))) (pss_cons (ps_asg (pe_call G__law_told (hr.mono (by omega)) (by rfl) D__law_told.g D__law_told.F.kp D__law_told.b .nil pass0 (pa_cons (pv 1) pa_nil)) (pg_tup rfl (pgs_cons (pg_name (i := 6) nd rfl (Or.inl rfl)) (pgs_cons (pg_name (i := 7) nd rfl (Or.inl rfl)) (pgs_cons (pg_name (i := 8) nd rfl (Or.inl rfl)) pgs_nil))))) (pss_cons (ps_if (PW.pt (pw_or (pt_cmpR op_ne (pe_callB (r := rLenQ K) call_len_seq (by rfl) T.n_len PySem.boot_len (pa_cons (pv 1) pa_nil)) (pv 2) (nomark _)) (pw_or (pt_not (pt_chain op_le op_le (pe_ix (r := rIxT K) ix_tup (pv 3) pe_int (fun _ _ => rfl)) (pv 6) (pe_ix (r := rIxT K) ix_tup (pv 3) pe_int (fun _ _ => rfl)))) (pw_or1 (pt_not (pt_chain op_le op_le (pe_ix (r := rIxT K) ix_tup (pv 4) pe_int (fun _ _ => rfl)) (pv 7) (pe_ix (r := rIxT K) ix_tup (pv 4) pe_int (fun _ _ => rfl)))))))) (pss_one (ps_ret pe_bl)) pss_nil) (pss_one (ps_ret (pe_or (pe_cmpR (r := rNon) op_isN (pv 5) pe_non (nomark _)) (pe_one (pe_cmpR op_le (pv 8) (pv 5) (nomark _))))))))), ?_⟩
    refine q_asgG ⟨_, rfl, p, _, rfl, st_of hp, rfl, _, _, rfl, _, _, rfl, _, _, rfl, _, _, rfl, rfl, ?_⟩
    refine q_asgG (evp_call (E := E0) (sp := spTold) (S := T3 hs.sum (cntL hs) (maxL hs)) (eap_one (P := Tu hs) (evp_var (i := 1) (v := y) rfl hy mf_tu.mono)) (fun vs H1 ⟨z, hv, hz⟩ Q q E => ⟨z, hs, hv, hz, hne, hl, fun v H2 e2 h2 => q v H2 e2 h2⟩) H (Ex.refl _) _ fun v H1 e1 ⟨p3, hv3, hp3⟩ => ⟨p3, _, hv3, st_of hp3, rfl, _, _, rfl, _, _, rfl, _, _, rfl, rfl, ?_⟩)
    have v3 : ∀ {H' : Hp}, Evl.Ex H H' → EvP (tVar 3) [some (.ref p), some y, some (.int n), some yr, some yd, some (OI m), some (.int hs.sum), some (.int (cntL hs : Int)), some (.int (maxL hs))] H' (Pr r0 r1) := fun e => evp_var (i := 3) (v := yr) rfl (mono_pr _ _ _ e hyr) mono_pr
    have v4 : ∀ {H' : Hp}, Evl.Ex H H' → EvP (tVar 4) [some (.ref p), some y, some (.int n), some yr, some yd, some (OI m), some (.int hs.sum), some (.int (cntL hs : Int)), some (.int (maxL hs))] H' (Pr d0 d1) := fun e => evp_var (i := 4) (v := yd) rfl (mono_pr _ _ _ e hyd) mono_pr
    refine q_when (b := !decide ((hs.length : Int) = n) || (!(decide (r0 ≤ hs.sum) && decide (hs.sum ≤ r1)) || !(decide (d0 ≤ (cntL hs : Int)) && decide ((cntL hs : Int) ≤ d1)))) (et_or (et_tst (evp_is (evp_ne (evp_len (K := K) ((evp_var (i := 1) (v := y) rfl (mf_tu.mono _ _ _ e1 hy) mf_tu.mono).imp fun v H1 _ h => tu_tup h)) (evp_var (i := 2) (v := .int n) rfl rfl mono_is) rfl) (by simp))) fun _ => et_or (et_not (et_tst (evp_chain (g := fun i j => .bl (decide (i ≤ j))) (g' := fun i j => .bl (decide (i ≤ j))) (evp_pr0 (K := K) (v3 e1)) (evp_var (i := 6) (v := .int hs.sum) rfl rfl mono_is) (evp_pr1 (K := K) (v3 e1)) rfl rfl))) fun _ => et_not (et_tst (evp_chain (g := fun i j => .bl (decide (i ≤ j))) (g' := fun i j => .bl (decide (i ≤ j))) (evp_pr0 (K := K) (v4 e1)) (evp_var (i := 7) (v := .int (cntL hs : Int)) rfl rfl mono_is) (evp_pr1 (K := K) (v4 e1)) rfl rfl)))
      (fun hb H2 e2 => s_ret ev_c fun H3 e3 => q _ H3 ((e1.trans e2).trans e3) (by unfold holdsB; rw [hb]; rfl)) fun hb H2 e2 => ?_
    refine s_ret (EvP.ev (v := .bl (topB (maxL hs) m)) ?_) fun H3 e3 => q _ H3 ((e1.trans e2).trans e3) (by unfold holdsB; rw [hb]; rfl)
    have v5 : EvP (tVar 5) [some (.ref p), some y, some (.int n), some yr, some yd, some (OI m), some (.int hs.sum), some (.int (cntL hs : Int)), some (.int (maxL hs))] H2 (Is (OI m)) := evp_var (i := 5) rfl rfl mono_is
    cases m with
    | none => exact evp_is (evp_or (a := true) (b := true) (evp_is (evp_non v5) rfl) fun z => nomatch z) rfl
    | some m => exact evp_is (evp_or (a := false) (evp_is (evp_non v5) rfl) fun _ => evp_I0 (g := fun i j => .bl (decide (i ≤ j))) (evp_var (i := 8) rfl rfl mono_is) v5) (by rw [Bool.false_or]; rfl)
/-! draws -/
theorem drawI {σ : L2.St} {H : Hp} {s p : Addr} {xs : List Int} {E : XK} {i : Nat} {ta : TE} {M : Int} (hs : σ[i]? = some (some (.ref s))) (ha : ∀ H1, EvP ta σ H1 (Is (.int M))) (hm : 1 ≤ M) : EvD s p xs (tCall spDraw [] E (tCons (tVar i) (tCons ta tNil))) σ H (BI fun r => 0 ≤ r ∧ r < M) := fun H1 e d Q q =>
  eap_two (P := Is (.ref s)) (evp_var hs rfl mono_is) (ha H1) mono_is H1 (Ex.refl _) _ fun vs H2 e2 ⟨x, y, hv, hx, hy⟩ => ⟨s, p, xs, M, by rw [hv, show x = .ref s from hx, show y = .int M from hy]; rfl, d.ex e2, hm, fun v H3 g3 d3 h3 => q v H3 ((Gs.of e2).trans g3) d3 h3⟩
theorem q_asgD {σ : L2.St} {H : Hp} {te : TE} {tz : TS} {D : Ends} {i : Nat} (h : te σ H (fun v H1 => tz D (σ.set i (some v)) H1)) : tSeq (tAsg te (gName i)) tz D σ H := h
theorem opD {σ : L2.St} {H : Hp} {ta tb : TE} {r : R2} {Q : VK} (h : ta σ H fun x H1 => tb σ H1 fun y H2 => r x y H2 Q) : tOp r ta tb σ H Q := h
theorem retD {σ : L2.St} {H : Hp} {te : TE} {D : Ends} (h : te σ H D.rt) : tRet te D σ H := h
theorem tup2 {σ : L2.St} {H : Hp} {t1 t2 : TE} {Q : VK} (h : t1 σ H fun x H1 => t2 σ H1 fun y H2 => 2 ≤ sizeLine ∧ ∀ p, H2 p = none → Q (.ref p) (upd H2 p (.tup [x, y]))) : tTup (tCons t1 (tCons t2 tNil)) σ H Q := h
def Lim : HP := fun v H => ∃ a b : Nat, Pr (a : Int) (a + b : Nat) v H ∧ a < 5 ∧ b < 3
theorem mf_lim : MonoF Lim := fun _ _ _ e ⟨a, b, ⟨p, h1, h2⟩, h3⟩ => ⟨a, b, ⟨p, h1, e _ _ h2 (fun _ z => nomatch z)⟩, h3⟩
def spLimits : Sp := fun vs H Q _ => ∃ (s p : Addr) (xs : List Int), vs = [.ref s] ∧ Dr s p xs H ∧ ∀ v H2, Gs s H H2 → Dr s p xs H2 → Lim v H2 → Q v H2
theorem ok_lim {f f1 : Addr} {fd fd1 : FuncData} (D__law_draw : Df K mg "_law_draw" s_law_draw ["_law_state", "_law_many"] f1 fd1) (G__law_draw : FnOk P w K mg base CX0 (k + 1) f1 fd1 ["_law_state", "_law_many"] spDraw) (T : Txt mg tk)
    (D : Df K mg "_law_limits" s_law_limits ["_law_state"] f fd) : FnOk P w K mg base CX0 (k + 2) f fd ["_law_state"] spLimits := by
  refine D.F.ok sc_law_limits (fun vs H Q E h => ?_) (fun cdv A outer s H vs Q E hr h => ?_)
  · obtain ⟨s, p, xs, rfl, _⟩ := h
    rfl
  · obtain ⟨s, p, xs, rfl, d, q⟩ := h
    have nd := sc_law_limits.nd
    refine ⟨_, (pss_cons (ps_set (i := 1) nd rfl (Or.inl rfl) (pe_call G__law_draw (hr.mono (by omega)) (by rfl) D__law_draw.g D__law_draw.F.kp D__law_draw.b .nil pass0 (pa_cons (pv 0) (pa_cons pe_int pa_nil)))) (pss_one (ps_ret (pe_tup (pa_cons (pv 1) (pa_cons (pe_op op_add (pv 1) (pe_call G__law_draw (hr.mono (by omega)) (by rfl) D__law_draw.g D__law_draw.F.kp D__law_draw.b .nil pass0 (pa_cons (pv 0) (pa_cons pe_int pa_nil)))) pa_nil)))))), ?_⟩
    refine q_asgD (drawI (i := 0) rfl (fun _ => evp_c) (by decide) H (Gs.refl _ _) d _ fun v1 H1 g1 d1 ⟨a, hv1, ha⟩ => ?_)
    subst hv1
    refine retD (tup2 ⟨_, rfl, opD ⟨_, rfl, drawI (i := 0) rfl (fun _ => evp_c) (by decide) H1 (Gs.refl _ _) d1 _ fun v2 H2 g2 d2 ⟨b, hv2, hb⟩ => ⟨a, b, rfl, hv2, by show 2 ≤ sizeLine; decide, fun pt hpt => ?_⟩⟩⟩)
    refine q _ _ ((g1.trans g2).trans (Gs.of (Ex.new hpt))) (d2.ex (Ex.new hpt)) ⟨a.toNat, b.toNat, ⟨pt, rfl, ?_⟩, by omega, by omega⟩
    rw [upd_same, show ((a.toNat : Nat) : Int) = a by omega, show ((a.toNat + b.toNat : Nat) : Int) = a + b by omega]
end
end K20
namespace K20
open PySem PySem.Spec PyProof.Rows L2 Evl RZ Ev2 TA5
def mosts : List (Option Int) := [none, some 1, some 2, some 3]
def mainB : Bool := (List.range 3).all fun n => (List.range 5).all fun a => (List.range 3).all fun b => (List.range 5).all fun a' => (List.range 3).all fun b' => mosts.all fun m =>
  ((splitsL (n + 1) (a + b)).filter (holdsB ((n + 1 : Nat) : Int) (a : Int) ((a + b : Nat) : Int) (a' : Int) ((a' + b' : Nat) : Int) m)).isEmpty == decide ((posL ((n + 1 : Nat) : Int) (a : Int) ((a + b : Nat) : Int) (a' : Int) ((a' + b' : Nat) : Int) m).length = 0)
theorem main_ok : mainB = true := by decide +kernel
theorem lay_all : ∀ {ds : List PyData}, (∀ d ∈ ds, d.canLay0 = true) → PyData.canLayAll0 ds = true
  | [], _ => rfl
  | d :: ds, h => by
    show (d.canLay0 && PyData.canLayAll0 ds) = true
    rw [h d (List.mem_cons_self ..), lay_all fun e he => h e (List.mem_cons_of_mem _ he)]; rfl
theorem lay_of : ∀ {ds : List PyData}, PyData.canLayAll0 ds = true → ∀ d ∈ ds, d.canLay0 = true
  | [], _, _, h => nomatch h
  | e :: ds, h, d, hd => by
    have h' : (e.canLay0 && PyData.canLayAll0 ds) = true := h
    rw [Bool.and_eq_true] at h'
    rcases List.mem_cons.mp hd with rfl | hd
    · exact h'.1
    · exact lay_of h'.2 d hd
theorem depth_all {n : Nat} : ∀ {ds : List PyData}, (∀ d ∈ ds, d.depth ≤ n) → PyData.depthAll ds ≤ n
  | [], _ => Nat.zero_le _
  | d :: ds, h => by
    show max d.depth (PyData.depthAll ds) ≤ n
    exact Nat.max_le.mpr ⟨h d (List.mem_cons_self ..), depth_all fun e he => h e (List.mem_cons_of_mem _ he)⟩
theorem depth_of {n : Nat} : ∀ {ds : List PyData}, PyData.depthAll ds ≤ n → ∀ d ∈ ds, d.depth ≤ n
  | [], _, _, h => nomatch h
  | e :: ds, h, d, hd => by
    have h' : max e.depth (PyData.depthAll ds) ≤ n := h
    rcases List.mem_cons.mp hd with rfl | hd
    · omega
    · exact depth_of (by omega) d hd
theorem sh_of {d : PyData} (h1 : d.canLay0 = true) (h2 : d.depth ≤ 64) : SeqAt.shaped d = true := by
  unfold SeqAt.shaped
  rw [h1, decide_eq_true h2]; rfl
theorem ints_lay (is : List Int) : PyData.canLayAll0 (is.map PyData.int) = true := lay_all fun d hd => by obtain ⟨i, _, rfl⟩ := List.mem_map.mp hd; rfl
theorem ints_depth (is : List Int) : PyData.depthAll (is.map PyData.int) ≤ 0 := depth_all fun d hd => by obtain ⟨i, _, rfl⟩ := List.mem_map.mp hd; exact Nat.le_refl _
section
variable {K : PySem.W.Frag} {σ : L2.St} {H : Hp} {ta tb te : TE} {P R : HP}
theorem fl_dp {v : V} {d : PyData} (h : fl v d) : Dp K H v d := by
  cases v <;> first | exact h.elim | (cases h; constructor)
theorem fls_dp : ∀ {xs : List V} {ds : List PyData}, Paired fl xs ds → DpAll K H xs ds
  | _, _, .nil => .nil
  | _, _, .cons h t => .cons (fl_dp h) (fls_dp t)
theorem it_dp {v : V} {d : PyData} (h : It H v d) : Dp K H v d := by
  cases h with
  | flat h => exact fl_dp h
  | tup h p => exact .tup (st_of h) (fls_dp p)
  | lst h p => exact .lst (sq_of h) (fls_dp p)
theorem its_dp : ∀ {xs : List V} {ds : List PyData}, Paired (It H) xs ds → DpAll K H xs ds
  | _, _, .nil => .nil
  | _, _, .cons h t => .cons (it_dp h) (its_dp t)
theorem evp_eqD {d e : PyData} (ha : EvP ta σ H P) (hb : EvP tb σ H R) (m : Mono P) (hp : ∀ v H1, P v H1 → Dp K H1 v d) (hr : ∀ v H1, R v H1 → Dp K H1 v e) (s1 : SeqAt.shaped d = true) (s2 : SeqAt.shaped e = true) : EvP (tOp (rEqD K) ta tb) σ H (Is (.bl (PyData.eqv d e))) :=
  evp_op ha hb m fun x y H1 _ px py Q q => ⟨d, e, hp _ _ px, hr _ _ py, s1, s2, q _ H1 (Ex.refl _) rfl⟩
theorem evp_neD {d e : PyData} (ha : EvP ta σ H P) (hb : EvP tb σ H R) (m : Mono P) (hp : ∀ v H1, P v H1 → Dp K H1 v d) (hr : ∀ v H1, R v H1 → Dp K H1 v e) (s1 : SeqAt.shaped d = true) (s2 : SeqAt.shaped e = true) : EvP (tOp (rNeD K) ta tb) σ H (Is (.bl (!PyData.eqv d e))) :=
  evp_op ha hb m fun x y H1 _ px py Q q => ⟨d, e, hp _ _ px, hr _ _ py, s1, s2, q _ H1 (Ex.refl _) rfl⟩

theorem eqvAll_nil {ds : List PyData} : PyData.eqvAll ds [] = ds.isEmpty := by cases ds <;> rfl
theorem mono_ls {xs : List V} : Mono (Ls xs) := fun _ _ _ e ⟨p, h1, h2⟩ => ⟨p, h1, e _ _ h2⟩
end
theorem filter_rangeL {α : Type} (d : α) (p : α → Bool) : ∀ l : List α, ((List.range l.length).filter fun i => p (l.getD i d)).length = (l.filter p).length
  | [] => rfl
  | x :: l => by
    have ih := filter_rangeL d p l
    rw [List.length_cons, List.range_succ_eq_map, List.filter_cons, List.filter_map, List.filter_cons]
    have e : ((fun i => p ((x :: l).getD i d)) ∘ Nat.succ) = fun i => p (l.getD i d) := by funext i; rfl
    rw [e]
    have e0 : p ((x :: l).getD 0 d) = p x := rfl
    rw [e0]
    cases p x
    · rw [if_neg (by decide), if_neg (by decide), List.length_map]; exact ih
    · rw [if_pos rfl, if_pos rfl, List.length_cons, List.length_cons, List.length_map, ih]
/-! lists of things -/
def LIt (ds : List PyData) : HP := fun v H => ∃ p ys, v = .ref p ∧ H p = some (.lst ys) ∧ Paired (It H) ys ds
def tuD (l : List Int) : PyData := .tuple (l.map PyData.int)
section
variable {K : PySem.W.Frag} {σ : L2.St} {H : Hp} {ta tb te tl : TE} {tas : TA} {P : HP}
def EvI (ta : TA) (σ : L2.St) (H : Hp) (ds : List PyData) : Prop := EvAP ta σ H (fun vs H1 => Paired (It H1) vs ds)
theorem ei_nil : EvI tNil σ H [] := fun H1 e Q q => q [] H1 (Ex.refl _) .nil
theorem ei_cons {d : PyData} {ds : List PyData} (h : EvP te σ H (fun v H => It H v d)) (h2 : EvI tas σ H ds) : EvI (tCons te tas) σ H (d :: ds) := fun H1 e Q q =>
  h H1 e _ fun v H2 e2 hv => h2 H2 (e.trans e2) _ fun vs H3 e3 hp => q (v :: vs) H3 (e2.trans e3) (.cons (hv.mono (Kx.of e3)) hp)
theorem evp_lit {ds : List PyData} (h : EvI tas σ H ds) (hl : ds.length ≤ 100000) : EvP (tLst tas) σ H (LIt ds) := fun H1 e Q q =>
  h H1 e _ fun vs H2 e2 hp => ⟨sz_of (by rw [Paired.len hp]; exact hl), fun l hl => q _ _ (e2.trans (Ex.new hl)) ⟨l, vs, rfl, upd_same, its_mono (Kx.of (Ex.new hl)) hp⟩⟩
theorem it_c {v : V} {d : PyData} (h : fl v d) : EvP (tC v) σ H (fun v H => It H v d) := fun H1 e Q q => q v H1 (Ex.refl _) (.flat h)
theorem it_neg : EvP (tUn (rU fun i => .int (-i)) (tC (.int 1))) σ H (fun v H => It H v (.int (-1))) := fun H1 e Q q => (ev_un ev_c ru_neg : Ev (tUn (rU fun i => .int (-i)) (tC (.int 1))) σ H (.int (-1))) H1 e Q fun H2 e2 => q _ H2 e2 (.flat rfl)
theorem it_t {vs : List V} {ds : List PyData} (h : EvA tas σ H vs) (p : Paired fl vs ds) (hl : vs.length ≤ 100000) : EvP (tTup tas) σ H (fun v H => It H v (.tuple ds)) := fun H1 e Q q => eu_tup h hl H1 e Q fun a H2 _ e2 ha => q _ H2 e2 (.tup ha p)
theorem it_l {vs : List V} {ds : List PyData} (h : EvA tas σ H vs) (p : Paired fl vs ds) (hl : vs.length ≤ 100000) : EvP (tLst tas) σ H (fun v H => It H v (.list ds)) := fun H1 e Q q => el_lst h hl H1 e Q fun a H2 _ e2 ha => q _ H2 e2 (.lst ha p)
theorem it_one {i : Int} : EvP (tTup (tCons (tC (.int i)) tNil)) σ H (fun v H => It H v (.tuple [.int i])) := it_t (vs := [.int i]) (ea_cons ev_c ea_nil) (.cons rfl .nil) (show 1 ≤ 100000 by decide)
theorem it_two {x y : V} {d e : PyData} (h1 : fl x d) (h2 : fl y e) : EvP (tTup (tCons (tC x) (tCons (tC y) tNil))) σ H (fun v H => It H v (.tuple [d, e])) := it_t (vs := [x, y]) (ea_cons ev_c (ea_cons ev_c ea_nil)) (.cons h1 (.cons h2 .nil)) (show 2 ≤ 100000 by decide)
theorem evp_ofL' {xs : List V} (h : EvL te σ H xs) : EvP te σ H (Ls xs) := fun H1 e Q q => h H1 e Q fun p H2 _ e2 hp => q _ H2 e2 ⟨p, rfl, hp⟩
theorem evp_msg {m : Str} {x : V} {i : Nat} (h : σ[i]? = some (some x)) : EvP (tLst (tCons (tC (.str m)) (tCons (tVar i) tNil))) σ H (Ls [.str m, x]) := evp_ofL' (el_lst (ea_cons ev_c (ea_cons (ev_var h) ea_nil)) (show 2 ≤ 100000 by decide))
/-- ["..", x], twice -/
theorem e_same {m : Str} {x : V} {d : PyData} (hx : It H x d) (hs : SeqAt.shaped (.list [.str m, d]) = true) (ha : EvP ta σ H (Ls [.str m, x])) (hb : EvP tb σ H (Ls [.str m, x])) : EvT (tTest (tOp (rNeD K) ta tb)) σ H false := by
  have hd : ∀ v H1, Ls [.str m, x] v H1 ∧ Evl.Ex H H1 → Dp K H1 v (.list [.str m, d]) := fun v H1 ⟨⟨p, h1, h2⟩, e⟩ => by
    subst h1; exact .lst (sq_of h2) (.cons (.str m) (.cons (it_dp (hx.mono (Kx.of e))) .nil))
  have go : ∀ {te : TE}, EvP te σ H (Ls [.str m, x]) → EvP te σ H (fun v H1 => Ls [.str m, x] v H1 ∧ Evl.Ex H H1) := fun h H1 e Q q => h H1 e Q fun v H2 e2 hv => q v H2 e2 ⟨hv, e.trans e2⟩
  exact et_tst (evp_is (evp_neD (K := K) (d := .list [.str m, d]) (e := .list [.str m, d]) (go ha) (go hb) (fun v H1 H2 e ⟨h1, h2⟩ => ⟨mono_ls _ _ _ e h1, h2.trans e⟩) hd hd hs hs) (by rw [SeqAt.eqv_refl _ (SeqAt.canLay_of_shaped hs)]; rfl))
/-- a for over a list that is written; nothing is changed within -/
theorem s_forI {ds : List PyData} {g : TG} {tu : TS} {D : Ends} (h : EvP tl σ H (LIt ds)) (S : L2.St → Prop) (h0 : S σ)
    (hs : ∀ (i : Nat) (v : V) (d : PyData) (σ' : L2.St) (H' : Hp) (D' : Ends), ds[i]? = some d → S σ' → Evl.Ex H H' → It H' v d → (∀ σ2 H2, Evl.Ex H' H2 → S σ2 → D'.nx σ2 H2) → g v σ' H' fun σ2 H2 => tu D' σ2 H2) (hd : ∀ σ' H', S σ' → Evl.Ex H H' → D.nx σ' H') : tFor (iList K tl) g tu D σ H :=
  h H (Ex.refl H) _ fun v H1 e1 ⟨p, ys, hv, hp, hP⟩ => ⟨p, hv, ⟨ys, sq_of hp⟩, for_list (xs := ys) (fun _ σ' H' => S σ' ∧ Evl.Ex H1 H') ⟨h0, Ex.refl _⟩ (fun i σ' H' _ ⟨_, e⟩ => sq_of (e _ _ hp))
    (fun i x σ' H' hx ⟨hS, e⟩ => by
      obtain ⟨d, g1, g2⟩ := Paired.at hP hx
      exact hs i x d σ' H' _ g1 hS (e1.trans e) (g2.mono (Kx.of e)) fun σ2 H2 e2 hS2 => ⟨hS2, e.trans e2⟩) (fun σ' H' ⟨hS, e⟩ => hd σ' H' hS (e1.trans e))⟩
theorem q_forI {ds : List PyData} {g : TG} {tu tz : TS} {D : Ends} (h : EvP tl σ H (LIt ds)) (S : L2.St → Prop) (h0 : S σ)
    (hs : ∀ (i : Nat) (v : V) (d : PyData) (σ' : L2.St) (H' : Hp) (D' : Ends), ds[i]? = some d → S σ' → Evl.Ex H H' → It H' v d → (∀ σ2 H2, Evl.Ex H' H2 → S σ2 → D'.nx σ2 H2) → g v σ' H' fun σ2 H2 => tu D' σ2 H2) (hd : ∀ σ' H', S σ' → Evl.Ex H H' → tz D σ' H') : tSeq (tFor (iList K tl) g tu) tz D σ H :=
  s_forI (D := { D with nx := tz D }) h S h0 hs hd
/-- the tables found -/
def Found (ls : List (List Int)) (idx : List Nat) : HP := fun v H => ∃ p ys, v = .ref p ∧ H p = some (.lst ys) ∧ Paired (fun y i => Tu (ls.getD i []) y H) ys idx
theorem mono_found {ls : List (List Int)} {idx : List Nat} : Mono (Found ls idx) := fun _ _ _ e ⟨p, ys, h1, h2, h3⟩ => ⟨p, ys, h1, e _ _ h2, Paired.impl (fun _ _ h => mf_tu.mono _ _ _ e h) h3⟩
theorem fls_ints : ∀ l : List Int, Paired fl (l.map V.int) (l.map PyData.int)
  | [] => .nil
  | i :: l => .cons rfl (fls_ints l)
theorem found_dp {ls : List (List Int)} {idx : List Nat} {v : V} (h : Found ls idx v H) : Dp K H v (.list (idx.map fun i => tuD (ls.getD i []))) := by
  obtain ⟨p, ys, rfl, h2, h3⟩ := h
  refine .lst (sq_of h2) ?_
  have go : ∀ {ys : List V} {idx : List Nat}, Paired (fun y i => Tu (ls.getD i []) y H) ys idx → DpAll K H ys (idx.map fun i => tuD (ls.getD i [])) := fun {ys idx} h => by
    induction h with
    | nil => exact .nil
    | cons h t ih =>
      obtain ⟨a, rfl, ha⟩ := h
      exact .cons (it_dp (.tup ha (fls_ints _))) ih
  exact go h3
theorem found_sh (ls : List (List Int)) (idx : List Nat) : SeqAt.shaped (.list (idx.map fun i => tuD (ls.getD i []))) = true := by
  refine sh_of (lay_all fun d hd => ?_) ?_
  · obtain ⟨i, _, rfl⟩ := List.mem_map.mp hd
    exact ints_lay _
  · show PyData.depthAll _ + 1 ≤ 64
    have : PyData.depthAll (idx.map fun i => tuD (ls.getD i [])) ≤ 10 := depth_all fun d hd => by
      obtain ⟨i, _, rfl⟩ := List.mem_map.mp hd
      show PyData.depthAll _ + 1 ≤ 10
      have := ints_depth (ls.getD i []); omega
    omega
theorem et_found {ls : List (List Int)} {idx : List Nat} (h : EvP te σ H (Found ls idx)) : EvT (tTest (tOp (rNeD K) te (tLst tNil))) σ H (!decide (idx.length = 0)) :=
  et_tst (evp_is (evp_neD (K := K) (P := Found ls idx) (R := Ls []) (d := .list (idx.map fun i => tuD (ls.getD i []))) (e := .list []) h (evp_ofL' (el_lst ea_nil (by decide))) mono_found (fun _ _ h => found_dp h) (fun v H1 ⟨p, h1, h2⟩ => by subst h1; exact .lst (sq_of h2) .nil) (found_sh _ _) rfl) (by
    show V.bl (!PyData.eqvAll _ []) = _
    rw [eqvAll_nil]
    cases idx <;> rfl))
end
end K20
set_option maxHeartbeats 8100000
namespace K20
open PySem PySem.Spec PyProof.Rows L2 Evl RZ Ev2 TA5
abbrev s_law : Stmt := topS 29
abbrev N_law : List Str := ["_law_script", "_law_k", "_law_cell", "_law_state", "_law_turn", "_law_most", "_law_told_here", "_law_some", "_law_due", "_law_odd", "_law_size", "_law_rows", "_law_different", "_law_one"]
theorem sc_law : FnScope N_law ["_law_script"] (defScope s_law) := ⟨rfl, rfl, rfl, by decide +kernel, rfl, by decide +kernel, by decide +kernel⟩

def spLaw (K : PySem.W.Frag) : Sp := fun vs H Q _ => ∃ (a0 : Addr) (ns : List Int), vs = [.ref a0] ∧ SqL K H a0 (ns.map V.int) ∧ ns.length ≤ 63 ∧ ∀ H', Q (.bl true) H'
theorem dpAll_ints {K : PySem.W.Frag} {H : Hp} : ∀ ns : List Int, DpAll K H (ns.map V.int) (ns.map PyData.int)
  | [] => .nil
  | n :: ns => .cons (.int n) (dpAll_ints ns)
theorem shaped_ints (is : List Int) : SeqAt.shaped (.list (is.map PyData.int)) = true := sh_of (ints_lay is) (by show PyData.depthAll _ + 1 ≤ 64; have := ints_depth is; omega)
theorem for_enum {K : PySem.W.Frag} {a : Addr} {xs : List V} {g : TG} {tb : TS} {D : Ends} {σ : L2.St} {H : Hp} (Pv : Nat → L2.St → Hp → Prop) (h0 : Pv 0 σ H) (hl : ∀ i σ H, Pv i σ H → SqL K H a xs)
    (hs : ∀ (i : Nat) (x : V) (T : Addr) (σ : L2.St) (H : Hp), xs[i]? = some x → Pv i σ H → H T = none → g (.ref T) σ (upd H T (.tup [.int (i : Nat), x])) fun σ2 H2 => tb { D with nx := Pv (i + 1), ct := Pv (i + 1), bk := D.nx } σ2 H2) (hd : ∀ σ H, Pv xs.length σ H → D.nx σ H) :
    ∃ W : Nat → Nat → L2.St → Hp → Prop, (∃ m, W 0 m σ H) ∧ ∀ i m σ H, W i m σ H → ((Ite K a).stop i H ∧ D.nx σ H) ∨ ((Ite K a).go i H ∧ ∃ N : L2.St → Hp → Prop, (∀ σ' H', N σ' H' → ∃ m', m' < m ∧ W (i + 1) m' σ' H') ∧ ∀ v H', (Ite K a).yld i H v H' → g v σ H' fun σ2 H2 => tb { D with nx := N, ct := N, bk := D.nx } σ2 H2) := by
  refine ⟨fun i m σ H => m = xs.length - i ∧ i ≤ xs.length ∧ Pv i σ H, ⟨xs.length, rfl, Nat.zero_le _, h0⟩, ?_⟩
  rintro i m σ H ⟨rfl, hi, pv⟩
  have ql := hl i σ H pv
  by_cases hlt : i < xs.length
  · refine .inr ⟨⟨xs, xs[i], ql, List.getElem?_eq_getElem hlt⟩, Pv (i + 1), fun σ' H' p' => ⟨xs.length - (i + 1), by omega, rfl, hlt, p'⟩, fun v H' y => ?_⟩
    obtain ⟨T, x, rfl, hT, rfl, f1⟩ := y
    exact hs i x T σ H (f1 xs ql) pv hT
  · have e : i = xs.length := by omega
    subst e
    exact .inl ⟨⟨xs, ql, Nat.le_refl _⟩, hd σ H pv⟩

def dsA : List PyData := [.int 0, .int 65, .int (-1), .bool true, .none, .str "1", .tuple [.int 1]]
def dsB : List PyData := [.none, .tuple [.int 1], .tuple [.int 2, .int 1], .list [.int 0, .int 1], .tuple [.int 0, .bool true], .tuple [.int (-1), .int 0], .int 3, .tuple [.int 0, .none], .tuple [.int 0, .int 1, .int 2]]
def dsC : List PyData := [.int 0, .int (-1), .bool true, .str "1", .tuple [.int 1]]
theorem badA : dsA.all (fun d => !szB d && SeqAt.shaped (.list [.str "number", d])) = true := by decide +kernel
theorem badB : dsB.all (fun d => !limB d && SeqAt.shaped (.list [.str "none", d])) = true := by decide +kernel
theorem badC : dsC.all (fun d => !mostB d && SeqAt.shaped (.list [.str "none", d])) = true := by decide +kernel
theorem bad_at {f : PyData → Bool} {m : Str} {ds : List PyData} {i : Nat} {d : PyData} (h : ds.all (fun d => !f d && SeqAt.shaped (.list [.str m, d])) = true) (hd : ds[i]? = some d) : f d = false ∧ SeqAt.shaped (.list [.str m, d]) = true := by
  have := List.all_eq_true.mp h d (List.mem_of_getElem? hd)
  simpa using this
/-- what is due -/
def ResD (b : Bool) (x y z w : V) : HP := fun v H => (b = true → Ls [.str "spread", y, z, w] v H) ∧ (b = false → PartL x y z w v H)
theorem mono_res {b : Bool} {x y z w : V} : Mono (ResD b x y z w) := fun _ _ _ e ⟨h1, h2⟩ => ⟨fun h => mono_ls _ _ _ e (h1 h), fun h => by obtain ⟨p, t, g1, g2, g3⟩ := h2 h; exact ⟨p, t, g1, e _ _ g2, e _ _ g3⟩⟩
def dR (b : Bool) (d1 d2 d3 d4 : PyData) : PyData := if b then .list [.str "spread", d2, d3, d4] else .list [.str "part", .tuple [d1, d2, d3, d4]]
def mD : Option Int → PyData
  | none => .none
  | some i => .int i
theorem fl_oi (m : Option Int) : fl (OI m) (mD m) := by cases m <;> rfl
def prD (a b : Int) : PyData := .tuple [.int a, .int b]
theorem it_pr {a b : Int} {v : V} {H : Hp} (h : Pr a b v H) : It H v (prD a b) := by
  obtain ⟨p, rfl, h2⟩ := h
  exact .tup h2 (.cons rfl (.cons rfl .nil))
theorem mo_d (m : Option Int) : mo (mD m) = m := by cases m <;> rfl
theorem s_part : (PyData.str "part").canLay0 = true := by decide +kernel
theorem s_spread : (PyData.str "spread").canLay0 = true := by decide +kernel
theorem lay_int (i : Int) : (PyData.int i).canLay0 = true := rfl
theorem lay_none : PyData.none.canLay0 = true := rfl
theorem lay_pr (i j : Int) : (prD i j).canLay0 = true := rfl
theorem lay_md (m : Option Int) : (mD m).canLay0 = true := by cases m <;> rfl
theorem lay4 {a b c d : PyData} (h1 : a.canLay0 = true) (h2 : b.canLay0 = true) (h3 : c.canLay0 = true) (h4 : d.canLay0 = true) : PyData.canLayAll0 [a, b, c, d] = true := by
  show (a.canLay0 && (b.canLay0 && (c.canLay0 && (d.canLay0 && true)))) = true
  rw [h1, h2, h3, h4]; rfl
theorem dR_sh {b : Bool} {n r0 r1 d0 d1 : Int} {m : Option Int} : SeqAt.shaped (dR b (.int n) (prD r0 r1) (prD d0 d1) (mD m)) = true := by
  refine sh_of ?_ ?_
  · cases b with
    | true => exact lay4 s_spread (lay_pr _ _) (lay_pr _ _) (lay_md m)
    | false =>
      show ((PyData.str "part").canLay0 && ((PyData.tuple [.int n, prD r0 r1, prD d0 d1, mD m]).canLay0 && true)) = true
      rw [s_part, show (PyData.tuple [.int n, prD r0 r1, prD d0 d1, mD m]).canLay0 = true from lay4 (lay_int n) (lay_pr _ _) (lay_pr _ _) (lay_md m)]; rfl
  · cases b <;> cases m <;> simp [dR, prD, mD, PyData.depth, PyData.depthAll]
section
variable {K : PySem.W.Frag} {σ : L2.St} {H : Hp} {ta tb te tl : TE} {E : XK}
theorem res_dp {b : Bool} {n r0 r1 d0 d1 : Int} {m : Option Int} {y z v : V} (hy : Pr r0 r1 y H) (hz : Pr d0 d1 z H) (h : ResD b (.int n) y z (OI m) v H) : Dp K H v (dR b (.int n) (prD r0 r1) (prD d0 d1) (mD m)) := by
  cases b with
  | true =>
    obtain ⟨p, rfl, hp⟩ := h.1 rfl
    exact .lst (sq_of hp) (.cons (.str _) (.cons (it_dp (it_pr hy)) (.cons (it_dp (it_pr hz)) (.cons (fl_dp (fl_oi m)) .nil))))
  | false =>
    obtain ⟨p, t, rfl, hp, ht⟩ := h.2 rfl
    exact .lst (sq_of hp) (.cons (.str _) (.cons (.tup (st_of ht) (.cons (.int n) (.cons (it_dp (it_pr hy)) (.cons (it_dp (it_pr hz)) (.cons (fl_dp (fl_oi m)) .nil))))) .nil))
theorem e_res {b : Bool} {n r0 r1 d0 d1 : Int} {m : Option Int} {y z : V} (hy : Pr r0 r1 y H) (hz : Pr d0 d1 z H) (ha : EvP ta σ H (ResD b (.int n) y z (OI m))) (hb : EvP tb σ H (ResD b (.int n) y z (OI m))) : EvT (tTest (tOp (rNeD K) ta tb)) σ H false := by
  have go : ∀ {te : TE}, EvP te σ H (ResD b (.int n) y z (OI m)) → EvP te σ H (fun v H1 => ResD b (.int n) y z (OI m) v H1 ∧ Evl.Ex H H1) := fun h H1 e Q q => h H1 e Q fun v H2 e2 hv => q v H2 e2 ⟨hv, e.trans e2⟩
  have dd : ∀ v H1, ResD b (.int n) y z (OI m) v H1 ∧ Evl.Ex H H1 → Dp K H1 v (dR b (.int n) (prD r0 r1) (prD d0 d1) (mD m)) := fun v H1 ⟨h, e⟩ => res_dp (mono_pr _ _ _ e hy) (mono_pr _ _ _ e hz) h
  exact et_tst (evp_is (evp_neD (K := K) (go ha) (go hb) (fun v H1 H2 e ⟨h1, h2⟩ => ⟨mono_res _ _ _ e h1, h2.trans e⟩) dd dd dR_sh dR_sh) (by rw [SeqAt.eqv_refl _ (SeqAt.canLay_of_shaped dR_sh)]; rfl))
/-- a call of heard -/
theorem heard4 {x y z w : V} {S : HP} {tx ty tz tw : TE} (h1 : EvP tx σ H (Is x)) (h2 : EvP ty σ H (Is y)) (h3 : EvP tz σ H (Is z)) (h4 : EvP tw σ H (Is w)) (hs : ∀ H1, Evl.Ex H H1 → ∀ Q, (∀ v H2, Evl.Ex H1 H2 → S v H2 → Q v H2) → ∀ E, spHeard [x, y, z, w] H1 Q E) : EvP (tCall spHeard [] E (tCons tx (tCons ty (tCons tz (tCons tw tNil))))) σ H S := fun H1 e Q q =>
  ea_cons h1.ev (ea_cons h2.ev (ea_cons h3.ev (ea_cons h4.ev ea_nil))) H1 e _ fun H2 e2 => hs H2 (e.trans e2) Q (fun v H3 e3 h => q v H3 (e2.trans e3) h) E
theorem no {p q : Bool} {A : Prop} (h : p = false) : p = true → A := fun h' => by rw [h] at h'; cases h'
theorem heard_size {x : V} {d : PyData} (hx : It H x d) (hb : szB d = false) (h1 : EvP ta σ H (Is x)) : EvP (tCall spHeard [] E (tCons ta (tCons (tC .non) (tCons (tC .non) (tCons (tC (.int 0)) tNil))))) σ H (Ls [.str "number", x]) :=
  heard4 h1 evp_c evp_c evp_c fun H1 e Q q E => ⟨x, .non, .non, .int 0, d, .none, .none, .int 0, rfl, hx.mono (Kx.of e), .flat rfl, .flat rfl, .flat rfl, fun _ v H2 e2 hv => q v H2 e2 hv, no (q := true) hb, no (q := true) hb, no (q := true) hb, no (q := true) hb⟩
theorem sz_n {n : Nat} (h1 : 1 ≤ n) (h2 : n ≤ 3) : szB (.int (n : Int)) = true := by
  show (decide (1 ≤ (n : Int)) && decide ((n : Int) ≤ 64)) = true
  rw [decide_eq_true (by omega), decide_eq_true (by omega)]; rfl
theorem lim_n {a b : Nat} : limB (prD (a : Int) (a + b : Nat)) = true := by
  show (decide ((a : Int) ≥ 0) && (decide (((a + b : Nat) : Int) ≥ 0) && decide ((a : Int) ≤ ((a + b : Nat) : Int)))) = true
  rw [decide_eq_true (by omega), decide_eq_true (by omega), decide_eq_true (by omega)]; rfl
theorem heard_rows {n : Nat} {x : V} {d : PyData} (h1 : 1 ≤ n) (h2 : n ≤ 3) (hx : It H x d) (hb : limB d = false) (ha : EvP ta σ H (Is (.int (n : Int)))) (hb2 : EvP tb σ H (Is x)) : EvP (tCall spHeard [] E (tCons ta (tCons tb (tCons (tC .non) (tCons (tC (.int 0)) tNil))))) σ H (Ls [.str "none", x]) :=
  heard4 ha hb2 evp_c evp_c fun H1 e Q q E => ⟨.int n, x, .non, .int 0, .int n, d, .none, .int 0, rfl, .flat rfl, hx.mono (Kx.of e), .flat rfl, .flat rfl, fun z => (by rw [sz_n h1 h2] at z; cases z), fun _ _ v H2 e2 hv => q v H2 e2 hv, fun _ => no (q := true) hb, fun _ => no (q := true) hb, fun _ => no (q := true) hb⟩
theorem heard_diff {n a b : Nat} {x y : V} {d : PyData} (h1 : 1 ≤ n) (h2 : n ≤ 3) (hy : Pr (a : Int) (a + b : Nat) y H) (hx : It H x d) (hb : limB d = false) (ha : EvP ta σ H (Is (.int (n : Int)))) (hb1 : EvP tb σ H (Is y)) (hb2 : EvP te σ H (Is x)) : EvP (tCall spHeard [] E (tCons ta (tCons tb (tCons te (tCons (tC (.int 0)) tNil))))) σ H (Ls [.str "none", x]) :=
  heard4 ha hb1 hb2 evp_c fun H1 e Q q E => ⟨.int n, y, x, .int 0, .int n, prD (a : Int) (a + b : Nat), d, .int 0, rfl, .flat rfl, it_pr (mono_pr _ _ _ e hy), hx.mono (Kx.of e), .flat rfl, fun z => (by rw [sz_n h1 h2] at z; cases z), fun _ z => (by rw [lim_n] at z; cases z), fun _ _ _ v H2 e2 hv => q v H2 e2 hv, fun _ _ => no (q := true) hb, fun _ _ => no (q := true) hb⟩
theorem heard_most {n a b a' b' : Nat} {x y z : V} {d : PyData} (h1 : 1 ≤ n) (h2 : n ≤ 3) (hy : Pr (a : Int) (a + b : Nat) y H) (hz : Pr (a' : Int) (a' + b' : Nat) z H) (hx : It H x d) (hb : mostB d = false) (ha : EvP ta σ H (Is (.int (n : Int)))) (hb1 : EvP tb σ H (Is y)) (hb2 : EvP te σ H (Is z)) (hb3 : EvP tl σ H (Is x)) : EvP (tCall spHeard [] E (tCons ta (tCons tb (tCons te (tCons tl tNil))))) σ H (Ls [.str "none", x]) :=
  heard4 ha hb1 hb2 hb3 fun H1 e Q q E => ⟨.int n, y, z, x, .int n, prD (a : Int) (a + b : Nat), prD (a' : Int) (a' + b' : Nat), d, rfl, .flat rfl, it_pr (mono_pr _ _ _ e hy), it_pr (mono_pr _ _ _ e hz), hx.mono (Kx.of e), fun z => (by rw [sz_n h1 h2] at z; cases z), fun _ z => (by rw [lim_n] at z; cases z), fun _ _ z => (by rw [lim_n] at z; cases z), fun _ _ _ _ v H2 e2 hv => q v H2 e2 hv, fun _ _ _ => no (q := true) hb⟩
def neB (n a b a' b' : Nat) (m : Option Int) : Bool := !decide ((posL (n : Int) (a : Int) ((a + b : Nat) : Int) (a' : Int) ((a' + b' : Nat) : Int) m).length = 0)
theorem ne_yes {n a b a' b' : Nat} {m : Option Int} (hl : (posD (.int n) (prD (a : Int) (a + b : Nat)) (prD (a' : Int) (a' + b' : Nat)) (mD m)).length = 0) : neB n a b a' b' m = false := by
  have h : (posL (n : Int) (a : Int) ((a + b : Nat) : Int) (a' : Int) ((a' + b' : Nat) : Int) (mo (mD m))).length = 0 := hl
  rw [mo_d] at h
  unfold neB
  rw [decide_eq_true h]; rfl
theorem ne_no {n a b a' b' : Nat} {m : Option Int} (hl : (posD (.int n) (prD (a : Int) (a + b : Nat)) (prD (a' : Int) (a' + b' : Nat)) (mD m)).length ≠ 0) : neB n a b a' b' m = true := by
  have h : (posL (n : Int) (a : Int) ((a + b : Nat) : Int) (a' : Int) ((a' + b' : Nat) : Int) (mo (mD m))).length ≠ 0 := hl
  rw [mo_d] at h
  unfold neB
  rw [decide_eq_false h]; rfl
theorem heard_all {n a b a' b' : Nat} {m : Option Int} {y z : V} (h1 : 1 ≤ n) (h2 : n ≤ 3) (ha' : a' < 5) (hm : mostB (mD m) = true) (hy : Pr (a : Int) (a + b : Nat) y H) (hz : Pr (a' : Int) (a' + b' : Nat) z H) (ha : EvP ta σ H (Is (.int (n : Int)))) (hb1 : EvP tb σ H (Is y)) (hb2 : EvP te σ H (Is z)) (hb3 : EvP tl σ H (Is (OI m))) : EvP (tCall spHeard [] E (tCons ta (tCons tb (tCons te (tCons tl tNil))))) σ H (ResD (neB n a b a' b' m) (.int n) y z (OI m)) :=
  heard4 ha hb1 hb2 hb3 fun H1 e Q q E => ⟨.int n, y, z, OI m, .int n, prD (a : Int) (a + b : Nat), prD (a' : Int) (a' + b' : Nat), mD m, rfl, .flat rfl, it_pr (mono_pr _ _ _ e hy), it_pr (mono_pr _ _ _ e hz), .flat (fl_oi m), fun z => (by rw [sz_n h1 h2] at z; cases z), fun _ z => (by rw [lim_n] at z; cases z), fun _ _ z => (by rw [lim_n] at z; cases z), fun _ _ _ z => (by rw [hm] at z; cases z),
    fun _ _ _ _ => ⟨(by show (a' : Int) ≤ 1000; omega), fun hl v H2 e2 hv => q v H2 e2 ⟨fun z => (by rw [ne_yes hl] at z; cases z), fun _ => hv⟩, fun hl v H2 e2 hv => q v H2 e2 ⟨fun _ => hv, fun z => (by rw [ne_no hl] at z; cases z)⟩⟩⟩
end
end K20
namespace K20
open PySem PySem.Spec PyProof.Rows L2 Evl RZ Ev2 TA5

theorem q_par3 {σ : L2.St} {H : Hp} {t1 t2 t3 : TE} {i j l : Nat} {tz : TS} {D : Ends} (h : t1 σ H fun x H1 => t2 σ H1 fun y H2 => t3 σ H2 fun z H3 => ∃ u v w, [x, y, z] = [u, v, w] ∧ tz D (((σ.set i (some u)).set j (some v)).set l (some w)) H3) : tSeq (tPar3 i j l (tCons t1 (tCons t2 (tCons t3 tNil)))) tz D σ H := h
theorem main_at {n a b a' b' : Nat} {m : Option Int} (h1 : 1 ≤ n) (h2 : n ≤ 3) (ha : a < 5) (hb : b < 3) (ha' : a' < 5) (hb' : b' < 3) (hm : m ∈ mosts) :
    (!decide (((List.range (splitsL n (a + b)).length).filter fun i => holdsB (n : Int) (a : Int) ((a + b : Nat) : Int) (a' : Int) ((a' + b' : Nat) : Int) m ((splitsL n (a + b)).getD i [])).length = 0)) = neB n a b a' b' m := by
  obtain ⟨k, rfl⟩ : ∃ k, n = k + 1 := ⟨n - 1, by omega⟩
  have := List.all_eq_true.mp (List.all_eq_true.mp (List.all_eq_true.mp (List.all_eq_true.mp (List.all_eq_true.mp (List.all_eq_true.mp main_ok k (List.mem_range.mpr (by omega))) a (List.mem_range.mpr ha)) b (List.mem_range.mpr hb)) a' (List.mem_range.mpr ha')) b' (List.mem_range.mpr hb')) m hm
  rw [beq_iff_eq] at this
  rw [filter_rangeL]
  unfold neB
  rw [← this]
  congr 1
  generalize (splitsL (k + 1) (a + b)).filter _ = l
  cases l <;> rfl
section
variable {P : Program} {w : World} {K : PySem.W.Frag} {mg : Str → Option Value} {base : Heap} {tk : Tok} {k : Nat}
theorem ok_law {fa f1 f2 f3 f4 f5 f6 : Addr} {fd e1 e2 e3 e4 e5 e6 : FuncData} (T : Txt mg tk)
    (D__law_draw : Df K mg "_law_draw" s_law_draw ["_law_state", "_law_many"] f1 e1) (G__law_draw : FnOk P w K mg base CX0 (k + 1) f1 e1 ["_law_state", "_law_many"] spDraw)
    (D__law_pool : Df K mg "_law_pool" s_law_pool ["_law_cell", "_law_salt", "_law_many"] f2 e2) (G__law_pool : FnOk P w K mg base CX0 (k + 2) f2 e2 ["_law_cell", "_law_salt", "_law_many"] spPool)
    (D__law_limits : Df K mg "_law_limits" s_law_limits ["_law_state"] f3 e3) (G__law_limits : FnOk P w K mg base CX0 (k + 2) f3 e3 ["_law_state"] spLimits)
    (D__law_splits : Df K mg "_law_splits" s_law_splits ["_law_total", "_law_many"] f4 e4) (G__law_splits : FnOk P w K mg base CX0 (k + 5) f4 e4 ["_law_total", "_law_many"] (spS 4))
    (D__law_holds : Df K mg "_law_holds" s_law_holds ["_law_told_here", "_law_heights"] f5 e5) (G__law_holds : FnOk P w K mg base CX0 (k + 2) f5 e5 ["_law_told_here", "_law_heights"] spHolds)
    (D__law_heard : Df K mg "_law_heard" s_law_heard ["_law_size", "_law_rows", "_law_different", "_law_most"] f6 e6) (G__law_heard : FnOk P w K mg base CX0 (k + 8) f6 e6 ["_law_size", "_law_rows", "_law_different", "_law_most"] spHeard)
    (D : Df K mg "law" s_law ["_law_script"] fa fd) : FnOk P w K mg base CX0 (k + 9) fa fd ["_law_script"] (spLaw K) := by
  refine D.F.ok sc_law (fun vs H Q E hh => ?_) (fun cdv A outer s H vs Q E hr hh => ?_)
  · obtain ⟨a0, ns, rfl, _⟩ := hh
    rfl
  · obtain ⟨a0, ns, rfl, hS, hlen, q⟩ := hh
    have nd := sc_law.nd
    refine ⟨_, (pss_cons (ps_for PassesOwn.never rfl (pi_enum (by rfl) T.n_enumerate (pa_cons (pe_op op_cat (pe_slice (r := rSlL K) sl_list (pv 0) po_none (po_some pe_int)) (pe_op op_rep (pe_lst (pa_cons pe_int pa_nil)) (pe_callTy call_int1 (by rfl) T.n_int PyProof.Rows.boot_int (pa_cons (pe_cmpR (r := rEqD K) (op_eqD hr.units) (pv 0) (pe_lst pa_nil) (nomark _)) pa_nil)))) pa_nil)) (pg_tup rfl (pgs_cons (pg_name (i := 1) nd rfl (Or.inl rfl)) (pgs_cons (pg_name (i := 2) nd rfl (Or.inl rfl)) pgs_nil))) (pss_cons (ps_set (i := 3) nd rfl (Or.inl rfl) (pe_call G__law_pool (hr.mono (by omega)) (by rfl) D__law_pool.g D__law_pool.F.kp D__law_pool.b .nil pass0 (pa_cons (pv 2) (pa_cons (pe_op op_add pe_int (pv 1)) (pa_cons pe_int pa_nil))))) (pss_one (ps_for PassesOwn.never rfl (pi_range1 (by rfl) T.n_range (pa_cons pe_int pa_nil)) (pg_name (i := 4) nd rfl (Or.inl rfl)) (pss_cons (ps_par3 (i := 10) (j := 11) (l := 12) rfl nd rfl rfl rfl (by decide) (by decide) (by decide) rfl rfl rfl (pa_cons (pe_op op_add pe_int (pe_call G__law_draw (hr.mono (by omega)) (by rfl) D__law_draw.g D__law_draw.F.kp D__law_draw.b .nil pass0 (pa_cons (pv 3) (pa_cons pe_int pa_nil)))) (pa_cons (pe_call G__law_limits (hr.mono (by omega)) (by rfl) D__law_limits.g D__law_limits.F.kp D__law_limits.b .nil pass0 (pa_cons (pv 3) pa_nil)) (pa_cons (pe_call G__law_limits (hr.mono (by omega)) (by rfl) D__law_limits.g D__law_limits.F.kp D__law_limits.b .nil pass0 (pa_cons (pv 3) pa_nil)) pa_nil))) rfl) (pss_cons (ps_set (i := 5) nd rfl (Or.inl rfl) (pe_ix (r := rIxL K) ix_list (pe_lst (pa_cons pe_non (pa_cons pe_int (pa_cons pe_int (pa_cons pe_int pa_nil))))) (pe_call G__law_draw (hr.mono (by omega)) (by rfl) D__law_draw.g D__law_draw.F.kp D__law_draw.b .nil pass0 (pa_cons (pv 3) (pa_cons pe_int pa_nil))) (fun _ _ => rfl))) (pss_cons (ps_set (i := 6) nd rfl (Or.inr rfl) (pe_tup (pa_cons (pv 10) (pa_cons (pv 11) (pa_cons (pv 12) (pa_cons (pv 5) pa_nil)))))) (pss_cons (ps_setLc (i := 7) (wi := iList K _) (g := gName 13) (own := [("_law_one", 13)]) (by rfl) nd rfl rfl (by rfl) (pi_list (pe_call G__law_splits (hr.mono (by omega)) (by rfl) D__law_splits.g D__law_splits.F.kp D__law_splits.b .nil pass0 (pa_cons (pe_ix (r := rIxT K) ix_tup (pv 11) pe_int (fun _ _ => rfl)) (pa_cons (pv 10) pa_nil)))) (blkOk_by (by kernel_rfl)) (fun _ _ _ _ _ => (pg_name (i := 13) nd rfl (Or.inl rfl))) (fun _ _ _ _ _ => (pts_one (pt_val (pe_call G__law_holds (hr.mono (by omega)) (by rfl) D__law_holds.g D__law_holds.F.kp D__law_holds.b .nil pass0 (pa_cons (pv 6) (pa_cons (pv 13) pa_nil)))))) (fun _ _ _ _ _ => (pv 13))) (pss_cons (ps_set (i := 8) nd rfl (Or.inl rfl) (pe_ifExp (pt_cmpR (op_neD hr.units) (pv 7) (pe_lst pa_nil) (nomark _)) (pe_lst (pa_cons pe_str (pa_cons (pv 11) (pa_cons (pv 12) (pa_cons (pv 5) pa_nil))))) (pe_lst (pa_cons pe_str (pa_cons (pv 6) pa_nil))))) (pss_cons (ps_if (pt_cmpR (op_neD hr.units) (pe_call G__law_heard (hr.mono (by omega)) (by rfl) D__law_heard.g D__law_heard.F.kp D__law_heard.b .nil pass0 (pa_cons (pv 10) (pa_cons (pv 11) (pa_cons (pv 12) (pa_cons (pv 5) pa_nil))))) (pv 8) (nomark _)) (pss_one (ps_ret pe_bl)) pss_nil) (pss_cons (ps_for PassesOwn.never rfl (pi_list (pe_lst (pa_cons pe_int (pa_cons pe_int (pa_cons (pe_un un_neg pe_int) (pa_cons pe_bl (pa_cons pe_non (pa_cons pe_str (pa_cons (pe_tup (pa_cons pe_int pa_nil)) pa_nil))))))))) (pg_name (i := 9) nd rfl (Or.inl rfl)) (pss_one (ps_if (pt_cmpR (op_neD hr.units) (pe_call G__law_heard (hr.mono (by omega)) (by rfl) D__law_heard.g D__law_heard.F.kp D__law_heard.b .nil pass0 (pa_cons (pv 9) (pa_cons pe_non (pa_cons pe_non (pa_cons pe_int pa_nil))))) (pe_lst (pa_cons pe_str (pa_cons (pv 9) pa_nil))) (nomark _)) (pss_one (ps_ret pe_bl)) pss_nil))) (pss_cons (ps_for PassesOwn.never rfl (pi_list (pe_lst (pa_cons pe_non (pa_cons (pe_tup (pa_cons pe_int pa_nil)) (pa_cons (pe_tup (pa_cons pe_int (pa_cons pe_int pa_nil))) (pa_cons (pe_lst (pa_cons pe_int (pa_cons pe_int pa_nil))) (pa_cons (pe_tup (pa_cons pe_int (pa_cons pe_bl pa_nil))) (pa_cons (pe_tup (pa_cons (pe_un un_neg pe_int) (pa_cons pe_int pa_nil))) (pa_cons pe_int (pa_cons (pe_tup (pa_cons pe_int (pa_cons pe_non pa_nil))) (pa_cons (pe_tup (pa_cons pe_int (pa_cons pe_int (pa_cons pe_int pa_nil)))) pa_nil))))))))))) (pg_name (i := 9) nd rfl (Or.inl rfl)) (pss_one (ps_if (PW.pt (pw_or (pt_cmpR (op_neD hr.units) (pe_call G__law_heard (hr.mono (by omega)) (by rfl) D__law_heard.g D__law_heard.F.kp D__law_heard.b .nil pass0 (pa_cons (pv 10) (pa_cons (pv 9) (pa_cons pe_non (pa_cons pe_int pa_nil))))) (pe_lst (pa_cons pe_str (pa_cons (pv 9) pa_nil))) (nomark _)) (pw_or1 (pt_cmpR (op_neD hr.units) (pe_call G__law_heard (hr.mono (by omega)) (by rfl) D__law_heard.g D__law_heard.F.kp D__law_heard.b .nil pass0 (pa_cons (pv 10) (pa_cons (pv 11) (pa_cons (pv 9) (pa_cons pe_int pa_nil))))) (pe_lst (pa_cons pe_str (pa_cons (pv 9) pa_nil))) (nomark _))))) (pss_one (ps_ret pe_bl)) pss_nil))) (pss_one (ps_for PassesOwn.never rfl (pi_list (pe_lst (pa_cons pe_int (pa_cons (pe_un un_neg pe_int) (pa_cons pe_bl (pa_cons pe_str (pa_cons (pe_tup (pa_cons pe_int pa_nil)) pa_nil))))))) (pg_name (i := 9) nd rfl (Or.inl rfl)) (pss_one (ps_if (pt_cmpR (op_neD hr.units) (pe_call G__law_heard (hr.mono (by omega)) (by rfl) D__law_heard.g D__law_heard.F.kp D__law_heard.b .nil pass0 (pa_cons (pv 10) (pa_cons (pv 11) (pa_cons (pv 12) (pa_cons (pv 9) pa_nil))))) (pe_lst (pa_cons pe_str (pa_cons (pv 9) pa_nil))) (nomark _)) (pss_one (ps_ret pe_bl)) pss_nil)))))))))))))))) (pss_one (ps_ret pe_bl))), ?_⟩
    -- the list that is walked
    refine ⟨.ref a0, rfl, 8, rfl, a0, _, rfl, hS, fun p1 hp1 => ?_⟩
    have e1 : Evl.Ex H (upd H p1 (.lst (cutV (ns.map V.int) none (some 8)))) := Ex.new hp1
    have l1 : (upd H p1 (.lst (cutV (ns.map V.int) none (some 8)))) p1 = some (.lst (cutV (ns.map V.int) none (some 8))) := upd_same
    generalize upd H p1 (.lst (cutV (ns.map V.int) none (some 8))) = H1 at e1 l1
    refine ⟨by decide, fun p2 hp2 => ?_⟩
    have e2 : Evl.Ex H1 (upd H1 p2 (.lst [.int 7])) := Ex.new hp2
    have l2 : (upd H1 p2 (.lst [.int 7])) p2 = some (.lst [.int 7]) := upd_same
    generalize upd H1 p2 (.lst [.int 7]) = H2 at e2 l2
    refine ⟨.ref a0, rfl, by decide, fun p3 hp3 => ?_⟩
    have e3 : Evl.Ex H2 (upd H2 p3 (.lst [])) := Ex.new hp3
    have l3 : (upd H2 p3 (.lst [])) p3 = some (.lst []) := upd_same
    generalize upd H2 p3 (.lst []) = H3 at e3 l3
    refine ⟨.list (ns.map PyData.int), .list [], .lst (ex_l ((e1.trans e2).trans e3) hS) (dpAll_ints ns), .lst (sq_of l3) .nil, shaped_ints ns, rfl, ?_⟩
    generalize PyData.eqv (.list (ns.map PyData.int)) (.list []) = bb
    refine .inr ⟨bb, rfl, p2, _, [.int 7], rfl, rfl, e3 _ _ l2, by cases bb <;> decide, by cases bb <;> decide, by cases bb <;> decide, fun p4 hp4 => ?_⟩
    have l4 : (upd H3 p4 (.lst (List.replicate (Int.toNat (if bb = true then 1 else 0)) [V.int 7]).flatten)) p4 = some (.lst (List.replicate (Int.toNat (if bb = true then 1 else 0)) [V.int 7]).flatten) := upd_same
    have e4 : Evl.Ex H3 (upd H3 p4 (.lst (List.replicate (Int.toNat (if bb = true then 1 else 0)) [V.int 7]).flatten)) := Ex.new hp4
    have hz4 : ∀ x ∈ (List.replicate (Int.toNat (if bb = true then 1 else 0)) [V.int 7]).flatten, ∃ c : Int, x = .int c := fun x hx => by
      cases bb <;> simp at hx; exact ⟨7, hx⟩
    have hl4 : (List.replicate (Int.toNat (if bb = true then 1 else 0)) [V.int 7]).flatten.length ≤ 1 := by cases bb <;> decide
    generalize (List.replicate (Int.toNat (if bb = true then 1 else 0)) [V.int 7]).flatten = zs4 at l4 e4 hz4 hl4
    generalize upd H3 p4 (.lst zs4) = H4 at l4 e4
    have hz1 : ∀ x ∈ cutV (ns.map V.int) none (some 8), ∃ c : Int, x = .int c := fun x hx => by
      have := List.mem_of_mem_drop (List.mem_of_mem_take hx)
      obtain ⟨c, _, e⟩ := List.mem_map.mp this
      exact ⟨c, e.symm⟩
    have hl1 : (cutV (ns.map V.int) none (some 8)).length ≤ 63 := by
      unfold cutV
      simp only [List.length_take, List.length_drop, List.length_map]
      omega
    generalize cutV (ns.map V.int) none (some 8) = zs1 at hz1 hl1 l1
    refine ⟨p1, p4, zs1, zs4, rfl, rfl, ((e2.trans e3).trans e4) _ _ l1, l4, sz_of (by omega), fun p5 hp5 => ?_⟩
    have l5 : (upd H4 p5 (.lst (zs1 ++ zs4))) p5 = some (.lst (zs1 ++ zs4)) := upd_same
    have hz5 : ∀ x ∈ zs1 ++ zs4, ∃ c : Int, x = .int c := fun x hx => (List.mem_append.mp hx).elim (hz1 x) (hz4 x)
    have hl5 : (zs1 ++ zs4).length ≤ 64 := by rw [List.length_append]; omega
    generalize zs1 ++ zs4 = zs at l5 hz5 hl5
    generalize upd H4 p5 (.lst zs) = H5 at l5
    refine ⟨p5, zs, rfl, sq_of l5, ?_⟩
    refine for_enum (fun i σ H' => ∃ s1 s2 s3 s4 s5 s6 s7 s8 s9 s10 s11 s12, σ = [some (.ref a0), s1, s2, s3, s4, s5, s6, s7, s8, s9, s10, s11, s12, none] ∧ H' p5 = some (.lst zs)) ⟨_, _, _, _, _, _, _, _, _, _, _, _, rfl, l5⟩ (fun i σ H' ⟨_, _, _, _, _, _, _, _, _, _, _, _, _, hl⟩ => sq_of hl) (fun i x T σ H' hx ⟨s1, s2, s3, s4, s5, s6, s7, s8, s9, s10, s11, s12, hs, hl⟩ hT => ?_) (fun σ H' _ => q H')
    obtain ⟨c, rfl⟩ := hz5 x (List.mem_of_getElem? hx)
    subst hs
    have hi : i < 64 := by have := (List.getElem?_eq_some_iff.mp hx).1; omega
    have hTl : (upd H' T (.tup [.int (i : Int), .int c])) p5 = some (.lst zs) := Ex.new hT _ _ hl
    have hTT : (upd H' T (.tup [.int (i : Int), .int c])) T = some (.tup [.int (i : Int), .int c]) := upd_same
    generalize upd H' T (.tup [.int (i : Int), .int c]) = H6 at hTl hTT
    refine ⟨T, _, rfl, st_of hTT, rfl, _, _, rfl, _, _, rfl, rfl, ?_⟩
    -- the state
    refine ⟨_, rfl, _, rfl, 4100, (i : Int), rfl, rfl, c, 4100 + (i : Int), 200, rfl, ⟨by omega, by omega⟩, by decide, fun s H7 e7 hs0 ⟨p, xs, d7⟩ => ?_⟩
    have hps : p5 ≠ s := fun z => by rw [← z, hTl] at hs0; cases hs0
    refine s_forR1 (n := 6) (ea_cons ev_c ea_nil) (by decide) (fun j σ H' => ∃ s4 s5 s6 s7 s8 s9 s10 s11 s12, σ = [some (.ref a0), some (.int (i : Int)), some (.int c), some (.ref s), s4, s5, s6, s7, s8, s9, s10, s11, s12, none] ∧ Dr s p xs H' ∧ H' p5 = some (.lst zs))
      (fun H8 e8 => ⟨_, _, _, _, _, _, _, _, _, rfl, d7.ex e8, (e7.trans e8) _ _ hTl⟩) (fun j σ H' hj ⟨s4, s5, s6, s7, s8, s9, s10, s11, s12, hs, d, hl⟩ => ?_) (fun σ H' ⟨s4, s5, s6, s7, s8, s9, s10, s11, s12, hs, d, hl⟩ => ⟨_, _, _, _, _, _, _, _, _, _, _, _, hs, hl⟩)
    subst hs
    clear hT hTT hx e7 d7
    -- size, rows, different
    refine q_par3 (opD (drawI (i := 3) rfl (fun _ => evp_c) (by decide) H' (Gs.refl _ _) d _ fun v1 H8 g8 d8 ⟨r, hv1, hr⟩ => ⟨1, r, rfl, hv1, ⟨_, rfl, s, p, xs, rfl, d8, fun y H9 g9 d9 ⟨a, b, hy, ha, hb⟩ => ⟨_, rfl, s, p, xs, rfl, d9, fun z H10 g10 d10 ⟨a', b', hz, ha', hb'⟩ => ⟨_, _, _, rfl, ?_⟩⟩⟩⟩))
    subst hv1
    obtain ⟨n, hn⟩ : ∃ n : Nat, 1 + r = (n : Int) := ⟨(1 + r).toNat, by omega⟩
    simp only [List.set_cons_zero, List.set_cons_succ]
    rw [hn]
    have hn1 : 1 ≤ n := by omega
    have hn3 : n ≤ 3 := by omega
    replace hy : Pr (a : Int) (a + b : Nat) y H10 := by
      obtain ⟨py, e1, e2⟩ := hy
      exact ⟨py, e1, Gs.fx g10 d9 _ _ e2 (fun _ z => nomatch z)⟩
    have hl10 := g10 _ _ hps (g9 _ _ hps (g8 _ _ hps hl))
    clear hr hn g8 g9 g10 d d8 d9 hl
    -- most
    refine q_asgD (opD ⟨by show 4 ≤ sizeLine; decide, fun ll hll => ?_⟩)
    have em : Evl.Ex H10 (upd H10 ll (.lst [.non, .int 1, .int 2, .int 3])) := Ex.new hll
    have lm : (upd H10 ll (.lst [.non, .int 1, .int 2, .int 3])) ll = some (.lst [.non, .int 1, .int 2, .int 3]) := upd_same
    have hls : ll ≠ s := fun z => by obtain ⟨kk, hk⟩ := d10.at_; rw [z, hk] at hll; cases hll
    generalize upd H10 ll (.lst [.non, .int 1, .int 2, .int 3]) = H11 at em lm
    refine drawI (i := 3) rfl (fun _ => evp_c) (by decide) H11 (Gs.refl _ _) (d10.ex em) _ fun v5 H12 g12 d12 ⟨r5, hv5, hr5⟩ => ?_
    subst hv5
    obtain ⟨m, hm, hat⟩ : ∃ m ∈ mosts, atI [V.non, .int 1, .int 2, .int 3] r5 = some (OI m) := by
      have : r5 = 0 ∨ r5 = 1 ∨ r5 = 2 ∨ r5 = 3 := by omega
      rcases this with rfl | rfl | rfl | rfl
      · exact ⟨none, by decide, rfl⟩
      · exact ⟨some 1, by decide, rfl⟩
      · exact ⟨some 2, by decide, rfl⟩
      · exact ⟨some 3, by decide, rfl⟩
    refine ⟨ll, _, r5, OI m, rfl, rfl, sq_of (g12 _ _ hls lm), hat, ?_⟩
    have hmB : mostB (mD m) = true := by
      have : mosts.all (fun m => mostB (mD m)) = true := by decide
      exact List.all_eq_true.mp this m hm
    have kp : ∀ {v : V} {u w' : Int}, Pr u w' v H10 → Pr u w' v H12 := fun ⟨py, e1, e2⟩ => ⟨py, e1, Gs.fx g12 (d10.ex em) _ _ (em _ _ e2) (fun _ z => nomatch z)⟩
    replace hy := kp hy
    replace hz := kp hz
    have hl12 := g12 _ _ hps (em _ _ hl10)
    clear kp hat hr5 lm hls em g12 d10 hl10 hll
    -- told
    refine q_asgD ⟨_, rfl, _, rfl, _, rfl, _, rfl, by show 4 ≤ sizeLine; decide, fun pt hpt => ?_⟩
    have et : Evl.Ex H12 (upd H12 pt (.tup [.int (n : Int), y, z, OI m])) := Ex.new hpt
    have lt : (upd H12 pt (.tup [.int (n : Int), y, z, OI m])) pt = some (.tup [.int (n : Int), y, z, OI m]) := upd_same
    generalize upd H12 pt (.tup [.int (n : Int), y, z, OI m]) = H13 at et lt
    replace hy := mono_pr _ _ _ et hy
    replace hz := mono_pr _ _ _ et hz
    have d13 := d12.ex et
    have hl13 := et _ _ hl12
    clear et d12 hl12 hpt
    have htold : Told4 (n : Int) (a : Int) ((a + b : Nat) : Int) (a' : Int) ((a' + b' : Nat) : Int) m (.ref pt) H13 := ⟨pt, y, z, rfl, lt, hy, hz⟩
    -- some
    have hsplit : ∀ s7 s8 s9, EvP (tCall (spS 4) [] E0 (tCons (tOp (rIxT K) (tVar 11) (tC (.int 1))) (tCons (tVar 10) tNil))) [some (.ref a0), some (.int (i : Int)), some (.int c), some (.ref s), some (.int (j : Int)), some (OI m), some (.ref pt), s7, s8, s9, some (.int (n : Int)), some y, some z, none] H13 (TLs (splitsL n (a + b))) := fun s7 s8 s9 =>
      evp_call (E := E0) (eap_two (P := Is (.int ((a + b : Nat) : Int))) (R := Is (.int (n : Int))) (evp_pr1 (K := K) (evp_var (i := 11) (v := y) rfl hy mono_pr)) (evp_var (i := 10) rfl rfl mono_is) mono_is) fun vs H3 ⟨u, v, hv, hu, hv'⟩ Q q E => ⟨a + b, n, by rw [hv, show u = _ from hu, show v = _ from hv'], by omega, by omega, by omega, fun v H4 e4 h4 => q v H4 e4 h4⟩
    refine q_asgP (evp_lcF (vs := [13]) (g := gName 13) (f := fun t => holdsB (n : Int) (a : Int) ((a + b : Nat) : Int) (a' : Int) ((a' + b' : Nat) : Int) m ((splitsL n (a + b)).getD t [])) (n := (splitsL n (a + b)).length) (Pi := fun t => Tu ((splitsL n (a + b)).getD t [])) (wx_lst (K := K) (hsplit _ _ _) fun _ => mf_tu.mono) (by have := (pre_len (m := n) (t := a + b) (i := 0) (by omega) (by omega) (by omega)).1; omega)
      (Sg := fun t σ2 H2 => ∃ o, σ2 = [some (.ref a0), some (.int (i : Int)), some (.int c), some (.ref s), some (.int (j : Int)), some (OI m), some (.ref pt), s7, s8, s9, some (.int (n : Int)), some y, some z, some o] ∧ t < (splitsL n (a + b)).length ∧ Tu ((splitsL n (a + b)).getD t []) o H2) (fun t o H3 ht e3 ho => g_name (i := 13) ⟨rfl, o, rfl, ht, ho⟩)
      (fun t σ2 H3 ht e3 ⟨o, hs, ht2, ho⟩ => by
        subst hs
        have hlen : ((splitsL n (a + b)).getD t []).length = n := by
          rw [List.getD_eq_getElem?_getD, List.getElem?_eq_getElem ht2]
          exact splits_mem n (a + b) _ (List.getElem_mem ht2)
        exact et_bl (evp_call (E := E0) (eap_two (P := Told4 (n : Int) (a : Int) ((a + b : Nat) : Int) (a' : Int) ((a' + b' : Nat) : Int) m) (R := Tu ((splitsL n (a + b)).getD t [])) (evp_var (i := 6) (v := .ref pt) rfl (mono_told _ _ _ e3 htold) mono_told) (evp_var (i := 13) (v := o) rfl ho mf_tu.mono) mono_told) fun vs H4 ⟨u, v, hv, hu, hv'⟩ Q q E => ⟨u, v, _, _, _, _, _, m, _, hv, hu, hv', (fun z => by rw [z] at hlen; simp at hlen; omega), by omega, fun v H4 e4 h4 => q v H4 e4 h4⟩))
      (fun t σ2 H3 ht e3 ⟨o, hs, ht2, ho⟩ => by subst hs; exact evp_var (i := 13) (v := o) rfl ho mf_tu.mono) fun _ => mf_tu) fun v7 H14 e14 h7 => ?_
    -- due
    have hmain := main_at (b := b) (b' := b') (m := m) hn1 hn3 ha hb ha' hb' hm
    have hy14 := mono_pr _ _ _ e14 hy
    have hz14 := mono_pr _ _ _ e14 hz
    have lt14 := e14 _ _ lt
    refine q_asgP (P := ResD (neB n a b a' b' m) (.int (n : Int)) y z (OI m)) (evp_if (b := neB n a b a' b' m) (by
        have := et_found (K := K) (evp_var (i := 7) (σ := [some (.ref a0), some (.int (i : Int)), some (.int c), some (.ref s), some (.int (j : Int)), some (OI m), some (.ref pt), some v7, s8, s9, some (.int (n : Int)), some y, some z, none]) (H := H14) (v := v7) rfl (show Found _ _ v7 H14 from h7) mono_found)
        rw [hmain] at this
        exact this) (fun hb => ?_) (fun hb => ?_)) fun v8 H15 e15 h8 => ?_
    · exact (evp_ofL' (xs := [.str "spread", y, z, OI m]) (el_lst (ea_cons ev_c (ea_cons (ev_var rfl) (ea_cons (ev_var rfl) (ea_cons (ev_var rfl) ea_nil)))) (show 4 ≤ 100000 by decide))).imp fun v H1 _ h => ⟨fun _ => h, fun z => (by rw [hb] at z; cases z)⟩
    · refine fun H1 e Q q => evp_ofL' (xs := [.str "part", .ref pt]) (el_lst (ea_cons ev_c (ea_cons (ev_var rfl) ea_nil)) (show 2 ≤ 100000 by decide)) H1 e Q fun v H2 e2 ⟨p', h1, h2⟩ => q v H2 e2 ⟨fun z => (by rw [hb] at z; cases z), fun _ => ⟨p', pt, h1, h2, e2 _ _ (e _ _ lt14)⟩⟩
    have hy15 := mono_pr _ _ _ e15 hy14
    have hz15 := mono_pr _ _ _ e15 hz14
    have d15 := d13.ex (e14.trans e15)
    have hl15 := (e14.trans e15) _ _ hl13
    clear hmain hy14 hz14 lt14 h7 e14 e15 hsplit htold hy hz lt d13 hl13
    -- heard
    have v10 : ∀ {s9 : Option V} {H1 : Hp}, EvP (tVar 10) [some (.ref a0), some (.int (i : Int)), some (.int c), some (.ref s), some (.int (j : Int)), some (OI m), some (.ref pt), some v7, some v8, s9, some (.int (n : Int)), some y, some z, none] H1 (Is (.int (n : Int))) := evp_var (i := 10) rfl rfl mono_is
    have v11 : ∀ {s9 : Option V} {H1 : Hp}, EvP (tVar 11) [some (.ref a0), some (.int (i : Int)), some (.int c), some (.ref s), some (.int (j : Int)), some (OI m), some (.ref pt), some v7, some v8, s9, some (.int (n : Int)), some y, some z, none] H1 (Is y) := evp_var (i := 11) rfl rfl mono_is
    have v12 : ∀ {s9 : Option V} {H1 : Hp}, EvP (tVar 12) [some (.ref a0), some (.int (i : Int)), some (.int c), some (.ref s), some (.int (j : Int)), some (OI m), some (.ref pt), some v7, some v8, s9, some (.int (n : Int)), some y, some z, none] H1 (Is z) := evp_var (i := 12) rfl rfl mono_is
    have v5 : ∀ {s9 : Option V} {H1 : Hp}, EvP (tVar 5) [some (.ref a0), some (.int (i : Int)), some (.int c), some (.ref s), some (.int (j : Int)), some (OI m), some (.ref pt), some v7, some v8, s9, some (.int (n : Int)), some y, some z, none] H1 (Is (OI m)) := evp_var (i := 5) rfl rfl mono_is
    have v9 : ∀ {o : V} {H1 : Hp}, EvP (tVar 9) [some (.ref a0), some (.int (i : Int)), some (.int c), some (.ref s), some (.int (j : Int)), some (OI m), some (.ref pt), some v7, some v8, some o, some (.int (n : Int)), some y, some z, none] H1 (Is o) := evp_var (i := 9) rfl rfl mono_is
    refine q_when (b := false) (e_res hy15 hz15 (heard_all hn1 hn3 ha' hmB hy15 hz15 v10 v11 v12 v5) (evp_var (i := 8) (v := v8) rfl h8 mono_res)) (fun z => nomatch z) fun _ H16 e16 => ?_
    -- the odd ones
    refine q_forI (ds := dsA) (evp_lit (ei_cons (it_c rfl) (ei_cons (it_c rfl) (ei_cons it_neg (ei_cons (it_c rfl) (ei_cons (it_c rfl) (ei_cons (it_c rfl) (ei_cons it_one ei_nil))))))) (by decide)) (fun σ => ∃ s9, σ = [some (.ref a0), some (.int (i : Int)), some (.int c), some (.ref s), some (.int (j : Int)), some (OI m), some (.ref pt), some v7, some v8, s9, some (.int (n : Int)), some y, some z, none]) ⟨_, rfl⟩ (fun t o dd σ' H1 D' hd ⟨s9, hs⟩ e1 ho hk => ?_) (fun σ' H17 ⟨s9, hs⟩ e17 => ?_)
    · subst hs
      obtain ⟨hb, hsh⟩ := bad_at badA hd
      exact s_when (σ := [some (.ref a0), some (.int (i : Int)), some (.int c), some (.ref s), some (.int (j : Int)), some (OI m), some (.ref pt), some v7, some v8, some o, some (.int (n : Int)), some y, some z, none]) (b := false) (e_same ho hsh (heard_size ho hb v9) (evp_msg rfl)) (fun z => nomatch z) fun _ H2 e2 => hk _ H2 e2 ⟨_, rfl⟩
    subst hs
    refine q_forI (ds := dsB) (evp_lit (ei_cons (it_c rfl) (ei_cons it_one (ei_cons (it_two rfl rfl) (ei_cons (it_l (ea_cons ev_c (ea_cons ev_c ea_nil)) (.cons rfl (.cons rfl .nil)) (show 2 ≤ 100000 by decide)) (ei_cons (it_two rfl rfl) (ei_cons (it_t (vs := [.int (-1), .int 0]) (ea_cons (ev_un ev_c ru_neg) (ea_cons ev_c ea_nil)) (.cons rfl (.cons rfl .nil)) (show 2 ≤ 100000 by decide)) (ei_cons (it_c rfl) (ei_cons (it_two rfl rfl) (ei_cons (it_t (ea_cons ev_c (ea_cons ev_c (ea_cons ev_c ea_nil))) (.cons rfl (.cons rfl (.cons rfl .nil))) (show 3 ≤ 100000 by decide)) ei_nil))))))))) (by decide)) (fun σ => ∃ s9, σ = [some (.ref a0), some (.int (i : Int)), some (.int c), some (.ref s), some (.int (j : Int)), some (OI m), some (.ref pt), some v7, some v8, s9, some (.int (n : Int)), some y, some z, none]) ⟨_, rfl⟩ (fun t o dd σ' H1 D' hd ⟨s9, hs⟩ e1 ho hk => ?_) (fun σ' H18 ⟨s9, hs⟩ e18' => ?_)
    · subst hs
      obtain ⟨hb, hsh⟩ := bad_at badB hd
      have ex := (e16.trans e17).trans e1
      exact s_when (σ := [some (.ref a0), some (.int (i : Int)), some (.int c), some (.ref s), some (.int (j : Int)), some (OI m), some (.ref pt), some v7, some v8, some o, some (.int (n : Int)), some y, some z, none]) (b := false) (et_or (a := false) (b := false) (e_same ho hsh (heard_rows hn1 hn3 ho hb v10 v9) (evp_msg rfl)) fun _ => e_same ho hsh (heard_diff hn1 hn3 (mono_pr _ _ _ ex hy15) ho hb v10 v11 v9) (evp_msg rfl)) (fun z => nomatch z) fun _ H2 e2 => hk _ H2 e2 ⟨_, rfl⟩
    subst hs
    have e18 := (e16.trans e17).trans e18'
    refine s_forI (ds := dsC) (evp_lit (ei_cons (it_c rfl) (ei_cons it_neg (ei_cons (it_c rfl) (ei_cons (it_c rfl) (ei_cons it_one ei_nil))))) (by decide)) (fun σ => ∃ s9, σ = [some (.ref a0), some (.int (i : Int)), some (.int c), some (.ref s), some (.int (j : Int)), some (OI m), some (.ref pt), some v7, some v8, s9, some (.int (n : Int)), some y, some z, none]) ⟨_, rfl⟩ (fun t o dd σ' H1 D' hd ⟨s9, hs⟩ e1 ho hk => ?_) (fun σ' H19 ⟨s9, hs⟩ e19 => ?_)
    · subst hs
      obtain ⟨hb, hsh⟩ := bad_at badC hd
      have ex := e18.trans e1
      exact s_when (σ := [some (.ref a0), some (.int (i : Int)), some (.int c), some (.ref s), some (.int (j : Int)), some (OI m), some (.ref pt), some v7, some v8, some o, some (.int (n : Int)), some y, some z, none]) (b := false) (e_same ho hsh (heard_most hn1 hn3 (mono_pr _ _ _ ex hy15) (mono_pr _ _ _ ex hz15) ho hb v10 v11 v12 v9) (evp_msg rfl)) (fun z => nomatch z) fun _ H2 e2 => hk _ H2 e2 ⟨_, rfl⟩
    exact ⟨_, _, _, _, _, _, _, _, _, hs, d15.ex (e18.trans e19), (e18.trans e19) _ _ hl15⟩
end
end K20
namespace K20
open PySem PySem.Spec PyProof.Rows L2 Evl RZ Ev2 TA5
theorem all_mk {l : PySem.W.OpenLaw} {w : World} {K : PySem.W.Frag} {h : Heap} {mg : Str → Option Value} {fa : Addr} (X : K.In h) (G : h.Ns mainGlobals mg) (hfa : mg "law" = some (.ref fa))
    {CT : Addr}
    {tk : Tok}
    {f_is_whole : Addr} {od_is_whole an_is_whole : Option Addr} {sl_is_whole : Array (Option Value)} {oc_is_whole kV_is_whole dc_is_whole pm_is_whole cd_is_whole ct_is_whole : Value}
    {f_is_count : Addr} {od_is_count an_is_count : Option Addr} {sl_is_count : Array (Option Value)} {oc_is_count kV_is_count dc_is_count pm_is_count cd_is_count ct_is_count : Value}
    {f_is_limits : Addr} {od_is_limits an_is_limits : Option Addr} {sl_is_limits : Array (Option Value)} {oc_is_limits kV_is_limits dc_is_limits pm_is_limits cd_is_limits ct_is_limits : Value}
    {f_is_most : Addr} {od_is_most an_is_most : Option Addr} {sl_is_most : Array (Option Value)} {oc_is_most kV_is_most dc_is_most pm_is_most cd_is_most ct_is_most : Value}
    {f_least_greatest : Addr} {od_least_greatest an_least_greatest : Option Addr} {sl_least_greatest : Array (Option Value)} {oc_least_greatest kV_least_greatest dc_least_greatest pm_least_greatest cd_least_greatest ct_least_greatest : Value}
    {f_possible_pairs : Addr} {od_possible_pairs an_possible_pairs : Option Addr} {sl_possible_pairs : Array (Option Value)} {oc_possible_pairs kV_possible_pairs dc_possible_pairs pm_possible_pairs cd_possible_pairs ct_possible_pairs : Value}
    {f_law_numbers : Addr} {od_law_numbers an_law_numbers : Option Addr} {sl_law_numbers : Array (Option Value)} {oc_law_numbers kV_law_numbers dc_law_numbers pm_law_numbers cd_law_numbers ct_law_numbers : Value}
    {f_law_draw : Addr} {od_law_draw an_law_draw : Option Addr} {sl_law_draw : Array (Option Value)} {oc_law_draw kV_law_draw dc_law_draw pm_law_draw cd_law_draw ct_law_draw : Value}
    {f_law_pool : Addr} {od_law_pool an_law_pool : Option Addr} {sl_law_pool : Array (Option Value)} {oc_law_pool kV_law_pool dc_law_pool pm_law_pool cd_law_pool ct_law_pool : Value}
    {f_law_splits : Addr} {od_law_splits an_law_splits : Option Addr} {sl_law_splits : Array (Option Value)} {oc_law_splits kV_law_splits dc_law_splits pm_law_splits cd_law_splits ct_law_splits : Value}
    {f_law_told : Addr} {od_law_told an_law_told : Option Addr} {sl_law_told : Array (Option Value)} {oc_law_told kV_law_told dc_law_told pm_law_told cd_law_told ct_law_told : Value}
    {f_law_holds : Addr} {od_law_holds an_law_holds : Option Addr} {sl_law_holds : Array (Option Value)} {oc_law_holds kV_law_holds dc_law_holds pm_law_holds cd_law_holds ct_law_holds : Value}
    {f_law_heard : Addr} {od_law_heard an_law_heard : Option Addr} {sl_law_heard : Array (Option Value)} {oc_law_heard kV_law_heard dc_law_heard pm_law_heard cd_law_heard ct_law_heard : Value}
    {f_law_limits : Addr} {od_law_limits an_law_limits : Option Addr} {sl_law_limits : Array (Option Value)} {oc_law_limits kV_law_limits dc_law_limits pm_law_limits cd_law_limits ct_law_limits : Value}
    {f_law : Addr} {od_law an_law : Option Addr} {sl_law : Array (Option Value)} {oc_law kV_law dc_law pm_law cd_law ct_law : Value}
    {f_p_rows : Addr} {od_p_rows an_p_rows : Option Addr} {sl_p_rows : Array (Option Value)} {oc_p_rows kV_p_rows dc_p_rows pm_p_rows cd_p_rows ct_p_rows : Value}
    {p_p_rows : Addr} {r_p_rows : List Value}
    {f_p_different : Addr} {od_p_different an_p_different : Option Addr} {sl_p_different : Array (Option Value)} {oc_p_different kV_p_different dc_p_different pm_p_different cd_p_different ct_p_different : Value}
    {p_p_different : Addr} {r_p_different : List Value}
    {f_p_most : Addr} {od_p_most an_p_most : Option Addr} {sl_p_most : Array (Option Value)} {oc_p_most kV_p_most dc_p_most pm_p_most cd_p_most ct_p_most : Value}
    {p_p_most : Addr} {r_p_most : List Value}
    {TD : Addr} {ocT : Value} {odT : Option Addr} {nT : Nat} {slT : Array (Option Value)}
    {f_ini : Addr} {od_ini an_ini : Option Addr} {sl_ini : Array (Option Value)} {oc_ini kV_ini dc_ini pm_ini cd_ini ct_ini : Value}
    {CS NS iS : Addr} {nmS qS : Str} {bsS subS : List Value} {abS : Bool} {snS : List Str} {colS : Option Bool} {ddS : Option Addr} {k0S k1S k2S k3S k5S : Option Value} {ocS dcS pmS cdS ctS : Value} {odS anS : Option Addr} {slS : Array (Option Value)} {p1S p2S q1S q2S q3S q4S : Pos} {SE : Addr}
    {CV NV iV : Addr} {nmV qV : Str} {bsV subV : List Value} {abV : Bool} {snV : List Str} {colV : Option Bool} {ddV : Option Addr} {k0V k1V k2V k3V k5V : Option Value} {ocV dcV pmV cdV ctV : Value} {odV anV : Option Addr} {slV : Array (Option Value)} {p1V p2V q1V q2V q3V q4V : Pos}
    {CC NC iC : Addr} {nmC qC : Str} {bsC subC : List Value} {abC : Bool} {snC : List Str} {colC : Option Bool} {ddC : Option Addr} {k0C k1C k2C k3C k5C : Option Value} {ocC dcC pmC cdC ctC : Value} {odC anC : Option Addr} {slC : Array (Option Value)} {p1C p2C q1C q2C q3C q4C : Pos}
    (aT : PySem.W.nsIn K mainGlobals "Spread" = some (some (.ref CT)))
    (z_isinstance : PySem.W.nsIn K mainGlobals "isinstance" = some none)
    (z_int : PySem.W.nsIn K mainGlobals "int" = some none)
    (z_bool : PySem.W.nsIn K mainGlobals "bool" = some none)
    (z_tuple : PySem.W.nsIn K mainGlobals "tuple" = some none)
    (z_len : PySem.W.nsIn K mainGlobals "len" = some none)
    (z_range : PySem.W.nsIn K mainGlobals "range" = some none)
    (z_enumerate : PySem.W.nsIn K mainGlobals "enumerate" = some none)
    (z_max : PySem.W.nsIn K mainGlobals "max" = some none)
    (z_min : PySem.W.nsIn K mainGlobals "min" = some none)
    (z_sum : PySem.W.nsIn K mainGlobals "sum" = some none)
    (z_all : PySem.W.nsIn K mainGlobals "all" = some none)
    (z_zip : PySem.W.nsIn K mainGlobals "zip" = some none)
    (z_list : PySem.W.nsIn K mainGlobals "list" = some none)
    (z_MH : PySem.W.nsIn K mainGlobals "MOST_HEIGHTS" = some (some (.int 64 tk)))
    (a_is_whole : PySem.W.nsIn K mainGlobals "is_whole" = some (some (.ref f_is_whole)))
    (l_is_whole : K.lookup f_is_whole = some ⟨oc_is_whole, od_is_whole, .func (PySem.W.fnOf "is_whole" "is_whole" (defArgs s_is_whole) (defBody s_is_whole) (defScope s_is_whole) .none kV_is_whole dc_is_whole pm_is_whole an_is_whole cd_is_whole ct_is_whole), sl_is_whole⟩)
    (c_is_whole : PySem.W.codeIn K cd_is_whole "is_whole" = true)
    (k_is_whole : PySem.W.keepIn K (.ref f_is_whole) = true)
    (a_is_count : PySem.W.nsIn K mainGlobals "is_count" = some (some (.ref f_is_count)))
    (l_is_count : K.lookup f_is_count = some ⟨oc_is_count, od_is_count, .func (PySem.W.fnOf "is_count" "is_count" (defArgs s_is_count) (defBody s_is_count) (defScope s_is_count) .none kV_is_count dc_is_count pm_is_count an_is_count cd_is_count ct_is_count), sl_is_count⟩)
    (c_is_count : PySem.W.codeIn K cd_is_count "is_count" = true)
    (k_is_count : PySem.W.keepIn K (.ref f_is_count) = true)
    (a_is_limits : PySem.W.nsIn K mainGlobals "is_limits" = some (some (.ref f_is_limits)))
    (l_is_limits : K.lookup f_is_limits = some ⟨oc_is_limits, od_is_limits, .func (PySem.W.fnOf "is_limits" "is_limits" (defArgs s_is_limits) (defBody s_is_limits) (defScope s_is_limits) .none kV_is_limits dc_is_limits pm_is_limits an_is_limits cd_is_limits ct_is_limits), sl_is_limits⟩)
    (c_is_limits : PySem.W.codeIn K cd_is_limits "is_limits" = true)
    (k_is_limits : PySem.W.keepIn K (.ref f_is_limits) = true)
    (a_is_most : PySem.W.nsIn K mainGlobals "is_most" = some (some (.ref f_is_most)))
    (l_is_most : K.lookup f_is_most = some ⟨oc_is_most, od_is_most, .func (PySem.W.fnOf "is_most" "is_most" (defArgs s_is_most) (defBody s_is_most) (defScope s_is_most) .none kV_is_most dc_is_most pm_is_most an_is_most cd_is_most ct_is_most), sl_is_most⟩)
    (c_is_most : PySem.W.codeIn K cd_is_most "is_most" = true)
    (k_is_most : PySem.W.keepIn K (.ref f_is_most) = true)
    (a_least_greatest : PySem.W.nsIn K mainGlobals "least_greatest" = some (some (.ref f_least_greatest)))
    (l_least_greatest : K.lookup f_least_greatest = some ⟨oc_least_greatest, od_least_greatest, .func (PySem.W.fnOf "least_greatest" "least_greatest" (defArgs s_least_greatest) (defBody s_least_greatest) (defScope s_least_greatest) .none kV_least_greatest dc_least_greatest pm_least_greatest an_least_greatest cd_least_greatest ct_least_greatest), sl_least_greatest⟩)
    (c_least_greatest : PySem.W.codeIn K cd_least_greatest "least_greatest" = true)
    (k_least_greatest : PySem.W.keepIn K (.ref f_least_greatest) = true)
    (a_possible_pairs : PySem.W.nsIn K mainGlobals "possible_pairs" = some (some (.ref f_possible_pairs)))
    (l_possible_pairs : K.lookup f_possible_pairs = some ⟨oc_possible_pairs, od_possible_pairs, .func (PySem.W.fnOf "possible_pairs" "possible_pairs" (defArgs s_possible_pairs) (defBody s_possible_pairs) (defScope s_possible_pairs) .none kV_possible_pairs dc_possible_pairs pm_possible_pairs an_possible_pairs cd_possible_pairs ct_possible_pairs), sl_possible_pairs⟩)
    (c_possible_pairs : PySem.W.codeIn K cd_possible_pairs "possible_pairs" = true)
    (k_possible_pairs : PySem.W.keepIn K (.ref f_possible_pairs) = true)
    (a_law_numbers : PySem.W.nsIn K mainGlobals "_law_numbers" = some (some (.ref f_law_numbers)))
    (l_law_numbers : K.lookup f_law_numbers = some ⟨oc_law_numbers, od_law_numbers, .func (PySem.W.fnOf "_law_numbers" "_law_numbers" (defArgs s_law_numbers) (defBody s_law_numbers) (defScope s_law_numbers) .none kV_law_numbers dc_law_numbers pm_law_numbers an_law_numbers cd_law_numbers ct_law_numbers), sl_law_numbers⟩)
    (c_law_numbers : PySem.W.codeIn K cd_law_numbers "_law_numbers" = true)
    (k_law_numbers : PySem.W.keepIn K (.ref f_law_numbers) = true)
    (a_law_draw : PySem.W.nsIn K mainGlobals "_law_draw" = some (some (.ref f_law_draw)))
    (l_law_draw : K.lookup f_law_draw = some ⟨oc_law_draw, od_law_draw, .func (PySem.W.fnOf "_law_draw" "_law_draw" (defArgs s_law_draw) (defBody s_law_draw) (defScope s_law_draw) .none kV_law_draw dc_law_draw pm_law_draw an_law_draw cd_law_draw ct_law_draw), sl_law_draw⟩)
    (c_law_draw : PySem.W.codeIn K cd_law_draw "_law_draw" = true)
    (k_law_draw : PySem.W.keepIn K (.ref f_law_draw) = true)
    (a_law_pool : PySem.W.nsIn K mainGlobals "_law_pool" = some (some (.ref f_law_pool)))
    (l_law_pool : K.lookup f_law_pool = some ⟨oc_law_pool, od_law_pool, .func (PySem.W.fnOf "_law_pool" "_law_pool" (defArgs s_law_pool) (defBody s_law_pool) (defScope s_law_pool) .none kV_law_pool dc_law_pool pm_law_pool an_law_pool cd_law_pool ct_law_pool), sl_law_pool⟩)
    (c_law_pool : PySem.W.codeIn K cd_law_pool "_law_pool" = true)
    (k_law_pool : PySem.W.keepIn K (.ref f_law_pool) = true)
    (a_law_splits : PySem.W.nsIn K mainGlobals "_law_splits" = some (some (.ref f_law_splits)))
    (l_law_splits : K.lookup f_law_splits = some ⟨oc_law_splits, od_law_splits, .func (PySem.W.fnOf "_law_splits" "_law_splits" (defArgs s_law_splits) (defBody s_law_splits) (defScope s_law_splits) .none kV_law_splits dc_law_splits pm_law_splits an_law_splits cd_law_splits ct_law_splits), sl_law_splits⟩)
    (c_law_splits : PySem.W.codeIn K cd_law_splits "_law_splits" = true)
    (k_law_splits : PySem.W.keepIn K (.ref f_law_splits) = true)
    (a_law_told : PySem.W.nsIn K mainGlobals "_law_told" = some (some (.ref f_law_told)))
    (l_law_told : K.lookup f_law_told = some ⟨oc_law_told, od_law_told, .func (PySem.W.fnOf "_law_told" "_law_told" (defArgs s_law_told) (defBody s_law_told) (defScope s_law_told) .none kV_law_told dc_law_told pm_law_told an_law_told cd_law_told ct_law_told), sl_law_told⟩)
    (c_law_told : PySem.W.codeIn K cd_law_told "_law_told" = true)
    (k_law_told : PySem.W.keepIn K (.ref f_law_told) = true)
    (a_law_holds : PySem.W.nsIn K mainGlobals "_law_holds" = some (some (.ref f_law_holds)))
    (l_law_holds : K.lookup f_law_holds = some ⟨oc_law_holds, od_law_holds, .func (PySem.W.fnOf "_law_holds" "_law_holds" (defArgs s_law_holds) (defBody s_law_holds) (defScope s_law_holds) .none kV_law_holds dc_law_holds pm_law_holds an_law_holds cd_law_holds ct_law_holds), sl_law_holds⟩)
    (c_law_holds : PySem.W.codeIn K cd_law_holds "_law_holds" = true)
    (k_law_holds : PySem.W.keepIn K (.ref f_law_holds) = true)
    (a_law_heard : PySem.W.nsIn K mainGlobals "_law_heard" = some (some (.ref f_law_heard)))
    (l_law_heard : K.lookup f_law_heard = some ⟨oc_law_heard, od_law_heard, .func (PySem.W.fnOf "_law_heard" "_law_heard" (defArgs s_law_heard) (defBody s_law_heard) (defScope s_law_heard) .none kV_law_heard dc_law_heard pm_law_heard an_law_heard cd_law_heard ct_law_heard), sl_law_heard⟩)
    (c_law_heard : PySem.W.codeIn K cd_law_heard "_law_heard" = true)
    (k_law_heard : PySem.W.keepIn K (.ref f_law_heard) = true)
    (a_law_limits : PySem.W.nsIn K mainGlobals "_law_limits" = some (some (.ref f_law_limits)))
    (l_law_limits : K.lookup f_law_limits = some ⟨oc_law_limits, od_law_limits, .func (PySem.W.fnOf "_law_limits" "_law_limits" (defArgs s_law_limits) (defBody s_law_limits) (defScope s_law_limits) .none kV_law_limits dc_law_limits pm_law_limits an_law_limits cd_law_limits ct_law_limits), sl_law_limits⟩)
    (c_law_limits : PySem.W.codeIn K cd_law_limits "_law_limits" = true)
    (k_law_limits : PySem.W.keepIn K (.ref f_law_limits) = true)
    (a_law : PySem.W.nsIn K mainGlobals "law" = some (some (.ref f_law)))
    (l_law : K.lookup f_law = some ⟨oc_law, od_law, .func (PySem.W.fnOf "law" "law" (defArgs s_law) (defBody s_law) (defScope s_law) .none kV_law dc_law pm_law an_law cd_law ct_law), sl_law⟩)
    (c_law : PySem.W.codeIn K cd_law "law" = true)
    (k_law : PySem.W.keepIn K (.ref f_law) = true)
    (a_p_rows : PySem.W.findIn K (.ref CT) "rows" = some (some (.ref p_p_rows)))
    (r1_p_rows : PySem.W.recIn K p_p_rows "property" = some (.ref f_p_rows :: r_p_rows))
    (g_p_rows : PySem.W.specialIn K (.ref p_p_rows) "__get__" = some (some (.builtin "property.__get__")))
    (t_p_rows : PySem.W.takesIn K (.ref p_p_rows) = some true)
    (l_p_rows : K.lookup f_p_rows = some ⟨oc_p_rows, od_p_rows, .func (PySem.W.fnOf "rows" "Spread.rows" (defArgs s_Spread_rows) (defBody s_Spread_rows) (defScope s_Spread_rows) .none kV_p_rows dc_p_rows pm_p_rows an_p_rows cd_p_rows ct_p_rows), sl_p_rows⟩)
    (c_p_rows : PySem.W.codeIn K cd_p_rows "Spread.rows" = true)
    (k_p_rows : PySem.W.keepIn K (.ref f_p_rows) = true)
    (a_p_different : PySem.W.findIn K (.ref CT) "different" = some (some (.ref p_p_different)))
    (r1_p_different : PySem.W.recIn K p_p_different "property" = some (.ref f_p_different :: r_p_different))
    (g_p_different : PySem.W.specialIn K (.ref p_p_different) "__get__" = some (some (.builtin "property.__get__")))
    (t_p_different : PySem.W.takesIn K (.ref p_p_different) = some true)
    (l_p_different : K.lookup f_p_different = some ⟨oc_p_different, od_p_different, .func (PySem.W.fnOf "different" "Spread.different" (defArgs s_Spread_different) (defBody s_Spread_different) (defScope s_Spread_different) .none kV_p_different dc_p_different pm_p_different an_p_different cd_p_different ct_p_different), sl_p_different⟩)
    (c_p_different : PySem.W.codeIn K cd_p_different "Spread.different" = true)
    (k_p_different : PySem.W.keepIn K (.ref f_p_different) = true)
    (a_p_most : PySem.W.findIn K (.ref CT) "most" = some (some (.ref p_p_most)))
    (r1_p_most : PySem.W.recIn K p_p_most "property" = some (.ref f_p_most :: r_p_most))
    (g_p_most : PySem.W.specialIn K (.ref p_p_most) "__get__" = some (some (.builtin "property.__get__")))
    (t_p_most : PySem.W.takesIn K (.ref p_p_most) = some true)
    (l_p_most : K.lookup f_p_most = some ⟨oc_p_most, od_p_most, .func (PySem.W.fnOf "most" "Spread.most" (defArgs s_Spread_most) (defBody s_Spread_most) (defScope s_Spread_most) .none kV_p_most dc_p_most pm_p_most an_p_most cd_p_most ct_p_most), sl_p_most⟩)
    (c_p_most : PySem.W.codeIn K cd_p_most "Spread.most" = true)
    (k_p_most : PySem.W.keepIn K (.ref f_p_most) = true)
    (a_ini : PySem.W.findIn K (.ref CT) "__init__" = some (some (.ref f_ini)))
    (l_ini : K.lookup f_ini = some ⟨oc_ini, od_ini, .func (PySem.W.fnOf "__init__" "Spread.__init__" (defArgs s_Spread_init) (defBody s_Spread_init) (defScope s_Spread_init) (.ref TD) kV_ini dc_ini pm_ini an_ini cd_ini ct_ini), sl_ini⟩)
    (l_TD : K.lookup TD = some ⟨ocT, odT, .seq #[.none] nT, slT⟩)
    (c_ini : PySem.W.codeIn K cd_ini "Spread.__init__" = true)
    (k_ini : PySem.W.keepIn K (.ref f_ini) = true)
    (i_ini : PySem.W.isFn K (.ref f_ini) = true)
    (pgT : PySem.W.plainGet K CT Str.empty = true)
    (hdT : PySem.W.hasDictIn K CT = true)
    (poT : PySem.W.plainOver K CT = true)
    (saT : PySem.W.findIn K (.ref CT) "__setattr__" = some (some (.builtin "object.__setattr__")))
    (mkT : PySem.W.makesIn K CT = true)
    (kcT : PySem.W.keepIn K (.ref CT) = true)
    (nf0 : PySem.W.findIn K (.ref CT) "_size" = some none)
    (nf1 : PySem.W.findIn K (.ref CT) "_rows" = some none)
    (nf2 : PySem.W.findIn K (.ref CT) "_different" = some none)
    (nf3 : PySem.W.findIn K (.ref CT) "_most" = some none)
    (a_CS : PySem.W.nsIn K mainGlobals "InvalidSpread" = some (some (.ref CS)))
    (x_CS : K.lookup CS = some (excClassObj nmS qS CS NS bsS [.ref SE, .type "Exception", .type "BaseException", .type "object"] true snS subS abS colS ddS k0S k1S k2S k3S k5S "Exception.__new__"))
    (sa_CS : PySem.W.findIn K (.ref CS) "__setattr__" = some (some (.builtin "object.__setattr__")))
    (ga_CS : PySem.W.findIn K (.ref CS) "__getattribute__" = some (some (.builtin "BaseException.__getattribute__")))
    (gg_CS : PySem.W.findIn K (.ref CS) "__getattr__" = some none)
    (no_CS : PySem.W.findIn K (.ref CS) "value" = some none)
    (ic_CS : PySem.W.findIn K (.ref CS) "__init__" = some (some (.ref iS)))
    (tc_CS : PySem.W.typeIn K (.ref iS) = some (.type "function"))
    (kc_CS : PySem.W.keepIn K (.ref CS) = true)
    (ex_CS : PySem.W.subIn K (.ref CS) (.type "BaseException") = some true)
    (ty_CS : PySem.W.typeIn K (.ref CS) = some (.type "type"))
    (hd_CS : PySem.W.hasDictIn K CS = true)
    (te_CS : PySem.W.subIn K (.ref CS) (.ref CS) = some true)
    (l_CS : K.lookup iS = some ⟨ocS, odS, .func (PySem.W.fnOf "__init__" "InvalidSpread.__init__" (PySem.ErrV.iA p1S p2S) (PySem.ErrV.iB q1S q2S q3S q4S) PySem.ErrV.iS .none .none dcS pmS anS cdS ctS), slS⟩)
    (c_CS : PySem.W.codeIn K cdS "InvalidSpread.__init__" = true)
    (a_CV : PySem.W.nsIn K mainGlobals "InvalidNumber" = some (some (.ref CV)))
    (x_CV : K.lookup CV = some (excClassObj nmV qV CV NV bsV [.type "ValueError", .type "Exception", .type "BaseException", .type "object"] true snV subV abV colV ddV k0V k1V k2V k3V k5V "ValueError.__new__"))
    (sa_CV : PySem.W.findIn K (.ref CV) "__setattr__" = some (some (.builtin "object.__setattr__")))
    (ga_CV : PySem.W.findIn K (.ref CV) "__getattribute__" = some (some (.builtin "BaseException.__getattribute__")))
    (gg_CV : PySem.W.findIn K (.ref CV) "__getattr__" = some none)
    (no_CV : PySem.W.findIn K (.ref CV) "value" = some none)
    (ic_CV : PySem.W.findIn K (.ref CV) "__init__" = some (some (.ref iV)))
    (tc_CV : PySem.W.typeIn K (.ref iV) = some (.type "function"))
    (kc_CV : PySem.W.keepIn K (.ref CV) = true)
    (ex_CV : PySem.W.subIn K (.ref CV) (.type "BaseException") = some true)
    (ty_CV : PySem.W.typeIn K (.ref CV) = some (.type "type"))
    (hd_CV : PySem.W.hasDictIn K CV = true)
    (te_CV : PySem.W.subIn K (.ref CV) (.ref CV) = some true)
    (l_CV : K.lookup iV = some ⟨ocV, odV, .func (PySem.W.fnOf "__init__" "InvalidNumber.__init__" (PySem.ErrV.iA p1V p2V) (PySem.ErrV.iB q1V q2V q3V q4V) PySem.ErrV.iS .none .none dcV pmV anV cdV ctV), slV⟩)
    (c_CV : PySem.W.codeIn K cdV "InvalidNumber.__init__" = true)
    (a_CC : PySem.W.nsIn K mainGlobals "Contradictory" = some (some (.ref CC)))
    (x_CC : K.lookup CC = some (excClassObj nmC qC CC NC bsC [.type "RuntimeError", .type "Exception", .type "BaseException", .type "object"] true snC subC abC colC ddC k0C k1C k2C k3C k5C "RuntimeError.__new__"))
    (sa_CC : PySem.W.findIn K (.ref CC) "__setattr__" = some (some (.builtin "object.__setattr__")))
    (ga_CC : PySem.W.findIn K (.ref CC) "__getattribute__" = some (some (.builtin "BaseException.__getattribute__")))
    (gg_CC : PySem.W.findIn K (.ref CC) "__getattr__" = some none)
    (no_CC : PySem.W.findIn K (.ref CC) "part" = some none)
    (ic_CC : PySem.W.findIn K (.ref CC) "__init__" = some (some (.ref iC)))
    (tc_CC : PySem.W.typeIn K (.ref iC) = some (.type "function"))
    (kc_CC : PySem.W.keepIn K (.ref CC) = true)
    (ex_CC : PySem.W.subIn K (.ref CC) (.type "BaseException") = some true)
    (ty_CC : PySem.W.typeIn K (.ref CC) = some (.type "type"))
    (hd_CC : PySem.W.hasDictIn K CC = true)
    (te_CC : PySem.W.subIn K (.ref CC) (.ref CC) = some true)
    (l_CC : K.lookup iC = some ⟨ocC, odC, .func (PySem.W.fnOf "__init__" "Contradictory.__init__" (PySem.ErrC.iA p1C p2C) (PySem.ErrC.iB q1C q2C q3C q4C) PySem.ErrC.iS .none .none dcC pmC anC cdC ctC), slC⟩)
    (c_CC : PySem.W.codeIn K cdC "Contradictory.__init__" = true)
    (sv : PySem.W.subIn K (.ref CS) (.ref CV) = some false)
    (cv : PySem.W.subIn K (.ref CC) (.ref CV) = some false)
    (cs : PySem.W.subIn K (.ref CC) (.ref CS) = some false) :
    ∃ fd : FuncData, (∀ (s : Shared) (v : Value), BindsTo s fd ⟨[v], []⟩ [("_law_script", v)]) ∧ ∀ base : Heap, K.In base → base.Ns mainGlobals mg → FnOk l.prog w K mg base CX0 9 fa fd ["_law_script"] (spLaw K) := by
  have e := hfa.symm.trans (PySem.W.mg_of X G a_law)
  cases e
  have F_is_whole := fun_mk (st := s_is_whole) l_is_whole c_is_whole k_is_whole
  have b_is_whole := F_is_whole.binds (ps := ["value"]) fun _ _ _ _ _ _ us hl => match us, hl with | [_], _ => rfl
  have D_is_whole : Df K mg "is_whole" s_is_whole ["value"] _ _ := ⟨F_is_whole, b_is_whole, PySem.W.mg_of X G a_is_whole⟩
  have F_is_count := fun_mk (st := s_is_count) l_is_count c_is_count k_is_count
  have b_is_count := F_is_count.binds (ps := ["value"]) fun _ _ _ _ _ _ us hl => match us, hl with | [_], _ => rfl
  have D_is_count : Df K mg "is_count" s_is_count ["value"] _ _ := ⟨F_is_count, b_is_count, PySem.W.mg_of X G a_is_count⟩
  have F_is_limits := fun_mk (st := s_is_limits) l_is_limits c_is_limits k_is_limits
  have b_is_limits := F_is_limits.binds (ps := ["value"]) fun _ _ _ _ _ _ us hl => match us, hl with | [_], _ => rfl
  have D_is_limits : Df K mg "is_limits" s_is_limits ["value"] _ _ := ⟨F_is_limits, b_is_limits, PySem.W.mg_of X G a_is_limits⟩
  have F_is_most := fun_mk (st := s_is_most) l_is_most c_is_most k_is_most
  have b_is_most := F_is_most.binds (ps := ["value"]) fun _ _ _ _ _ _ us hl => match us, hl with | [_], _ => rfl
  have D_is_most : Df K mg "is_most" s_is_most ["value"] _ _ := ⟨F_is_most, b_is_most, PySem.W.mg_of X G a_is_most⟩
  have F_least_greatest := fun_mk (st := s_least_greatest) l_least_greatest c_least_greatest k_least_greatest
  have b_least_greatest := F_least_greatest.binds (ps := ["rows", "different", "most"]) fun _ _ _ _ _ _ us hl => match us, hl with | [_, _, _], _ => rfl
  have D_least_greatest : Df K mg "least_greatest" s_least_greatest ["rows", "different", "most"] _ _ := ⟨F_least_greatest, b_least_greatest, PySem.W.mg_of X G a_least_greatest⟩
  have F_possible_pairs := fun_mk (st := s_possible_pairs) l_possible_pairs c_possible_pairs k_possible_pairs
  have b_possible_pairs := F_possible_pairs.binds (ps := ["size", "rows", "different", "most"]) fun _ _ _ _ _ _ us hl => match us, hl with | [_, _, _, _], _ => rfl
  have D_possible_pairs : Df K mg "possible_pairs" s_possible_pairs ["size", "rows", "different", "most"] _ _ := ⟨F_possible_pairs, b_possible_pairs, PySem.W.mg_of X G a_possible_pairs⟩
  have F_law_numbers := fun_mk (st := s_law_numbers) l_law_numbers c_law_numbers k_law_numbers
  have b_law_numbers := F_law_numbers.binds (ps := ["_law_cell", "_law_salt", "_law_sizes"]) fun _ _ _ _ _ _ us hl => match us, hl with | [_, _, _], _ => rfl
  have D_law_numbers : Df K mg "_law_numbers" s_law_numbers ["_law_cell", "_law_salt", "_law_sizes"] _ _ := ⟨F_law_numbers, b_law_numbers, PySem.W.mg_of X G a_law_numbers⟩
  have F_law_draw := fun_mk (st := s_law_draw) l_law_draw c_law_draw k_law_draw
  have b_law_draw := F_law_draw.binds (ps := ["_law_state", "_law_many"]) fun _ _ _ _ _ _ us hl => match us, hl with | [_, _], _ => rfl
  have D_law_draw : Df K mg "_law_draw" s_law_draw ["_law_state", "_law_many"] _ _ := ⟨F_law_draw, b_law_draw, PySem.W.mg_of X G a_law_draw⟩
  have F_law_pool := fun_mk (st := s_law_pool) l_law_pool c_law_pool k_law_pool
  have b_law_pool := F_law_pool.binds (ps := ["_law_cell", "_law_salt", "_law_many"]) fun _ _ _ _ _ _ us hl => match us, hl with | [_, _, _], _ => rfl
  have D_law_pool : Df K mg "_law_pool" s_law_pool ["_law_cell", "_law_salt", "_law_many"] _ _ := ⟨F_law_pool, b_law_pool, PySem.W.mg_of X G a_law_pool⟩
  have F_law_splits := fun_mk (st := s_law_splits) l_law_splits c_law_splits k_law_splits
  have b_law_splits := F_law_splits.binds (ps := ["_law_total", "_law_many"]) fun _ _ _ _ _ _ us hl => match us, hl with | [_, _], _ => rfl
  have D_law_splits : Df K mg "_law_splits" s_law_splits ["_law_total", "_law_many"] _ _ := ⟨F_law_splits, b_law_splits, PySem.W.mg_of X G a_law_splits⟩
  have F_law_told := fun_mk (st := s_law_told) l_law_told c_law_told k_law_told
  have b_law_told := F_law_told.binds (ps := ["_law_heights"]) fun _ _ _ _ _ _ us hl => match us, hl with | [_], _ => rfl
  have D_law_told : Df K mg "_law_told" s_law_told ["_law_heights"] _ _ := ⟨F_law_told, b_law_told, PySem.W.mg_of X G a_law_told⟩
  have F_law_holds := fun_mk (st := s_law_holds) l_law_holds c_law_holds k_law_holds
  have b_law_holds := F_law_holds.binds (ps := ["_law_told_here", "_law_heights"]) fun _ _ _ _ _ _ us hl => match us, hl with | [_, _], _ => rfl
  have D_law_holds : Df K mg "_law_holds" s_law_holds ["_law_told_here", "_law_heights"] _ _ := ⟨F_law_holds, b_law_holds, PySem.W.mg_of X G a_law_holds⟩
  have F_law_heard := fun_mk (st := s_law_heard) l_law_heard c_law_heard k_law_heard
  have b_law_heard := F_law_heard.binds (ps := ["_law_size", "_law_rows", "_law_different", "_law_most"]) fun _ _ _ _ _ _ us hl => match us, hl with | [_, _, _, _], _ => rfl
  have D_law_heard : Df K mg "_law_heard" s_law_heard ["_law_size", "_law_rows", "_law_different", "_law_most"] _ _ := ⟨F_law_heard, b_law_heard, PySem.W.mg_of X G a_law_heard⟩
  have F_law_limits := fun_mk (st := s_law_limits) l_law_limits c_law_limits k_law_limits
  have b_law_limits := F_law_limits.binds (ps := ["_law_state"]) fun _ _ _ _ _ _ us hl => match us, hl with | [_], _ => rfl
  have D_law_limits : Df K mg "_law_limits" s_law_limits ["_law_state"] _ _ := ⟨F_law_limits, b_law_limits, PySem.W.mg_of X G a_law_limits⟩
  have F_law := fun_mk (st := s_law) l_law c_law k_law
  have b_law := F_law.binds (ps := ["_law_script"]) fun _ _ _ _ _ _ us hl => match us, hl with | [_], _ => rfl
  have F_p_rows := fun_mk (st := s_Spread_rows) l_p_rows c_p_rows k_p_rows
  have b_p_rows := F_p_rows.binds (ps := ["self"]) fun _ _ _ _ _ _ us hl => match us, hl with | [_], _ => rfl
  have P_rows : Pf K CT "rows" "Spread.rows" s_Spread_rows _ _ _ := ⟨F_p_rows, b_p_rows, ⟨a_p_rows, g_p_rows, t_p_rows, ⟨_, r1_p_rows⟩⟩⟩
  have F_p_different := fun_mk (st := s_Spread_different) l_p_different c_p_different k_p_different
  have b_p_different := F_p_different.binds (ps := ["self"]) fun _ _ _ _ _ _ us hl => match us, hl with | [_], _ => rfl
  have P_different : Pf K CT "different" "Spread.different" s_Spread_different _ _ _ := ⟨F_p_different, b_p_different, ⟨a_p_different, g_p_different, t_p_different, ⟨_, r1_p_different⟩⟩⟩
  have F_p_most := fun_mk (st := s_Spread_most) l_p_most c_p_most k_p_most
  have b_p_most := F_p_most.binds (ps := ["self"]) fun _ _ _ _ _ _ us hl => match us, hl with | [_], _ => rfl
  have P_most : Pf K CT "most" "Spread.most" s_Spread_most _ _ _ := ⟨F_p_most, b_p_most, ⟨a_p_most, g_p_most, t_p_most, ⟨_, r1_p_most⟩⟩⟩
  have FI : FunD K "__init__" "Spread.__init__" (defArgs s_Spread_init) (defBody s_Spread_init) (defScope s_Spread_init) [.non] [] f_ini _ := ⟨⟨_, _, _, _, _, _, _, _, _, _, rfl, l_ini, c_ini, .inr ⟨by simp, TD, _, [.none], _, rfl, l_TD, rfl, .cons rfl .nil⟩, .inl rfl⟩, k_ini⟩
  obtain ⟨dsI, hvI, bI⟩ := FI.binds1 (ps := ["self", "size", "rows", "different", "most"]) 5 1 (by simp) rfl (fun T kV doc pm an cdv ct us its hus hits => match us, its, hus, hits with | [_, _, _, _, _], [_], _, _ => ⟨_, rfl, rfl⟩)
  have hvI' : Vals [] dsI := hvI
  cases hvI'
  have M_init : FD K "__init__" "Spread.__init__" s_Spread_init ["self", "size", "rows", "different", "most"] [.non] f_ini _ := ⟨FI, bI⟩
  have SK : SpK K mg CT f_ini := { cl := ⟨pgT, hdT, poT, saT⟩, n1 := nf0, n2 := nf1, n3 := nf2, n4 := nf3, gC := PySem.W.mg_of X G aT, mkc := ⟨mkT, a_ini, i_ini, kcT⟩ }
  have ES : PySem.ErrV.ErrTxt K mg "InvalidSpread" "InvalidSpread.__init__" CS iS := { gC := PySem.W.mg_of X G a_CS, cls := ⟨_, _, _, _, _, _, _, _, _, _, _, _, _, _, _, _, x_CS, tail_ex⟩, sa := sa_CS, ga := ga_CS, gg := gg_CS, noN := no_CS, iC := ic_CS, tC := tc_CS, kC := kc_CS, exC := ex_CS, tyC := ty_CS, hdC := hd_CS, te := PySem.W.exm_ref ex_CS hd_CS ty_CS te_CS, fn := ⟨_, _, _, _, _, _, _, _, _, _, _, _, _, _, l_CS, c_CS⟩ }
  have EV : PySem.ErrV.ErrTxt K mg "InvalidNumber" "InvalidNumber.__init__" CV iV := { gC := PySem.W.mg_of X G a_CV, cls := ⟨_, _, _, _, _, _, _, _, _, _, _, _, _, _, _, _, x_CV, tail_ve⟩, sa := sa_CV, ga := ga_CV, gg := gg_CV, noN := no_CV, iC := ic_CV, tC := tc_CV, kC := kc_CV, exC := ex_CV, tyC := ty_CV, hdC := hd_CV, te := PySem.W.exm_ref ex_CV hd_CV ty_CV te_CV, fn := ⟨_, _, _, _, _, _, _, _, _, _, _, _, _, _, l_CV, c_CV⟩ }
  have EC : PySem.ErrC.ErrTxt K mg "Contradictory" "Contradictory.__init__" CC iC := { gC := PySem.W.mg_of X G a_CC, cls := ⟨_, _, _, _, _, _, _, _, _, _, _, _, _, _, _, _, x_CC, tail_rt⟩, sa := sa_CC, ga := ga_CC, gg := gg_CC, noN := no_CC, iC := ic_CC, tC := tc_CC, kC := kc_CC, exC := ex_CC, tyC := ty_CC, hdC := hd_CC, te := PySem.W.exm_ref ex_CC hd_CC ty_CC te_CC, fn := ⟨_, _, _, _, _, _, _, _, _, _, _, _, _, _, l_CC, c_CC⟩ }
  have T : Txt mg tk := { n_isinstance := PySem.W.mg_none_of X G z_isinstance, n_int := PySem.W.mg_none_of X G z_int, n_bool := PySem.W.mg_none_of X G z_bool, n_tuple := PySem.W.mg_none_of X G z_tuple, n_len := PySem.W.mg_none_of X G z_len, n_range := PySem.W.mg_none_of X G z_range, n_enumerate := PySem.W.mg_none_of X G z_enumerate, n_max := PySem.W.mg_none_of X G z_max, n_min := PySem.W.mg_none_of X G z_min, n_sum := PySem.W.mg_none_of X G z_sum, n_all := PySem.W.mg_none_of X G z_all, n_zip := PySem.W.mg_none_of X G z_zip, n_list := PySem.W.mg_none_of X G z_list, c_MOST_HEIGHTS := PySem.W.mg_of X G z_MH }
  refine ⟨PySem.W.fnOf "law" "law" (defArgs s_law) (defBody s_law) (defScope s_law) .none kV_law dc_law pm_law an_law cd_law ct_law, fun s v => .of_eq rfl, fun base _ _ => ?_⟩
  have G1 := ok_whole (P := l.prog) (w := w) (base := base) (k := 0) T D_is_whole
  have G2 := ok_count (k := 0) D_is_whole G1 T D_is_count
  have G3 := ok_limits (k := 0) D_is_count G2 T D_is_limits
  have G4 := ok_most (k := 0) D_is_whole G1 T D_is_most
  have G5 := ok_lg (P := l.prog) (w := w) (base := base) (k := 0) T D_least_greatest
  have G6 := ok_pairs (k := 0) D_least_greatest G5 T D_possible_pairs
  have G7 := ok_init (k := 0) EV ES EC SK T D_is_whole G1 D_is_limits G3 D_is_most G4 D_possible_pairs G6 FI
  have p1 := ok_rows (P := l.prog) (w := w) (base := base) (k := 0) SK P_rows
  have p2 := ok_different (P := l.prog) (w := w) (base := base) (k := 0) SK P_different
  have p3 := ok_mostp (P := l.prog) (w := w) (base := base) (k := 0) SK P_most
  have g1 := ok_num (P := l.prog) (w := w) (base := base) (k := 0) T D_law_numbers
  have g2 := ok_draw (P := l.prog) (w := w) (base := base) (k := 0) T D_law_draw
  have g3 := ok_pool (k := 0) D_law_numbers g1 T D_law_pool
  have g4 := ok_splits (P := l.prog) (w := w) (base := base) (k := 0) T D_law_splits 4
  have g5 := ok_told (P := l.prog) (w := w) (base := base) (k := 0) T D_law_told
  have g6 := ok_holds (k := 0) T D_law_told g5 D_law_holds
  have g7 := ok_lim (k := 0) D_law_draw g2 T D_law_limits
  have g8 := ok_heard (k := 0) EV ES EC SK (PySem.W.exm_ref ex_CV hd_CV ty_CV sv) (PySem.W.exm_ref ex_CV hd_CV ty_CV cv) (PySem.W.exm_ref ex_CS hd_CS ty_CS cs) M_init G7 P_rows p1 P_different p2 P_most p3 D_law_heard
  exact ok_law (k := 0) T D_law_draw g2 D_law_pool g3 D_law_limits g7 D_law_splits g4 D_law_holds g6 D_law_heard g8 ⟨F_law, b_law, hfa⟩
theorem walk {l : PySem.W.OpenLaw} {q : Program} {loose : List Str} {XP : (Str → Option Value) → Heap → Prop} {YP : World → Heap → Prop} {d : DefRec} {K : Params → PySem.W.Frag} (hn : l.most = some 63) (hdf : d.params.defaults = [])
    (hY : ∀ (w : World) (h : Heap), YP w h → (K w.params).In h)
    (F : ∀ (w : World) (mg : Str → Option Value) (fa : Addr) (h : Heap), (K w.params).In h → h.Ns mainGlobals mg → mg d.name = some (.ref fa) →
      ∃ fd : FuncData, (∀ (s : Shared) (u : Value), BindsTo s fd ⟨[u], []⟩ [("_law_script", u)]) ∧ ∀ base : Heap, (K w.params).In base → base.Ns mainGlobals mg → FnOk l.prog w (K w.params) mg base CX0 9 fa fd ["_law_script"] (spLaw (K w.params))) :
    PySem.W.WalkO q loose XP YP l.row.toRowW d [] (fun f vs => PySem.call f vs) :=
  L2.walk_ofK (n := 63) (k := 9) (x := "_law_script") (CX := CX0) (sp := spLaw) hn (by decide) hdf ⟨rfl, by decide, by decide⟩ hY F (fun K H a ns hl _ hS => ⟨a, ns, rfl, hS, hl, fun _ => rfl⟩) fun _ _ _ _ z => z
end K20
open PySem PySem.W PyProof.Rows
set_option maxRecDepth 100000 in
set_option maxHeartbeats 0 in
theorem PySem.Challenge.cw_surecounts_k41_spreads_refused_holds : PySem.Challenge.rw_surecounts_k41_spreads_refused.Holds := by
  w_on; o_law; k_head; (case hw => w_witness2)
  k_fill
  refine K20.walk (l := PySem.Challenge.rw_surecounts_k41_spreads_refused) rfl rfl (fun w h Y => PySem.W.kIn_of Y) ?F
  case F =>
    intro w mg fa h KX G hmg
    refine' K20.all_mk KX G hmg ?aT ?z_isinstance ?z_int ?z_bool ?z_tuple ?z_len ?z_range ?z_enumerate ?z_max ?z_min ?z_sum ?z_all ?z_zip ?z_list ?z_MH ?a_is_whole ?l_is_whole ?c_is_whole ?k_is_whole ?a_is_count ?l_is_count ?c_is_count ?k_is_count ?a_is_limits ?l_is_limits ?c_is_limits ?k_is_limits ?a_is_most ?l_is_most ?c_is_most ?k_is_most ?a_least_greatest ?l_least_greatest ?c_least_greatest ?k_least_greatest ?a_possible_pairs ?l_possible_pairs ?c_possible_pairs ?k_possible_pairs ?a_law_numbers ?l_law_numbers ?c_law_numbers ?k_law_numbers ?a_law_draw ?l_law_draw ?c_law_draw ?k_law_draw ?a_law_pool ?l_law_pool ?c_law_pool ?k_law_pool ?a_law_splits ?l_law_splits ?c_law_splits ?k_law_splits ?a_law_told ?l_law_told ?c_law_told ?k_law_told ?a_law_holds ?l_law_holds ?c_law_holds ?k_law_holds ?a_law_heard ?l_law_heard ?c_law_heard ?k_law_heard ?a_law_limits ?l_law_limits ?c_law_limits ?k_law_limits ?a_law ?l_law ?c_law ?k_law ?a_p_rows ?r1_p_rows ?g_p_rows ?t_p_rows ?l_p_rows ?c_p_rows ?k_p_rows ?a_p_different ?r1_p_different ?g_p_different ?t_p_different ?l_p_different ?c_p_different ?k_p_different ?a_p_most ?r1_p_most ?g_p_most ?t_p_most ?l_p_most ?c_p_most ?k_p_most ?a_ini ?l_ini ?l_TD ?c_ini ?k_ini ?i_ini ?pgT ?hdT ?poT ?saT ?mkT ?kcT ?nf0 ?nf1 ?nf2 ?nf3 ?a_CS ?x_CS ?sa_CS ?ga_CS ?gg_CS ?no_CS ?ic_CS ?tc_CS ?kc_CS ?ex_CS ?ty_CS ?hd_CS ?te_CS ?l_CS ?c_CS ?a_CV ?x_CV ?sa_CV ?ga_CV ?gg_CV ?no_CV ?ic_CV ?tc_CV ?kc_CV ?ex_CV ?ty_CV ?hd_CV ?te_CV ?l_CV ?c_CV ?a_CC ?x_CC ?sa_CC ?ga_CC ?gg_CC ?no_CC ?ic_CC ?tc_CC ?kc_CC ?ex_CC ?ty_CC ?hd_CC ?te_CC ?l_CC ?c_CC ?sv ?cv ?cs
    (case aT => k_is)
    (case z_isinstance => k_is)
    (case z_int => k_is)
    (case z_bool => k_is)
    (case z_tuple => k_is)
    (case z_len => k_is)
    (case z_range => k_is)
    (case z_enumerate => k_is)
    (case z_max => k_is)
    (case z_min => k_is)
    (case z_sum => k_is)
    (case z_all => k_is)
    (case z_zip => k_is)
    (case z_list => k_is)
    (case z_MH => k_is)
    (case a_is_whole => k_is)
    (case l_is_whole => k_is)
    (case c_is_whole => k_is)
    (case k_is_whole => k_is)
    (case a_is_count => k_is)
    (case l_is_count => k_is)
    (case c_is_count => k_is)
    (case k_is_count => k_is)
    (case a_is_limits => k_is)
    (case l_is_limits => k_is)
    (case c_is_limits => k_is)
    (case k_is_limits => k_is)
    (case a_is_most => k_is)
    (case l_is_most => k_is)
    (case c_is_most => k_is)
    (case k_is_most => k_is)
    (case a_least_greatest => k_is)
    (case l_least_greatest => k_is)
    (case c_least_greatest => k_is)
    (case k_least_greatest => k_is)
    (case a_possible_pairs => k_is)
    (case l_possible_pairs => k_is)
    (case c_possible_pairs => k_is)
    (case k_possible_pairs => k_is)
    (case a_law_numbers => k_is)
    (case l_law_numbers => k_is)
    (case c_law_numbers => k_is)
    (case k_law_numbers => k_is)
    (case a_law_draw => k_is)
    (case l_law_draw => k_is)
    (case c_law_draw => k_is)
    (case k_law_draw => k_is)
    (case a_law_pool => k_is)
    (case l_law_pool => k_is)
    (case c_law_pool => k_is)
    (case k_law_pool => k_is)
    (case a_law_splits => k_is)
    (case l_law_splits => k_is)
    (case c_law_splits => k_is)
    (case k_law_splits => k_is)
    (case a_law_told => k_is)
    (case l_law_told => k_is)
    (case c_law_told => k_is)
    (case k_law_told => k_is)
    (case a_law_holds => k_is)
    (case l_law_holds => k_is)
    (case c_law_holds => k_is)
    (case k_law_holds => k_is)
    (case a_law_heard => k_is)
    (case l_law_heard => k_is)
    (case c_law_heard => k_is)
    (case k_law_heard => k_is)
    (case a_law_limits => k_is)
    (case l_law_limits => k_is)
    (case c_law_limits => k_is)
    (case k_law_limits => k_is)
    (case a_law => k_is)
    (case l_law => k_is)
    (case c_law => k_is)
    (case k_law => k_is)
    (case a_p_rows => k_is)
    (case r1_p_rows => k_is)
    (case g_p_rows => k_is)
    (case t_p_rows => k_is)
    (case l_p_rows => k_is)
    (case c_p_rows => k_is)
    (case k_p_rows => k_is)
    (case a_p_different => k_is)
    (case r1_p_different => k_is)
    (case g_p_different => k_is)
    (case t_p_different => k_is)
    (case l_p_different => k_is)
    (case c_p_different => k_is)
    (case k_p_different => k_is)
    (case a_p_most => k_is)
    (case r1_p_most => k_is)
    (case g_p_most => k_is)
    (case t_p_most => k_is)
    (case l_p_most => k_is)
    (case c_p_most => k_is)
    (case k_p_most => k_is)
    (case a_ini => k_is)
    (case l_ini => k_is)
    (case l_TD => k_is)
    (case c_ini => k_is)
    (case k_ini => k_is)
    (case i_ini => k_is)
    (case pgT => k_is)
    (case hdT => k_is)
    (case poT => k_is)
    (case saT => k_is)
    (case mkT => k_is)
    (case kcT => k_is)
    (case nf0 => k_is)
    (case nf1 => k_is)
    (case nf2 => k_is)
    (case nf3 => k_is)
    (case a_CS => k_is)
    (case x_CS => k_is)
    (case sa_CS => k_is)
    (case ga_CS => k_is)
    (case gg_CS => k_is)
    (case no_CS => k_is)
    (case ic_CS => k_is)
    (case tc_CS => k_is)
    (case kc_CS => k_is)
    (case ex_CS => k_is)
    (case ty_CS => k_is)
    (case hd_CS => k_is)
    (case te_CS => k_is)
    (case l_CS => k_is)
    (case c_CS => k_is)
    (case a_CV => k_is)
    (case x_CV => k_is)
    (case sa_CV => k_is)
    (case ga_CV => k_is)
    (case gg_CV => k_is)
    (case no_CV => k_is)
    (case ic_CV => k_is)
    (case tc_CV => k_is)
    (case kc_CV => k_is)
    (case ex_CV => k_is)
    (case ty_CV => k_is)
    (case hd_CV => k_is)
    (case te_CV => k_is)
    (case l_CV => k_is)
    (case c_CV => k_is)
    (case a_CC => k_is)
    (case x_CC => k_is)
    (case sa_CC => k_is)
    (case ga_CC => k_is)
    (case gg_CC => k_is)
    (case no_CC => k_is)
    (case ic_CC => k_is)
    (case tc_CC => k_is)
    (case kc_CC => k_is)
    (case ex_CC => k_is)
    (case ty_CC => k_is)
    (case hd_CC => k_is)
    (case te_CC => k_is)
    (case l_CC => k_is)
    (case c_CC => k_is)
    (case sv => k_is)
    (case cv => k_is)
    (case cs => k_is)
