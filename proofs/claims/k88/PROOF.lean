import PyProof.Rows.All
import Wide.All
import OpenK.AllK
import Wide.FinOn
import PyProof.EqAt
import PyProof.EqKinds
import PyProof.TupleCall
import PySem.Challenge.RW_surecounts_k88_whole_lives_of_buckets
import HandS.ForMost
import HandS.Exc
import HandS.ExcOwn
import HandS.TryOnly
import HandS.WordsExc
import HandS.Zip
import HandS.Conv
import HandS.IsInst
import HandS.Deep
import HandS.TupAny
import HandS.Strs
import HandS.SetFor
import HandS.Evl
import HandS.Style
import HandS.Defaults
import HandS.Property
import HandS.CallSlots
import HandS.TupMul
import KE.KTupSum
import PyProof.InstNe
import KE.KOpsOwn
import HandS.OwnEq
import HandS.Star
import PyProof.NeKinds
import HandS.SortKw
import KE.DataMinMax
import KE.GoesEnum
import KE.GoesMore
import KE.KExcInit
import HandS.ExcIs
import HandS.GenBody
import HandS.GenYield
import PyProof.ForAny
import HandS.GenList
import PyProof.Rows.FactsN_divmod
set_option Elab.async false
set_option linter.all false
set_option maxRecDepth 100000
set_option maxHeartbeats 2100000
/-! several clauses «except X as n», one after the other -/
namespace TA5
open PySem L2 PySem.Spec PyProof.Rows
abbrev TSx := Addr → Value → Option Addr → TS
def wAll (K : PySem.W.Frag) (Wout : WX) (D : Ends) : List (Value × Nat × TSx) → WX
  | [] => Wout
  | (c, i, ts) :: r => fun cls d σ H => ∃ b, PySem.W.exmOne K cls c = some b ∧
    (b = true → ∀ a, H a = none → ts a cls d { nx := fun σ' H' => D.nx (σ'.set i none) H', rt := D.rt, bk := fun σ' H' => D.bk (σ'.set i none) H', ct := fun σ' H' => D.ct (σ'.set i none) H' } (σ.set i (some (.ref a))) H) ∧ (b = false → wAll K Wout D r cls d σ H)
inductive Hds (X : Cx) : List ExceptHandler → List (Value × Nat × TSx) → Prop
  | nil : Hds X [] []
  | cons {x n : Str} {i : Nat} {c : Value} {ts : TSx} {b₀ : Stmt} {suite : List Stmt} {np pos' : Pos} {hds : List ExceptHandler} {l : List (Value × Nat × TSx)} (hi : X.N[i]? = some n) (hln : X.env.kindOf n = some .local) (hc : Names X x c)
      (hsu : ∀ (a : Addr) (oe : Obj) (cls : Value) (d : Option Addr) (pn : List (Addr × Obj)), Zc cls d oe → (∃ vs, oe.data = .fields vs) → PSs (X.suite a ((a, oe) :: pn)) (b₀ :: suite) (ts a cls d)) (r : Hds X hds l) :
      Hds X (.ExceptHandler (some (.Name x np)) (some n) (b₀ :: suite) pos' :: hds) ((c, i, ts) :: l)
section
variable {X : Cx} {body : List Stmt} {h₀ : ExceptHandler} {hds : List ExceptHandler} {l : List (Value × Nat × TSx)} {pos : Pos} {tb : WX → TS} {Wout : WX}
theorem ps_try_all (hs : X.stack = X.env :: X.outer) (hf : X.env.frame = some X.env.locals) (hN : X.N.Nodup) (tk : Takes X Wout)
    (hb : ∀ (W : WX) (pn : List (Addr × Obj)) (xe : Value → Shared → Prop), Takes (X.tr pn xe) W → PassesOwn (model X.prog X.w) X.A X.env xe → PSs (X.tr pn xe) body (tb W))
    (hh : Hds X (h₀ :: hds) l) : PS X (.Try body (h₀ :: hds) [] [] pos) (fun D σ H => tb (wAll X.K Wout D l) D σ H) := by
  refine ⟨fun pins s σ H D I h => ?_⟩
  have ok := I.ok; have hfr : X.A.frames = some (X.env :: X.outer) := by rw [I.ok.frames, hs]
  refine wpAny_Try_except ?_
  refine wpAny_mono ((hb (wAll X.K Wout D l) (X.pn ++ pins) (fun e s₁ => wpAny (model X.prog X.w) X.A (noteFrame e X.env) (fun _ s₂ => wpAny (model X.prog X.w) X.A (setFlight e none) (fun _ s₃ =>
    wpAny (model X.prog X.w) X.A (handleBy e X.env (h₀ :: hds)) (SP X pins D) X.xe s₃) X.xe s₂) X.xe s₁) (fun u s' xx => ?_) PassesOwn.looking).run [] s σ H D (I.toTry _) h) (fun f s1 hsp => ?_) (fun e s1 he => he)
  · obtain ⟨a, B, sI, pins', σ', H', cls, d, rfl, J', nb, up, sky, na, os, ag, w⟩ := xx
    have J : Inv X pins σ' H' sI := J'.ofTry ok; have sky' : Sky B (X.env :: X.outer) a (Zc cls d) X.env.locals s'.heap := by rw [← hs]; exact sky
    show wpAny (model X.prog X.w) X.A (noteFrame (.ref a) X.env) _ _ _
    refine Sky.land Zc.steady hfr hf sky' fun h3 fl3 up3 => ?_
    have J3 : Inv X pins σ' H' { s' with heap := h3 } := J.landed nb fl3.1 (up.trans up3) os ag; obtain ⟨oe3, vs3, he3, hz3, hd3⟩ := fl3.there
    have notFr : ∀ {hq : Heap} {oq : Obj} {vq : Array Value}, hq.FunFrames B (X.env :: X.outer) → hq.get? a = some oq → oq.data = .fields vq → a ∉ frs (X.env :: X.outer) := fun {hq oq vq} ff e dd hm => by
      obtain ⟨_, o', e', hnf⟩ := ff.mem hm; rw [e] at e'; cases e'
      exact hnf _ dd
    have nfr := notFr fl3.2.2.1 he3 hd3
    have nL : a ≠ X.env.locals := fun z => nfr (List.mem_filterMap.mpr ⟨X.env, List.mem_cons_self, by rw [hf, z]⟩); have nF : a ∉ X.fs := fun hm => by
      obtain ⟨e, he, q⟩ := List.mem_filterMap.mp hm; exact nfr (List.mem_filterMap.mpr ⟨e, List.mem_cons_of_mem _ he, q⟩)
    have S3 := J3.suite he3 hd3 na nL nF
    have go : ∀ {hds' : List ExceptHandler} {l' : List (Value × Nat × TSx)}, Hds X hds' l' → wAll X.K Wout D l' cls d σ' H' → wpAny (model X.prog X.w) X.A (handleBy (.ref a) X.env hds') (SP X pins D) X.xe { s' with heap := h3 } := by
      intro hds' l' hk
      induction hk with
      | nil =>
        intro w
        refine wpAny_handleBy_nil ?_
        obtain ⟨k1, k2, k3, oe, vs, T, oT, ts', he, hz, hd, h1, hr⟩ := id fl3
        unfold PySem.passOn
        refine wpAny_bind (wpAny_field he hd h1 ?_); rw [if_neg (show ¬ ((Value.ref T == Value.none) = true) from by simp)]
        have fin : wpAny (model X.prog X.w) X.A (setFlight (.ref a) X.env.frame) (fun _ s4 => wpAny (model X.prog X.w) X.A (throw (.ref a) : Sem Flow) (SP X pins D) X.xe s4) X.xe { s' with heap := h3 } := by
          rw [hf]
          refine HandSPX.setFlight_upZ fl3 fun h4 hh4 up4 => wpAny_throw (tk _ _ ?_)
          exact ⟨a, B, sI, pins, σ', H', cls, d, rfl, J, nb, (up.trans up3).trans up4, .inr (.inr (by rw [hs]; exact hh4)), na, os, ag, w⟩
        first
          | exact wpAny_bind (wpAny_pure (wpAny_bind fin))
          | exact wpAny_bind fin
      | @cons x n i c ts b₀ suite np pos' hds2 l2 hi hln hc hsu r ih =>
        intro w
        obtain ⟨b, hb1, hyes, hno⟩ := w
        refine wpAny_handleBy_cons (codeAny_handlers_test ?_) (by intro q; cases q)
        have LT : PySem.W.Looks (model X.prog X.w) h3 (typeOf (.ref a)) cls := fun A Q E s k q => wpAny_typeOf_ref (k _ _ he3) (by rw [hz3.1]; exact q)
        have LM := PySem.W.exm_one (M := model X.prog X.w) (J3.kIn) LT hb1
        have test : ∀ {Q : Value → Shared → Prop} {E : Value → Shared → Prop}, Q c { s' with heap := h3 } → wpAny (model X.prog X.w) (X.A.mark (some (.ref a))) (eval (.Name x np) X.env) Q E { s' with heap := h3 } := fun {Q E} q => by
          obtain ⟨hg, hdbg, hm | ⟨hm, hv, hnn⟩⟩ := hc
          · exact ld_glob (X := X.suite a ((a, oe3) :: (X.pn ++ pins))) S3 hg hm q hdbg
          · exact ld_blt (X := X.suite a ((a, oe3) :: (X.pn ++ pins))) S3 hg hm hv q hnn hdbg
        refine test (LM.here ?_)
        cases b with
        | true =>
          refine codeAny_handlers_suite_as ?_
          refine HandSPX.lands_againZ fl3 fun h4 fl4 up4 => ?_
          have J4 : Inv X pins σ' H' { s' with heap := h4 } := J.landed nb fl4.1 ((up.trans up3).trans up4) os ag
          obtain ⟨oe4, vs4, he4, hz4, hd4⟩ := fl4.there
          have S4 := J4.suite he4 hd4 na nL nF
          refine store_ok (X := X.suite a ((a, oe4) :: (X.pn ++ pins))) (v := .ref a) S4 hN hi (.inl hln) rfl (fun s5 S5 => ?_) (.inr hln)
          refine wpAny_mono ((hsu a oe4 cls d (X.pn ++ pins) hz4 ⟨_, hd4⟩).run [] s5 _ H' _ S5 (hyes rfl a na)) (fun f s6 hsp => ?_) (fun _ _ z => False.elim z)
          have end_ : ∀ {σ6 : L2.St} {H6 : Hp} {Q : Shared → Prop}, Inv (X.suite a ((a, oe4) :: (X.pn ++ pins))) [] σ6 H6 s6 → (∀ s7, Inv X pins (σ6.set i none) H6 s7 → Q s7) →
              wpAny (model X.prog X.w) X.A (do bindName X.env n .none; unbindBehindTheSuite X.env n pos') (fun _ s7 => Q s7) X.xe s6 := fun {σ6 H6 Q} S6 hq => gone_ok (S6.unsuite ok) hN hi hln hq
          cases f with
          | next => obtain ⟨σ6, H6, S6, q6⟩ := hsp; exact end_ S6 fun s7 J7 => ⟨_, _, J7, q6⟩
          | brk => obtain ⟨σ6, H6, S6, q6⟩ := hsp; exact end_ S6 fun s7 J7 => ⟨_, _, J7, q6⟩
          | cont => obtain ⟨σ6, H6, S6, q6⟩ := hsp; exact end_ S6 fun s7 J7 => ⟨_, _, J7, q6⟩
          | ret u => obtain ⟨v6, σ6, H6, S6, r6, q6⟩ := hsp; exact end_ S6 fun s7 J7 => ⟨_, _, _, J7, r6, q6⟩
        | false =>
          show wpAny _ X.A (handleBy (.ref a) X.env hds2) _ _ _
          exact ih (hno rfl)
    exact go hh w
  · cases f with
    | next => obtain ⟨σ', H', J', q⟩ := hsp; exact wpAny_execs_nil ⟨σ', H', J'.ofTry ok, q⟩
    | brk => obtain ⟨σ', H', J', q⟩ := hsp; exact ⟨σ', H', J'.ofTry ok, q⟩
    | cont => obtain ⟨σ', H', J', q⟩ := hsp; exact ⟨σ', H', J'.ofTry ok, q⟩
    | ret u => obtain ⟨v, σ', H', J', r, q⟩ := hsp; exact ⟨v, σ', H', J'.ofTry ok, r, q⟩
end
end TA5
/-! C(e, ..) where __init__ may raise; sum and max of a tuple of ints -/
namespace TA5
open PySem L2 PySem.Spec PyProof.Rows
section
variable {X : Cx} {CX : CXT} {k : Nat} {f C : Addr} {fd : FuncData} {ps : List Str} {sp : Sp} {dvs : List V} {ds : List Value} {E : L2.St → XK} {x : Str} {p pos : Pos} {e : Expr} {es : List Expr} {t : TA}
def tMakeS (C : Addr) (sp : Sp) (dvs : List V) (E : L2.St → XK) (t : TA) : TE := fun σ H Q => t σ H fun vs H1 => ∀ x dx, H1 x = none → H1 dx = none → dx ≠ x → sp (.ref x :: (vs ++ dvs)) (upd (upd H1 dx (.own x)) x (.ins C dx [])) (fun v H2 => v = .non ∧ Q (.ref x) H2) (E σ)
theorem run_makeS {pins : List (Addr × Obj)} {σ : L2.St} {H : Hp} {s : Shared} {Q : VK} {us : List Value} {vs : List V} (M : Mk X.K C f) (F : FnOk X.prog X.w X.K X.mg X.base CX k f fd ps sp) (hr : Room (k + 1) X.A) (hb : Binds X.K fd ps ds) (hd : Vals dvs ds)
    (hx : PassesAt CX X σ (E σ)) (I : Inv X pins σ H s) (r : Vals vs us)
    (h : ∀ x dx, H x = none → H dx = none → dx ≠ x → sp (.ref x :: (vs ++ dvs)) (upd (upd H dx (.own x)) x (.ins C dx [])) (fun v H2 => v = .non ∧ Q (.ref x) H2) (E σ)) :
    wpAny (model X.prog X.w) X.A (call (.ref C) us) (EP X pins σ Q) X.xe s := by
  have hq := h (s.heap.objs.size + 1) s.heap.objs.size (I.hok.fresh (Nat.le_succ _)) (I.hok.fresh (Nat.le_refl _)) (Nat.ne_of_lt (Nat.lt_succ_self _))
  have I2 := Inv.made (C := C) I
  have r2 : Vals (V.ref (s.heap.objs.size + 1) :: (vs ++ dvs)) (Value.ref (s.heap.objs.size + 1) :: (us ++ ds)) := .cons rfl (r.append hd)
  have hl : (Value.ref (s.heap.objs.size + 1) :: us ++ ds).length = ps.length := by
    have e := r2.length
    rw [F.len _ _ _ _ hq] at e
    exact e.symm
  refine wpAny_call (make_map (f := f) I.kIn M.makes M.init (beq_iff_eq.mp M.fn) (codeAny_mono (F.run _ X.stack _ _ ⟨Value.ref (s.heap.objs.size + 1) :: us, []⟩ (Value.ref (s.heap.objs.size + 1) :: (us ++ ds)) _ _ (E σ) (hr.make C us [])
    (I2.env0.make C us []) (hb _ (Value.ref (s.heap.objs.size + 1) :: us) I2.kIn hl) r2 hq) fun r s' hq' => ?_))
  cases r with
  | error e => exact hx pins _ _ e s' I2 hq'
  | ok fl =>
    cases fl with
    | ret u =>
      obtain ⟨v, H', I3, rv, ev, q3⟩ := I2.after hq'
      subst ev
      exact ⟨rv, ⟨V.ref (s.heap.objs.size + 1), H', I3, rfl, q3⟩⟩
    | next => exact False.elim hq'
    | brk => exact False.elim hq'
    | cont => exact False.elim hq'
theorem pe_makeS (M : Mk X.K C f) (F : FnOk X.prog X.w X.K X.mg X.base CX k f fd ps sp) (hr : Room (k + 1) X.A) (hg : Gl X x) (hm : X.mg x = some (.ref C)) (hb : Binds X.K fd ps ds) (hd : Vals dvs ds) (hx : ∀ σ, PassesAt CX X σ (E σ))
    (ha : PA X (e :: es) t) (hdb : (x == ("__debug__" : Str)) = false := by decide) (he : starEach (e :: es) X.env = (false, eval e X.env) :: starEach es X.env := by rfl) (hpl : (backTo pos (starEach es X.env)).any (·.1) = false := by rfl) :
    PE X (.Call (.Name x p) (e :: es) [] pos) (tMakeS C sp dvs E t) := by
  refine ⟨fun pins s σ H Q I h => ?_⟩
  refine wpAny_Call_Name_kw (ld_glob I hg hm ?_ hdb)
  refine PySem.W.callWith_K (h₀ := X.base) I.ok.mod.kin M.kp (thn (ha.run pos pins s σ H _ I h) fun us s1 ⟨vs, H1, I1, r, q⟩ => ⟨I1.kIn, ?_⟩) he hpl
  exact run_makeS M F hr hb hd (hx σ) I1 r q
end
section
variable {X : Cx}
def rSumT (K : PySem.W.Frag) : List V → Hp → VK → Prop := fun vs H Q => ∃ (a : Addr) (ns : List Int), vs = [V.ref a] ∧ SqT K H a (ns.map V.int) ∧ Q (.int ns.sum) H
theorem cr_sumT (hc : X.calm = true) : CallR X (.builtin "sum") (rSumT X.K) := by
  intro pins s σ H vs us Q I r h
  obtain ⟨a, ns, rfl, hs, q⟩ := h
  obtain ⟨its, rv, pt, hz⟩ := I.tuple hs
  rw [Vals.ref1 r]
  have hi := rv.ints
  have hl : s.heap.IsTuple a its.toArray := pt
  obtain ⟨xs, e⟩ := hi.allInts.items
  have hn : numsOf (intItems xs).toList = ns := by rw [← e]; exact hi.numsOf
  rw [nums_intItems] at hn
  rw [e] at hl
  refine PySem.W.ktm_sumG (I.ok.hd hc) hl fun h' tk t' hk => ?_
  rw [preSum_eq, List.take_of_length_le (by simp), hn]
  exact ⟨.int _, H, I.kept hk, ⟨_, rfl⟩, q⟩
theorem max_intTup {prog : Program} {w : World} {A : Around} {E : Value → Shared → Prop} {s : Shared} {t : Addr} {xs : Array (Int × Tok)} {Q : Value → Shared → Prop} (hh : A.handled = none) (ht : s.heap.IsTuple t (intItems xs)) (hsz : 0 < xs.size)
    (h : ∀ v h' tk, (intItems xs)[argBest (fun i j => decide (numAt xs i > numAt xs j)) (xs.size - 1)]? = some v → (∀ b o, s.heap.get? b = some o → h'.get? b = some o) → Q v { s with heap := h', toks := tk }) :
    wpAny (model prog w) A (call (.builtin "max") [.ref t]) Q E s := by
  obtain ⟨o, ho, hc, n, hd⟩ := id ht
  have hne : t ≠ s.heap.objs.size := Nat.ne_of_lt (Heap.lt_size ho)
  refine call_max_walk (wpAny_pyIter_tuple ht ?_)
  refine ⟨_, [_, t], [_], _, _, _, _, rfl, Walks.tuple (A := A.in1) hh _ t hne (intItems xs), ⟨⟨_, Heap.get?_push_size _ rfl, rfl, rfl⟩, ht.at fun o e => Heap.get?_push_of_some _ e⟩, fun b hb => ?_, by simpa [intItems] using hsz, CmpOf.ints_gt (numAt xs) (fun _ _ => intItems_at), fun v h' tk hP hk => ?_⟩
  · rcases List.mem_cons.mp hb with rfl | hb
    · exact Heap.lt_size (Heap.get?_push_size _ rfl)
    · obtain rfl := List.mem_singleton.mp hb
      exact Heap.lt_size (Heap.get?_push_of_some _ ho)
  · exact h v h' tk (by simpa [intItems] using hP) fun b o e => hk b o (fun hb => absurd (Heap.lt_size e) ((List.mem_singleton.mp hb) ▸ Nat.lt_irrefl _)) (Heap.get?_push_of_some _ e)
def rMaxT (K : PySem.W.Frag) : List V → Hp → VK → Prop := fun vs H Q => ∃ (a : Addr) (ns : List Int), vs = [V.ref a] ∧ SqT K H a (ns.map V.int) ∧ 0 < ns.length ∧ ∀ m, m ∈ ns → (∀ y, y ∈ ns → y ≤ m) → Q (.int m) H
theorem cr_maxT (hc : X.calm = true) : CallR X (.builtin "max") (rMaxT X.K) := by
  intro pins s σ H vs us Q I r h
  obtain ⟨a, ns, rfl, hs, hne, q⟩ := h
  obtain ⟨its, rv, pt, hz⟩ := I.tuple hs
  rw [Vals.ref1 r]
  have hi := rv.ints
  have hl : s.heap.IsTuple a its.toArray := pt
  obtain ⟨xs, e⟩ := hi.allInts.items
  have hn : numsOf (intItems xs).toList = ns := by rw [← e]; exact hi.numsOf
  rw [nums_intItems] at hn
  subst hn
  rw [e] at hl
  have hsz : 0 < xs.size := by simpa using hne
  refine max_intTup (I.ok.hd hc) hl hsz fun v h' tk hv hk => ?_
  obtain ⟨t, rfl⟩ := intItems_at hv
  obtain ⟨h1, h2⟩ := argBest_gt (numAt xs) (xs.size - 1)
  refine ⟨.int _, H, I.kept hk, ⟨_, rfl⟩, q _ ?_ fun a ha => ?_⟩
  · rw [numAt_eq]; exact PySem.getD_mem (by rw [List.length_map, Array.length_toList]; omega)
  · obtain ⟨j, hj, rfl⟩ := mem_getD ha
    rw [List.length_map, Array.length_toList] at hj
    rw [← numAt_eq]; exact h2 j (by omega)
end
end TA5
namespace Ow
open PySem L2 PySem.Spec PyProof.Rows

theorem notImp {z : V} {w : Value} {Q : Value → Shared → Prop} {s : Shared} (r : RelV z w) (h : Q w s) : PySem.W.CmpBack Q w s := by
  cases z with
  | non => cases (show w = Value.none from r); exact h
  | bl b => cases (show w = Value.bool b from r); exact h
  | int i => obtain ⟨t, e⟩ := (show ∃ t, w = Value.int i t from r); cases e; exact h
  | str x => obtain ⟨t, e⟩ := (show ∃ t, w = Value.str x t from r); cases e; exact h
  | byt b => obtain ⟨t, e⟩ := (show ∃ t, w = Value.bytes b t from r); cases e; exact h
  | flt b => obtain ⟨t, e⟩ := (show ∃ t, w = Value.float b t from r); cases e; exact h
  | ref a => cases (show w = Value.ref a from r); exact h
  | ty n => cases (show w = Value.type n from r); exact h

section
variable {X : Cx} {CX : CXT} {n : Nat} {C f : Addr} {fd : FuncData} {ps : List Str} {sp : Sp} {E : XK}
/-- a def is called by the machine with values that are known -/
theorem own_call {pins : List (Addr × Obj)} {σ : L2.St} {H : Hp} {s : Shared} {vs : List V} {us : List Value} {Q : VK} {R : Value → Shared → Prop} (F : FnOk X.prog X.w X.K X.mg X.base CX n f fd ps sp) (hb : Binds X.K fd ps []) (hr : Room n X.A) (hx : Passes CX X E)
    (I : Inv X pins σ H s) (r : Vals vs us) (h : sp vs H Q E) (hR : ∀ z w H' s', Inv X pins σ H' s' → RelV z w → Q z H' → R w s') :
    wpAny (model X.prog X.w) X.A (call (.ref f) us) R X.xe s := by
  have hl := F.len _ _ _ _ h
  refine wpAny_call (codeAny_mono (F.run X.A X.stack s H ⟨us, []⟩ us vs Q E hr I.env0 (by
    have := hb s us I.kIn (by simpa [r.length] using hl)
    simpa using this) r h) fun r s' hq => ?_)
  cases r with
  | error er => exact hx pins σ H s er s' I hq
  | ok fl =>
    cases fl with
    | ret w =>
      obtain ⟨z, H', I', rz, q⟩ := I.after hq
      exact hR z w H' s' I' rz q
    | next => exact False.elim hq
    | brk => exact False.elim hq
    | cont => exact False.elim hq

/-- x op y: two instances of the class at C, the class's own def -/
def rOwnB (C : Addr) (sp : Sp) (E : XK) : R2 := fun x y H Q => ∃ a b dx dy fs gs, x = .ref a ∧ y = .ref b ∧ H a = some (.ins C dx fs) ∧ H b = some (.ins C dy gs) ∧ sp [x, y] H Q E
theorem op_own {op : Operator} (F : FnOk X.prog X.w X.K X.mg X.base CX n f fd ps sp) (hc : PySem.W.selfFirst X.K C = true) (hs : PySem.W.findIn X.K (.ref C) (PySem.dunder op.info.2) = some (some (.ref f))) (hf : PySem.W.isFn X.K (.ref f) = true)
    (hb : Binds X.K fd ps []) (hr : Room n X.A) (hx : Passes CX X E) : OpR X (binaryOp op) (rOwnB C sp E) := by
  intro pins s σ H x y v u Q I rx ry hq; obtain ⟨a, b, dx, dy, fs, gs, rfl, rfl, ha, hb', q⟩ := hq
  cases rx
  cases ry
  obtain ⟨mA, J0, _⟩ := ins_get I.hok ha; obtain ⟨mB, J1, _⟩ := ins_get I.hok hb'
  obtain ⟨od, J, _⟩ := J0.look; obtain ⟨od', J', _⟩ := J1.look
  obtain ⟨m, hF⟩ := I.fr
  refine PySem.W.binop_K hF I.ok.mod.kin J J'.type hc hs hf ?_
  exact own_call (vs := [.ref a, .ref b]) F hb hr hx I (.cons rfl (.cons rfl .nil)) q fun z w H' s' I' rz qz => notImp rz ⟨z, H', I', rz, qz⟩

/-- x op k, k an int -/
def rOwnI (C : Addr) (sp : Sp) (E : XK) : R2 := fun x y H Q => ∃ a dx fs i, x = .ref a ∧ y = .int i ∧ H a = some (.ins C dx fs) ∧ sp [x, y] H Q E
theorem op_ownI {op : Operator} {fo ro rc : Option Value} (F : FnOk X.prog X.w X.K X.mg X.base CX n f fd ps sp) (hc : PySem.W.selfFirst X.K C = true) (hs : PySem.W.findIn X.K (.ref C) (PySem.dunder op.info.2) = some (some (.ref f))) (hf : PySem.W.isFn X.K (.ref f) = true)
    (hrr : PySem.W.findIn X.K (.ref C) (PySem.dunderR op.info.2) = some rc) (hp : rc = none ∨ ∃ g : Addr, rc = some (.ref g)) (h1 : PySem.W.findIn X.K (.type "int") (PySem.dunder op.info.2) = some fo) (h2 : PySem.W.findIn X.K (.type "int") (PySem.dunderR op.info.2) = some ro)
    (hsub : PySem.W.subIn X.K (.type "int") (.ref C) = some false)
    (hb : Binds X.K fd ps []) (hr : Room n X.A) (hx : Passes CX X E) : OpR X (binaryOp op) (rOwnI C sp E) := by
  intro pins s σ H x y v u Q I rx ry hq; obtain ⟨a, dx, fs, i, rfl, rfl, ha, q⟩ := hq
  cases rx
  obtain ⟨t, rfl⟩ := ry
  obtain ⟨mA, J0, _⟩ := ins_get I.hok ha; obtain ⟨od, J, _⟩ := J0.look
  obtain ⟨m, hF⟩ := I.fr
  refine PySem.W.ksp_binT (T := "int") hF I.ok.mod.kin J rfl hc hs hf hrr hp h1 h2 hsub ?_
  exact own_call (vs := [.ref a, .int i]) F hb hr hx I (.cons rfl (.cons ⟨_, rfl⟩ .nil)) q fun z w H' s' I' rz qz => notImp rz ⟨z, H', I', rz, qz⟩

/-- -x -/
def rOwnU (C : Addr) (sp : Sp) (E : XK) : V → Hp → VK → Prop := fun x H Q => ∃ a dx fs, x = .ref a ∧ H a = some (.ins C dx fs) ∧ sp [x] H Q E
theorem un_own (F : FnOk X.prog X.w X.K X.mg X.base CX n f fd ps sp) (hs : PySem.W.findIn X.K (.ref C) "__neg__" = some (some (.ref f))) (hf : PySem.W.isFn X.K (.ref f) = true)
    (hb : Binds X.K fd ps []) (hr : Room n X.A) (hx : Passes CX X E) : UnR X (unaryOp .USub) (rOwnU C sp E) := by
  intro pins s σ H x v Q I rx hq
  obtain ⟨a, dx, fs, rfl, ha, q⟩ := hq
  cases rx
  obtain ⟨mA, J0, _⟩ := ins_get I.hok ha; obtain ⟨od, J, _⟩ := J0.look
  obtain ⟨m, hF⟩ := I.fr
  refine PySem.W.ksp_neg hF I.ok.mod.kin J hs hf ?_
  exact own_call (vs := [.ref a]) F hb hr hx I (.cons rfl .nil) q fun z w H' s' I' rz qz => ⟨z, H', I', rz, qz⟩

/-- x == y -/
theorem op_ownEq (F : FnOk X.prog X.w X.K X.mg X.base CX n f fd ps sp) (hs : PySem.W.findIn X.K (.ref C) "__eq__" = some (some (.ref f))) (hf : PySem.W.isFn X.K (.ref f) = true)
    (hb : Binds X.K fd ps []) (hr : Room n X.A) (hx : Passes CX X E) : OpR X (compareOp .Eq) (rOwnB C sp E) := by
  intro pins s σ H x y v u Q I rx ry hq; obtain ⟨a, b, dx, dy, fs, gs, rfl, rfl, ha, hb', q⟩ := hq
  cases rx
  cases ry
  obtain ⟨mA, J0, _⟩ := ins_get I.hok ha; obtain ⟨mB, J1, _⟩ := ins_get I.hok hb'
  obtain ⟨od, J, _⟩ := J0.look; obtain ⟨od', J', _⟩ := J1.look
  obtain ⟨m, hF⟩ := I.fr
  show wpAny (model X.prog X.w) X.A (richCompare .Eq _ _) (EP X pins σ Q) X.xe s
  refine PySem.W.cmp_K (op := .Eq) (tb := .ref C) hr.units0 hF I.ok.mod.kin J J'.type (by simp [PySem.W.notFirst]) hs hf ?_
  exact own_call (vs := [.ref a, .ref b]) F hb hr hx I (.cons rfl (.cons rfl .nil)) q fun z w H' s' I' rz qz => notImp rz ⟨z, H', I', rz, qz⟩
end
end Ow
namespace Ow
open PySem L2 PySem.Spec PyProof.Rows
/-- what is written of a class with its own == and no != -/
structure NeTxt (K : PySem.W.Frag) (C f : Addr) : Prop where
  ex : ∃ (nm q : Str) (N : Addr) (bs : List Value) (hdct : Bool) (sn : List Str) (sub : List Value) (ab : Bool) (col : Option Bool) (dd : Option Addr) (k0 k1 k2 k3 k5 : Option Value) (newId : String) (oc : Value) (od : Option Addr) (es : Array DictEntry) (n : Nat) (osl : Array (Option Value)) (fo : Obj),
    K.lookup C = some (excClassObj nm q C N bs [.type "object"] hdct sn sub ab col dd k0 k1 k2 k3 k5 newId) ∧ K.lookup N = some ⟨oc, od, .dict es n, osl⟩ ∧ StrKeys es ∧ nsFind es "__eq__" = some (.ref f) ∧ nsFind es "__ne__" = none ∧ K.lookup f = some fo ∧ fo.cls = .type "function"
section
variable {X : Cx} {CX : CXT} {n : Nat} {C f : Addr} {fd : FuncData} {ps : List Str} {sp : Sp} {E : XK}
theorem room_lt {A : Around} (hr : Room n A) : A.units + 1 < cLine := hu_of hr
/-- a def is called by the machine, one level in -/
theorem own_call1 {pins : List (Addr × Obj)} {σ : L2.St} {H : Hp} {s : Shared} {vs : List V} {us : List Value} {Q : VK} {R : Value → Shared → Prop} (F : FnOk X.prog X.w X.K X.mg X.base CX n f fd ps sp) (hb : Binds X.K fd ps []) (hr : Room (n + 1) X.A) (hx : Passes CX X E)
    (I : Inv X pins σ H s) (r : Vals vs us) (h : sp vs H Q E) (hR : ∀ z w H' s', Inv X pins σ H' s' → RelV z w → Q z H' → R w s') :
    wpAny (model X.prog X.w) X.A.in1 (call (.ref f) us) R X.xe s := by
  have hl := F.len _ _ _ _ h
  refine wpAny_call (codeAny_mono (F.run X.A.in1 X.stack s H ⟨us, []⟩ us vs Q E hr.in1 I.env0.in1 (by
    have := hb s us I.kIn (by simpa [r.length] using hl)
    simpa using this) r h) fun r s' hq => ?_)
  cases r with
  | error er => exact hx pins σ H s er s' I hq
  | ok fl =>
    cases fl with
    | ret w =>
      obtain ⟨z, H', I', rz, q⟩ := I.after hq
      exact hR z w H' s' I' rz q
    | next => exact False.elim hq
    | brk => exact False.elim hq
    | cont => exact False.elim hq
/-- x != y by the class's own == (which hands back a bool) -/
def rOwnNe (C : Addr) (sp : Sp) (E : XK) : R2 := fun x y H Q => ∃ a b dx dy fs gs, x = .ref a ∧ y = .ref b ∧ H a = some (.ins C dx fs) ∧ H b = some (.ins C dy gs) ∧ sp [x, y] H (fun v H1 => ∃ c, v = .bl c ∧ Q (.bl (!c)) H1) E
theorem op_ownNe (F : FnOk X.prog X.w X.K X.mg X.base CX n f fd ps sp) (N : NeTxt X.K C f) (hb : Binds X.K fd ps []) (hr : Room (n + 1) X.A) (hx : Passes CX X E) : OpR X (compareOp .NotEq) (rOwnNe C sp E) := by
  intro pins s σ H x y v u Q I rx ry hq; obtain ⟨a, b, dx, dy, fs, gs, rfl, rfl, ha, hb', q⟩ := hq
  cases rx
  cases ry
  obtain ⟨mA, J0, _⟩ := ins_get I.hok ha; obtain ⟨mB, J1, _⟩ := ins_get I.hok hb'
  obtain ⟨od, J, _⟩ := J0.look; obtain ⟨od', J', _⟩ := J1.look
  obtain ⟨nm, q1, Na, bs, hdct, sn, sub, ab, col, dd, k0, k1, k2, k3, k5, newId, oc, od2, es, n2, osl, fo, hC, hN, hk, he, hne, hf, hfc⟩ := N.ex
  have hin := I.kIn
  have own : s.heap.OwnEqNoNe a C f "object" [.type "object"] :=
    ⟨_, fo, nm, q1, Na, bs, hdct, sn, sub, ab, col, dd, k0, k1, k2, k3, k5, newId, fun x => nsFind es x, _, J.1, J.cls, hin _ _ hC, ⟨_, es, n2, hin _ _ hN, rfl, hk, fun _ => rfl⟩, he, hin _ _ hf, hfc, PySem.F.mro_object, PySem.F.cmp_object.eq.lookup, hne⟩
  have go := own_call1 (R := fun v s' => ∃ b, v = .bool b ∧ EP X pins σ Q (.bool (!b)) s') (vs := [.ref a, .ref b]) F hb hr hx I (.cons rfl (.cons rfl .nil)) q fun z w H' s' I' rz ⟨c, hz, qz⟩ => by
    subst hz
    exact ⟨c, rz, .bl (!c), H', I', rfl, qz⟩
  have jo := J'.1; have jc := J'.cls
  clear I J J' J0 J1 ha hb' q hin
  obtain ⟨hp, g, dr, tk, os⟩ := s
  exact compareOp_ne_ownEq PySem.F.cmp_object own jo jc (room_lt hr) go
end
end Ow
/-! own rules of the hand layer: v in x and v not in x by x's own __contains__; x == y by x's own ==, y of any other kind -/
namespace Ow
open PySem L2 PySem.Spec PyProof.Rows
section
variable {X : Cx} {CX : CXT} {n : Nat} {C f : Addr} {fd : FuncData} {ps : List Str} {sp : Sp} {E : XK}
theorem truthy_bl {M : Model} {A : Around} {c : Bool} {Q : Bool → Shared → Prop} {E : Value → Shared → Prop} {s : Shared} (h : Q c s) : wpAny M A (truthy (.bool c)) Q E s := wpAny_pure h
def rOwnIn (C : Addr) (sp : Sp) (E : XK) (neg : Bool) : R2 := fun x y H Q => ∃ a dx fs, y = .ref a ∧ H a = some (.ins C dx fs) ∧ sp [y, x] H (fun v H1 => ∃ c, v = .bl c ∧ Q (.bl (if neg = true then !c else c)) H1) E
theorem op_ownIn (F : FnOk X.prog X.w X.K X.mg X.base CX n f fd ps sp) (hs : PySem.W.findIn X.K (.ref C) "__contains__" = some (some (.ref f))) (hf : PySem.W.isFn X.K (.ref f) = true)
    (hb : Binds X.K fd ps []) (hr : Room n X.A) (hx : Passes CX X E) : OpR X (compareOp .In) (rOwnIn C sp E false) := by
  intro pins s σ H x y v u Q I rx ry hq; obtain ⟨a, dx, fs, rfl, ha, q⟩ := hq
  cases ry
  obtain ⟨mA, J0, _⟩ := ins_get I.hok ha; obtain ⟨od, J, _⟩ := J0.look
  obtain ⟨m, hF⟩ := I.fr
  refine PySem.W.in_K hF I.ok.mod.kin J hs hf ?_
  exact own_call (vs := [.ref a, x]) F hb hr hx I (.cons rfl (.cons rx .nil)) q fun z w H' s' I' rz ⟨c, hz, qz⟩ => by
    subst hz
    cases (show w = Value.bool c from rz)
    exact truthy_bl ⟨.bl c, H', I', rfl, qz⟩
theorem op_ownNotIn (F : FnOk X.prog X.w X.K X.mg X.base CX n f fd ps sp) (hs : PySem.W.findIn X.K (.ref C) "__contains__" = some (some (.ref f))) (hf : PySem.W.isFn X.K (.ref f) = true)
    (hb : Binds X.K fd ps []) (hr : Room n X.A) (hx : Passes CX X E) : OpR X (compareOp .NotIn) (rOwnIn C sp E true) := by
  intro pins s σ H x y v u Q I rx ry hq; obtain ⟨a, dx, fs, rfl, ha, q⟩ := hq
  cases ry
  obtain ⟨mA, J0, _⟩ := ins_get I.hok ha; obtain ⟨od, J, _⟩ := J0.look
  obtain ⟨m, hF⟩ := I.fr
  refine PySem.W.notIn_K hF I.ok.mod.kin J hs hf ?_
  exact own_call (vs := [.ref a, x]) F hb hr hx I (.cons rfl (.cons rx .nil)) q fun z w H' s' I' rz ⟨c, hz, qz⟩ => by
    subst hz
    cases (show w = Value.bool c from rz)
    exact truthy_bl ⟨.bl (!c), H', I', rfl, qz⟩
/-- what kind a thing is -/
inductive KindOf (K : PySem.W.Frag) (H : Hp) : V → Value → Prop where
  | non : KindOf K H .non (.type "NoneType")
  | bl (x : Bool) : KindOf K H (.bl x) (.type "bool")
  | int (i : Int) : KindOf K H (.int i) (.type "int")
  | str (x : Str) : KindOf K H (.str x) (.type "str")
  | lst {a : Addr} {xs : List V} (e : SqL K H a xs) : KindOf K H (.ref a) (.type "list")
  | tup {a : Addr} {xs : List V} (e : SqT K H a xs) : KindOf K H (.ref a) (.type "tuple")
  | ins {a D dx : Addr} {fs : List (Str × V)} (e : H a = some (.ins D dx fs)) : KindOf K H (.ref a) (.ref D)
theorem KindOf.looks {pins : List (Addr × Obj)} {σ : L2.St} {H : Hp} {s : Shared} {y : V} {u t : Value} (I : Inv X pins σ H s) (r : RelV y u) (k : KindOf X.K H y t) : PySem.W.Looks (model X.prog X.w) s.heap (typeOf u) t := by
  cases k with
  | non => cases (show u = Value.none from r); exact fun A Q E s k q => wpAny_pure q
  | bl x => cases (show u = Value.bool x from r); exact fun A Q E s k q => wpAny_pure q
  | int i => obtain ⟨t, rfl⟩ := (show ∃ t, u = Value.int i t from r); exact fun A Q E s k q => wpAny_pure q
  | str x => obtain ⟨t, rfl⟩ := (show ∃ t, u = Value.str x t from r); exact fun A Q E s k q => wpAny_pure q
  | lst e =>
    obtain rfl : u = Value.ref _ := r
    obtain ⟨its, rv, ⟨o, n, ho, hc, _, hd⟩, _⟩ := I.list e
    exact fun A Q E s k q => wpAny_typeOf_ref (k _ _ ho) (by rw [hc]; exact q)
  | tup e =>
    obtain rfl : u = Value.ref _ := r
    obtain ⟨its, rv, ⟨o, ho, hc, n, hd⟩, _⟩ := I.tuple e
    exact fun A Q E s k q => wpAny_typeOf_ref (k _ _ ho) (by rw [hc]; exact q)
  | ins e =>
    obtain rfl : u = Value.ref _ := r
    obtain ⟨mB, J1, _⟩ := ins_get I.hok e; obtain ⟨od', J', _⟩ := J1.look
    exact J'.type
/-- x == y, y of a kind that is no kind of x's class -/
def rOwnEqX (K : PySem.W.Frag) (C : Addr) (sp : Sp) (E : XK) : R2 := fun x y H Q => ∃ a dx fs t, x = .ref a ∧ H a = some (.ins C dx fs) ∧ KindOf K H y t ∧ PySem.W.notFirst K C t = true ∧ sp [x, y] H Q E
theorem op_ownEqX (F : FnOk X.prog X.w X.K X.mg X.base CX n f fd ps sp) (hs : PySem.W.findIn X.K (.ref C) "__eq__" = some (some (.ref f))) (hf : PySem.W.isFn X.K (.ref f) = true)
    (hb : Binds X.K fd ps []) (hr : Room n X.A) (hx : Passes CX X E) : OpR X (compareOp .Eq) (rOwnEqX X.K C sp E) := by
  intro pins s σ H x y v u Q I rx ry hq; obtain ⟨a, dx, fs, t, rfl, ha, hk, hn, q⟩ := hq
  cases rx
  obtain ⟨mA, J0, _⟩ := ins_get I.hok ha
  obtain ⟨od, J, _⟩ := J0.look
  obtain ⟨m, hF⟩ := I.fr
  show wpAny (model X.prog X.w) X.A (richCompare .Eq _ _) (EP X pins σ Q) X.xe s
  refine PySem.W.cmp_K (op := .Eq) (tb := t) hr.units0 hF I.ok.mod.kin J (hk.looks I ry) hn hs hf ?_
  exact own_call (vs := [.ref a, y]) F hb hr hx I (.cons rfl (.cons ry .nil)) q fun z w H' s' I' rz qz => notImp rz ⟨z, H', I', rz, qz⟩
end
end Ow
/-! own rules: x op y by x's own def, y of any kind, which may raise within a try; two rules of one operator; lists of a text and one object; min of a list with a default -/
namespace Ow2
open PySem PySem.W PySem.Calls PyProof.Rows
/-- an own operator, the right side of a type that is no kind of the class -/
theorem bin_look {prog : Program} {w : World} {A : Around} {E : Value → Shared → Prop} {s : Shared} {K : Frag} {x C L f : Addr} {h₀ : Heap} {m : Str → Option Value} {ox : Obj} {od : Option Obj} {T : String} {op : Operator} {b : Value} {fo ro rc : Option Value} {Q : Value → Shared → Prop}
    (hF : Fr h₀ L s.heap m) (hK : K.In h₀) (J : InstAt s.heap x ox C od) (ty : Looks (model prog w) s.heap (typeOf b) (.type T)) (own : selfFirst K C = true) (fd : findIn K (.ref C) (PySem.dunder op.info.2) = some (some (.ref f))) (fn : isFn K (.ref f) = true)
    (rv : findIn K (.ref C) (dunderR op.info.2) = some rc) (rvp : rc = none ∨ ∃ g : Addr, rc = some (.ref g)) (t1 : findIn K (.type T) (PySem.dunder op.info.2) = some fo) (t2 : findIn K (.type T) (dunderR op.info.2) = some ro) (nsub : subIn K (.type T) (.ref C) = some false)
    (go : wpAny (model prog w) A (call (.ref f) [.ref x, b]) (PySem.W.CmpBack Q) E s) : wpAny (model prog w) A (binaryOp op (.ref x) b) Q E s := by
  have KI := hK.keeps hF.keep
  obtain ⟨kd, more, kc, km⟩ := ksp_first own
  rcases hop : op.info with ⟨sgn, nn⟩
  rw [hop] at fd rv t1 t2
  dsimp only at fd rv t1 t2
  have fin := ksp_try KI J fd fn go
  obtain ⟨hp, gl, dr, tk, os⟩ := s
  have k1 : Looks (model prog w) hp (typeOf (.ref x)) (.ref C) := J.type
  have k2 : Looks (model prog w) hp (typeOf b) (.type T) := ty
  have k3 : Looks (model prog w) hp (fillsNumberSlot (.ref C) nn) true := fills_K KI kc km fd
  have k4 : Looks (model prog w) hp (fillsNumberSlot (.type T) nn) ((fo.isSome && !isSeqSlot fo) || (ro.isSome && !isSeqSlot ro)) := ksp_fillsT KI t1 t2
  have k5 : Looks (model prog w) hp (isSubtype (.type T) (.ref C)) false := looks_subIn KI nsub
  have k6 : Looks (model prog w) hp (numberSlotInPython (.ref C) nn) true := ksp_inPy KI fd rv rvp
  have k7 : Looks (model prog w) hp (numberSlotInPython (.type T) nn) false := Looks.of_pure rfl
  have k8 : Looks (model prog w) hp (typeLookup (.type T) (dunderR nn)) ro := looks_findIn KI t2
  generalize ((fo.isSome && !isSeqSlot fo) || (ro.isSome && !isSeqSlot ro)) = rt at k4
  have ne : (Value.ref C == Value.type T) = false := Bool.eq_false_iff.mpr fun q => by cases beq_iff_eq.mp q
  simp only [binaryOp, hop]
  refine wpAny_holding (wpAny_bind (?_ : wpAny _ _ _ _ _ _))
  unfold binaryOp1
  refine wpAny_bind (k1.at (wpAny_bind (k2.at (wpAny_bind (k3.at (?_ : wpAny _ _ _ _ _ _))))))
  simp only [ne, Bool.false_eq_true, if_false]
  cases rt with
  | false =>
    ksp_lk
    refine wpAny_mono fin (fun r s' ⟨v, e, hq⟩ => ?_) fun _ _ e => e
    subst e
    ksp_lk
    exact hq
  | true =>
    ksp_lk
    refine wpAny_mono fin (fun r s' ⟨v, e, hq⟩ => ?_) fun _ _ e => e
    subst e
    ksp_lk
    exact hq
end Ow2
namespace Ow
open PySem L2 PySem.Spec PyProof.Rows TA5
section
variable {X : Cx} {CX : CXT} {n : Nat} {C f : Addr} {fd : FuncData} {ps : List Str} {sp : Sp} {E : L2.St → XK}
/-- what is written of a type on the right side of the class's operator -/
def RightT (K : PySem.W.Frag) (C : Addr) (nm : String) (T : String) : Prop := (∃ fo, PySem.W.findIn K (.type T) (PySem.dunder nm) = some fo) ∧ (∃ ro, PySem.W.findIn K (.type T) (PySem.dunderR nm) = some ro) ∧ PySem.W.subIn K (.type T) (.ref C) = some false
def RightOk (K : PySem.W.Frag) (C : Addr) (nm : String) (t : Value) : Prop := t = .ref C ∨ ∃ T, t = .type T ∧ RightT K C nm T
structure BinOk (K : PySem.W.Frag) (C f : Addr) (nm : String) : Prop where
  own : PySem.W.selfFirst K C = true
  fd : PySem.W.findIn K (.ref C) (PySem.dunder nm) = some (some (.ref f))
  fn : PySem.W.isFn K (.ref f) = true
  rv : PySem.W.findIn K (.ref C) (PySem.dunderR nm) = some none
def rOwnS (K : PySem.W.Frag) (C : Addr) (nm : String) (sp : Sp) (E : XK) : R2 := fun x y H Q => ∃ a dx fs t, x = .ref a ∧ H a = some (.ins C dx fs) ∧ KindOf K H y t ∧ RightOk K C nm t ∧ sp [x, y] H Q E
def tOwnS (K : PySem.W.Frag) (C : Addr) (nm : String) (sp : Sp) (E : L2.St → XK) (ta tb : TE) : TE := fun σ H Q => tOp (rOwnS K C nm sp (E σ)) ta tb σ H Q
theorem own_binS {op : Operator} {pins : List (Addr × Obj)} {σ : L2.St} {H : Hp} {s : Shared} {x y : V} {v u : Value} {Q : VK} (F : FnOk X.prog X.w X.K X.mg X.base CX n f fd ps sp) (B : BinOk X.K C f op.info.2) (hb : Binds X.K fd ps []) (hr : Room n X.A) (hx : PassesAt CX X σ (E σ))
    (I : Inv X pins σ H s) (rx : RelV x v) (ry : RelV y u) (hq : rOwnS X.K C op.info.2 sp (E σ) x y H Q) : wpAny (model X.prog X.w) X.A (binaryOp op v u) (EP X pins σ Q) X.xe s := by
  obtain ⟨a, dx, fs, t, rfl, ha, hk, ht, q⟩ := hq
  cases rx
  obtain ⟨mA, J0, _⟩ := ins_get I.hok ha
  obtain ⟨od, J, _⟩ := J0.look
  obtain ⟨m, hF⟩ := I.fr
  have go : wpAny (model X.prog X.w) X.A (call (.ref f) [.ref a, u]) (PySem.W.CmpBack (EP X pins σ Q)) X.xe s :=
    wpAny_mono (run_fnS (vs := [.ref a, y]) (us := [.ref a, u]) F hr hb hx I (.cons rfl (.cons ry .nil)) q) (fun w s' ⟨z, H', I', rz, qz⟩ => notImp rz ⟨z, H', I', rz, qz⟩) fun _ _ e => e
  rcases ht with rfl | ⟨T, rfl, ⟨fo, h1⟩, ⟨ro, h2⟩, h3⟩
  · exact PySem.W.binop_K hF I.ok.mod.kin J (hk.looks I ry) B.own B.fd B.fn go
  · exact Ow2.bin_look hF I.ok.mod.kin J (hk.looks I ry) B.own B.fd B.fn B.rv (.inl rfl) h1 h2 h3 go
theorem pe_ownS {op : Operator} {ea eb : Expr} {ta tb : TE} {pos : Pos} (F : FnOk X.prog X.w X.K X.mg X.base CX n f fd ps sp) (B : BinOk X.K C f op.info.2) (hb : Binds X.K fd ps []) (hr : Room n X.A) (hx : ∀ σ, PassesAt CX X σ (E σ)) (ha : PE X ea ta) (hb' : PE X eb tb) :
    PE X (.BinOp ea op eb pos) (tOwnS X.K C op.info.2 sp E ta tb) := by
  refine ⟨fun pins s σ H Q I h => ?_⟩
  exact wpAny_BinOp (binT ha hb' I h fun v u s2 x y H2 I2 rx ry q => own_binS F B hb hr (hx σ) I2 rx ry q)
end
section
variable {X : Cx}
/-- one of two rules -/
def rOr (r1 r2 : R2) : R2 := fun x y H Q => r1 x y H Q ∨ r2 x y H Q
theorem op_or {g : Value → Value → Sem Value} {r1 r2 : R2} (h1 : OpR X g r1) (h2 : OpR X g r2) : OpR X g (rOr r1 r2) := fun pins s σ H x y v u Q I rx ry hq => hq.elim (h1 pins s σ H x y v u Q I rx ry) (h2 pins s σ H x y v u Q I rx ry)
/-- [text, object] != [text, the same object] -/
def rNeSame (K : PySem.W.Frag) : R2 := fun x y H Q => ∃ (a b c : Addr) (m : Str), x = .ref a ∧ y = .ref b ∧ SqL K H a [.str m, .ref c] ∧ SqL K H b [.str m, .ref c] ∧ Q (.bl false) H
theorem two_at {m : Str} {c : Addr} {its : List Value} (h : Vals [.str m, .ref c] its) : ∃ t, its = [.str m t, .ref c] := by
  cases h with
  | cons h1 t =>
    cases t with
    | cons h2 t =>
      cases t
      obtain ⟨t, rfl⟩ := (show ∃ t, _ = Value.str m t from h1)
      cases (show _ = Value.ref c from h2)
      exact ⟨t, rfl⟩
theorem op_neSame (hu : X.A.units < cLine) : OpR X (compareOp .NotEq) (rNeSame X.K) := by
  intro pins s σ H x y v u Q I rx ry hq
  obtain ⟨a, b, c, m, rfl, rfl, h1, h2, q⟩ := hq
  cases rx
  cases ry
  obtain ⟨i1, r1, l1, _⟩ := I.list h1
  obtain ⟨i2, r2, l2, _⟩ := I.list h2
  obtain ⟨t1, rfl⟩ := two_at r1
  obtain ⟨t2, rfl⟩ := two_at r2
  have go := SeqAt.RcNeAt.lists (A := X.A) (s := s) (e := fun _ => true) l1.isList l2.isList rfl hu (fun j g1 g2 => by
    match j, g1, g2 with
    | 0, _, _ => simpa using SeqAt.EqAt.str_str (A := X.A.in1) (s := s) m t1 m t2
    | 1, _, _ => exact SeqAt.EqAt.same _
    | j + 2, g1, _ => exact absurd g1 (by simp))
  exact go X.prog X.w X.xe _ ⟨.bl false, H, I, rfl, q⟩
/-- min(xs, default=None) of a list of ints -/
def minO : List Int → V
  | [] => .non
  | n :: r => .int (r.foldl min n)
def rMinO (K : PySem.W.Frag) : List V → List V → Hp → VK → Prop := fun vs zs H Q => ∃ (a : Addr) (ns : List Int), vs = [V.ref a] ∧ zs = [.non] ∧ SqL K H a (ns.map V.int) ∧ Q (minO ns) H
theorem alike_ints (ns : List Int) : PySem.W.AlikeAll (ns.map PyData.int) := ⟨fun x hx y hy => by
  obtain ⟨i, _, rfl⟩ := List.mem_map.mp hx
  obtain ⟨j, _, rfl⟩ := List.mem_map.mp hy
  rfl, fun x hx => by
  obtain ⟨i, _, rfl⟩ := List.mem_map.mp hx
  exact fun z => nomatch z⟩
theorem cr_minO (hc : X.calm = true) (hu : X.A.units + 64 < cLine) : CallRK X (.builtin "min") [Str.ofString "default"] (rMinO X.K) := by
  intro pins s σ H vs zs us ws Q I r rz h
  obtain ⟨a, ns, rfl, rfl, hs, q⟩ := h
  obtain ⟨its, rv, hl, _⟩ := I.list hs
  obtain rfl := Vals.ref1 r
  have hws : ws = [.none] := by
    cases rz with
    | cons h1 t => cases t; cases (show _ = Value.none from h1); rfl
  subst hws
  have hdp : PyData.depthAll (ns.map PyData.int) ≤ 0 := by
    induction ns with
    | nil => exact Nat.zero_le _
    | cons n ns _ =>
      have : ∀ l : List Int, PyData.depthAll (l.map PyData.int) = 0 := fun l => by
        induction l with
        | nil => rfl
        | cons i l ih => show max 0 (PyData.depthAll _) = 0; rw [ih]; rfl
      rw [this]; exact Nat.le_refl _
  obtain ⟨bs, hrd⟩ : ∃ bs, ReadsAll s.heap its (ns.map PyData.int) bs := ⟨_, IntsAre.reads _ rv.ints⟩
  refine PySem.W.min_list_default (xs := ns.map PyData.int) (I.ok.hd hc) hl.isList (by simpa using hrd) (alike_ints ns) (by omega) (fun e h' tk hk => ?_) fun y ys i v h' tk bs' e hi hr hk => ?_
  · have : ns = [] := by simpa using e
    subst this
    exact ⟨.non, H, I.kept hk, rfl, q⟩
  · cases ns with
    | nil => cases e
    | cons n ns =>
      rw [List.map_cons] at e
      cases e
      rw [PySem.W.minD_ints] at hr
      cases hr
      exact ⟨.int _, H, I.kept hk, ⟨_, rfl⟩, q⟩
end
end Ow
/-! own rules: a method that may raise, within a try; x is True; enumerate of a tuple -/
namespace OwE
open PySem PySem.Calls PyProof.Rows Sem
/-- enumerate(v): its two new cells -/
theorem meets_enum1 {v : Value} {o : Obj} {H : Heap → Prop} (B : Begins v o H) :
    Meets (Builtin.«enumerate.__new__» ⟨[.type "enumerate", v], []⟩) (fun _ R s => H s.heap ∧
      R (.ok (.ret (.ref (s.heap.push o).objs.size))) { s with heap := (s.heap.push o).push { cls := .type "enumerate", data := .fields #[.none, .bool false, .ref s.heap.objs.size, rawInt 0, .none, .none] } }) :=
  .of_wp fun prog w A R s hh => by
    obtain ⟨hp, gl, dr, tk, os⟩ := s
    obtain ⟨a1, a2⟩ := hh
    have sub := sub_enumerate
    have start : ∀ {A' : Around} {E : Value → Shared → Prop} {Q : Value → Shared → Prop}, Q (.ref hp.objs.size) ⟨hp.push o, gl, dr, tk, os⟩ → wpAny (model prog w) A' (pyIter v) Q E ⟨hp, gl, dr, tk, os⟩ := fun q => B.iter prog w _ _ ⟨hp, gl, dr, tk, os⟩ _ a1 q
    wp_walk using start
    refine wpAny_stack_any fun st => wpAny_pure ?_
    split
    · rename_i c _ _ _ _ _
      cases (c == Value.type "enumerate")
      · wp_walk using start
        exact ⟨_, rfl, a2⟩
      · wp_walk using start
        exact ⟨_, rfl, a2⟩
    · wp_walk using start
      exact ⟨_, rfl, a2⟩
theorem call_enumT {prog : Program} {w : World} {A : Around} {E : Value → Shared → Prop} {s : Shared} {t : Addr} {items : Array Value} {Q : Value → Shared → Prop} (ht : s.heap.IsTuple t items)
    (h : ∀ h', IsEnum h' (s.heap.objs.size + 1) s.heap.objs.size 0 .none → h'.IsTupleIter s.heap.objs.size t 0 → h'.objs.size = s.heap.objs.size + 2 → (∀ b o, s.heap.get? b = some o → h'.get? b = some o) → Q (.ref (s.heap.objs.size + 1)) { s with heap := h' }) :
    wpAny (model prog w) A (call (.type "enumerate") [.ref t]) Q E s := by
  refine callType_new F.called_enumerate (by decide) (F.typeCall_enumerate_1 _) (F.newCall_enumerate_1 _) (fun obj => F.args_object_init_2 obj _) F.entry_enumerate_new (meets_enum1 (begins_tuple t items)) ⟨ht, ?_⟩
  have z : (s.heap.push { cls := .type "tuple_iterator", data := .fields #[.ref t, .int 0 0] }).objs.size = s.heap.objs.size + 1 := Heap.size_push ..
  show _ ∧ _
  rw [z]
  have e : IsEnum ((s.heap.push { cls := .type "tuple_iterator", data := .fields #[.ref t, .int 0 0] }).push { cls := .type "enumerate", data := .fields #[.none, .bool false, .ref s.heap.objs.size, rawInt 0, .none, .none] }) (s.heap.objs.size + 1) s.heap.objs.size 0 .none := by
    have := Heap.get?_push_size (s.heap.push { cls := .type "tuple_iterator", data := .fields #[.ref t, .int 0 0] }) (o := { cls := .type "enumerate", data := .fields #[.none, .bool false, .ref s.heap.objs.size, rawInt 0, .none, .none] }) rfl
    rw [z] at this
    exact this
  exact ⟨⟨_, e, rfl⟩, h _ e ⟨_, Heap.get?_push_of_some _ (Heap.get?_push_size _ rfl), rfl, rfl⟩ (by rw [Heap.size_push, z]) fun b o x => Heap.get?_push_of_some _ (Heap.get?_push_of_some _ x)⟩
end OwE
namespace Ow
open PySem L2 PySem.Spec PyProof.Rows TA5
/-- the tuple at a, each item in a new pair -/
def IteT (K : PySem.W.Frag) (a : Addr) : L2.It :=
  ⟨fun i H => ∃ (xs : List V) (x : V), SqT K H a xs ∧ xs[i]? = some x, fun i H v H' => ∃ T x, v = .ref T ∧ H T = none ∧ H' = upd H T (.tup [.int (i : Nat), x]) ∧ ∀ xs, SqT K H a xs → xs[i]? = some x, fun i H => ∃ xs : List V, SqT K H a xs ∧ xs.length ≤ i⟩
theorem turn_enumT {P : Program} {w : World} {K : PySem.W.Frag} {elts : List Expr} {kk : Nat} {tpos : Pos} (a e it : Addr) (hai : a ≠ it) :
    Turn P w K (.Tuple elts kk tpos) (IteT K a) [e, it] e (fun i h => (∃ old, IsEnum h e it ((i : Nat) : Int) old) ∧ h.IsTupleIter it a i ∧ e ≠ it ∧ e ≠ a) where
  mem := by simp
  obj := fun i h st b hb => by
    obtain ⟨⟨old, he⟩, ⟨o, ho, hc, hd⟩, _⟩ := st
    rcases (show b = e ∨ b = it by simpa using hb) with z | z
    · rw [z]; exact ⟨_, he, fun v q => nomatch q⟩
    · rw [z]; exact ⟨o, ho, fun v q => by rw [hd] at q; cases q⟩
  keep := fun i h h' st k => by
    obtain ⟨⟨old, he⟩, hi, n1, n2⟩ := st
    exact ⟨⟨old, k e (by simp) _ he⟩, hi.at fun o q => k it (by simp) o q, n1, n2⟩
  item := by
    intro X hP hw hK hc i pins s σ H E I hf st hg
    subst hP hw hK
    obtain ⟨⟨old, he⟩, hit, n1, n2⟩ := st
    obtain ⟨xs, x, hq, hx⟩ := hg
    obtain ⟨its, rv, p, hz⟩ := I.tuple hq
    obtain ⟨u, hu, ru⟩ := rv.get hx
    have hel := Heap.lt_size he
    have hil : it < s.heap.objs.size := by obtain ⟨_, q, _⟩ := hit; exact Heap.lt_size q
    have hp : s.heap.IsTuple a its.toArray := p
    have hlt : i < its.toArray.size := by
      have := (List.getElem?_eq_some_iff.mp hu).1
      simpa using this
    refine wpAny_pyNext_enum_itemD (Draws.tuple (A := X.A.in1) (I.ok.hd hc) it a hai its.toArray) he ⟨hit, hp⟩ hlt n1 (by simp [n1, n2]) fun u' h' tk hu' ho ⟨hit', _⟩ hT hsz hk => ?_
    have eu : u' = u := by
      have z : its[i]? = some u' := by simpa using hu'
      rw [hu] at z
      exact (Option.some.inj z).symm
    subst eu
    refine ⟨_, rfl, wpAny_letOwnedTupleGo_enum (s := { s with heap := h', toks := tk + 1 }) ho fun h'' he' sb => ?_⟩
    have hT2 : h''.get? s.heap.objs.size = some { cls := .type "tuple", data := .seq #[.int i tk, u'] } := (sb.2 _ (Nat.ne_of_gt hel)).trans hT
    have new : ObjOk X.prog X.w (upd H s.heap.objs.size (.tup [.int (i : Nat), x])) h'' s.heap.objs.size (.tup [.int (i : Nat), x]) :=
      ⟨by show 2 ≤ sizeLine; decide, [.int i tk, u'], .cons ⟨_, rfl⟩ (.cons ru .nil), ⟨_, hT2, rfl, _, rfl⟩⟩
    have I1 : Inv X pins σ (upd H s.heap.objs.size (.tup [.int (i : Nat), x])) { s with heap := h'', toks := tk + 1 } :=
      I.turnedNew (ch := [e, it]) (fun b ob hb q => (sb.2 b (fun z => hb (by simp [z]))).trans (hk b ob (fun z => hb (by simp [z])) (fun z => hb (by simp [z])) q)) hf (Nat.le_refl _) new
    refine ⟨.ref s.heap.objs.size, _, I1, rfl, ⟨_, x, rfl, I.hok.fresh (Nat.le_refl _), rfl, fun ys hy => by rw [I.tuple_inj hy hq]; exact hx⟩, ⟨⟨u', ?_⟩, hit'.at fun o q => (sb.2 it (Ne.symm n1)).trans q, n1, n2⟩, fun b hb => ?_⟩
    · rw [show ((i + 1 : Nat) : Int) = (i : Int) + 1 by omega]
      exact he'
    · have hb' : b < s.heap.objs.size := by
        rcases (show b = e ∨ b = it by simpa using hb) with z | z
        · rw [z]; exact hel
        · rw [z]; exact hil
      rw [upd_ne (Nat.ne_of_lt hb')]
      exact (hf b hb).1
  done := by
    intro X hP hw hK hc i pins s σ H E I hf st hg
    subst hP hw hK
    obtain ⟨⟨old, he⟩, hit, n1, n2⟩ := st
    obtain ⟨xs, hq, hx⟩ := hg
    obtain ⟨its, rv, p, hz⟩ := I.tuple hq
    obtain ⟨f0, f1, f2, f3, f4, f5⟩ := hf it (by simp)
    have hl := rv.length
    have hp : s.heap.IsTuple a its.toArray := p
    have D : Draws X.prog X.w X.A.in1 it [it, a] 0 (fun _ _ => False) (fun _ h => h.IsTupleIter it a i ∧ h.IsTuple a its.toArray) :=
      { live := fun _ _ st => by obtain ⟨⟨o, ho, _⟩, _⟩ := st; exact ⟨o, ho⟩
        frame := fun _ _ _ st k => ⟨st.1.at fun o q => k it (by simp) o q, st.2.at fun o q => k a (by simp) o q⟩
        item := fun j s Q E hj st hQ => absurd hj (Nat.not_lt_zero _)
        done := fun s Q E st hE => wpAny_nextOf_tuple_end (I.ok.hd hc) st.1 st.2 (by simp; omega) hE }
    exact wpAny_pyNext_enum_endD D he ⟨hit, hp⟩ fun h' eb => ⟨rfl, I.turned (t' := s.toks) (fun b o hb q => eb b o hb q) f0 f1 f3 f4 f5⟩
  self := fun A i s Q E st h => by
    obtain ⟨⟨_, he⟩, _⟩ := st
    exact wpAny_pyIter_enum he h
def iEnumT (K : PySem.W.Frag) (ta : TA) : TI := fun σ H R => ta σ H fun vs H1 => ∃ a xs, vs = [.ref a] ∧ SqT K H1 a xs ∧ R (IteT K a) H1
theorem pi_enumT {X : Cx} {e : Expr} {ta : TA} {p pos tpos : Pos} {elts : List Expr} {kk : Nat} (hg : Gl X "enumerate") (hm : X.mg "enumerate" = none) (ha : PA X [e] ta) (hs : starEach [e] X.env = [(false, eval e X.env)] := by rfl) :
    PI X (.Tuple elts kk tpos) (.Call (.Name "enumerate" p) [e] [] pos) (iEnumT X.K ta) := by
  refine ⟨fun pins s σ H R I h => ?_⟩
  refine Call_ (ld_blt I hg hm boot_enumerate (PyProof.Rows.callWith_type1 (thn (ha.run pos pins s σ H _ I h) fun us s1 ⟨vs, H1, I1, r1, q1⟩ => ?_) hs rfl))
  obtain ⟨a, xs, rfl, hq, q⟩ := q1
  obtain rfl := Vals.ref1 r1
  obtain ⟨its, rv, p', hz⟩ := I1.tuple hq
  have hp : s1.heap.IsTuple a its.toArray := p'
  have hal : a < s1.heap.objs.size := by obtain ⟨o, ho, _⟩ := id hp; exact Heap.lt_size ho
  refine OwE.call_enumT hp fun h' he hit hsz hk => wpAny_pyIter_enum he ?_
  have I2 : Inv X pins σ H1 { s1 with heap := h' } := I1.kept (t' := s1.toks) hk
  refine ⟨s1.heap.objs.size + 1, [s1.heap.objs.size + 1, s1.heap.objs.size], _, _, H1, rfl, I2, turn_enumT a (s1.heap.objs.size + 1) s1.heap.objs.size (Nat.ne_of_lt hal), ⟨⟨.none, he⟩, hit, Nat.succ_ne_self _, Nat.ne_of_gt (Nat.lt_succ_of_lt hal)⟩, fun b hb => ?_, q⟩
  have hle : s1.heap.objs.size ≤ b := by
    rcases (show b = s1.heap.objs.size + 1 ∨ b = s1.heap.objs.size by simpa using hb) with z | z
    · rw [z]; exact Nat.le_add_right _ _
    · rw [z]; exact Nat.le_refl _
  exact I1.fpOk hle (I1.hok.fresh hle)
/-- a method that may raise, what is raised wished for at the caller's slots -/
def tMethE (C : Addr) (m : Str) (sp : Sp) (dvs : List V) (E : L2.St → XK) (ta : TE) (t : TA) : TE := fun σ H Q => tMeth C m sp dvs (E σ) ta t σ H Q
section
variable {X : Cx} {CX : CXT} {k : Nat} {f C : Addr} {fd : FuncData} {ps : List Str} {sp : Sp} {dvs : List V} {ds : List Value} {E : L2.St → XK} {x m : Str} {p pos apos : Pos} {e o : Expr} {es : List Expr} {ta : TE} {t : TA}
theorem pe_methE {pl : Sem Bool} (he : PE X o ta) (c : Cls X.K C) (hm : Meth X.K C m f) (F : FnOk X.prog X.w X.K X.mg X.base CX k f fd ps sp) (hr : Room k X.A) (hb : Binds X.K fd ps ds) (hd : Vals dvs ds) (hx : ∀ σ, PassesAt CX X σ (E σ)) (ha : PA X (e :: es) t)
    (hst : starEach (e :: es) X.env = (false, eval e X.env) :: starEach es X.env := by rfl) (hpl : (backTo pos (starEach es X.env)).any (·.1) = false := by rfl)
    (ht : eval (.Call (.Attribute o m apos) (e :: es) [] pos) X.env = (do
      let ov ← eval o X.env
      standAt apos.atName
      let (f, first) ← holding [ov] (getMethod ov m pl)
      callWith pos f first (backTo pos (starEach (e :: es) X.env)) (backToKw pos (keywordEach [] X.env))) := by rfl) :
    PE X (.Call (.Attribute o m apos) (e :: es) [] pos) (tMethE C m sp dvs E ta t) := by
  refine ⟨fun pins s σ H Q I h => PySem.W.methodCall_KW (pl := pl) (thn (he.run pins s σ H _ I h) fun u s1 ⟨x, H1, I1, rx, a, dx, fs, ex, ea, l, q⟩ => ?_) ht⟩
  subst ex
  cases rx
  refine getmeth_ok I1 ea c hm l (PySem.W.callWith_K (first := [.ref a]) (h₀ := X.base) I.ok.mod.kin hm.kp (thn (ha.run pos pins s1 σ H1 _ I1 q) fun us s2 ⟨vs, H2, I2, r, q2⟩ => ⟨I2.kIn, ?_⟩) hst hpl)
  exact run_fnSD (us := .ref a :: us) (vs := .ref a :: vs) F hr hb hd (hx σ) I2 (.cons rfl r) q2
theorem pe_methE0 {pl : Sem Bool} (he : PE X o ta) (c : Cls X.K C) (hm : Meth X.K C m f) (F : FnOk X.prog X.w X.K X.mg X.base CX k f fd ps sp) (hr : Room k X.A) (hb : Binds X.K fd ps ds) (hd : Vals dvs ds) (hx : ∀ σ, PassesAt CX X σ (E σ))
    (ht : eval (.Call (.Attribute o m apos) [] [] pos) X.env = (do
      let ov ← eval o X.env
      standAt apos.atName
      let (f, first) ← holding [ov] (getMethod ov m pl)
      callWith pos f first (backTo pos (starEach [] X.env)) (backToKw pos (keywordEach [] X.env))) := by rfl) :
    PE X (.Call (.Attribute o m apos) [] [] pos) (tMethE C m sp dvs E ta tNil) := by
  refine ⟨fun pins s σ H Q I h => PySem.W.methodCall_KW (pl := pl) (thn (he.run pins s σ H _ I h) fun u s1 ⟨x, H1, I1, rx, a, dx, fs, ex, ea, l, q⟩ => ?_) ht⟩
  subst ex
  cases rx
  exact getmeth_ok I1 ea c hm l (PySem.W.callWith_K0 (first := [.ref a]) I1.kIn hm.kp (run_fnSD (us := [.ref a]) (vs := [.ref a]) F hr hb hd (hx σ) I1 (.cons rfl .nil) q))
/-- x is True, x is False: x a bool, an int, a text or an object -/
def isV : V → Bool
  | .non => true
  | .bl _ => true
  | .int _ => true
  | .str _ => true
  | .ref _ => true
  | _ => false
def rIsC : R2 := fun x y H Q => ∃ b, y = .bl b ∧ isV x = true ∧ Q (.bl (decide (x = .bl b))) H
def rNotC : R2 := fun x y H Q => ∃ b, y = .bl b ∧ isV x = true ∧ Q (.bl (!decide (x = .bl b))) H
theorem op_isC : OpR X (compareOp .Is) rIsC := by
  intro pins s σ H x y v u Q I rx ry h
  obtain ⟨b, rfl, hv, q⟩ := h
  cases (show u = Value.bool b from ry)
  cases x with
  | bl a =>
    cases (show v = Value.bool a from rx)
    by_cases e : a = b
    · subst e; exact wpAny_is_self rfl ⟨.bl true, H, I, rfl, by simpa using q⟩
    · exact wpAny_is_other rfl (fun z => e (Value.bool.inj z)) ⟨.bl false, H, I, rfl, by simpa [e] using q⟩
  | non => cases (show v = Value.none from rx); exact wpAny_is_other rfl (fun z => nomatch z) ⟨.bl false, H, I, rfl, q⟩
  | int i => obtain ⟨t, rfl⟩ := (show ∃ t, v = Value.int i t from rx); exact wpAny_is_other rfl (fun z => nomatch z) ⟨.bl false, H, I, rfl, q⟩
  | str i => obtain ⟨t, rfl⟩ := (show ∃ t, v = Value.str i t from rx); exact wpAny_is_other rfl (fun z => nomatch z) ⟨.bl false, H, I, rfl, q⟩
  | ref a => cases (show v = Value.ref a from rx); exact wpAny_is_other rfl (fun z => nomatch z) ⟨.bl false, H, I, rfl, q⟩
  | _ => cases hv
theorem op_notC : OpR X (compareOp .IsNot) rNotC := by
  intro pins s σ H x y v u Q I rx ry h
  obtain ⟨b, rfl, hv, q⟩ := h
  cases (show u = Value.bool b from ry)
  cases x with
  | bl a =>
    cases (show v = Value.bool a from rx)
    by_cases e : a = b
    · subst e; exact wpAny_isNot_self rfl ⟨.bl false, H, I, rfl, by simpa using q⟩
    · exact wpAny_isNot_other rfl (fun z => e (Value.bool.inj z)) ⟨.bl true, H, I, rfl, by simpa [e] using q⟩
  | non => cases (show v = Value.none from rx); exact wpAny_isNot_other rfl (fun z => nomatch z) ⟨.bl true, H, I, rfl, q⟩
  | int i => obtain ⟨t, rfl⟩ := (show ∃ t, v = Value.int i t from rx); exact wpAny_isNot_other rfl (fun z => nomatch z) ⟨.bl true, H, I, rfl, q⟩
  | str i => obtain ⟨t, rfl⟩ := (show ∃ t, v = Value.str i t from rx); exact wpAny_isNot_other rfl (fun z => nomatch z) ⟨.bl true, H, I, rfl, q⟩
  | ref a => cases (show v = Value.ref a from rx); exact wpAny_isNot_other rfl (fun z => nomatch z) ⟨.bl true, H, I, rfl, q⟩
  | _ => cases hv
end
end Ow

namespace PySem
open Builtin
/-- a class's chain behind itself: own classes, then a base's -/
structure Tail (bm : List Value) (newId : String) : Prop where
  base : ∃ B initId tail, ExcBaseFacts B newId initId tail ∧ ∀ X : String, bm.contains (.type X) = tail.contains (.type X)
  pass : ∀ self C, refuseLoop self "__setattr__" (.ref C :: bm) = pure ()
  obj : bm.contains (.type "object") = true
end PySem
namespace TA5
open PySem PySem.W PySem.Calls PyProof.Rows PySem.HandSPX PySem.Builtin PySem.Builtin.ObjectAttr
theorem tail_ve : Tail [.type "ValueError", .type "Exception", .type "BaseException", .type "object"] "ValueError.__new__" := ⟨⟨_, _, _, PySem.F.excBase_ValueError, fun _ => rfl⟩, fun self C => by rw [refuseLoop_ref]; exact PySem.F.store_ValueError.passes self, rfl⟩
theorem tail_rt : Tail [.type "RuntimeError", .type "Exception", .type "BaseException", .type "object"] "RuntimeError.__new__" := ⟨⟨_, _, _, PySem.F.excBase_RuntimeError, fun _ => rfl⟩, fun self C => by rw [refuseLoop_ref]; exact PySem.F.store_RuntimeError.passes self, rfl⟩
theorem tail_ex {S : Addr} : Tail [.ref S, .type "Exception", .type "BaseException", .type "object"] "Exception.__new__" := ⟨⟨_, _, _, PySem.F.excBase_Exception, fun X => by rw [List.contains_cons]; rfl⟩, fun self C => by rw [refuseLoop_ref, refuseLoop_ref]; exact PySem.F.store_Exception.passes self, rfl⟩
theorem one_size (v : Value) : [v].length ≤ sizeLine := by
  rw [sizeLine_eq]
  exact (by decide : 1 ≤ 16777216)
theorem ldC {M : Model} {s : Shared} {name : Str} {scope : Scope} {L a : Addr} {cd : Value} {m : Str → Option Value} {x : Str} {pos : Pos} {v : Value} {Q : Value → Shared → Prop} {A : Around} {E : Value → Shared → Prop} (hn : s.heap.Ns L m) (hv : m x = some v) (h : Q v s)
    (hk : scope.kind = .function := by rfl) (hl : (envOfC name scope L a cd).kindOf x = some .local := by rfl) (hd : (x == ("__debug__" : Str)) = false := by decide) :
    wpAny M A (eval (.Name x pos) (envOfC name scope L a cd)) Q E s := wpAny_Name (wpAny_loadName_local hk hl hn hv h) hd
section
variable {prog : Program} {w : World} {A : Around} {R : Result → Shared → Prop} {hp : Heap} {g : Array GenState} {d : Drawn} {t : Nat} {os : OsState}
theorem exc_osaT {K : W.Frag} {name : Str} {tk : Tok} {v : Value} {x C : Addr} {fv : Array Value} {cd : ClassData} {bm : List Value}
    (X : K.In hp) (hx : hp.get? x = some { cls := .ref C, data := .fields fv }) (hcd : W.clsIn K C = some cd) (hps : ∀ self C, refuseLoop self "__setattr__" (.ref C :: bm) = pure ()) (hobj : bm.contains (.type "object") = true) (hmro : cd.mro = .ref C :: bm) (ha : W.findIn K (.ref C) name = some none)
    (hq : ∀ h' tk' dx, (∀ b o, b ≠ x → hp.get? b = some o → h'.get? b = some o) → hp.objs.size ≤ dx → dx ≠ x → h'.get? x = some { cls := .ref C, dict := some dx, data := .fields fv } →
      h'.Ns1 dx (fun y => if y = name then some v else none) → R (.ok (.ret .none)) ⟨h', g, d, tk', os⟩) (hh : cd.hasDict = true := by rfl) :
    codeAny (model prog w) A (.call (.builtin "object.__setattr__") ⟨[.ref x, .str name tk, v], []⟩) R ⟨hp, g, d, t, os⟩ := by
  have I : W.InstAt hp x { cls := .ref C, data := .fields fv } C none := ⟨hx, rfl, rfl, trivial⟩
  have SF := F.store_object
  have ne : cd.mro.isEmpty = false := by rw [hmro] <;> rfl
  have hob : cd.mro.contains (.type "object") = true := by rw [hmro, List.contains_cons, hobj, Bool.or_true]
  have hxs : x ≠ hp.objs.size := Nat.ne_of_lt (Heap.lt_size hx)
  have sub : W.Looks (model prog w) hp (isInstance (.ref x) (.type "object")) true := I.type.andThen (W.looks_mroIn X (by unfold W.mroIn; rw [hcd, Option.bind_some, if_neg (by rw [ne]; decide), hob]))
  refine codeAny_call_builtin SF.slot.plain SF.entry (@W.check_slot (model prog w) _ _ ⟨hp, g, d, t, os⟩ "object.__setattr__" "object" "__setattr__" (.ref x) [.str name tk, v] [] _ SF.kind SF.split sub (SF.args (.ref x) (.str name tk) v) ?_)
  have hmr : W.Looks (model prog w) hp (mroOf (.ref C)) cd.mro := (W.looks_clsIn X hcd).andThen .now
  have L3 : W.Looks (model prog w) hp (storeTaker? none) none := .now
  have hcls : W.Looks (model prog w) hp (classData C) cd := W.looks_clsIn X hcd
  rw [W.osa_eq, refuse_eq]
  refine wpAny_bind (wpAny_bind (I.type.at (wpAny_bind (hmr.at ?_))))
  rw [hmro, hps]
  refine wpAny_pure (wpAny_bind (I.type.at (wpAny_bind ((W.looks_findIn X ha).at (wpAny_bind (L3.at ?_))))))
  show wpAny _ _ (storeInOwnDict (.ref x) (.ref C) (.str name tk) name v false) _ _ _
  clear hmro ne hob hmr sub
  obtain ⟨nm, bs, mro, ns, qn, hd, sn, sb, ab, col, del⟩ := cd
  dsimp only at hh
  subst hh
  unfold storeInOwnDict ownDictForStores
  repeat (first | with_reducible refine store_in_new ?_ ?_ | with_reducible refine wpAny_loadPart_at hx ?_ | with_reducible refine hcls.at ?_ | wp_step)
  · exact ⟨_, #[], _, (Heap.get?_update_ne _ _ _ _ hxs.symm).trans (Heap.get?_push_at rfl rfl), rfl, fun e he => absurd he (by simp), fun _ => rfl⟩
  · intro h' tk' hn' hs
    have hx₁ : (hp.push { cls := .type "dict", data := .dict #[] }).get? x = some { cls := .ref C, data := .fields fv } := Heap.get?_push_of_some _ hx
    refine hq h' tk' hp.objs.size (fun b o hb ho => ?_) (Nat.le_refl _) hxs.symm ?_ hn'
    · exact (hs.2 b (Nat.ne_of_lt (Heap.lt_size ho))).trans ((Heap.get?_update_ne _ _ _ _ hb).trans (Heap.get?_push_of_some _ ho))
    · exact (hs.2 x hxs).trans (Heap.get?_update_self _ hx₁ rfl)
end
end TA5

namespace PySem
namespace ErrC
open PySem.W PySem.Calls PyProof.Rows PySem.HandSPX
def iA (p1 p2 : Pos) : Arguments := { posonlyargs := [], args := [{ arg := "self", annotation := none, pos := p1 }, { arg := "part", annotation := none, pos := p2 }], vararg := none, kwonlyargs := [], kw_defaults := [], kwarg := none, defaults := [] }
def iB (q1 q2 q3 q4 : Pos) : List Stmt := [.Assign [.Attribute (.Name "self" q1) "part" q2] (.Name "part" q3) q4]
def iS : Scope := { kind := .function, names := [(PySem.Str.ofString "self", .local), (PySem.Str.ofString "part", .local)], isGenerator := false, isCoroutine := false, more := [] }
/-- what the written part says of the error class x, at C, and of its __init__, at fI -/
structure ErrTxt (K : Frag) (mg : Str → Option Value) (x q : Str) (C fI : Addr) : Prop where
  gC : mg x = some (.ref C)
  cls : ∃ nm qq N bs bm sn sub ab col dd k0 k1 k2 k3 k5 newId, K.lookup C = some (excClassObj nm qq C N bs bm true sn sub ab col dd k0 k1 k2 k3 k5 newId) ∧ Tail bm newId
  sa : findIn K (.ref C) "__setattr__" = some (some (.builtin "object.__setattr__"))
  ga : findIn K (.ref C) "__getattribute__" = some (some (.builtin "BaseException.__getattribute__"))
  gg : findIn K (.ref C) "__getattr__" = some none
  noN : findIn K (.ref C) "part" = some none
  iC : findIn K (.ref C) "__init__" = some (some (.ref fI))
  tC : typeIn K (.ref fI) = some (.type "function")
  kC : keepIn K (.ref C) = true
  exC : subIn K (.ref C) (.type "BaseException") = some true
  tyC : typeIn K (.ref C) = some (.type "type")
  hdC : hasDictIn K C = true
  te : exmOne K (.ref C) (.ref C) = some true
  fn : ∃ (oc : Value) (od : Option Addr) (doc pm : Value) (an : Option Addr) (cdv ct : Value) (osl : Array (Option Value)) (p1 p2 q1 q2 q3 q4 : Pos),
    K.lookup fI = some ⟨oc, od, .func (fnOf "__init__" q (iA p1 p2) (iB q1 q2 q3 q4) iS .none .none doc pm an cdv ct), osl⟩ ∧ codeIn K cdv q = true
structure InitEnd (h h' : Heap) (x C dx t1 : Addr) (v : Value) : Prop where
  keep : ∀ b o, b ≠ x → h.get? b = some o → h'.get? b = some o
  obj : h'.get? x = some { cls := .ref C, dict := some dx, data := .fields #[.ref t1, .none, .none, .none, .bool false, .none] }
  dbig : h.objs.size ≤ dx
  dne : dx ≠ x
  ns : h'.Ns1 dx (fun y => if y = "part" then some v else none)
structure OwnMade (h h' : Heap) (e C d : Addr) (v : Value) : Prop where
  keep : ∀ b o, h.get? b = some o → h'.get? b = some o
  new : h.objs.size ≤ e
  obj : ∃ oe vs, h'.get? e = some oe ∧ oe.cls = .ref C ∧ oe.dict = some d ∧ oe.data = .fields vs ∧ vs[1]? = some .none
  dbig : h.objs.size ≤ d
  dne : d ≠ e
  ns : h'.Ns1 d (fun y => if y = "part" then some v else none)
section
variable {prog : Program} {w : World} {A : Around} {E : Value → Shared → Prop} {R : Result → Shared → Prop} {s : Shared} {K : Frag} {mg : Str → Option Value} {C fI : Addr} {xn q : Str}
theorem err_init (T : ErrTxt K mg xn q C fI) {x t0 : Addr} {v : Value} (X : K.In s.heap) (hlim : s.heap.NoLimit) (hx : s.heap.get? x = some (excO C t0)) (hnx : K.lookup x = none) (hroom : A.depth < recursionLimit)
    (hq : ∀ h' tk dx, InitEnd s.heap h' x C dx t0 v → R (.ok (.ret .none)) { s with heap := h', toks := tk }) :
    codeAny (model prog w) A (.call (.ref fI) ⟨[.ref x, v], []⟩) R s := by
  obtain ⟨oc, od, doc, pm, an, cdv, ct, osl, p1, p2, q1, q2, q3, q4, ho, hcd⟩ := T.fn
  obtain ⟨nm, qq, N, bs, bm, sn, sub, ab, col, dd, k0, k1, k2, k3, k5, newId, hC, hbm⟩ := T.cls
  have hcl : clsIn K C = some { name := nm, bases := bs, mro := .ref C :: bm, ns := N, qualname := qq, hasDict := true, slotNames := sn, subclasses := sub, abstract := ab, collection := col, hasDel := false } := by unfold clsIn; rw [hC] <;> rfl
  refine Att.call_fn (binds := [("self", .ref x), ("part", v)]) X hlim ho hcd hroom (BindsTo.of_eq (by first | rfl | with_unfolding_all rfl)) (by first | rfl | decide | with_unfolding_all rfl) (fun s₁ IC => ?_) rfl rfl rfl
  obtain ⟨h₁, tk₁, rfl⟩ := IC.toInCall.same
  have k : ∀ b o, s.heap.get? b = some o → h₁.get? b = some o := IC.toInCall.keep
  have hn := IC.toInCall.ns
  have hxL : s.heap.objs.size ≠ x := Nat.ne_of_gt (Heap.lt_size hx)
  have X₁ : K.In h₁ := X.keeps k
  have hx₁ := k _ _ hx
  show wpAny _ _ (execs _ _) _ _ _
  refine wpAny_execs_cons (plainObj_wpAny_Assign_Attribute ?_)
  refine TA5.ldC (v := v) hn (by first | rfl | with_unfolding_all rfl | kernel_rfl) (TA5.ldC (v := .ref x) hn (by first | rfl | with_unfolding_all rfl | kernel_rfl) ?_)
  refine set_plain X₁ (ox := excO C t0) (od := none) ⟨hx₁, rfl, rfl, trivial⟩ T.sa ?_
  refine TA5.exc_osaT X₁ hx₁ hcl hbm.pass hbm.obj rfl T.noN (fun h₃ tk₃ dx k₃ dn dne hx₃ hn₃ => ?_)
  show wpAny _ _ (execs _ _) _ _ _
  have z : s.heap.objs.size < h₁.objs.size := hn.lt
  exact wpAny_execs_nil (hq h₃ tk₃ dx ⟨fun b o hb e => k₃ b o hb (k b o e), hx₃, Nat.le_of_lt (Nat.lt_of_lt_of_le z dn), dne, hn₃⟩)
theorem err_made (T : ErrTxt K mg xn q C fI) {v : Value} (X : K.In s.heap) (hlim : s.heap.NoLimit) (hroom : A.depth + 1 < recursionLimit)
    (hq : ∀ h' tk e d, OwnMade s.heap h' e C d v → R (.ok (.ret (.ref e))) { s with heap := h', toks := tk }) :
    codeAny (model prog w) A (.call (.ref C) ⟨[v], []⟩) R s := by
  obtain ⟨nm, qq, N, bs, bm, sn, sub, ab, col, dd, k0, k1, k2, k3, k5, newId, hC, hbm⟩ := T.cls
  obtain ⟨B, initId, tail, F, hT⟩ := hbm.base
  obtain ⟨hp, g, dr, tk, os⟩ := s
  have k : ∀ b o, hp.get? b = some o → ((hp.push (kdv_tup [v])).push (excO C hp.objs.size)).get? b = some o := fun b o e => Heap.get?_push_of_some _ (Heap.get?_push_of_some _ e)
  have hget : ((hp.push (kdv_tup [v])).push (excO C hp.objs.size)).get? (hp.objs.size + 1) = some (excO C hp.objs.size) := by heap_get
  have hnx : K.lookup (hp.objs.size + 1) = none := by
    cases e : K.lookup (hp.objs.size + 1) with
    | none => rfl
    | some o =>
      have z : hp.get? (hp.objs.size + 1) = some o := X _ _ e
      exact absurd (Nat.lt_of_succ_lt (Heap.lt_size z)) (Nat.lt_irrefl _)
  refine call_own F hT (X _ _ hC) (looks_findIn X T.iC) (fun self => bind_fn X self T.tC) (TA5.one_size v) ?_
  refine err_init (s := ⟨(hp.push (kdv_tup [v])).push (excO C hp.objs.size), g, dr, tk, os⟩) T (X.keeps k) (hlim.keeps k) hget hnx ?_ fun h' tk' dx ⟨k', hx, dn, dne, hns⟩ => ?_
  · show A.depth + 1 < recursionLimit
    exact hroom
  · have old : ∀ b o, hp.get? b = some o → h'.get? b = some o := fun b o e => k' b o (Nat.ne_of_lt (Nat.lt_succ_of_lt (Heap.lt_size e))) (k b o e)
    have z : hp.objs.size + 1 + 1 ≤ dx := by
      first
        | (simpa only [Heap.size_push] using dn)
        | exact dn
        | (have q := dn; rw [Heap.size_push, Heap.size_push] at q; exact q)
    exact ⟨rfl, hq h' tk' (hp.objs.size + 1) dx ⟨old, Nat.le_succ _, ⟨_, _, hx, rfl, rfl, rfl, rfl⟩, Nat.le_trans (Nat.le_trans (Nat.le_succ _) (Nat.le_succ _)) z, dne, hns⟩⟩
end
end ErrC
end PySem
namespace ErrCL
open PySem L2 PySem.Spec PyProof.Rows
theorem relO_err {v : V} {v' : Value} (r : RelV v v') (f : Str) : RelO (List.lookup f [(("part" : Str), v)]) (if f = "part" then some v' else none) := by
  by_cases hw : f = "part"
  · subst hw
    rw [if_pos rfl]
    have q : List.lookup ("part" : Str) [(("part" : Str), v)] = some v := by simp [List.lookup]
    rw [q]
    exact r
  · rw [if_neg hw]
    have qw : (f == ("part" : Str)) = false := by simpa using hw
    have q2 : List.lookup f [(("part" : Str), v)] = none := by simp [List.lookup, qw]
    rw [q2]
    trivial
section
variable {X : Cx} {C fI : Addr} {xn q : Str}
def tMkErr (C : Addr) (ta : TA) : L2.St → Hp → XK → Prop := fun σ H Q => ta σ H fun vs H1 => ∃ v, vs = [v] ∧ ∀ d, H1 d = none → Q (.ref C) (some d) (upd H1 d (.xd [(("part" : Str), v)]))
theorem pmk_err {a : Expr} {ta : TA} {p pos : Pos} {k : Nat} (T : PySem.ErrC.ErrTxt X.K X.mg xn q C fI) (hr : Room k X.A) (ha : PA X [a] ta) (hg : Gl X xn := by rfl) (hdb : (xn == ("__debug__" : Str)) = false := by decide)
    (he : starEach (a :: []) X.env = (false, eval a X.env) :: starEach [] X.env := by rfl) (hpl : (backTo pos (starEach [] X.env)).any (·.1) = false := by rfl) :
    PMk X (.Call (.Name xn p) [a] [] pos) (tMkErr C ta) := by
  intro pins s σ H Q I h
  refine wpAny_Call_Name_kw (ld_glob I hg T.gC ?_ hdb)
  refine PySem.W.callWith_K (h₀ := X.base) I.ok.mod.kin T.kC (thn (ha.run pos pins s σ H _ I h) fun us s1 hh => ?_) he hpl
  obtain ⟨vs, H1, I1, r1, v, ev, q1⟩ := hh
  subst ev
  refine ⟨I1.kIn, ?_⟩
  cases r1 with
  | cons rv rn =>
    rename_i v' us'
    cases rn
    show wpAny _ _ (call (.ref C) [v']) _ _ _
    have hlim := I1.nolimit
    obtain ⟨hp, g, dr, tk, os⟩ := s1
    refine wpAny_call (PySem.ErrC.err_made T I1.kIn hlim (by have := hr.dp; omega) fun h' tk' e d M => ?_)
    show MkP X pins σ Q (.ref e) ⟨h', g, dr, tk', os⟩
    obtain ⟨oe, fv, hoe, hc, hd, hdat, h1⟩ := M.obj
    have hns := M.ns
    obtain ⟨G', g1, g2⟩ := restrict h' fun b => decide (b ≠ e)
    have gk : ∀ b, b ≠ e → G'.get? b = h'.get? b := fun b hb => g1 b (decide_eq_true hb)
    have ge : G'.get? e = none := g2 e (by simp)
    have old : ∀ b o, hp.get? b = some o → G'.get? b = some o := fun b o q => (gk b (Nat.ne_of_lt (Nat.lt_of_lt_of_le (Heap.lt_size q) M.new))).trans (M.keep b o q)
    have ob : ObjOk X.prog X.w (upd H1 d (.xd [(("part" : Str), v)])) G' d (.xd [(("part" : Str), v)]) :=
      ⟨_, hns.at (fun o q => (gk d M.dne).trans q), fun f => relO_err rv f⟩
    have J : Inv X pins σ (upd H1 d (.xd [(("part" : Str), v)])) ⟨G', g, dr, tk', os⟩ := I1.laid (t' := tk') old M.dbig ob
    refine ⟨e, oe, fv, ⟨G', g, dr, tk', os⟩, _, .ref C, some d, rfl, J, fun b o q => ?_, ge, hoe, ⟨hc, hd⟩, hdat, h1, ?_, rfl, I1.bare, raises_own T.exC T.tyC, q1 d (I1.hok.fresh M.dbig)⟩
    · by_cases hb : b = e
      · have q' : G'.get? b = some o := q
        rw [hb, ge] at q'; cases q'
      · exact (gk b hb).symm.trans q
    · rw [upd_ne (Ne.symm M.dne)]
      exact I1.hok.fresh M.new
def tRaiseErr (C : Addr) (W : WX) (ta : TA) : TS := fun _ σ H => tMkErr C ta σ H fun cls d H' => W cls d σ H'
theorem ps_raiseErr {a : Expr} {ta : TA} {W : WX} {p pos pos2 : Pos} {k : Nat} (hc : X.calm = true) (T : PySem.ErrC.ErrTxt X.K X.mg xn q C fI) (hr : Room k X.A) (tk : Takes X W) (ha : PA X [a] ta) (hg : Gl X xn := by rfl) (hdb : (xn == ("__debug__" : Str)) = false := by decide)
    (he : starEach (a :: []) X.env = (false, eval a X.env) :: starEach [] X.env := by rfl) (hpl : (backTo pos (starEach [] X.env)).any (·.1) = false := by rfl) :
    PS X (.Raise (some (.Call (.Name xn p) [a] [] pos)) none pos2) (tRaiseErr C W ta) := ps_raise hc tk (pmk_err T hr ha hg hdb he hpl)
def tFldErr (C : Addr) (a : Addr) (cls : Value) (d : Option Addr) (te : TE) : TE := fun σ H Q => te σ H fun x H1 => x = .ref a ∧ cls = .ref C ∧ ∃ (dd : Addr) (v : V), d = some dd ∧ H1 dd = some (.xd [(("part" : Str), v)]) ∧ Q v H1
theorem pe_fldErr {a : Addr} {oe : Obj} {cls : Value} {d : Option Addr} {pn : List (Addr × Obj)} {e : Expr} {te : TE} {pos : Pos} (T : PySem.ErrC.ErrTxt X.K X.mg xn q C fI) (hz : Zc cls d oe) (hf : ∃ vs, oe.data = .fields vs) (he : PE (X.suite a ((a, oe) :: pn)) e te)
    (hb : attributeBase e "part" X.env (eval e X.env) = eval e X.env := by rfl) :
    PE (X.suite a ((a, oe) :: pn)) (.Attribute e "part" pos) (tFldErr C a cls d te) := by
  refine ⟨fun pins s σ H Q I h => ?_⟩
  refine attr_of hb (thn (he.run pins s σ H _ I h) fun u s1 hh => ?_)
  obtain ⟨x, H1, I1, rx, ex, ec, dd, v, ed, ea, q⟩ := hh
  subst ex
  obtain rfl : u = Value.ref a := rx
  subst ec
  subst ed
  obtain ⟨ha, _⟩ := I1.pin (a, oe) (List.mem_append_left _ List.mem_cons_self)
  obtain ⟨vs, hd⟩ := hf
  have hx : ObjOk X.prog X.w H1 s1.heap dd (.xd [(("part" : Str), v)]) := I1.hok dd _ ea
  obtain ⟨mA, hns, hr⟩ := hx
  obtain ⟨od, ho, hl⟩ := lookIn_ns hns
  have l : List.lookup ("part" : Str) [(("part" : Str), v)] = some v := by simp [List.lookup]
  obtain ⟨u, hu, ru⟩ := RelO.some_of (v := v) (o := mA "part") (by rw [← l]; exact hr "part")
  have J : PySem.W.InstAt s1.heap a oe C (some od) := ⟨ha, hz.1, by unfold PySem.W.notCls; rw [hd] <;> rfl, by rw [hz.2]; exact ho⟩
  exact HandSPX.exc_get I1.kIn J T.ga T.gg T.exC (PySem.W.findObj_own T.hdC T.noN rfl (by rw [hl, hu])) (handed_of ru) ⟨v, H1, I1.tok _, ru, q⟩
end
end ErrCL

namespace PySem
namespace ErrV
open PySem.W PySem.Calls PyProof.Rows PySem.HandSPX
def iA (p1 p2 : Pos) : Arguments := { posonlyargs := [], args := [{ arg := "self", annotation := none, pos := p1 }, { arg := "value", annotation := none, pos := p2 }], vararg := none, kwonlyargs := [], kw_defaults := [], kwarg := none, defaults := [] }
def iB (q1 q2 q3 q4 : Pos) : List Stmt := [.Assign [.Attribute (.Name "self" q1) "value" q2] (.Name "value" q3) q4]
def iS : Scope := { kind := .function, names := [(PySem.Str.ofString "self", .local), (PySem.Str.ofString "value", .local)], isGenerator := false, isCoroutine := false, more := [] }
/-- what the written part says of the error class x, at C, and of its __init__, at fI -/
structure ErrTxt (K : Frag) (mg : Str → Option Value) (x q : Str) (C fI : Addr) : Prop where
  gC : mg x = some (.ref C)
  cls : ∃ nm qq N bs bm sn sub ab col dd k0 k1 k2 k3 k5 newId, K.lookup C = some (excClassObj nm qq C N bs bm true sn sub ab col dd k0 k1 k2 k3 k5 newId) ∧ Tail bm newId
  sa : findIn K (.ref C) "__setattr__" = some (some (.builtin "object.__setattr__"))
  ga : findIn K (.ref C) "__getattribute__" = some (some (.builtin "BaseException.__getattribute__"))
  gg : findIn K (.ref C) "__getattr__" = some none
  noN : findIn K (.ref C) "value" = some none
  iC : findIn K (.ref C) "__init__" = some (some (.ref fI))
  tC : typeIn K (.ref fI) = some (.type "function")
  kC : keepIn K (.ref C) = true
  exC : subIn K (.ref C) (.type "BaseException") = some true
  tyC : typeIn K (.ref C) = some (.type "type")
  hdC : hasDictIn K C = true
  te : exmOne K (.ref C) (.ref C) = some true
  fn : ∃ (oc : Value) (od : Option Addr) (doc pm : Value) (an : Option Addr) (cdv ct : Value) (osl : Array (Option Value)) (p1 p2 q1 q2 q3 q4 : Pos),
    K.lookup fI = some ⟨oc, od, .func (fnOf "__init__" q (iA p1 p2) (iB q1 q2 q3 q4) iS .none .none doc pm an cdv ct), osl⟩ ∧ codeIn K cdv q = true
structure InitEnd (h h' : Heap) (x C dx t1 : Addr) (v : Value) : Prop where
  keep : ∀ b o, b ≠ x → h.get? b = some o → h'.get? b = some o
  obj : h'.get? x = some { cls := .ref C, dict := some dx, data := .fields #[.ref t1, .none, .none, .none, .bool false, .none] }
  dbig : h.objs.size ≤ dx
  dne : dx ≠ x
  ns : h'.Ns1 dx (fun y => if y = "value" then some v else none)
structure OwnMade (h h' : Heap) (e C d : Addr) (v : Value) : Prop where
  keep : ∀ b o, h.get? b = some o → h'.get? b = some o
  new : h.objs.size ≤ e
  obj : ∃ oe vs, h'.get? e = some oe ∧ oe.cls = .ref C ∧ oe.dict = some d ∧ oe.data = .fields vs ∧ vs[1]? = some .none
  dbig : h.objs.size ≤ d
  dne : d ≠ e
  ns : h'.Ns1 d (fun y => if y = "value" then some v else none)
section
variable {prog : Program} {w : World} {A : Around} {E : Value → Shared → Prop} {R : Result → Shared → Prop} {s : Shared} {K : Frag} {mg : Str → Option Value} {C fI : Addr} {xn q : Str}
theorem err_init (T : ErrTxt K mg xn q C fI) {x t0 : Addr} {v : Value} (X : K.In s.heap) (hlim : s.heap.NoLimit) (hx : s.heap.get? x = some (excO C t0)) (hnx : K.lookup x = none) (hroom : A.depth < recursionLimit)
    (hq : ∀ h' tk dx, InitEnd s.heap h' x C dx t0 v → R (.ok (.ret .none)) { s with heap := h', toks := tk }) :
    codeAny (model prog w) A (.call (.ref fI) ⟨[.ref x, v], []⟩) R s := by
  obtain ⟨oc, od, doc, pm, an, cdv, ct, osl, p1, p2, q1, q2, q3, q4, ho, hcd⟩ := T.fn
  obtain ⟨nm, qq, N, bs, bm, sn, sub, ab, col, dd, k0, k1, k2, k3, k5, newId, hC, hbm⟩ := T.cls
  have hcl : clsIn K C = some { name := nm, bases := bs, mro := .ref C :: bm, ns := N, qualname := qq, hasDict := true, slotNames := sn, subclasses := sub, abstract := ab, collection := col, hasDel := false } := by unfold clsIn; rw [hC] <;> rfl
  refine Att.call_fn (binds := [("self", .ref x), ("value", v)]) X hlim ho hcd hroom (BindsTo.of_eq (by first | rfl | with_unfolding_all rfl)) (by first | rfl | decide | with_unfolding_all rfl) (fun s₁ IC => ?_) rfl rfl rfl
  obtain ⟨h₁, tk₁, rfl⟩ := IC.toInCall.same
  have k : ∀ b o, s.heap.get? b = some o → h₁.get? b = some o := IC.toInCall.keep
  have hn := IC.toInCall.ns
  have hxL : s.heap.objs.size ≠ x := Nat.ne_of_gt (Heap.lt_size hx)
  have X₁ : K.In h₁ := X.keeps k
  have hx₁ := k _ _ hx
  show wpAny _ _ (execs _ _) _ _ _
  refine wpAny_execs_cons (plainObj_wpAny_Assign_Attribute ?_)
  refine TA5.ldC (v := v) hn (by first | rfl | with_unfolding_all rfl | kernel_rfl) (TA5.ldC (v := .ref x) hn (by first | rfl | with_unfolding_all rfl | kernel_rfl) ?_)
  refine set_plain X₁ (ox := excO C t0) (od := none) ⟨hx₁, rfl, rfl, trivial⟩ T.sa ?_
  refine TA5.exc_osaT X₁ hx₁ hcl hbm.pass hbm.obj rfl T.noN (fun h₃ tk₃ dx k₃ dn dne hx₃ hn₃ => ?_)
  show wpAny _ _ (execs _ _) _ _ _
  have z : s.heap.objs.size < h₁.objs.size := hn.lt
  exact wpAny_execs_nil (hq h₃ tk₃ dx ⟨fun b o hb e => k₃ b o hb (k b o e), hx₃, Nat.le_of_lt (Nat.lt_of_lt_of_le z dn), dne, hn₃⟩)
theorem err_made (T : ErrTxt K mg xn q C fI) {v : Value} (X : K.In s.heap) (hlim : s.heap.NoLimit) (hroom : A.depth + 1 < recursionLimit)
    (hq : ∀ h' tk e d, OwnMade s.heap h' e C d v → R (.ok (.ret (.ref e))) { s with heap := h', toks := tk }) :
    codeAny (model prog w) A (.call (.ref C) ⟨[v], []⟩) R s := by
  obtain ⟨nm, qq, N, bs, bm, sn, sub, ab, col, dd, k0, k1, k2, k3, k5, newId, hC, hbm⟩ := T.cls
  obtain ⟨B, initId, tail, F, hT⟩ := hbm.base
  obtain ⟨hp, g, dr, tk, os⟩ := s
  have k : ∀ b o, hp.get? b = some o → ((hp.push (kdv_tup [v])).push (excO C hp.objs.size)).get? b = some o := fun b o e => Heap.get?_push_of_some _ (Heap.get?_push_of_some _ e)
  have hget : ((hp.push (kdv_tup [v])).push (excO C hp.objs.size)).get? (hp.objs.size + 1) = some (excO C hp.objs.size) := by heap_get
  have hnx : K.lookup (hp.objs.size + 1) = none := by
    cases e : K.lookup (hp.objs.size + 1) with
    | none => rfl
    | some o =>
      have z : hp.get? (hp.objs.size + 1) = some o := X _ _ e
      exact absurd (Nat.lt_of_succ_lt (Heap.lt_size z)) (Nat.lt_irrefl _)
  refine call_own F hT (X _ _ hC) (looks_findIn X T.iC) (fun self => bind_fn X self T.tC) (TA5.one_size v) ?_
  refine err_init (s := ⟨(hp.push (kdv_tup [v])).push (excO C hp.objs.size), g, dr, tk, os⟩) T (X.keeps k) (hlim.keeps k) hget hnx ?_ fun h' tk' dx ⟨k', hx, dn, dne, hns⟩ => ?_
  · show A.depth + 1 < recursionLimit
    exact hroom
  · have old : ∀ b o, hp.get? b = some o → h'.get? b = some o := fun b o e => k' b o (Nat.ne_of_lt (Nat.lt_succ_of_lt (Heap.lt_size e))) (k b o e)
    have z : hp.objs.size + 1 + 1 ≤ dx := by
      first
        | (simpa only [Heap.size_push] using dn)
        | exact dn
        | (have q := dn; rw [Heap.size_push, Heap.size_push] at q; exact q)
    exact ⟨rfl, hq h' tk' (hp.objs.size + 1) dx ⟨old, Nat.le_succ _, ⟨_, _, hx, rfl, rfl, rfl, rfl⟩, Nat.le_trans (Nat.le_trans (Nat.le_succ _) (Nat.le_succ _)) z, dne, hns⟩⟩
end
end ErrV
end PySem
namespace ErrVL
open PySem L2 PySem.Spec PyProof.Rows
theorem relO_err {v : V} {v' : Value} (r : RelV v v') (f : Str) : RelO (List.lookup f [(("value" : Str), v)]) (if f = "value" then some v' else none) := by
  by_cases hw : f = "value"
  · subst hw
    rw [if_pos rfl]
    have q : List.lookup ("value" : Str) [(("value" : Str), v)] = some v := by simp [List.lookup]
    rw [q]
    exact r
  · rw [if_neg hw]
    have qw : (f == ("value" : Str)) = false := by simpa using hw
    have q2 : List.lookup f [(("value" : Str), v)] = none := by simp [List.lookup, qw]
    rw [q2]
    trivial
section
variable {X : Cx} {C fI : Addr} {xn q : Str}
def tMkErr (C : Addr) (ta : TA) : L2.St → Hp → XK → Prop := fun σ H Q => ta σ H fun vs H1 => ∃ v, vs = [v] ∧ ∀ d, H1 d = none → Q (.ref C) (some d) (upd H1 d (.xd [(("value" : Str), v)]))
theorem pmk_err {a : Expr} {ta : TA} {p pos : Pos} {k : Nat} (T : PySem.ErrV.ErrTxt X.K X.mg xn q C fI) (hr : Room k X.A) (ha : PA X [a] ta) (hg : Gl X xn := by rfl) (hdb : (xn == ("__debug__" : Str)) = false := by decide)
    (he : starEach (a :: []) X.env = (false, eval a X.env) :: starEach [] X.env := by rfl) (hpl : (backTo pos (starEach [] X.env)).any (·.1) = false := by rfl) :
    PMk X (.Call (.Name xn p) [a] [] pos) (tMkErr C ta) := by
  intro pins s σ H Q I h
  refine wpAny_Call_Name_kw (ld_glob I hg T.gC ?_ hdb)
  refine PySem.W.callWith_K (h₀ := X.base) I.ok.mod.kin T.kC (thn (ha.run pos pins s σ H _ I h) fun us s1 hh => ?_) he hpl
  obtain ⟨vs, H1, I1, r1, v, ev, q1⟩ := hh
  subst ev
  refine ⟨I1.kIn, ?_⟩
  cases r1 with
  | cons rv rn =>
    rename_i v' us'
    cases rn
    show wpAny _ _ (call (.ref C) [v']) _ _ _
    have hlim := I1.nolimit
    obtain ⟨hp, g, dr, tk, os⟩ := s1
    refine wpAny_call (PySem.ErrV.err_made T I1.kIn hlim (by have := hr.dp; omega) fun h' tk' e d M => ?_)
    show MkP X pins σ Q (.ref e) ⟨h', g, dr, tk', os⟩
    obtain ⟨oe, fv, hoe, hc, hd, hdat, h1⟩ := M.obj
    have hns := M.ns
    obtain ⟨G', g1, g2⟩ := restrict h' fun b => decide (b ≠ e)
    have gk : ∀ b, b ≠ e → G'.get? b = h'.get? b := fun b hb => g1 b (decide_eq_true hb)
    have ge : G'.get? e = none := g2 e (by simp)
    have old : ∀ b o, hp.get? b = some o → G'.get? b = some o := fun b o q => (gk b (Nat.ne_of_lt (Nat.lt_of_lt_of_le (Heap.lt_size q) M.new))).trans (M.keep b o q)
    have ob : ObjOk X.prog X.w (upd H1 d (.xd [(("value" : Str), v)])) G' d (.xd [(("value" : Str), v)]) :=
      ⟨_, hns.at (fun o q => (gk d M.dne).trans q), fun f => relO_err rv f⟩
    have J : Inv X pins σ (upd H1 d (.xd [(("value" : Str), v)])) ⟨G', g, dr, tk', os⟩ := I1.laid (t' := tk') old M.dbig ob
    refine ⟨e, oe, fv, ⟨G', g, dr, tk', os⟩, _, .ref C, some d, rfl, J, fun b o q => ?_, ge, hoe, ⟨hc, hd⟩, hdat, h1, ?_, rfl, I1.bare, raises_own T.exC T.tyC, q1 d (I1.hok.fresh M.dbig)⟩
    · by_cases hb : b = e
      · have q' : G'.get? b = some o := q
        rw [hb, ge] at q'; cases q'
      · exact (gk b hb).symm.trans q
    · rw [upd_ne (Ne.symm M.dne)]
      exact I1.hok.fresh M.new
def tRaiseErr (C : Addr) (W : WX) (ta : TA) : TS := fun _ σ H => tMkErr C ta σ H fun cls d H' => W cls d σ H'
theorem ps_raiseErr {a : Expr} {ta : TA} {W : WX} {p pos pos2 : Pos} {k : Nat} (hc : X.calm = true) (T : PySem.ErrV.ErrTxt X.K X.mg xn q C fI) (hr : Room k X.A) (tk : Takes X W) (ha : PA X [a] ta) (hg : Gl X xn := by rfl) (hdb : (xn == ("__debug__" : Str)) = false := by decide)
    (he : starEach (a :: []) X.env = (false, eval a X.env) :: starEach [] X.env := by rfl) (hpl : (backTo pos (starEach [] X.env)).any (·.1) = false := by rfl) :
    PS X (.Raise (some (.Call (.Name xn p) [a] [] pos)) none pos2) (tRaiseErr C W ta) := ps_raise hc tk (pmk_err T hr ha hg hdb he hpl)
def tFldErr (C : Addr) (a : Addr) (cls : Value) (d : Option Addr) (te : TE) : TE := fun σ H Q => te σ H fun x H1 => x = .ref a ∧ cls = .ref C ∧ ∃ (dd : Addr) (v : V), d = some dd ∧ H1 dd = some (.xd [(("value" : Str), v)]) ∧ Q v H1
theorem pe_fldErr {a : Addr} {oe : Obj} {cls : Value} {d : Option Addr} {pn : List (Addr × Obj)} {e : Expr} {te : TE} {pos : Pos} (T : PySem.ErrV.ErrTxt X.K X.mg xn q C fI) (hz : Zc cls d oe) (hf : ∃ vs, oe.data = .fields vs) (he : PE (X.suite a ((a, oe) :: pn)) e te)
    (hb : attributeBase e "value" X.env (eval e X.env) = eval e X.env := by rfl) :
    PE (X.suite a ((a, oe) :: pn)) (.Attribute e "value" pos) (tFldErr C a cls d te) := by
  refine ⟨fun pins s σ H Q I h => ?_⟩
  refine attr_of hb (thn (he.run pins s σ H _ I h) fun u s1 hh => ?_)
  obtain ⟨x, H1, I1, rx, ex, ec, dd, v, ed, ea, q⟩ := hh
  subst ex
  obtain rfl : u = Value.ref a := rx
  subst ec
  subst ed
  obtain ⟨ha, _⟩ := I1.pin (a, oe) (List.mem_append_left _ List.mem_cons_self)
  obtain ⟨vs, hd⟩ := hf
  have hx : ObjOk X.prog X.w H1 s1.heap dd (.xd [(("value" : Str), v)]) := I1.hok dd _ ea
  obtain ⟨mA, hns, hr⟩ := hx
  obtain ⟨od, ho, hl⟩ := lookIn_ns hns
  have l : List.lookup ("value" : Str) [(("value" : Str), v)] = some v := by simp [List.lookup]
  obtain ⟨u, hu, ru⟩ := RelO.some_of (v := v) (o := mA "value") (by rw [← l]; exact hr "value")
  have J : PySem.W.InstAt s1.heap a oe C (some od) := ⟨ha, hz.1, by unfold PySem.W.notCls; rw [hd] <;> rfl, by rw [hz.2]; exact ho⟩
  exact HandSPX.exc_get I1.kIn J T.ga T.gg T.exC (PySem.W.findObj_own T.hdC T.noN rfl (by rw [hl, hu])) (handed_of ru) ⟨v, H1, I1.tok _, ru, q⟩
end
end ErrVL
namespace TA5
open PySem L2 PySem.Spec PyProof.Rows
section
variable {X : Cx}
/-- set(t), t a tuple of ints -/
def rSetTI (K : PySem.W.Frag) (w : World) : List V → Hp → VK → Prop := fun xs H Q => ∃ (p : Addr) (ns : List Int), xs = [.ref p] ∧ SqT K H p (ns.map V.int) ∧ ns.length ≤ 1000 ∧ ∀ (a : Addr) (c : Nat), H a = none → c ≤ ns.length → Q (.ref a) (upd H a (SetO w a (fun j => decide (j ∈ ns)) c))
theorem cr_setTI (hc : X.calm = true) : CallR X (.type "set") (rSetTI X.K X.w) := by
  intro pins s σ H xs us Q I r h
  obtain ⟨p, ns, e, hq, hl, q⟩ := h
  subst e
  cases r with
  | cons r rr =>
    cases rr
    cases r
    obtain ⟨its, rv, pt, hz⟩ := I.tuple hq
    have hi : IntsAre its.toArray.toList ns := ints_of_vals rv
    refine call_set_tupI ns (I.ok.hd hc) (show s.heap.IsTuple p its.toArray from pt) hi (by unfold scanBound; omega) fun h' tk c R1 hcn k => ?_
    have fr : H s.heap.objs.size = none := I.hok.fresh (Nat.le_refl _)
    exact ⟨.ref s.heap.objs.size, _, I.laid (t' := tk) k (Nat.le_refl _) (setO_new R1), rfl, q _ c fr hcn⟩
end
end TA5
namespace Ev2
open PySem PySem.Spec PyProof.Rows L2 Evl RZ

abbrev HP := V → Hp → Prop
def Mono (P : HP) : Prop := ∀ v H H', Evl.Ex H H' → P v H → P v H'
/-- what never changes is kept: all but lists -/
def Fx (H H' : Hp) : Prop := ∀ a o, H a = some o → (∀ xs, o ≠ .lst xs) → H' a = some o
theorem Fx.of {H H' : Hp} (e : Evl.Ex H H') : Fx H H' := fun a o h _ => e a o h
theorem Fx.refl (H : Hp) : Fx H H := fun _ _ h _ => h
theorem Fx.trans {H H1 H2 : Hp} (a : Fx H H1) (b : Fx H1 H2) : Fx H H2 := fun x o h n => b x o (a x o h n) n
theorem Fx.lst {H : Hp} {D : Addr} {xs ys : List V} (h : H D = some (.lst xs)) : Fx H (upd H D (.lst ys)) := fun a o e n => by
  by_cases ha : a = D
  · subst ha; rw [h] at e; cases e; exact absurd rfl (n xs)
  · rw [upd_ne ha]; exact e
def MonoF (P : HP) : Prop := ∀ v H H', Fx H H' → P v H → P v H'
theorem MonoF.mono {P : HP} (m : MonoF P) : Mono P := fun v H H' e p => m v H H' (Fx.of e) p
def EvP (te : TE) (σ : L2.St) (H : Hp) (P : HP) : Prop := ∀ H1, Evl.Ex H H1 → ∀ Q : VK, (∀ v H2, Evl.Ex H1 H2 → P v H2 → Q v H2) → te σ H1 Q
def EvAP (ta : TA) (σ : L2.St) (H : Hp) (P : List V → Hp → Prop) : Prop := ∀ H1, Evl.Ex H H1 → ∀ Q : List V → Hp → Prop, (∀ v H2, Evl.Ex H1 H2 → P v H2 → Q v H2) → ta σ H1 Q
def EvTP (tt : TT) (σ : L2.St) (H : Hp) (b : Bool) : Prop := EvT tt σ H b
def RP (r : R2) (x y : V) (H : Hp) (P : HP) : Prop := ∀ Q : VK, (∀ v H2, Evl.Ex H H2 → P v H2 → Q v H2) → r x y H Q
/-- a list just made whose items are so -/
def LstP (n : Nat) (P : Nat → HP) : HP := fun v H => ∃ p ys, v = .ref p ∧ H p = some (.lst ys) ∧ ys.length = n ∧ ∀ i y, ys[i]? = some y → P i y H
def TupP (n : Nat) (P : Nat → HP) : HP := fun v H => ∃ p ys, v = .ref p ∧ H p = some (.tup ys) ∧ ys.length = n ∧ ∀ i y, ys[i]? = some y → P i y H
def Is (x : V) : HP := fun v _ => v = x
theorem mono_is {x : V} : Mono (Is x) := fun _ _ _ _ h => h
theorem mono_lst {n : Nat} {P : Nat → HP} (m : ∀ i, Mono (P i)) : Mono (LstP n P) := fun v H H' e ⟨p, ys, h1, h2, h3, h4⟩ => ⟨p, ys, h1, e _ _ h2, h3, fun i y hy => m i _ _ _ e (h4 i y hy)⟩
theorem mono_tup {n : Nat} {P : Nat → HP} (m : ∀ i, Mono (P i)) : Mono (TupP n P) := fun v H H' e ⟨p, ys, h1, h2, h3, h4⟩ => ⟨p, ys, h1, e _ _ h2, h3, fun i y hy => m i _ _ _ e (h4 i y hy)⟩
section
variable {K : PySem.W.Frag} {σ : L2.St} {H H' : Hp} {ta tb te : TE} {P R S : HP} {r : R2} {v : V}
theorem EvP.mono (h : EvP te σ H P) (e : Evl.Ex H H') : EvP te σ H' P := fun H1 a Q q => h H1 (e.trans a) Q q
theorem EvP.imp (h : EvP te σ H P) (k : ∀ v H1, Evl.Ex H H1 → P v H1 → R v H1) : EvP te σ H R := fun H1 a Q q => h H1 a Q fun v H2 e p => q v H2 e (k v H2 (a.trans e) p)
theorem evp_of (h : Ev te σ H v) : EvP te σ H (Is v) := fun H1 a Q q => h H1 a Q fun H2 e => q v H2 e rfl
theorem EvP.ev (h : EvP te σ H (Is v)) : Ev te σ H v := fun H1 a Q q => h H1 a Q fun x H2 e p => by rw [show x = v from p]; exact q H2 e
theorem evp_var {i : Nat} (h : σ[i]? = some (some v)) (p : P v H) (m : Mono P) : EvP (tVar i) σ H P := fun H1 e Q q => ⟨v, h, q v H1 (Ex.refl H1) (m _ _ _ e p)⟩
theorem evp_op (ha : EvP ta σ H P) (hb : EvP tb σ H R) (m : Mono P) (hr : ∀ x y H1, Evl.Ex H H1 → P x H1 → R y H1 → RP r x y H1 S) : EvP (tOp r ta tb) σ H S := fun H1 e Q q =>
  ha H1 e _ fun x H2 e2 p => hb H2 (e.trans e2) _ fun y H3 e3 p' => hr x y H3 ((e.trans e2).trans e3) (m _ _ _ e3 p) p' Q fun z H4 e4 s => q z H4 ((e2.trans e3).trans e4) s
theorem evp_un {u : V → Hp → VK → Prop} (ha : EvP ta σ H P) (hr : ∀ x H1, Evl.Ex H H1 → P x H1 → ∀ Q : VK, (∀ v H2, Evl.Ex H1 H2 → S v H2 → Q v H2) → u x H1 Q) : EvP (tUn u ta) σ H S := fun H1 e Q q =>
  ha H1 e _ fun x H2 e2 p => hr x H2 (e.trans e2) p Q fun z H4 e4 s => q z H4 (e2.trans e4) s
theorem eap_nil : EvAP tNil σ H (fun vs _ => vs = []) := fun H1 e Q q => q [] H1 (Ex.refl H1) rfl
theorem eap_one (h : EvP te σ H P) : EvAP (tCons te tNil) σ H (fun vs H1 => ∃ x, vs = [x] ∧ P x H1) := fun H1 e Q q => h H1 e _ fun x H2 e2 p => q [x] H2 e2 ⟨x, rfl, p⟩
theorem eap_two (h : EvP te σ H P) (h2 : EvP ta σ H R) (m : Mono P) : EvAP (tCons te (tCons ta tNil)) σ H (fun vs H1 => ∃ x y, vs = [x, y] ∧ P x H1 ∧ R y H1) := fun H1 e Q q =>
  h H1 e _ fun x H2 e2 p => h2 H2 (e.trans e2) _ fun y H3 e3 p' => q [x, y] H3 (e2.trans e3) ⟨x, y, rfl, m _ _ _ e3 p, p'⟩
theorem eap_three {tc : TE} (h : EvP te σ H P) (h2 : EvP ta σ H R) (h3 : EvP tc σ H S) (m : Mono P) (m2 : Mono R) : EvAP (tCons te (tCons ta (tCons tc tNil))) σ H (fun vs H1 => ∃ x y z, vs = [x, y, z] ∧ P x H1 ∧ R y H1 ∧ S z H1) := fun H1 e Q q =>
  h H1 e _ fun x H2 e2 p => h2 H2 (e.trans e2) _ fun y H3 e3 p' => h3 H3 ((e.trans e2).trans e3) _ fun z H4 e4 p'' => q [x, y, z] H4 ((e2.trans e3).trans e4) ⟨x, y, z, rfl, m _ _ _ (e3.trans e4) p, m2 _ _ _ e4 p', p''⟩
/-- a def's promise, of such arguments -/
def SpP (sp : Sp) (A : List V → Hp → Prop) (S : HP) : Prop := ∀ vs H1, A vs H1 → ∀ Q : VK, (∀ v H2, Evl.Ex H1 H2 → S v H2 → Q v H2) → ∀ E : XK, sp vs H1 Q E
theorem evp_call {sp : Sp} {E : XK} {ta : TA} {A : List V → Hp → Prop} (h : EvAP ta σ H A) (hs : SpP sp A S) : EvP (tCall sp [] E ta) σ H S := fun H1 e Q q =>
  h H1 e _ fun vs H2 e2 a => by
    have z := hs vs H2 a Q (fun v H3 e3 s => q v H3 (e2.trans e3) s) E
    show sp (vs ++ []) H2 Q E
    rw [List.append_nil]
    exact z
theorem evp_cb {rr : List V → Hp → VK → Prop} {ta : TA} {A : List V → Hp → Prop} (h : EvAP ta σ H A) (hs : ∀ vs H1, A vs H1 → ∀ Q : VK, (∀ v H2, Evl.Ex H1 H2 → S v H2 → Q v H2) → rr vs H1 Q) : EvP (tCB rr ta) σ H S := fun H1 e Q q =>
  h H1 e _ fun vs H2 e2 a => hs vs H2 a Q fun v H3 e3 s => q v H3 (e2.trans e3) s
theorem eu_tupP {ta : TA} {A : List V → Hp → Prop} (h : EvAP ta σ H A) (hl : ∀ vs H1, A vs H1 → vs.length ≤ 100000) (m : ∀ vs H1 H2, Evl.Ex H1 H2 → A vs H1 → A vs H2) : EvP (tTup ta) σ H (fun v H1 => ∃ p vs, v = .ref p ∧ H1 p = some (.tup vs) ∧ A vs H1) := fun H1 e Q q =>
  h H1 e _ fun vs H2 e2 a => ⟨sz_of (hl vs H2 a), fun p hp => q _ _ (e2.trans (Ex.new hp)) ⟨p, vs, rfl, upd_same, m _ _ _ (Ex.new hp) a⟩⟩
/-- tuple(a new list) -/
theorem evp_tuple {n : Nat} {Pi : Nat → HP} (h : EvP te σ H (LstP n Pi)) (m : ∀ i, Mono (Pi i)) :
    EvP (tCB (fun xs H Q => ∃ p ys, xs = [.ref p] ∧ ((SqL K H p ys ∧ ∀ l, H l = none → Q (.ref l) (upd H l (.tup ys))) ∨ (SqT K H p ys ∧ Q (.ref p) H))) (tCons te tNil)) σ H (TupP n Pi) := fun H1 e Q q =>
  h H1 e _ fun v H2 e2 ⟨p, ys, hv, hp, hl, hi⟩ => by
    subst hv
    exact ⟨p, ys, rfl, .inl ⟨sq_of hp, fun l hl' => q _ _ (e2.trans (Ex.new hl')) ⟨l, ys, rfl, upd_same, hl, fun i y hy => m i _ _ _ (Ex.new hl') (hi i y hy)⟩⟩⟩

/-! ### what is walked -/
structure Turns (J : It) (n : Nat) (Pre : Hp → Prop) (item : Nat → V → Hp → Prop) : Prop where
  mono : ∀ H H', Fx H H' → Pre H → Pre H'
  go : ∀ i H, i < n → Pre H → J.go i H
  stop : ∀ H, Pre H → J.stop n H
  yld : ∀ i H x H', i < n → Pre H → J.yld i H x H' → Evl.Ex H H' ∧ item i x H'
def WiP (wi : TI) (σ : L2.St) (H : Hp) (n : Nat) (item : Nat → V → Hp → Prop) : Prop := ∀ H1, Evl.Ex H H1 → ∀ R : It → Hp → Prop, (∀ J H2 Pre, Evl.Ex H1 H2 → Turns J n Pre item → Pre H2 → R J H2) → wi σ H1 R
theorem wi_tup {tl : TE} {n : Nat} {Pi : Nat → HP} (h : EvP tl σ H (TupP n Pi)) (m : ∀ i, MonoF (Pi i)) : WiP (iTup K tl) σ H n (fun i x H => Pi i x H) := fun H1 e R k =>
  h H1 e _ fun v H2 e2 ⟨p, ys, hv, hp, hl, hi⟩ => by
    subst hv
    refine ⟨p, rfl, ⟨ys, st_of hp⟩, k _ H2 (fun H => H p = some (.tup ys) ∧ ∀ i y, ys[i]? = some y → Pi i y H) e2 ?_ ⟨hp, hi⟩⟩
    refine ⟨fun H H' e ⟨a, b⟩ => ⟨e _ _ a (fun _ z => nomatch z), fun i y hy => m i _ _ _ e (b i y hy)⟩, fun i H hlt ⟨a, _⟩ => ?_, fun H ⟨a, _⟩ => ?_, fun i H x H' hlt ⟨a, b⟩ y => ?_⟩
    · exact ⟨ys, _, st_of a, List.getElem?_eq_getElem (by omega)⟩
    · exact ⟨ys, st_of a, by omega⟩
    · obtain ⟨rfl, f⟩ := y
      have hx : ys[i]? = some x := by first | exact f ys (st_of a) | (obtain ⟨zs, z1, z2⟩ := f; exact z2)
      exact ⟨Ex.refl _, b i x hx⟩
theorem wi_rng {ta : TA} {n : Nat} (h : EvAP ta σ H (fun vs _ => vs = [.int (n : Int)])) (hn : n ≤ 100000) : WiP (iRng1 ta) σ H n (fun i x _ => x = .int (i : Int)) := fun H1 e R k =>
  h H1 e _ fun vs H2 e2 hv => by
    subst hv
    refine ⟨(n : Int), rfl, by omega, by omega, ?_⟩
    refine k _ H2 (fun _ => True) e2 ⟨fun _ _ _ _ => trivial, fun i H hlt _ => ?_, fun H _ => ?_, fun i H x H' hlt _ y => ?_⟩ trivial
    · show i < (n : Int).toNat
      simpa using hlt
    · show (n : Int).toNat ≤ n
      simp
    · obtain ⟨rfl, rfl⟩ := y
      exact ⟨Ex.refl _, by rw [Int.zero_add]⟩
theorem wi_zip {tl tr : TE} {n : Nat} {Pi Ri : Nat → HP} (h : EvP tl σ H (TupP n Pi)) (h2 : EvP tr σ H (TupP n Ri)) (m : ∀ i, MonoF (Pi i)) (m2 : ∀ i, MonoF (Ri i)) :
    WiP (iZipA K (tCons tl (tCons tr tNil))) σ H n (fun i x H => ∃ T u v, x = .ref T ∧ H T = some (.tup [u, v]) ∧ Pi i u H ∧ Ri i v H) := fun H1 e R k =>
  h H1 e _ fun v H2 e2 ⟨p, ys, hv, hp, hl, hi⟩ => h2 H2 (e.trans e2) _ fun v' H3 e3 ⟨q, zs, hv', hq, hl', hi'⟩ => by
    subst hv
    subst hv'
    refine ⟨p, q, ys, zs, rfl, .inr ⟨st_of (e3 _ _ hp), st_of hq, ?_⟩⟩
    refine k _ H3 (fun H => H p = some (.tup ys) ∧ H q = some (.tup zs) ∧ (∀ i y, ys[i]? = some y → Pi i y H) ∧ ∀ i y, zs[i]? = some y → Ri i y H) (e2.trans e3) ?_ ⟨e3 _ _ hp, hq, fun i y hy => (m i).mono _ _ _ e3 (hi i y hy), hi'⟩
    refine ⟨fun H H' e ⟨a, b, c, d⟩ => ⟨e _ _ a (fun _ z => nomatch z), e _ _ b (fun _ z => nomatch z), fun i y hy => m i _ _ _ e (c i y hy), fun i y hy => m2 i _ _ _ e (d i y hy)⟩, fun i H hlt ⟨a, b, _, _⟩ => ?_, fun H ⟨a, b, _, _⟩ => ?_, fun i H x H' hlt ⟨a, b, c, d⟩ y => ?_⟩
    · exact ⟨ys, zs, _, _, st_of a, st_of b, List.getElem?_eq_getElem (by omega), List.getElem?_eq_getElem (by omega)⟩
    · exact ⟨ys, zs, st_of a, st_of b, .inl (by omega)⟩
    · obtain ⟨T, u, w, rfl, hT, rfl, f1, f2⟩ := y
      have ex := Ex.new (o := .tup [u, w]) hT
      exact ⟨ex, T, u, w, rfl, upd_same, (m i).mono _ _ _ ex (c i u (f1 ys (st_of a))), (m2 i).mono _ _ _ ex (d i w (f2 zs (st_of b)))⟩
/-- targets -/
def GP (g : TG) (x : V) (σ0 : L2.St) (H : Hp) (S : L2.St → Hp → Prop) : Prop := ∀ Q : L2.St → Hp → Prop, (∀ σ2, S σ2 H → Q σ2 H) → g x σ0 H Q
theorem g_pair {x : V} {T : Addr} {u w : V} {σ0 : L2.St} {i j : Nat} (hx : x = .ref T) (h : H T = some (.tup [u, w])) : GP (gTup K 2 (gCons (gName i) (gCons (gName j) gNil))) x σ0 H (fun σ2 _ => σ2 = (σ0.set i (some u)).set j (some w)) := fun Q q =>
  ⟨T, [u, w], hx, st_of h, rfl, u, [w], rfl, w, [], rfl, rfl, q _ rfl⟩
/-- a comprehension without tests -/
theorem evp_lc {wi : TI} {g : TG} {vs : List Nat} {n : Nat} {item : Nat → V → Hp → Prop} {Sg : Nat → L2.St → Hp → Prop} {Pi : Nat → HP} (hw : WiP wi σ H n item) (hn : n ≤ 40000)
    (hg : ∀ i x H1, i < n → Evl.Ex H H1 → item i x H1 → GP g x (wipe σ vs) H1 (fun σ2 H2 => wipe σ2 vs = wipe σ vs ∧ Sg i σ2 H2)) (he : ∀ i σ2 H1, i < n → Evl.Ex H H1 → Sg i σ2 H1 → EvP te σ2 H1 (Pi i)) (m : ∀ i, MonoF (Pi i)) :
    EvP (tLc wi g tYes te vs) σ H (LstP n Pi) := fun H1 e Q q => hw H1 e _ fun J H2 Pre e2 T pre => fun D hD => by
  refine ⟨fun i k H3 => k = n - i ∧ i ≤ n ∧ H2 D = none ∧ Evl.Ex H2 H3 ∧ ∃ ys, H3 D = some (.lst ys) ∧ ys.length = i ∧ ∀ j y, ys[j]? = some y → Pi j y H3, ⟨n, by simp, Nat.zero_le _, hD, Ex.new hD, [], upd_same, rfl, fun j y hy => by simp at hy⟩, ?_⟩
  rintro i k H3 ⟨rfl, hi, hD', ex, ys, hys, hl, hP⟩
  have pre3 := T.mono _ _ (Fx.of ex) pre
  by_cases hlt : i < n
  · refine .inr ⟨T.go i H3 hlt pre3, fun H4 => H2 D = none ∧ Evl.Ex H2 H4 ∧ ∃ ys, H4 D = some (.lst ys) ∧ ys.length = i + 1 ∧ ∀ j y, ys[j]? = some y → Pi j y H4, fun H4 ⟨a, b, c⟩ => ⟨n - (i + 1), by omega, rfl, by omega, a, b, c⟩, fun x H4 y => ?_⟩
    obtain ⟨e4, it⟩ := T.yld i H3 x H4 hlt pre3 y
    refine hg i x H4 hlt (((e.trans e2).trans ex).trans e4) it _ fun σ2 ⟨hw2, hs⟩ => ⟨hw2, ?_⟩
    unfold tYes
    dsimp only
    rw [if_pos rfl]
    refine he i σ2 H4 hlt (((e.trans e2).trans ex).trans e4) hs H4 (Ex.refl _) _ fun z H5 e5 hz => ?_
    have hys5 := e5 _ _ (e4 _ _ hys)
    have ex5 : Evl.Ex H2 (upd H5 D (.lst (ys ++ [z]))) := Ex.mut ((ex.trans e4).trans e5) hD'
    refine ⟨ys, hys5, sz_lt (by omega), hD', ex5, ys ++ [z], upd_same, by simp [hl], fun j y hy => ?_⟩
    have key : Pi j y H5 := by
      by_cases hj : j < ys.length
      · rw [List.getElem?_append_left hj] at hy
        exact (m j).mono _ _ _ (e4.trans e5) (hP j y hy)
      · rw [List.getElem?_append_right (by omega)] at hy
        have : j - ys.length = 0 := by
          rcases Nat.eq_zero_or_pos (j - ys.length) with z0 | z0
          · exact z0
          · rw [List.getElem?_eq_none (by simp; omega)] at hy; cases hy
        rw [this] at hy
        have ej : j = i := by omega
        have ey : z = y := by simpa using hy
        rw [ej, ← ey]
        exact hz
    exact m j _ _ _ (Fx.lst hys5) key
  · have hinn : i = n := by omega
    subst hinn
    exact .inl ⟨T.stop H3 pre3, q _ H3 (e2.trans ex) ⟨D, ys, rfl, hys, hl, hP⟩⟩
end
end Ev2
namespace Ev2
open PySem PySem.Spec PyProof.Rows L2 Evl RZ
/-- a state to draw from: the list at s holds the pool's list (at p) and a place -/
structure Dr (s p : Addr) (xs : List Int) (H : Hp) : Prop where
  ne : p ≠ s
  at_ : ∃ k : Nat, H s = some (.lst [.ref p, .int (k : Int)])
  pool : H p = some (.lst (xs.map V.int))
/-- all but the state is kept -/
def Gs (s : Addr) (H H' : Hp) : Prop := ∀ a o, a ≠ s → H a = some o → H' a = some o
theorem Gs.refl (s : Addr) (H : Hp) : Gs s H H := fun _ _ _ h => h
theorem Gs.trans {s : Addr} {H H1 H2 : Hp} (a : Gs s H H1) (b : Gs s H1 H2) : Gs s H H2 := fun x o n h => b x o n (a x o n h)
theorem Gs.of {s : Addr} {H H' : Hp} (e : Evl.Ex H H') : Gs s H H' := fun a o _ h => e a o h
theorem Dr.ex {s p : Addr} {xs : List Int} {H H' : Hp} (d : Dr s p xs H) (e : Evl.Ex H H') : Dr s p xs H' := ⟨d.ne, let ⟨k, h⟩ := d.at_; ⟨k, e _ _ h⟩, e _ _ d.pool⟩
theorem Gs.fx {s p : Addr} {xs : List Int} {H H' : Hp} (g : Gs s H H') (d : Dr s p xs H) : Fx H H' := fun a o h n => by
  by_cases ha : a = s
  · subst ha
    obtain ⟨k, hk⟩ := d.at_
    rw [hk] at h; cases h; exact absurd rfl (n _)
  · exact g a o ha h
def EvD (s p : Addr) (xs : List Int) (te : TE) (σ : L2.St) (H : Hp) (P : HP) : Prop := ∀ H1, Gs s H H1 → Dr s p xs H1 → ∀ Q : VK, (∀ v H2, Gs s H1 H2 → Dr s p xs H2 → P v H2 → Q v H2) → te σ H1 Q
section
variable {K : PySem.W.Frag} {σ : L2.St} {H H' : Hp} {ta tb te : TE} {P R S : HP} {r : R2} {v : V} {s p : Addr} {xs : List Int}
theorem EvD.imp (h : EvD s p xs te σ H P) (k : ∀ v H1, P v H1 → R v H1) : EvD s p xs te σ H R := fun H1 a d Q q => h H1 a d Q fun v H2 e d2 p => q v H2 e d2 (k v H2 p)
/-- a comprehension over range(n) whose items draw -/
theorem evd_lc {tn : TA} {vs : List Nat} {n j : Nat} {Pi : Nat → HP} (hw : ∀ H1, EvAP tn σ H1 (fun vs _ => vs = [.int (n : Int)])) (hn : n ≤ 40000) (hz : ∀ x, wipe ((wipe σ vs).set j (some x)) vs = wipe σ vs)
    (he : ∀ (i : Nat), i < n → EvD s p xs te ((wipe σ vs).set j (some (.int (i : Int)))) H (Pi i)) (m : ∀ i, MonoF (Pi i)) :
    EvD s p xs (tLc (iRng1 tn) (gName j) tYes te vs) σ H (LstP n Pi) := fun H1 e d Q q => hw H1 H1 (Ex.refl _) _ fun vs' H2 e2 hv => by
  subst hv
  refine ⟨(n : Int), rfl, by omega, by omega, fun D hD => ?_⟩
  have d2 := d.ex e2
  have hDs : D ≠ s := fun z => by obtain ⟨k, hk⟩ := d2.at_; rw [z, hk] at hD; cases hD
  have hDp : D ≠ p := fun z => by have := d2.pool; rw [← z, hD] at this; cases this
  refine ⟨fun i k H3 => k = n - i ∧ i ≤ n ∧ Gs s H2 H3 ∧ Dr s p xs H3 ∧ ∃ ys, H3 D = some (.lst ys) ∧ ys.length = i ∧ ∀ j y, ys[j]? = some y → Pi j y H3, ⟨n, by simp, Nat.zero_le _, Gs.of (Ex.new hD), d2.ex (Ex.new hD), [], upd_same, rfl, fun j y hy => by simp at hy⟩, ?_⟩
  rintro i k H3 ⟨rfl, hi, ex, d3, ys, hys, hl, hP⟩
  by_cases hlt : i < n
  · refine .inr ⟨by show i < (n : Int).toNat; simpa using hlt, fun H4 => Gs s H2 H4 ∧ Dr s p xs H4 ∧ ∃ ys, H4 D = some (.lst ys) ∧ ys.length = i + 1 ∧ ∀ j y, ys[j]? = some y → Pi j y H4, fun H4 ⟨a, b, c⟩ => ⟨n - (i + 1), by omega, rfl, by omega, a, b, c⟩, fun x H4 y => ?_⟩
    obtain ⟨rfl, rfl⟩ := y
    refine ⟨hz _, ?_⟩
    unfold tYes
    dsimp only
    rw [if_pos rfl]
    rw [Int.zero_add]
    refine he i hlt H4 ((e.trans (Gs.of e2)).trans ex) d3 _ fun z H5 e5 d5 hz => ?_
    have hys5 := e5 _ _ hDs hys
    refine ⟨ys, hys5, sz_lt (by omega), ?_, ?_, ys ++ [z], upd_same, by simp [hl], fun j y hy => ?_⟩
    · intro a o ha h
      have hna : a ≠ D := fun q => by rw [q, hD] at h; cases h
      rw [upd_ne hna]
      exact e5 _ _ ha (ex _ _ ha h)
    · refine ⟨d5.ne, ?_, ?_⟩
      · obtain ⟨k, hk⟩ := d5.at_
        exact ⟨k, by rw [upd_ne hDs.symm]; exact hk⟩
      · rw [upd_ne hDp.symm]; exact d5.pool
    · have key : Pi j y H5 := by
        by_cases hj : j < ys.length
        · rw [List.getElem?_append_left hj] at hy
          exact m j _ _ _ (Gs.fx e5 d3) (hP j y hy)
        · rw [List.getElem?_append_right (by omega)] at hy
          have : j - ys.length = 0 := by
            rcases Nat.eq_zero_or_pos (j - ys.length) with z0 | z0
            · exact z0
            · rw [List.getElem?_eq_none (by simp; omega)] at hy; cases hy
          rw [this] at hy
          have ej : j = i := by omega
          have ey : z = y := by simpa using hy
          rw [ej, ← ey]
          exact hz
      exact m j _ _ _ (Fx.lst hys5) key
  · have hinn : i = n := by omega
    subst hinn
    exact .inl ⟨by show (i : Int).toNat ≤ i; simp, q _ H3 ((Gs.of e2).trans ex) d3 ⟨D, ys, rfl, hys, hl, hP⟩⟩
theorem evd_tuple {n : Nat} {Pi : Nat → HP} (h : EvD s p xs te σ H (LstP n Pi)) (m : ∀ i, MonoF (Pi i)) :
    EvD s p xs (tCB (fun xs H Q => ∃ p ys, xs = [.ref p] ∧ ((SqL K H p ys ∧ ∀ l, H l = none → Q (.ref l) (upd H l (.tup ys))) ∨ (SqT K H p ys ∧ Q (.ref p) H))) (tCons te tNil)) σ H (TupP n Pi) := fun H1 e d Q q =>
  h H1 e d _ fun v H2 e2 d2 ⟨p, ys, hv, hp, hl, hi⟩ => by
    subst hv
    exact ⟨p, ys, rfl, .inl ⟨sq_of hp, fun l hl' => q _ _ (e2.trans (Gs.of (Ex.new hl'))) (d2.ex (Ex.new hl')) ⟨l, ys, rfl, upd_same, hl, fun i y hy => (m i).mono _ _ _ (Ex.new hl') (hi i y hy)⟩⟩⟩
/-- a pure reading, in a state -/
theorem evd_of (h : ∀ H1, Gs s H H1 → Dr s p xs H1 → EvP te σ H1 P) : EvD s p xs te σ H P := fun H1 e d Q q => h H1 e d H1 (Ex.refl _) Q fun v H2 e2 p => q v H2 (Gs.of e2) (d.ex e2) p

/-! ### two fors: the ints of all, one after the other -/
def acc2 (f : Nat → Nat → V) (m : Nat → Nat) : Nat → List V
  | 0 => []
  | i + 1 => acc2 f m i ++ (List.range (m i)).map (f i)
theorem evp_lc2 {wi wi1 : TI} {g g1 : TG} {vs vs1 : List Nat} {n : Nat} {mm : Nat → Nat} {item : Nat → V → Hp → Prop} {item1 : Nat → Nat → V → Hp → Prop} {Sg : Nat → L2.St → Hp → Prop} {Sg1 : Nat → Nat → L2.St → Hp → Prop} {f : Nat → Nat → V}
    (hw : WiP wi σ H n item) (hn : n ≤ 100) (hmm : ∀ i, mm i ≤ 100)
    (hg : ∀ i x H1, i < n → Evl.Ex H H1 → item i x H1 → GP g x (wipe σ vs) H1 (fun σ2 H2 => wipe σ2 vs = wipe σ vs ∧ Sg i σ2 H2))
    (hw1 : ∀ i σ2 H1, i < n → Evl.Ex H H1 → Sg i σ2 H1 → WiP wi1 σ2 H1 (mm i) (item1 i))
    (hg1 : ∀ i j σ2 x H1 H2, i < n → j < mm i → Evl.Ex H H1 → Sg i σ2 H1 → Fx H1 H2 → item1 i j x H2 → GP g1 x (wipe σ2 vs1) H2 (fun σ3 H3 => wipe σ3 vs1 = wipe σ2 vs1 ∧ Sg1 i j σ3 H3))
    (he : ∀ i j σ3 H1, i < n → j < mm i → Evl.Ex H H1 → Sg1 i j σ3 H1 → Ev te σ3 H1 (f i j)) :
    EvP (tLc2 wi g tYes wi1 g1 tYes te vs vs1) σ H (fun v H1 => ∃ p, v = .ref p ∧ H1 p = some (.lst (acc2 f mm n))) := fun H1 e Q q => hw H1 e _ fun J H2 Pre e2 T pre => fun D hD => by
  have hlen : ∀ i, i ≤ n → (acc2 f mm i).length ≤ 100 * i := by
    intro i
    induction i with
    | zero => intro _; simp [acc2]
    | succ i ih => intro h; have := ih (by omega); have := hmm i; simp [acc2]; omega
  refine ⟨fun i k H3 => k = n - i ∧ i ≤ n ∧ Evl.Ex H2 H3 ∧ H3 D = some (.lst (acc2 f mm i)), ⟨n, by simp, Nat.zero_le _, Ex.new hD, upd_same⟩, ?_⟩
  rintro i k H3 ⟨rfl, hi, ex, hys⟩
  have pre3 := T.mono _ _ (Fx.of ex) pre
  by_cases hlt : i < n
  · refine .inr ⟨T.go i H3 hlt pre3, fun H4 => Evl.Ex H2 H4 ∧ H4 D = some (.lst (acc2 f mm (i + 1))), fun H4 ⟨a, b⟩ => ⟨n - (i + 1), by omega, rfl, by omega, a, b⟩, fun x H4 y => ?_⟩
    obtain ⟨e4, it⟩ := T.yld i H3 x H4 hlt pre3 y
    have exH4 := ((e.trans e2).trans ex).trans e4
    refine hg i x H4 hlt exH4 it _ fun σ2 ⟨hw2, hs⟩ => ⟨hw2, ?_⟩
    unfold tYes
    dsimp only
    rw [if_pos rfl]
    refine hw1 i σ2 H4 hlt exH4 hs H4 (Ex.refl _) _ fun J1 H5 Pre1 e5 T1 pre1 => ?_
    have hys5 := e5 _ _ (e4 _ _ hys)
    refine ⟨fun j k H6 => k = mm i - j ∧ j ≤ mm i ∧ Evl.Ex H2 H6 ∧ Fx H5 H6 ∧ H6 D = some (.lst (acc2 f mm i ++ (List.range j).map (f i))), ⟨mm i, by simp, Nat.zero_le _, (ex.trans e4).trans e5, Fx.refl _, by simpa using hys5⟩, ?_⟩
    rintro j k H6 ⟨rfl, hj, ex6, fx6, hys6⟩
    have pre6 := T1.mono _ _ fx6 pre1
    by_cases hlt1 : j < mm i
    · refine .inr ⟨T1.go j H6 hlt1 pre6, fun H7 => Evl.Ex H2 H7 ∧ Fx H5 H7 ∧ H7 D = some (.lst (acc2 f mm i ++ (List.range (j + 1)).map (f i))), fun H7 ⟨a, b, c⟩ => ⟨mm i - (j + 1), by omega, rfl, by omega, a, b, c⟩, fun x1 H7 y1 => ?_⟩
      obtain ⟨e7, it1⟩ := T1.yld j H6 x1 H7 hlt1 pre6 y1
      have ex7 : Evl.Ex H H7 := (e.trans e2).trans (ex6.trans e7)
      refine hg1 i j σ2 x1 H4 H7 hlt hlt1 exH4 hs ((Fx.of e5).trans (fx6.trans (Fx.of e7))) it1 _ fun σ3 ⟨hw3, hs3⟩ => ⟨hw3, ?_⟩
      rw [if_pos rfl]
      refine he i j σ3 H7 hlt hlt1 ex7 hs3 H7 (Ex.refl _) _ fun H8 e8 => ?_
      have hys8 := e8 _ _ (e7 _ _ hys6)
      have hl8 := hlen i (by omega)
      have hmi := hmm i
      refine ⟨_, hys8, sz_lt (by simp; omega), Ex.mut ((ex6.trans e7).trans e8) hD, (fx6.trans (Fx.of (e7.trans e8))).trans (Fx.lst hys8), ?_⟩
      rw [upd_same, List.range_succ, List.map_append, List.append_assoc]
      rfl
    · have hjm : j = mm i := by omega
      subst hjm
      exact .inl ⟨T1.stop H6 pre6, ex6, hys6⟩
  · have hinn : i = n := by omega
    subst hinn
    exact .inl ⟨T.stop H3 pre3, q _ H3 (e2.trans ex) ⟨D, rfl, hys⟩⟩
end
end Ev2
set_option maxHeartbeats 4100000
namespace K20
open PySem PySem.Spec PyProof.Rows L2 Evl RZ Ev2 TA5
abbrev rLenQ (K : PySem.W.Frag) : List V → Hp → VK → Prop := fun xs H Q => ∃ p ys, xs = [.ref p] ∧ (SqL K H p ys ∨ SqT K H p ys) ∧ Q (.int ys.length) H
abbrev rTupQ (K : PySem.W.Frag) : List V → Hp → VK → Prop := fun xs H Q => ∃ p ys, xs = [.ref p] ∧ ((SqL K H p ys ∧ ∀ l, H l = none → Q (.ref l) (upd H l (.tup ys))) ∨ (SqT K H p ys ∧ Q (.ref p) H))
def topS (i : Nat) : Stmt := PySem.Challenge.pw_surecounts_k88_whole_lives_of_buckets.main.body.getD i (.Pass ⟨0, 0, 0, 0⟩)
/-- what the top has written of the built-in names and of the one number -/
structure Txt (mg : Str → Option Value) (tk : Tok) : Prop where
  n_isinstance : mg "isinstance" = none
  n_int : mg "int" = none
  n_bool : mg "bool" = none
  n_tuple : mg "tuple" = none
  n_len : mg "len" = none
  n_range : mg "range" = none
  n_enumerate : mg "enumerate" = none
  n_max : mg "max" = none
  n_min : mg "min" = none
  n_sum : mg "sum" = none
  n_all : mg "all" = none
  n_zip : mg "zip" = none
  n_list : mg "list" = none
  c_MOST_HEIGHTS : mg "MOST_HEIGHTS" = some (.int 64 tk)
structure Df (K : PySem.W.Frag) (mg : Str → Option Value) (x : Str) (st : Stmt) (ps : List Str) (f : Addr) (fd : FuncData) : Prop where
  F : Fun K x x st f fd
  b : Binds K fd ps []
  g : mg x = some (.ref f)
/-- a grid: m rows of n ints, by place -/
def Grid (m n : Nat) (f : Nat → Nat → Int) : HP := TupP m fun i => TupP n fun j => Is (.int (f i j))
theorem mf_is {x : V} : MonoF (Is x) := fun _ _ _ _ h => h
theorem mf_tup {n : Nat} {P : Nat → HP} (m : ∀ i, MonoF (P i)) : MonoF (TupP n P) := fun v H H' e ⟨p, ys, h1, h2, h3, h4⟩ => ⟨p, ys, h1, e _ _ h2 (fun _ z => nomatch z), h3, fun i y hy => m i _ _ _ e (h4 i y hy)⟩
theorem mf_row {n : Nat} {f : Nat → Int} : MonoF (TupP n fun j => Is (.int (f j))) := mf_tup fun _ => mf_is
theorem mf_grid {m n : Nat} {f : Nat → Nat → Int} : MonoF (Grid m n f) := mf_tup fun _ => mf_row
def Tr : HP := Is (.bl true)
section
variable {K : PySem.W.Frag} {σ : L2.St} {H : Hp} {ta tb te : TE} {P : HP}
theorem tup_get {n : Nat} {Pi : Nat → HP} {v : V} {i : Nat} (h : TupP n Pi v H) (hi : i < n) : ∃ p ys y, v = .ref p ∧ H p = some (.tup ys) ∧ ys.length = n ∧ ys[i]? = some y ∧ Pi i y H := by
  obtain ⟨p, ys, h1, h2, h3, h4⟩ := h
  exact ⟨p, ys, _, h1, h2, h3, List.getElem?_eq_getElem (by omega), h4 i _ (List.getElem?_eq_getElem (by omega))⟩
/-- a list whose items are known is known -/
theorem lst_is {n : Nat} {w : Nat → V} {v : V} (h : LstP n (fun i => Is (w i)) v H) : ∃ p, v = .ref p ∧ H p = some (.lst ((List.range n).map w)) := by
  obtain ⟨p, ys, h1, h2, h3, h4⟩ := h
  refine ⟨p, h1, ?_⟩
  rw [h2]
  have : ys = (List.range n).map w := by
    apply List.ext_getElem?
    intro i
    by_cases hi : i < n
    · rw [List.getElem?_map, List.getElem?_range hi, List.getElem?_eq_getElem (by omega)]
      exact congrArg some (h4 i _ (List.getElem?_eq_getElem (by omega)))
    · rw [List.getElem?_eq_none (by omega), List.getElem?_eq_none (by simp; omega)]
  rw [this]
theorem evp_all {n : Nat} (h : EvP te σ H (LstP n (fun _ => Tr))) : EvP (tCB (rAll K) (tCons te tNil)) σ H Tr := fun H1 e Q q => h H1 e _ fun v H2 e2 p => by
  obtain ⟨l, rfl, hl⟩ := lst_is p
  refine ⟨l, (List.range n).map (fun _ => true), rfl, ?_, ?_⟩
  · rw [List.map_map]; exact sq_of hl
  · have : ((List.range n).map (fun _ => true)).all id = true := by simp
    rw [this]
    exact q _ H2 e2 rfl
theorem evp_isi {t u : Value} {c : V} {b : Bool} (h : EvP te σ H P) (ht : ∀ x H1, P x H1 → TyX K H1 x t) (hc : ClsV c u) (e : PySem.W.kitOne K t u = some b) : EvP (tCB (rIsi K) (tCons te (tCons (tC c) tNil))) σ H (Is (.bl b)) := fun H1 e1 Q q =>
  h H1 e1 _ fun x H2 e2 p => ⟨x, c, t, u, b, rfl, hc, ht x H2 p, e, q _ H2 e2 rfl⟩
theorem evp_len {n : Nat} {Pi : Nat → HP} (h : EvP te σ H (TupP n Pi)) : EvP (tCB (rLenQ K) (tCons te tNil)) σ H (Is (.int (n : Int))) := fun H1 e Q q =>
  h H1 e _ fun v H2 e2 ⟨p, ys, h1, h2, h3, h4⟩ => ⟨p, ys, by rw [h1], .inr (st_of h2), by rw [h3]; exact q _ H2 e2 rfl⟩
theorem evp_c {v : V} : EvP (tC v) σ H (Is v) := evp_of ev_c
theorem evp_ixT {n : Nat} {Pi : Nat → HP} {i : Nat} (ha : EvP ta σ H (TupP n Pi)) (hb : EvP tb σ H (Is (.int (i : Int)))) (hi : i < n) (m : ∀ i, MonoF (Pi i)) : EvP (tOp (rIxT K) ta tb) σ H (Pi i) := fun H1 e Q q =>
  ha H1 e _ fun v H2 e2 h => hb H2 (e.trans e2) _ fun y H3 e3 hy => by
    obtain ⟨p, ys, z, rfl, hp, hl, hz, hpz⟩ := tup_get h hi
    exact ⟨p, ys, _, z, rfl, hy, st_of (e3 _ _ hp), atI_nat hz, q z H3 (e2.trans e3) ((m i).mono _ _ _ e3 hpz)⟩
/-- two ints, one operation -/
theorem evp_I0 {g : Int → Int → V} {i j : Int} (ha : EvP ta σ H (Is (.int i))) (hb : EvP tb σ H (Is (.int j))) : EvP (tOp (rI0 g) ta tb) σ H (Is (g i j)) := evp_of (ev_op ha.ev hb.ev rv_I0)
theorem evp_I {C : Int → Int → Prop} {g : Int → Int → V} {i j : Int} (ha : EvP ta σ H (Is (.int i))) (hb : EvP tb σ H (Is (.int j))) (hc : C i j) : EvP (tOp (rI C g) ta tb) σ H (Is (g i j)) := evp_of (ev_op ha.ev hb.ev (rv_I hc))
theorem evp_eq {x y : V} (ha : EvP ta σ H (Is x)) (hb : EvP tb σ H (Is y)) (hs : scal x y = true) : EvP (tOp rEq ta tb) σ H (Is (.bl (decide (x = y)))) := evp_of (ev_op ha.ev hb.ev (rv_eq hs))
theorem evp_ne {x y : V} (ha : EvP ta σ H (Is x)) (hb : EvP tb σ H (Is y)) (hs : scal x y = true) : EvP (tOp rNe ta tb) σ H (Is (.bl (!decide (x = y)))) := evp_of (ev_op ha.ev hb.ev (rv_ne hs))
theorem evp_is {x y : V} (h : EvP te σ H (Is x)) (e : x = y) : EvP te σ H (Is y) := e ▸ h
theorem evp_chain {g g' : Int → Int → V} {i j k : Int} {b b' : Bool} {tc : TE} (ha : EvP ta σ H (Is (.int i))) (hb : EvP tb σ H (Is (.int j))) (hc : EvP tc σ H (Is (.int k))) (h1 : g i j = .bl b) (h2 : g' j k = .bl b') :
    EvP (tChain (rI0 g) (rI0 g') ta tb tc) σ H (Is (.bl (b && b'))) := fun H1 e Q q =>
  ha.ev H1 e _ fun H2 e2 => hb.ev H2 (e.trans e2) _ fun H3 e3 => ⟨i, j, rfl, rfl, b, h1, by
    cases b with
    | true =>
      refine iteT ?_
      exact hc.ev H3 ((e.trans e2).trans e3) _ fun H4 e4 => ⟨j, k, rfl, rfl, by rw [h2]; exact q _ H4 ((e2.trans e3).trans e4) rfl⟩
    | false => exact iteF (q _ H3 (e2.trans e3) rfl)⟩
theorem evp_and {a b : Bool} (h1 : EvP ta σ H (Is (.bl a))) (h2 : a = true → EvP tb σ H (Is (.bl b))) : EvP (tAndV ta tb) σ H (Is (.bl (a && b))) := evp_of (ev_andV h1.ev fun h => (h2 h).ev)
theorem evp_or {a b : Bool} (h1 : EvP ta σ H (Is (.bl a))) (h2 : a = false → EvP tb σ H (Is (.bl b))) : EvP (tOrV ta tb) σ H (Is (.bl (a || b))) := evp_of (ev_orV h1.ev fun h => (h2 h).ev)
theorem evp_not {a : Bool} (h1 : EvP ta σ H (Is (.bl a))) : EvP (tNotV ta) σ H (Is (.bl (!a))) := evp_of (ev_notV h1.ev)
theorem et_bl {b : Bool} (h : EvP te σ H (Is (.bl b))) : EvT (tB te) σ H b := et_B h.ev
theorem et_tst {b : Bool} (h : EvP te σ H (Is (.bl b))) : EvT (tTest te) σ H b := et_test h.ev
theorem evp_gl {m n : Nat} {f : Nat → Nat → Int} {i : Nat} {v : V} (h : σ[i]? = some (some v)) (p : Grid m n f v H) : EvP (tVar i) σ H (Grid m n f) := evp_var h p mf_grid.mono
end
theorem g_name {i : Nat} {x : V} {σ0 : L2.St} {H : Hp} {S : L2.St → Hp → Prop} (h : S (σ0.set i (some x)) H) : GP (gName i) x σ0 H S := fun Q q => q _ h
theorem scs (N ps : List Str) (sc : Scope) (h : sc.kind = .function ∧ sc.isCoroutine = false ∧ sc.isGenerator = false) (h1 : (decide N.Nodup) = true) (h2 : N.take ps.length = ps) (h3 : (ps.all fun x => sc.names.lookup x == some .local || sc.names.lookup x == some .cell) = true) (h4 : (sc.names.all fun y => y.2 != .free) = true) : FnScope N ps sc := by
  refine ⟨h.1, h.2.1, h.2.2, of_decide_eq_true h1, h2, fun x hx => ?_, fun y hy e => ?_⟩
  · have := List.all_eq_true.mp h3 x hx
    simpa using this
  · have := List.all_eq_true.mp h4 y hy
    rw [e] at this
    simp at this
end K20
namespace K20
open PySem PySem.Spec PyProof.Rows L2 Evl RZ Ev2 TA5
abbrev s_law_numbers : Stmt := topS 26
abbrev N_law_numbers : List Str := ["_law_cell", "_law_salt", "_law_sizes", "_law_whole", "_law_left", "_law_result", "_law_k", "_law_one"]
theorem sc_law_numbers : FnScope N_law_numbers ["_law_cell", "_law_salt", "_law_sizes"] (defScope s_law_numbers) := ⟨rfl, rfl, rfl, by decide +kernel, rfl, by decide +kernel, by decide +kernel⟩
abbrev s_law_draw : Stmt := topS 27
abbrev N_law_draw : List Str := ["_law_state", "_law_many", "_law_at"]
theorem sc_law_draw : FnScope N_law_draw ["_law_state", "_law_many"] (defScope s_law_draw) := ⟨rfl, rfl, rfl, by decide +kernel, rfl, by decide +kernel, by decide +kernel⟩
abbrev s_law_pool : Stmt := topS 28
abbrev N_law_pool : List Str := ["_law_cell", "_law_salt", "_law_many"]
theorem sc_law_pool : FnScope N_law_pool ["_law_cell", "_law_salt", "_law_many"] (defScope s_law_pool) := ⟨rfl, rfl, rfl, by decide +kernel, rfl, by decide +kernel, by decide +kernel⟩
/-- an int with c -/
def BI (c : Int → Prop) : HP := fun v _ => ∃ i, v = .int i ∧ c i
theorem mf_bi {c : Int → Prop} : MonoF (BI c) := fun _ _ _ _ h => h
section
variable {K : PySem.W.Frag} {σ : L2.St} {H : Hp} {ta tb te : TE} {P : HP} {tz : TS} {D : Ends}
theorem q_asgP {i : Nat} (h : EvP te σ H P) (k : ∀ v H1, Evl.Ex H H1 → P v H1 → tz D (σ.set i (some v)) H1) : tSeq (tAsg te (gName i)) tz D σ H := h H (Ex.refl H) _ fun v H1 e p => k v H1 e p
theorem q_appP {l : Addr} {xs : List V} (hl : H l = some (.lst xs)) (ha : Ev ta σ H (.ref l)) (h : EvP te σ H P) (hz : xs.length < 100000) (k : ∀ v H1, Evl.Ex H H1 → P v H1 → tz D σ (upd H1 l (.lst (xs ++ [v])))) :
    tSeq (tDrop (tBM K "list" rAppend ta (tCons te tNil))) tz D σ H := ha H (Ex.refl H) _ fun H1 e1 =>
  ⟨Or.inl ⟨rfl, xs, sq_of (e1 l _ hl)⟩, h H1 e1 _ fun v H2 e2 p => ⟨l, xs, v, rfl, rfl, e2 l _ (e1 l _ hl), sz_lt hz, k v H2 (e1.trans e2) p⟩⟩
theorem s_appP {l : Addr} {xs : List V} (hl : H l = some (.lst xs)) (ha : Ev ta σ H (.ref l)) (h : EvP te σ H P) (hz : xs.length < 100000) (k : ∀ v H1, Evl.Ex H H1 → P v H1 → D.nx σ (upd H1 l (.lst (xs ++ [v])))) :
    tDrop (tBM K "list" rAppend ta (tCons te tNil)) D σ H := ha H (Ex.refl H) _ fun H1 e1 =>
  ⟨Or.inl ⟨rfl, xs, sq_of (e1 l _ hl)⟩, h H1 e1 _ fun v H2 e2 p => ⟨l, xs, v, rfl, rfl, e2 l _ (e1 l _ hl), sz_lt hz, k v H2 (e1.trans e2) p⟩⟩
theorem evp_bI {C : Int → Int → Prop} {g : Int → Int → Int} {c d e : Int → Prop} (ha : EvP ta σ H (BI c)) (hb : EvP tb σ H (BI d)) (h : ∀ i j, c i → d j → C i j ∧ e (g i j)) : EvP (tOp (rI C fun i j => .int (g i j)) ta tb) σ H (BI e) :=
  evp_op ha hb mf_bi.mono fun x y H1 _ ⟨i, hx, hc⟩ ⟨j, hy, hd⟩ Q q => ⟨i, j, hx, hy, (h i j hc hd).1, q _ H1 (Ex.refl H1) ⟨_, rfl, (h i j hc hd).2⟩⟩
theorem evp_b0 {g : Int → Int → Int} {c d e : Int → Prop} (ha : EvP ta σ H (BI c)) (hb : EvP tb σ H (BI d)) (h : ∀ i j, c i → d j → e (g i j)) : EvP (tOp (rI0 fun i j => .int (g i j)) ta tb) σ H (BI e) :=
  evp_op ha hb mf_bi.mono fun x y H1 _ ⟨i, hx, hc⟩ ⟨j, hy, hd⟩ Q q => ⟨i, j, hx, hy, q _ H1 (Ex.refl H1) ⟨_, rfl, h i j hc hd⟩⟩
theorem evp_bi {i : Int} {c : Int → Prop} (h : EvP te σ H (Is (.int i))) (hc : c i) : EvP te σ H (BI c) := h.imp fun v H1 _ p => ⟨i, p, hc⟩
theorem evp_bv {n : Nat} {i : Int} {c : Int → Prop} (h : σ[n]? = some (some (.int i))) (hc : c i) : EvP (tVar n) σ H (BI c) := evp_bi (evp_var h rfl mono_is) hc
theorem evp_bc {i : Int} {c : Int → Prop} (hc : c i) : EvP (tC (.int i)) σ H (BI c) := evp_bi evp_c hc
theorem evp_ixL {p : Addr} {xs : List V} {i : Nat} {v : V} (ha : EvP ta σ H (Is (.ref p))) (hp : SqL K H p xs) (hb : EvP tb σ H (Is (.int (i : Int)))) (hv : xs[i]? = some v) : EvP (tOp (rIxL K) ta tb) σ H (Is v) := evp_of (ev_op ha.ev hb.ev (rv_ixL hp (atI_nat hv)))
end
section
variable {P : Program} {w : World} {K : PySem.W.Frag} {mg : Str → Option Value} {base : Heap} {tk : Tok} {k : Nat}
def spNum : Sp := fun vs H Q _ => ∃ (c s : Int) (a : Addr) (zs : List Int), vs = [.int c, .int s, .ref a] ∧ H a = some (.lst (zs.map V.int)) ∧ (∀ z ∈ zs, 1 ≤ z ∧ z ≤ 1000) ∧ zs.length ≤ 1000 ∧ (0 ≤ s ∧ s ≤ 100000) ∧
  ∀ (p : Addr) (xs : List Int) (H2 : Hp), Evl.Ex H H2 → H p = none → H2 p = some (.lst (xs.map V.int)) → Q (.ref p) H2
theorem fm {a b : Int} (h : 0 < b) : b ≠ 0 ∧ (0 ≤ a.fmod b ∧ a.fmod b < b) := ⟨by omega, Int.fmod_nonneg_of_pos a h, Int.fmod_lt_of_pos a h⟩
theorem ok_num {fa : Addr} {fd : FuncData} (T : Txt mg tk) (D : Df K mg "_law_numbers" s_law_numbers ["_law_cell", "_law_salt", "_law_sizes"] fa fd) :
    FnOk P w K mg base CX0 (k + 1) fa fd ["_law_cell", "_law_salt", "_law_sizes"] spNum := by
  refine D.F.ok sc_law_numbers (fun vs H Q E h => ?_) (fun cdv A outer s H vs Q E hr h => ?_)
  · obtain ⟨c, s, a, zs, rfl, _⟩ := h
    rfl
  · obtain ⟨c, t, a, zs, rfl, ha, hz, hzl, ht, q⟩ := h
    have nd := sc_law_numbers.nd
    refine ⟨_, (pss_cons (ps_set (i := 3) nd rfl (Or.inl rfl) (pe_callB (call_max2 rfl) (by rfl) T.n_max PyProof.Rows.boot_max (pa_cons (pv 0) (pa_cons (pe_op op_sub (pe_un un_neg pe_int) (pv 0)) pa_nil)))) (pss_cons (ps_set (i := 4) nd rfl (Or.inl rfl) (pv 3)) (pss_cons (ps_set (i := 5) nd rfl (Or.inl rfl) (pe_lst pa_nil)) (pss_cons (ps_for PassesOwn.never rfl (pi_range1 (by rfl) T.n_range (pa_cons (pe_callB (r := rLenQ K) call_len_seq (by rfl) T.n_len PySem.boot_len (pa_cons (pv 2) pa_nil)) pa_nil)) (pg_name (i := 6) nd rfl (Or.inl rfl)) (pss_one (ps_if (PW.pt (pw_and (pt_cmpR op_ge (pv 3) (pe_op op_pow pe_int pe_int) (nomark _)) (pw_and1 (pt_cmpR op_gt (pv 4) pe_int (nomark _))))) (pss_cons (ps_expr (pe_bm PySem.F.plainAttrs_list PySem.F.slot_list_append PySem.F.type_list_append mt_append (pv 5) (pa_cons (pe_op op_modN (pv 4) (pe_ix (r := rIxL K) ix_list (pv 2) (pv 6) (fun _ _ => rfl))) pa_nil))) (pss_one (ps_set (i := 4) nd rfl (Or.inl rfl) (pe_op op_fdivN (pv 4) (pe_ix (r := rIxL K) ix_list (pv 2) (pv 6) (fun _ _ => rfl)))))) (pss_cons (ps_set (i := 7) nd rfl (Or.inl rfl) (pe_op op_modN (pe_op op_pow (pe_op op_add (pe_op op_add (pe_op op_modN (pv 3) pe_int) (pe_op op_mul pe_int (pv 1))) pe_int) pe_int) pe_int)) (pss_cons (ps_set (i := 7) nd rfl (Or.inl rfl) (pe_op op_modN (pe_op op_mul (pe_op op_add (pv 7) (pe_op op_mul pe_int (pe_op op_add (pv 6) pe_int))) (pe_op op_add (pv 6) pe_int)) pe_int)) (pss_cons (ps_set (i := 7) nd rfl (Or.inl rfl) (pe_op op_modN (pe_op op_mul (pe_op op_modN (pe_op op_pow (pv 7) pe_int) pe_int) pe_int) pe_int)) (pss_one (ps_expr (pe_bm PySem.F.plainAttrs_list PySem.F.slot_list_append PySem.F.type_list_append mt_append (pv 5) (pa_cons (pe_op op_modN (pe_op op_fdivN (pv 7) pe_int) (pe_ix (r := rIxL K) ix_list (pv 2) (pv 6) (fun _ _ => rfl))) pa_nil)))))))))) (pss_one (ps_ret (pv 5))))))), ?_⟩
    refine q_asgP (P := BI fun _ => True) (fun H1 e1 Q q => ?_) fun v1 H1 e1 ⟨W, hW, _⟩ => ?_
    · exact ⟨_, rfl, 1, rfl, _, rfl, -1, c, rfl, rfl, c, _, rfl, q _ H1 (Ex.refl _) ⟨_, rfl, trivial⟩⟩
    subst hW
    refine q_asgP (P := Is (.int W)) (evp_var rfl rfl mono_is) fun v2 H2 e2 hv2 => ?_
    subst hv2
    refine q_asgL (el_lst ea_nil (by decide)) fun p H3 hp e3 h3 => ?_
    have hpH : H p = none := fresh_back (e1.trans e2) hp
    have ex3 : Evl.Ex H H3 := (e1.trans e2).trans e3
    have key : ∀ (i : Nat) (σ' : L2.St) (H' : Hp), True := fun _ _ _ => trivial
    refine q_forR1 (n := (zs.length : Int)) (ea_cons (EvP.ev (te := tCB (rLenQ K) (tCons (tVar 2) tNil)) fun H4 e4 Q q => ⟨_, rfl, a, _, rfl, .inl (sq_of ((ex3.trans e4) _ _ ha)), by rw [List.length_map]; exact q _ H4 (Ex.refl _) rfl⟩) ea_nil) (by omega)
      (fun i σ' H' => ∃ (L : Int) (xs : List Int) (k1 k2 : Option V), σ' = [some (.int c), some (.int t), some (.ref a), some (.int W), some (.int L), some (.ref p), k1, k2] ∧ xs.length = i ∧ Evl.Ex H H' ∧ H' p = some (.lst (xs.map V.int)))
      (fun H4 e4 => ⟨W, [], none, none, rfl, rfl, ex3.trans e4, e4 _ _ h3⟩) (fun i σ' H' hi ⟨L, xs, k1, k2, hs, hl, ex', hp'⟩ => ?_) (fun σ' H' ⟨L, xs, k1, k2, hs, hl, ex', hp'⟩ => ?_)
    · subst hs
      have hzi : (zs.map V.int)[i]? = some (.int (zs[i]'(by omega))) := by rw [List.getElem?_map, List.getElem?_eq_getElem (by omega)]; rfl
      have hzb := hz (zs[i]'(by omega)) (List.getElem_mem _)
      generalize zs[i]'(by omega) = z at hzi hzb
      have step : ∀ (σ2 : L2.St) (H5 : Hp) (e : Evl.Ex H' H5), σ2[2]? = some (some (.ref a)) → σ2[6]? = some (some (.int (i : Int))) → EvP (tOp (rIxL K) (tVar 2) (tVar 6)) σ2 H5 (BI fun x => 1 ≤ x ∧ x ≤ 1000) := fun σ2 H5 e h2 h6 =>
        evp_bi (evp_ixL (evp_var h2 rfl mono_is) (sq_of ((ex'.trans e) _ _ ha)) (evp_var h6 rfl mono_is) hzi) hzb
      have fin : ∀ (v : V) (H5 : Hp) (L' : Int) (k2' : Option V), Evl.Ex H' H5 → (∃ x, v = .int x ∧ True) → (fun i σ' H' => ∃ (L : Int) (xs : List Int) (k1 k2 : Option V), σ' = [some (.int c), some (.int t), some (.ref a), some (.int W), some (.int L), some (.ref p), k1, k2] ∧ xs.length = i ∧ Evl.Ex H H' ∧ H' p = some (.lst (xs.map V.int))) (i + 1)
          [some (.int c), some (.int t), some (.ref a), some (.int W), some (.int L'), some (.ref p), some (.int (i : Int)), k2'] (upd H5 p (.lst (xs.map V.int ++ [v]))) := fun v H5 L' k2' e ⟨x, hx, _⟩ => by
        subst hx
        refine ⟨L', xs ++ [x], some (.int (i : Int)), k2', rfl, by simp [hl], Ex.mut (ex'.trans e) hpH, ?_⟩
        rw [upd_same, List.map_append]; rfl
      have hW : EvP (tVar 3) [some (.int c), some (.int t), some (.ref a), some (.int W), some (.int L), some (.ref p), some (.int (i : Int)), k2] H' (Is (.int W)) := evp_var rfl rfl mono_is
      have hpw : EvP (tOp (rI CPow fun i j => .int (i ^ j.toNat)) (tC (.int 10)) (tC (.int 18))) [some (.int c), some (.int t), some (.ref a), some (.int W), some (.int L), some (.ref p), some (.int (i : Int)), k2] H' (Is (.int (10 ^ (18 : Int).toNat))) := evp_I evp_c evp_c ⟨by decide, by decide, by decide⟩
      refine s_if (et_and (et_tst (evp_I0 (g := fun i j => .bl (decide (j ≤ i))) hW hpw)) fun _ => et_tst (evp_I0 (g := fun i j => .bl (decide (j < i))) (evp_var (v := .int L) rfl rfl mono_is) evp_c)) (fun _ H5 e5 => ?_) (fun _ H5 e5 => ?_)
      · refine q_appP (P := BI fun _ => True) (e5 _ _ hp') (ev_var rfl) (evp_bI (c := fun _ => True) (e := fun _ => True) (evp_bv rfl trivial) (step _ H5 e5 rfl rfl) fun i j _ hj => ⟨by omega, trivial⟩) (by simp; omega) fun v H6 e6 hv => ?_
        have st6 : EvP (tOp (rIxL K) (tVar 2) (tVar 6)) [some (.int c), some (.int t), some (.ref a), some (.int W), some (.int L), some (.ref p), some (.int (i : Int)), k2] (upd H6 p (.lst (xs.map V.int ++ [v]))) (BI fun x => 1 ≤ x ∧ x ≤ 1000) :=
          evp_bi (evp_ixL (evp_var rfl rfl mono_is) (sq_of ((Ex.mut ((ex'.trans e5).trans e6) hpH) _ _ ha)) (evp_var rfl rfl mono_is) hzi) hzb
        have hdv := evp_bI (C := CDivN) (g := fun i j => i.fdiv j) (c := fun _ => True) (e := fun _ => True) (evp_bv (n := 4) (i := L) rfl trivial) st6 fun i j _ hj => ⟨⟨by omega, by omega⟩, trivial⟩
        refine hdv _ (Ex.refl _) _ fun v7 H7 e7 ⟨x7, hx7, _⟩ => ?_
        subst hx7
        obtain ⟨x, hx, _⟩ := hv
        subst hx
        refine ⟨x7, xs ++ [x], some (.int (i : Int)), k2, rfl, by simp [hl], (Ex.mut ((ex'.trans e5).trans e6) hpH).trans e7, ?_⟩
        rw [e7 _ _ upd_same, List.map_append]; rfl
      · have hone : ∀ (k2' : Option V) (H6 : Hp), EvP (tVar 3) [some (.int c), some (.int t), some (.ref a), some (.int W), some (.int L), some (.ref p), some (.int (i : Int)), k2'] H6 (BI fun _ => True) := fun k2' H6 => evp_bv rfl trivial
        refine q_asgP (P := BI fun x => 0 ≤ x ∧ x < 2147483647) (evp_bI (c := fun _ => True) (d := fun x => x = 2147483647) (evp_bI (c := fun x => 0 ≤ x ∧ x < 10 ^ 18) (d := fun x => x = 3) (e := fun _ => True) (evp_b0 (c := fun x => 0 ≤ x ∧ x < 10 ^ 17) (d := fun x => x = 1) (evp_b0 (c := fun x => 0 ≤ x ∧ x < 2147483629) (d := fun x => 0 ≤ x ∧ x ≤ 791900000)
          (evp_bI (d := fun x => x = 2147483629) (hone k2 H5) (evp_bc rfl) fun i j _ hj => by subst hj; exact fm (by decide)) (evp_bI (c := fun x => x = 7919) (d := fun x => x = t) (evp_bc rfl) (evp_bv rfl rfl) fun i j hi hj => by subst hi; subst hj; exact ⟨.inl ⟨by decide, by decide⟩, by omega⟩)
          fun i j hi hj => by omega) (evp_bc rfl) fun i j hi hj => by omega) (evp_bc rfl) fun i j hi hj => ⟨⟨by omega, by omega, by omega⟩, trivial⟩) (evp_bc rfl) fun i j _ hj => by subst hj; exact fm (by decide)) fun v6 H6 e6 ⟨x6, hx6, hb6⟩ => ?_
        subst hx6
        refine q_asgP (P := BI fun x => 0 ≤ x ∧ x < 2147483629) (evp_bI (c := fun _ => True) (d := fun x => x = 2147483629) (evp_bI (c := fun _ => True) (d := fun x => 0 ≤ x ∧ x ≤ 2000) (e := fun _ => True) (evp_b0 (c := fun _ => True) (d := fun _ => True) (e := fun _ => True) (evp_bv rfl trivial)
          (evp_bI (c := fun x => x = 104729) (d := fun _ => True) (evp_bc rfl) (evp_b0 (c := fun _ => True) (d := fun _ => True) (evp_bv rfl trivial) (evp_bc trivial) fun _ _ _ _ => trivial) fun i j hi hj => by subst hi; exact ⟨.inl ⟨by decide, by decide⟩, trivial⟩) fun _ _ _ _ => trivial)
          (evp_b0 (c := fun x => x = (i : Int)) (d := fun x => x = 3) (evp_bv rfl rfl) (evp_bc rfl) fun i j hi hj => by omega) fun i j _ hj => ⟨.inr ⟨by omega, by omega⟩, trivial⟩) (evp_bc rfl) fun i j _ hj => by subst hj; exact fm (by decide)) fun v7 H7 e7 ⟨x7, hx7, hb7⟩ => ?_
        subst hx7
        refine q_asgP (P := BI fun x => 0 ≤ x ∧ x < 2147483629) (evp_bI (c := fun _ => True) (d := fun x => x = 2147483629) (evp_bI (c := fun x => 0 ≤ x ∧ x < 2147483647) (d := fun x => x = 48271) (e := fun _ => True) (evp_bI (c := fun _ => True) (d := fun x => x = 2147483647) (evp_bI (c := fun x => 0 ≤ x ∧ x < 2147483629) (d := fun x => x = 5) (e := fun _ => True)
          (evp_bv rfl hb7) (evp_bc rfl) fun i j hi hj => ⟨⟨by omega, by omega, by omega⟩, trivial⟩) (evp_bc rfl) fun i j _ hj => by subst hj; exact fm (by decide)) (evp_bc rfl) fun i j hi hj => ⟨.inl ⟨by omega, by omega⟩, trivial⟩) (evp_bc rfl) fun i j _ hj => by subst hj; exact fm (by decide)) fun v8 H8 e8 ⟨x8, hx8, hb8⟩ => ?_
        subst hx8
        refine s_appP (P := BI fun _ => True) (((e5.trans e6).trans (e7.trans e8)) _ _ hp') (ev_var rfl) (evp_bI (c := fun _ => True) (evp_bI (C := CDivN) (g := fun i j => i.fdiv j) (c := fun _ => True) (d := fun x => x = 16) (e := fun _ => True) (evp_bv rfl trivial) (evp_bc rfl) fun i j _ hj => by subst hj; exact ⟨⟨by decide, by decide⟩, trivial⟩)
          (step _ H8 ((e5.trans e6).trans (e7.trans e8)) rfl rfl) fun i j _ hj => ⟨by omega, trivial⟩) (by simp; omega) fun v9 H9 e9 hv9 => ?_
        exact fin v9 H9 L _ (((e5.trans e6).trans (e7.trans e8)).trans e9) hv9
    · subst hs
      exact ⟨_, rfl, q p xs H' ex' hpH hp'⟩
end
section
variable {P : Program} {w : World} {K : PySem.W.Frag} {mg : Str → Option Value} {base : Heap} {tk : Tok} {k : Nat}
theorem evp_if {σ : L2.St} {H : Hp} {t : TT} {ta tb : TE} {b : Bool} {P : HP} (h : EvT t σ H b) (h1 : b = true → EvP ta σ H P) (h2 : b = false → EvP tb σ H P) : EvP (tIf t ta tb) σ H P := fun H1 e Q q => h H1 e _ fun H2 e2 => by
  cases b with
  | true => exact iteT (h1 rfl H2 (e.trans e2) _ fun v H3 e3 p => q v H3 (e2.trans e3) p)
  | false => exact iteF (h2 rfl H2 (e.trans e2) _ fun v H3 e3 p => q v H3 (e2.trans e3) p)
abbrev rInt1 : List V → Hp → VK → Prop := fun xs H Q => (∃ i, xs = [.int i] ∧ Q (.int i) H) ∨ ∃ k, xs = [.bl k] ∧ Q (.int (if k = true then 1 else 0)) H
theorem evp_int1 {σ : L2.St} {H : Hp} {te : TE} {i : Int} (h : EvP te σ H (Is (.int i))) : EvP (tCB rInt1 (tCons te tNil)) σ H (Is (.int i)) := evp_cb (eap_one h) fun vs H1 ⟨x, e, hx⟩ Q q => .inl ⟨i, by rw [e, show x = .int i from hx], q _ H1 (Ex.refl _) rfl⟩
def spDraw : Sp := fun vs H Q _ => ∃ (s p : Addr) (xs : List Int) (m : Int), vs = [.ref s, .int m] ∧ Dr s p xs H ∧ 1 ≤ m ∧ ∀ v H2, Gs s H H2 → Dr s p xs H2 → BI (fun r => 0 ≤ r ∧ r < m) v H2 → Q v H2
theorem ok_draw {fa : Addr} {fd : FuncData} (T : Txt mg tk) (D : Df K mg "_law_draw" s_law_draw ["_law_state", "_law_many"] fa fd) :
    FnOk P w K mg base CX0 (k + 1) fa fd ["_law_state", "_law_many"] spDraw := by
  refine D.F.ok sc_law_draw (fun vs H Q E h => ?_) (fun cdv A outer s H vs Q E hr h => ?_)
  · obtain ⟨s, p, xs, m, rfl, _⟩ := h
    rfl
  · obtain ⟨s, p, xs, m, rfl, d, hm, q⟩ := h
    have nd := sc_law_draw.nd
    refine ⟨_, (pss_cons (ps_set (i := 2) nd rfl (Or.inl rfl) (pe_ix (r := rIxL K) ix_list (pv 0) pe_int (fun _ _ => rfl))) (pss_cons (ps_asg (pe_op op_add (pv 2) pe_int) (pg_sub (pv 0) pe_int set_list)) (pss_one (ps_ret (pe_ifExp (pt_cmpR op_lt (pv 2) (pe_callB (r := rLenQ K) call_len_seq (by rfl) T.n_len PySem.boot_len (pa_cons (pe_ix (r := rIxL K) ix_list (pv 0) pe_int (fun _ _ => rfl)) pa_nil)) (nomark _)) (pe_op op_modN (pe_callTy call_int1 (by rfl) T.n_int PyProof.Rows.boot_int (pa_cons (pe_ix (r := rIxL K) ix_list (pe_ix (r := rIxL K) ix_list (pv 0) pe_int (fun _ _ => rfl)) (pv 2) (fun _ _ => rfl)) pa_nil)) (pv 1)) pe_int))))), ?_⟩
    obtain ⟨n, hn⟩ := d.at_
    refine q_asgP (evp_ixL (i := 1) (v := .int (n : Int)) (evp_var rfl rfl mono_is) (sq_of hn) evp_c rfl) fun v1 H1 e1 hv1 => ?_
    subst hv1
    refine q_setL (j := 1) (e1 _ _ hn) (EvP.ev (evp_I0 (g := fun i j => .int (i + j)) (evp_var (v := .int (n : Int)) rfl rfl mono_is) evp_c)) (ev_var rfl) ev_c (by simp) fun H2 e2 => ?_
    have d2 := d.ex (e1.trans e2)
    have hset : ([V.ref p, .int (n : Int)].set 1 (.int ((n : Int) + 1))) = [V.ref p, .int ((n + 1 : Nat) : Int)] := rfl
    rw [hset]
    have d3 : Dr s p xs (upd H2 s (.lst [V.ref p, .int ((n + 1 : Nat) : Int)])) := ⟨d.ne, ⟨n + 1, upd_same⟩, by rw [upd_ne d.ne]; exact d2.pool⟩
    have g3 : Gs s H (upd H2 s (.lst [V.ref p, .int ((n + 1 : Nat) : Int)])) := fun a o ha h => by rw [upd_ne ha]; exact (e1.trans e2) _ _ h
    generalize upd H2 s (.lst [V.ref p, .int ((n + 1 : Nat) : Int)]) = H3 at d3 g3
    obtain ⟨n3, hn3⟩ := d3.at_
    have hp : EvP (tOp (rIxL K) (tVar 0) (tC (.int 0))) [some (.ref s), some (.int m), some (.int (n : Int))] H3 (fun v H => v = .ref p ∧ H p = some (.lst (xs.map V.int))) :=
      (evp_ixL (i := 0) (v := .ref p) (evp_var rfl rfl mono_is) (sq_of hn3) evp_c rfl).imp fun v H4 e4 hv => ⟨hv, e4 _ _ d3.pool⟩
    have hlen : EvP (tCB (rLenQ K) (tCons (tOp (rIxL K) (tVar 0) (tC (.int 0))) tNil)) [some (.ref s), some (.int m), some (.int (n : Int))] H3 (Is (.int (xs.length : Int))) := evp_cb (eap_one hp) fun vs H4 ⟨x, e, hx, hpl⟩ Q q =>
      ⟨p, _, by rw [e, hx], .inl (sq_of hpl), by rw [List.length_map]; exact q _ H4 (Ex.refl _) rfl⟩
    have hat : EvP (tVar 2) [some (.ref s), some (.int m), some (.int (n : Int))] H3 (Is (.int (n : Int))) := evp_var rfl rfl mono_is
    refine evp_if (b := decide ((n : Int) < (xs.length : Int))) (P := BI fun r => 0 ≤ r ∧ r < m) (et_tst (evp_I0 (g := fun i j => .bl (decide (i < j))) hat hlen)) (fun hb => ?_) (fun _ => evp_bc (by omega)) H3 (Ex.refl H3) _ fun v H4 e4 hv => q v H4 (g3.trans (Gs.of e4)) (d3.ex e4) hv
    have hlt : n < xs.length := by have := of_decide_eq_true hb; omega
    have hx : (xs.map V.int)[n]? = some (.int xs[n]) := by rw [List.getElem?_map, List.getElem?_eq_getElem hlt]; rfl
    refine evp_bI (c := fun _ => True) (d := fun x => x = m) (evp_bi (evp_int1 (i := xs[n]) (evp_op hp hat (fun v H H' e h => ⟨h.1, e _ _ h.2⟩) fun x y H4 e4 ⟨h1, h2⟩ hy Q q => ⟨p, _, (n : Int), _, h1, hy, sq_of h2, atI_nat hx, q _ H4 (Ex.refl _) rfl⟩)) trivial) (evp_bv rfl rfl) fun i j _ hj => by subst hj; exact fm (by omega)
def spPool : Sp := fun vs H Q _ => ∃ (c s m : Int), vs = [.int c, .int s, .int m] ∧ (0 ≤ s ∧ s ≤ 100000) ∧ (0 ≤ m ∧ m ≤ 1000) ∧ ∀ (a : Addr) (H2 : Hp), Evl.Ex H H2 → H a = none → (∃ p xs, Dr a p xs H2) → Q (.ref a) H2
theorem rep_flat (m : Nat) : (List.replicate m [V.int 420]).flatten = (List.replicate m (420 : Int)).map V.int := by
  induction m with
  | zero => rfl
  | succ m ih => rw [List.replicate_succ, List.flatten_cons, ih]; rfl
theorem ok_pool {fa f1 : Addr} {fd fd1 : FuncData} (D__law_numbers : Df K mg "_law_numbers" s_law_numbers ["_law_cell", "_law_salt", "_law_sizes"] f1 fd1) (G__law_numbers : FnOk P w K mg base CX0 (k + 1) f1 fd1 ["_law_cell", "_law_salt", "_law_sizes"] spNum) (T : Txt mg tk)
    (D : Df K mg "_law_pool" s_law_pool ["_law_cell", "_law_salt", "_law_many"] fa fd) : FnOk P w K mg base CX0 (k + 2) fa fd ["_law_cell", "_law_salt", "_law_many"] spPool := by
  refine D.F.ok sc_law_pool (fun vs H Q E h => ?_) (fun cdv A outer s H vs Q E hr h => ?_)
  · obtain ⟨c, s, m, rfl, _⟩ := h
    rfl
  · obtain ⟨c, t, m, rfl, ht, ⟨hm0, hm1⟩, q⟩ := h
    have nd := sc_law_pool.nd
    refine ⟨_, (pss_one (ps_ret (pe_lst (pa_cons (pe_call G__law_numbers (hr.mono (by omega)) (by rfl) D__law_numbers.g D__law_numbers.F.kp D__law_numbers.b .nil pass0 (pa_cons (pv 0) (pa_cons (pv 1) (pa_cons (pe_op op_rep (pe_lst (pa_cons pe_int pa_nil)) (pv 2)) pa_nil)))) (pa_cons pe_int pa_nil))))), ?_⟩
    refine ⟨_, rfl, _, rfl, by decide, fun l hl => ⟨_, rfl, l, m, [.int 420], rfl, rfl, upd_same, by omega, by omega, sz_of (by simp; omega), fun b hb => ?_⟩⟩
    rw [rep_flat]
    have e1 : Evl.Ex H (upd H l (.lst [.int 420])) := Ex.new hl
    have e2 : Evl.Ex H (upd (upd H l (.lst [.int 420])) b (.lst ((List.replicate m.toNat (420 : Int)).map V.int))) := e1.trans (Ex.new hb)
    refine ⟨c, t, b, List.replicate m.toNat 420, rfl, upd_same, fun z hz => by rw [(List.mem_replicate.mp hz).2]; decide, by simp; omega, ht, fun p xs H2 e3 hp hxs => ?_⟩
    refine ⟨by show 2 ≤ sizeLine; decide, fun a ha => ?_⟩
    have e4 := e2.trans e3
    refine q a _ (e4.trans (Ex.new ha)) (fresh_back e4 ha) ⟨p, xs, fun z => ?_, ⟨0, upd_same⟩, ?_⟩
    · rw [← z, hxs] at ha; cases ha
    · rw [upd_ne (fun z => by rw [← z, hxs] at ha; cases ha)]; exact hxs
end
end K20
namespace K20
open PySem PySem.Spec PyProof.Rows L2 Evl RZ Ev2 TA5
abbrev s_is_whole : Stmt := topS 7
abbrev N_is_whole : List Str := ["value"]
theorem sc_is_whole : FnScope N_is_whole ["value"] (defScope s_is_whole) := ⟨rfl, rfl, rfl, by decide +kernel, rfl, by decide +kernel, by decide +kernel⟩
abbrev s_is_count : Stmt := topS 8
abbrev N_is_count : List Str := ["value"]
theorem sc_is_count : FnScope N_is_count ["value"] (defScope s_is_count) := ⟨rfl, rfl, rfl, by decide +kernel, rfl, by decide +kernel, by decide +kernel⟩
abbrev s_is_limits : Stmt := topS 11
abbrev N_is_limits : List Str := ["value"]
theorem sc_is_limits : FnScope N_is_limits ["value"] (defScope s_is_limits) := ⟨rfl, rfl, rfl, by decide +kernel, rfl, by decide +kernel, by decide +kernel⟩
abbrev s_is_most : Stmt := topS 12
abbrev N_is_most : List Str := ["value"]
theorem sc_is_most : FnScope N_is_most ["value"] (defScope s_is_most) := ⟨rfl, rfl, rfl, by decide +kernel, rfl, by decide +kernel, by decide +kernel⟩
abbrev s_least_greatest : Stmt := topS 14
abbrev N_least_greatest : List Str := ["rows", "different", "most"]
theorem sc_least_greatest : FnScope N_least_greatest ["rows", "different", "most"] (defScope s_least_greatest) := ⟨rfl, rfl, rfl, by decide +kernel, rfl, by decide +kernel, by decide +kernel⟩
abbrev s_possible_pairs : Stmt := topS 15
abbrev N_possible_pairs : List Str := ["size", "rows", "different", "most", "found", "many", "least", "greatest"]
theorem sc_possible_pairs : FnScope N_possible_pairs ["size", "rows", "different", "most"] (defScope s_possible_pairs) := ⟨rfl, rfl, rfl, by decide +kernel, rfl, by decide +kernel, by decide +kernel⟩
abbrev s_is_heights : Stmt := topS 19
abbrev N_is_heights : List Str := ["size", "value", "height"]
theorem sc_is_heights : FnScope N_is_heights ["size", "value"] (defScope s_is_heights) := ⟨rfl, rfl, rfl, by decide +kernel, rfl, by decide +kernel, by decide +kernel⟩
abbrev s_is_within : Stmt := topS 20
abbrev N_is_within : List Str := ["limits", "number"]
theorem sc_is_within : FnScope N_is_within ["limits", "number"] (defScope s_is_within) := ⟨rfl, rfl, rfl, by decide +kernel, rfl, by decide +kernel, by decide +kernel⟩
abbrev s_moved : Stmt := topS 23
abbrev N_moved : List Str := ["limits", "steps"]
theorem sc_moved : FnScope N_moved ["limits", "steps"] (defScope s_moved) := ⟨rfl, rfl, rfl, by decide +kernel, rfl, by decide +kernel, by decide +kernel⟩
abbrev s_Spread_init : Stmt := inClass (topS 24) 0
abbrev N_Spread_init : List Str := ["self", "size", "rows", "different", "most", "limits"]
theorem sc_Spread_init : FnScope N_Spread_init ["self", "size", "rows", "different", "most"] (defScope s_Spread_init) := ⟨rfl, rfl, rfl, by decide +kernel, rfl, by decide +kernel, by decide +kernel⟩
abbrev s_Spread_size : Stmt := inClass (topS 24) 1
abbrev N_Spread_size : List Str := ["self"]
theorem sc_Spread_size : FnScope N_Spread_size ["self"] (defScope s_Spread_size) := ⟨rfl, rfl, rfl, by decide +kernel, rfl, by decide +kernel, by decide +kernel⟩
abbrev s_Spread_rows : Stmt := inClass (topS 24) 2
abbrev N_Spread_rows : List Str := ["self"]
theorem sc_Spread_rows : FnScope N_Spread_rows ["self"] (defScope s_Spread_rows) := ⟨rfl, rfl, rfl, by decide +kernel, rfl, by decide +kernel, by decide +kernel⟩
abbrev s_Spread_different : Stmt := inClass (topS 24) 3
abbrev N_Spread_different : List Str := ["self"]
theorem sc_Spread_different : FnScope N_Spread_different ["self"] (defScope s_Spread_different) := ⟨rfl, rfl, rfl, by decide +kernel, rfl, by decide +kernel, by decide +kernel⟩
abbrev s_Spread_most : Stmt := inClass (topS 24) 4
abbrev N_Spread_most : List Str := ["self"]
theorem sc_Spread_most : FnScope N_Spread_most ["self"] (defScope s_Spread_most) := ⟨rfl, rfl, rfl, by decide +kernel, rfl, by decide +kernel, by decide +kernel⟩
abbrev s_Spread_grown : Stmt := inClass (topS 24) 9
abbrev N_Spread_grown : List Str := ["self", "known"]
theorem sc_Spread_grown : FnScope N_Spread_grown ["self", "known"] (defScope s_Spread_grown) := ⟨rfl, rfl, rfl, by decide +kernel, rfl, by decide +kernel, by decide +kernel⟩
abbrev s_Spread_shrunk : Stmt := inClass (topS 24) 10
abbrev N_Spread_shrunk : List Str := ["self", "last"]
theorem sc_Spread_shrunk : FnScope N_Spread_shrunk ["self", "last"] (defScope s_Spread_shrunk) := ⟨rfl, rfl, rfl, by decide +kernel, rfl, by decide +kernel, by decide +kernel⟩
abbrev s_Spread_changed : Stmt := inClass (topS 24) 12
abbrev N_Spread_changed : List Str := ["self", "row_steps", "different_steps", "more", "rows", "different", "most"]
theorem sc_Spread_changed : FnScope N_Spread_changed ["self", "row_steps", "different_steps", "more"] (defScope s_Spread_changed) := ⟨rfl, rfl, rfl, by decide +kernel, rfl, by decide +kernel, by decide +kernel⟩
abbrev s_Spread_contains : Stmt := inClass (topS 24) 13
abbrev N_Spread_contains : List Str := ["self", "heights", "height"]
theorem sc_Spread_contains : FnScope N_Spread_contains ["self", "heights"] (defScope s_Spread_contains) := ⟨rfl, rfl, rfl, by decide +kernel, rfl, by decide +kernel, by decide +kernel⟩
/-! ### data: flat things, tuples and lists of them, a tuple of these -/
def fl : V → PyData → Prop
  | .non, d => d = .none
  | .bl b, d => d = .bool b
  | .int i, d => d = .int i
  | .str x, d => d = .str x
  | _, _ => False
inductive It (H : Hp) : V → PyData → Prop
  | flat {v : V} {d : PyData} (h : fl v d) : It H v d
  | tup {a : Addr} {xs : List V} {ds : List PyData} (h : H a = some (.tup xs)) (p : Paired fl xs ds) : It H (.ref a) (.tuple ds)
  | lst {a : Addr} {xs : List V} {ds : List PyData} (h : H a = some (.lst xs)) (p : Paired fl xs ds) : It H (.ref a) (.list ds)
def Va (ds : List PyData) : HP := fun v H => ∃ a xs, v = .ref a ∧ H a = some (.tup xs) ∧ Paired (It H) xs ds
theorem fl_flat {v : V} {d : PyData} (h : fl v d) : flatV v = true := by
  cases v <;> first | rfl | exact h.elim
theorem fls_flat : ∀ {xs : List V} {ds : List PyData}, Paired fl xs ds → xs.all flatV = true
  | _, _, .nil => rfl
  | _, _, .cons h t => by rw [List.all_cons, fl_flat h, fls_flat t]; rfl
/-- tuples and lists of flat things are kept -/
def Kx (H H' : Hp) : Prop := ∀ a o, H a = some o → ((∃ xs, o = .tup xs) ∨ (∃ xs, o = .lst xs ∧ xs.all flatV = true)) → H' a = some o
theorem Kx.of {H H' : Hp} (e : Evl.Ex H H') : Kx H H' := fun a o h _ => e a o h
theorem Kx.gs {s p : Addr} {xs : List Int} {H H' : Hp} (g : Gs s H H') (d : Dr s p xs H) : Kx H H' := fun a o h k => by
  by_cases ha : a = s
  · subst ha
    obtain ⟨n, hn⟩ := d.at_
    rw [hn] at h
    cases h
    rcases k with ⟨xs, e⟩ | ⟨xs, e, f⟩
    · cases e
    · cases e; cases f
  · exact g a o ha h
theorem It.mono {H H' : Hp} (k : Kx H H') {v : V} {d : PyData} (h : It H v d) : It H' v d := by
  cases h with
  | flat h => exact .flat h
  | tup h p => exact .tup (k _ _ h (.inl ⟨_, rfl⟩)) p
  | lst h p => exact .lst (k _ _ h (.inr ⟨_, rfl, fls_flat p⟩)) p
theorem its_mono {H H' : Hp} (k : Kx H H') : ∀ {xs : List V} {ds : List PyData}, Paired (It H) xs ds → Paired (It H') xs ds
  | _, _, .nil => .nil
  | _, _, .cons h t => .cons (h.mono k) (its_mono k t)
theorem Va.kx {H H' : Hp} (k : Kx H H') {ds : List PyData} {v : V} (h : Va ds v H) : Va ds v H' := by
  obtain ⟨a, xs, e, ha, p⟩ := h
  exact ⟨a, xs, e, k _ _ ha (.inl ⟨_, rfl⟩), its_mono k p⟩
theorem mono_va {ds : List PyData} : Mono (Va ds) := fun _ _ _ e h => Va.kx (Kx.of e) h
theorem mono_it {d : PyData} : Mono (fun v H => It H v d) := fun _ _ _ e h => h.mono (Kx.of e)
theorem Paired.len {α β : Type} {R : α → β → Prop} : ∀ {xs : List α} {ys : List β}, Paired R xs ys → xs.length = ys.length
  | _, _, .nil => rfl
  | _, _, .cons _ t => by simp [Paired.len t]
theorem Paired.at {α β : Type} {R : α → β → Prop} : ∀ {xs : List α} {ys : List β} {i : Nat} {x : α}, Paired R xs ys → xs[i]? = some x → ∃ y, ys[i]? = some y ∧ R x y
  | _, _, i, x, .nil, h => by simp at h
  | _, _, 0, x, .cons h t, e => by simp at e; subst e; exact ⟨_, rfl, h⟩
  | _, _, i + 1, x, .cons h t, e => by obtain ⟨y, h1, h2⟩ := Paired.at t (i := i) (by simpa using e); exact ⟨y, by simpa using h1, h2⟩
def isI : PyData → Bool
  | .int _ => true
  | _ => false
def dI : PyData → Int
  | .int i => i
  | _ => 0
theorem all_range {α : Type} (f : α → Bool) (d : α) : ∀ ds : List α, (List.range ds.length).all (fun i => f (ds.getD i d)) = ds.all f
  | [] => rfl
  | x :: ds => by
    rw [List.length_cons, List.range_succ_eq_map, List.all_cons, List.all_map, List.all_cons]
    have ih := all_range f d ds
    rw [← ih]
    rfl
section
variable {K : PySem.W.Frag} {σ : L2.St} {H : Hp} {ta tb te : TE} {P : HP}
theorem evp_allB {n : Nat} {b : Nat → Bool} (h : EvP te σ H (LstP n (fun i => Is (.bl (b i))))) : EvP (tCB (rAll K) (tCons te tNil)) σ H (Is (.bl ((List.range n).all b))) := fun H1 e Q q => h H1 e _ fun v H2 e2 p => by
  obtain ⟨l, rfl, hl⟩ := lst_is p
  refine ⟨l, (List.range n).map b, rfl, ?_, ?_⟩
  · rw [List.map_map]; exact sq_of hl
  · rw [List.all_map]
    exact q _ H2 e2 rfl
/-- zip of a tuple and a shorter one -/
theorem wi_zipL {tl tr : TE} {n m : Nat} {Pi Ri : Nat → HP} (h : EvP tl σ H (TupP m Pi)) (h2 : EvP tr σ H (TupP n Ri)) (hnm : n ≤ m) (m1 : ∀ i, MonoF (Pi i)) (m2 : ∀ i, MonoF (Ri i)) :
    WiP (iZipA K (tCons tl (tCons tr tNil))) σ H n (fun i x H => ∃ T u v, x = .ref T ∧ H T = some (.tup [u, v]) ∧ Pi i u H ∧ Ri i v H) := fun H1 e R k =>
  h H1 e _ fun v H2 e2 ⟨p, ys, hv, hp, hl, hi⟩ => h2 H2 (e.trans e2) _ fun v' H3 e3 ⟨q, zs, hv', hq, hl', hi'⟩ => by
    subst hv
    subst hv'
    refine ⟨p, q, ys, zs, rfl, .inr ⟨st_of (e3 _ _ hp), st_of hq, ?_⟩⟩
    refine k _ H3 (fun H => H p = some (.tup ys) ∧ H q = some (.tup zs) ∧ (∀ i y, ys[i]? = some y → Pi i y H) ∧ ∀ i y, zs[i]? = some y → Ri i y H) (e2.trans e3) ?_ ⟨e3 _ _ hp, hq, fun i y hy => (m1 i).mono _ _ _ e3 (hi i y hy), hi'⟩
    refine ⟨fun H H' e ⟨a, b, c, d⟩ => ⟨e _ _ a (fun _ z => nomatch z), e _ _ b (fun _ z => nomatch z), fun i y hy => m1 i _ _ _ e (c i y hy), fun i y hy => m2 i _ _ _ e (d i y hy)⟩, fun i H hlt ⟨a, b, _, _⟩ => ?_, fun H ⟨a, b, _, _⟩ => ?_, fun i H x H' hlt ⟨a, b, c, d⟩ y => ?_⟩
    · exact ⟨ys, zs, _, _, st_of a, st_of b, List.getElem?_eq_getElem (by omega), List.getElem?_eq_getElem (by omega)⟩
    · exact ⟨ys, zs, st_of a, st_of b, .inr (by omega)⟩
    · obtain ⟨T, u, w, rfl, hT, rfl, f1, f2⟩ := y
      have ex := Ex.new (o := .tup [u, w]) hT
      exact ⟨ex, T, u, w, rfl, upd_same, (m1 i).mono _ _ _ ex (c i u (f1 ys (st_of a))), (m2 i).mono _ _ _ ex (d i w (f2 zs (st_of b)))⟩
theorem g_pair' {x : V} {T : Addr} {u w : V} {σ0 : L2.St} {i j : Nat} {S : L2.St → Hp → Prop} (hx : x = .ref T) (h : H T = some (.tup [u, w])) (hS : S ((σ0.set i (some u)).set j (some w)) H) : GP (gTup K 2 (gCons (gName i) (gCons (gName j) gNil))) x σ0 H S := fun Q q =>
  ⟨T, [u, w], hx, st_of h, rfl, u, [w], rfl, w, [], rfl, rfl, q _ hS⟩
/-- types -/
def tyD : PyData → String
  | .none => "NoneType" | .bool _ => "bool" | .int _ => "int" | .str _ => "str" | .tuple _ => "tuple" | .list _ => "list" | _ => "dict"
theorem ty_it {v : V} {d : PyData} (h : It H v d) : TyX K H v (.type (tyD d)) := by
  cases h with
  | flat h => cases v <;> first | exact h.elim | (cases h; exact .base (by constructor))
  | tup h p => exact .base (.tup h)
  | lst h p => exact .base (.lst h)
theorem evp_isiD {T : String} {d : PyData} {b : Bool} (h : EvP te σ H (fun v H => It H v d)) (e : kitB (tyD d) T = some b) : EvP (tCB (rIsi K) (tCons te (tCons (tC (.ty T)) tNil))) σ H (Is (.bl b)) :=
  evp_isi h (fun x H1 p => ty_it p) (.ty T) (kit_ty e)
end
theorem kit_int (d : PyData) : kitB (tyD d) "int" = some (match d with | .bool _ => true | .int _ => true | _ => false) := by
  cases d with
  | none => exact (show kitB "NoneType" "int" = some false by decide +kernel)
  | bool _ => exact (show kitB "bool" "int" = some true by decide +kernel)
  | int _ => exact (show kitB "int" "int" = some true by decide +kernel)
  | str _ => exact (show kitB "str" "int" = some false by decide +kernel)
  | list _ => exact (show kitB "list" "int" = some false by decide +kernel)
  | tuple _ => exact (show kitB "tuple" "int" = some false by decide +kernel)
  | dict _ => exact (show kitB "dict" "int" = some false by decide +kernel)
theorem kit_bool (d : PyData) : kitB (tyD d) "bool" = some (match d with | .bool _ => true | _ => false) := by
  cases d with
  | none => exact (show kitB "NoneType" "bool" = some false by decide +kernel)
  | bool _ => exact (show kitB "bool" "bool" = some true by decide +kernel)
  | int _ => exact (show kitB "int" "bool" = some false by decide +kernel)
  | str _ => exact (show kitB "str" "bool" = some false by decide +kernel)
  | list _ => exact (show kitB "list" "bool" = some false by decide +kernel)
  | tuple _ => exact (show kitB "tuple" "bool" = some false by decide +kernel)
  | dict _ => exact (show kitB "dict" "bool" = some false by decide +kernel)
theorem kit_str (d : PyData) : kitB (tyD d) "str" = some (match d with | .str _ => true | _ => false) := by
  cases d with
  | none => exact (show kitB "NoneType" "str" = some false by decide +kernel)
  | bool _ => exact (show kitB "bool" "str" = some false by decide +kernel)
  | int _ => exact (show kitB "int" "str" = some false by decide +kernel)
  | str _ => exact (show kitB "str" "str" = some true by decide +kernel)
  | list _ => exact (show kitB "list" "str" = some false by decide +kernel)
  | tuple _ => exact (show kitB "tuple" "str" = some false by decide +kernel)
  | dict _ => exact (show kitB "dict" "str" = some false by decide +kernel)
theorem kit_tup (d : PyData) : kitB (tyD d) "tuple" = some (match d with | .tuple _ => true | _ => false) := by
  cases d with
  | none => exact (show kitB "NoneType" "tuple" = some false by decide +kernel)
  | bool _ => exact (show kitB "bool" "tuple" = some false by decide +kernel)
  | int _ => exact (show kitB "int" "tuple" = some false by decide +kernel)
  | str _ => exact (show kitB "str" "tuple" = some false by decide +kernel)
  | list _ => exact (show kitB "list" "tuple" = some false by decide +kernel)
  | tuple _ => exact (show kitB "tuple" "tuple" = some true by decide +kernel)
  | dict _ => exact (show kitB "dict" "tuple" = some false by decide +kernel)
section
variable {P : Program} {w : World} {K : PySem.W.Frag} {mg : Str → Option Value} {base : Heap} {tk : Tok} {k : Nat}
def spWhole : Sp := fun vs H Q _ => ∃ (x : V) (d : PyData), vs = [x] ∧ It H x d ∧ ∀ v H2, Evl.Ex H H2 → v = .bl (isI d) → Q v H2
theorem ok_whole {f : Addr} {fd : FuncData} (T : Txt mg tk) (D : Df K mg "is_whole" s_is_whole ["value"] f fd) : FnOk P w K mg base CX0 (k + 1) f fd ["value"] spWhole := by
  refine D.F.ok sc_is_whole (fun vs H Q E h => ?_) (fun cdv A outer s H vs Q E hr h => ?_)
  · obtain ⟨x, d, rfl, _⟩ := h
    rfl
  · obtain ⟨x, d, rfl, hx, q⟩ := h
    refine ⟨_, (pss_one (ps_ret (pe_and (pe_callB (r := rIsi K) call_isi (by rfl) T.n_isinstance PyProof.Rows.boot_isinstance (pa_cons (pv 0) (pa_cons (pe_bltn (v := .ty "int") (by rfl) T.n_int PyProof.Rows.boot_int rfl) pa_nil))) (pe_one (pe_not (pe_callB (r := rIsi K) call_isi (by rfl) T.n_isinstance PyProof.Rows.boot_isinstance (pa_cons (pv 0) (pa_cons (pe_bltn (v := .ty "bool") (by rfl) T.n_bool PyProof.Rows.boot_bool rfl) pa_nil)))))))), ?_⟩
    have h0 : EvP (tVar 0) (start N_is_whole [x]) H (fun v H => It H v d) := evp_var rfl hx mono_it
    refine evp_is (evp_and (evp_isiD (K := K) h0 (kit_int d)) fun _ => evp_not (evp_isiD (K := K) h0 (kit_bool d))) ?_ H (Ex.refl H) _ q
    cases d <;> rfl
theorem it_int {H : Hp} {x : V} {d : PyData} (h : It H x d) (hi : isI d = true) : ∃ i, x = .int i ∧ d = .int i := by
  cases h with
  | flat h => cases x <;> first | exact h.elim | (cases h; first | exact ⟨_, rfl, rfl⟩ | cases hi)
  | tup h p => cases hi
  | lst h p => cases hi
end
end K20
namespace K20
open PySem PySem.Spec PyProof.Rows L2 Evl RZ Ev2 TA5
section
variable {K : PySem.W.Frag} {σ : L2.St} {H : Hp} {ta tb te : TE} {P : HP}
theorem cutV_from {xs : List V} {k : Nat} : cutV xs (some (k : Int)) none = xs.drop k := by
  unfold cutV
  rw [HT.sIx_nat, HT.sIx_none]
  by_cases h : k ≤ xs.length
  · rw [Nat.min_eq_left h, List.take_of_length_le (by simp)]
  · rw [Nat.min_eq_right (by omega), List.drop_length, List.drop_of_length_le (by omega)]; simp
theorem cutV_to {xs : List V} {k : Nat} : cutV xs none (some (k : Int)) = xs.take k := by
  unfold cutV
  rw [HT.sIx_nat, HT.sIx_none, List.drop_zero, Nat.sub_zero]
  by_cases h : k ≤ xs.length
  · rw [Nat.min_eq_left h]
  · rw [Nat.min_eq_right (by omega), List.take_length, List.take_of_length_le (by omega)]
theorem evp_slA {tl th : TO} {a : Addr} {xs : List V} {lo hi : Option Int} (h : Ev te σ H (.ref a)) (h1 : EvO tl σ H lo) (h2 : EvO th σ H hi) (hs : H a = some (.tup xs)) :
    EvP (tSl (rSlA K) te tl th) σ H (fun v H1 => ∃ p, v = .ref p ∧ H1 p = some (.tup (cutV xs lo hi))) := fun H1 e Q q =>
  h H1 e _ fun H2 e2 => h1 H2 (e.trans e2) _ fun H3 e3 => h2 H3 ((e.trans e2).trans e3) _ fun H4 e4 => by
    have ex := ((e.trans e2).trans e3).trans e4
    refine ⟨a, xs, rfl, st_of (ex _ _ hs), fun ⟨w1, w2⟩ => ?_, fun _ p hp => q _ _ (((e2.trans e3).trans e4).trans (Ex.new hp)) ⟨p, rfl, upd_same⟩⟩
    refine q _ H4 ((e2.trans e3).trans e4) ⟨a, rfl, ?_⟩
    rw [ex _ _ hs]
    unfold cutV
    rw [w1, w2, List.drop_zero, Nat.sub_zero, List.take_length]
theorem fl_it {H : Hp} {v : V} {d : PyData} (h : fl v d) : It H v d := .flat h
theorem getD_some {ds : List PyData} {i : Nat} {d : PyData} (h : ds[i]? = some d) : ds.getD i .none = d := by rw [List.getD_eq_getElem?_getD, h]; rfl
theorem tup_fl {xs : List V} {ds : List PyData} {a : Addr} (p : Paired fl xs ds) (h : H a = some (.tup xs)) : TupP ds.length (fun i v _ => fl v (ds.getD i .none)) (.ref a) H :=
  ⟨a, xs, rfl, h, Paired.len p, fun i y hy => by
    obtain ⟨d, h1, h2⟩ := Paired.at p hy
    rw [getD_some h1]; exact h2⟩
theorem mf_fl {d : PyData} : MonoF (fun v _ => fl v d) := fun _ _ _ _ h => h
def isTup : PyData → Bool
  | .tuple _ => true
  | _ => false
def isStr : PyData → Bool
  | .str _ => true
  | _ => false
theorem kit_tup' (d : PyData) : kitB (tyD d) "tuple" = some (isTup d) := by rw [kit_tup]; cases d <;> rfl
theorem kit_str' (d : PyData) : kitB (tyD d) "str" = some (isStr d) := by rw [kit_str]; cases d <;> rfl
def SmallD : PyData → Bool
  | .tuple ds => decide (ds.length ≤ 50)
  | _ => true
theorem fl_int {v : V} {i : Int} (h : fl v (.int i)) : v = .int i := by
  cases v <;> first | exact h.elim | (cases h; try rfl)
end
section
variable {K : PySem.W.Frag} {σ : L2.St} {H : Hp} {ta tb te : TE} {P : HP}
theorem evp_ixM {n : Nat} {Pi : Nat → HP} {i : Nat} (ha : EvP ta σ H (TupP n Pi)) (hb : EvP tb σ H (Is (.int (i : Int)))) (hi : i < n) (m : ∀ i, Mono (Pi i)) : EvP (tOp (rIxT K) ta tb) σ H (Pi i) := fun H1 e Q q =>
  ha H1 e _ fun v H2 e2 h => hb H2 (e.trans e2) _ fun y H3 e3 hy => by
    obtain ⟨p, ys, z, rfl, hp, hl, hz, hpz⟩ := tup_get h hi
    exact ⟨p, ys, _, z, rfl, hy, st_of (e3 _ _ hp), atI_nat hz, q z H3 (e2.trans e3) ((m i) _ _ _ e3 hpz)⟩
theorem va_tup {ds : List PyData} {v : V} (h : Va ds v H) : TupP ds.length (fun i v H => It H v (ds.getD i .none)) v H := by
  obtain ⟨a, xs, rfl, ha, p⟩ := h
  exact ⟨a, xs, rfl, ha, Paired.len p, fun i y hy => by
    obtain ⟨d, h1, h2⟩ := Paired.at p hy
    rw [getD_some h1]; exact h2⟩
theorem va_ty {ds : List PyData} {v : V} (h : Va ds v H) : TyX K H v (.type "tuple") := by
  obtain ⟨a, xs, rfl, ha, p⟩ := h
  exact .base (.tup ha)
theorem it_str {x : V} {w : Str} (h : It H x (.str w)) : x = .str w := by
  cases h with
  | flat h => cases x <;> first | exact h.elim | (cases h; try rfl)
theorem evp_va {ds : List PyData} {i : Nat} {x : V} (hs : σ[i]? = some (some x)) (hx : Va ds x H) : EvP (tVar i) σ H (TupP ds.length (fun i v H => It H v (ds.getD i .none))) := evp_var hs (va_tup hx) (mono_tup fun _ => mono_it)
theorem evp_at {ds : List PyData} {i j : Nat} {x : V} (hs : σ[i]? = some (some x)) (hx : Va ds x H) (hj : j < ds.length) : EvP (tOp (rIxT K) (tVar i) (tC (.int (j : Int)))) σ H (fun v H => It H v (ds.getD j .none)) := evp_ixM (evp_va hs hx) evp_c hj fun _ => mono_it
theorem evp_word {w : Str} {rest : List PyData} {i : Nat} {x : V} (hs : σ[i]? = some (some x)) (hx : Va (.str w :: rest) x H) (u : Str) : EvP (tOp rEq (tOp (rIxT K) (tVar i) (tC (.int ((0 : Nat) : Int)))) (tC (.str u))) σ H (Is (.bl (decide (w = u)))) := by
  refine evp_is (evp_eq (x := .str w) (y := .str u) ((evp_at (K := K) hs hx (by simp)).imp fun v H1 _ p => it_str p) evp_c rfl) ?_
  simp
theorem evp_many {ds : List PyData} {i : Nat} {x : V} (hs : σ[i]? = some (some x)) (hx : Va ds x H) (k : Nat) : EvP (tOp rEq (tCB (rLenQ K) (tCons (tVar i) tNil)) (tC (.int (k : Int)))) σ H (Is (.bl (decide (ds.length = k)))) := by
  refine evp_is (evp_eq (evp_len (evp_va hs hx)) (evp_c (v := .int (k : Int))) rfl) ?_
  simp [Int.ofNat_inj]
end
end K20
namespace K20
open PySem PySem.Spec PyProof.Rows L2 Evl RZ Ev2 TA5
abbrev rNon : R2 := fun x y H Q => y = .non ∧ Q (.bl (decide (x = .non))) H
abbrev rNoN : R2 := fun x y H Q => y = .non ∧ Q (.bl (!decide (x = .non))) H
/-! the mirrors -/
def isC : PyData → Bool
  | .int i => decide (i ≥ 0)
  | _ => false
def szB : PyData → Bool
  | .int i => decide (1 ≤ i) && decide (i ≤ 64)
  | _ => false
def limB : PyData → Bool
  | .tuple [a, b] => isC a && (isC b && decide (dI a ≤ dI b))
  | _ => false
def mostB : PyData → Bool
  | .none => true
  | .int i => decide (i ≥ 1)
  | _ => false
def OI : Option Int → V
  | none => .non
  | some i => .int i
def hiM (r1 d : Int) : Option Int → Int
  | none => r1
  | some m => if d * m < r1 then d * m else r1
def lgM (r0 r1 d : Int) (m : Option Int) : Int × Int :=
  if d = 0 then (r0, if 0 < r1 then 0 else r1) else (if d > r0 then d else r0, hiM r1 d m)
def Pr (i j : Int) : HP := fun v H => ∃ p, v = .ref p ∧ H p = some (.tup [.int i, .int j])
theorem mono_pr {i j : Int} : Mono (Pr i j) := fun _ _ _ e ⟨p, h1, h2⟩ => ⟨p, h1, e _ _ h2⟩
section
variable {K : PySem.W.Frag} {σ : L2.St} {H : Hp} {ta tb te : TE} {P : HP}
theorem evp_non {x : V} (h : EvP te σ H (Is x)) : EvP (tOp rNon te (tC .non)) σ H (Is (.bl (decide (x = .non)))) := fun H1 e Q q => h H1 e _ fun v H2 e2 hv => ⟨rfl, by rw [show v = x from hv]; exact q _ H2 e2 rfl⟩
theorem evp_noN {x : V} (h : EvP te σ H (Is x)) : EvP (tOp rNoN te (tC .non)) σ H (Is (.bl (!decide (x = .non)))) := fun H1 e Q q => h H1 e _ fun v H2 e2 hv => ⟨rfl, by rw [show v = x from hv]; exact q _ H2 e2 rfl⟩
abbrev rMin2 : List V → Hp → VK → Prop := fun xs H Q => ∃ i j, xs = [.int i, .int j] ∧ Q (.int (if j < i then j else i)) H
abbrev rMax2 : List V → Hp → VK → Prop := fun xs H Q => ∃ i j, xs = [.int i, .int j] ∧ Q (.int (if j > i then j else i)) H
theorem evp_min {i j : Int} (ha : EvP ta σ H (Is (.int i))) (hb : EvP tb σ H (Is (.int j))) : EvP (tCB rMin2 (tCons ta (tCons tb tNil))) σ H (Is (.int (if j < i then j else i))) := fun H1 e Q q =>
  eap_two ha hb mono_is H1 e _ fun vs H2 e2 ⟨x, y, hv, hx, hy⟩ => ⟨i, j, by rw [hv, show x = _ from hx, show y = _ from hy], q _ H2 e2 rfl⟩
theorem evp_max {i j : Int} (ha : EvP ta σ H (Is (.int i))) (hb : EvP tb σ H (Is (.int j))) : EvP (tCB rMax2 (tCons ta (tCons tb tNil))) σ H (Is (.int (if j > i then j else i))) := fun H1 e Q q =>
  eap_two ha hb mono_is H1 e _ fun vs H2 e2 ⟨x, y, hv, hx, hy⟩ => ⟨i, j, by rw [hv, show x = _ from hx, show y = _ from hy], q _ H2 e2 rfl⟩
theorem evp_tup2 {x y : V} (ha : EvP ta σ H (Is x)) (hb : EvP tb σ H (Is y)) : EvP (tTup (tCons ta (tCons tb tNil))) σ H (fun v H1 => ∃ p, v = .ref p ∧ H1 p = some (.tup [x, y])) := fun H1 e Q q =>
  eu_tup (ea_cons ha.ev (ea_cons hb.ev ea_nil)) (show 2 ≤ 100000 by decide) H1 e Q fun p H2 _ e2 hp => q _ H2 e2 ⟨p, rfl, hp⟩
theorem evp_pr {i j : Int} (ha : EvP ta σ H (Is (.int i))) (hb : EvP tb σ H (Is (.int j))) : EvP (tTup (tCons ta (tCons tb tNil))) σ H (Pr i j) := evp_tup2 ha hb
theorem pr_tup {i j : Int} {v : V} (h : Pr i j v H) : TupP 2 (fun k v _ => v = .int (if k = 0 then i else j)) v H := by
  obtain ⟨p, h1, h2⟩ := h
  refine ⟨p, _, h1, h2, rfl, fun k y hy => ?_⟩
  match k, hy with
  | 0, hy => cases hy; rfl
  | 1, hy => cases hy; rfl
  | k + 2, hy => simp at hy
theorem evp_pr0 {i j : Int} (h : EvP te σ H (Pr i j)) : EvP (tOp (rIxT K) te (tC (.int 0))) σ H (Is (.int i)) := evp_ixM (i := 0) (n := 2) (Pi := fun k v _ => v = .int (if k = 0 then i else j)) (h.imp fun v H1 _ p => pr_tup p) (evp_c (v := .int ((0 : Nat) : Int))) (by decide) fun _ _ _ _ _ z => z
theorem evp_pr1 {i j : Int} (h : EvP te σ H (Pr i j)) : EvP (tOp (rIxT K) te (tC (.int 1))) σ H (Is (.int j)) := evp_ixM (i := 1) (n := 2) (Pi := fun k v _ => v = .int (if k = 0 then i else j)) (h.imp fun v H1 _ p => pr_tup p) (evp_c (v := .int ((1 : Nat) : Int))) (by decide) fun _ _ _ _ _ z => z
end
section
variable {P : Program} {w : World} {K : PySem.W.Frag} {mg : Str → Option Value} {base : Heap} {tk : Tok} {k : Nat}
theorem sp_whole_it {d : PyData} : SpP spWhole (fun vs H1 => ∃ y, vs = [y] ∧ It H1 y d) (Is (.bl (isI d))) := fun vs H1 ⟨y, e, hy⟩ Q q E => ⟨y, d, e, hy, q⟩
def spCount : Sp := fun vs H Q _ => ∃ (x : V) (d : PyData), vs = [x] ∧ It H x d ∧ ∀ v H2, Evl.Ex H H2 → v = .bl (isC d) → Q v H2
theorem sp_count_it {d : PyData} : SpP spCount (fun vs H1 => ∃ y, vs = [y] ∧ It H1 y d) (Is (.bl (isC d))) := fun vs H1 ⟨y, e, hy⟩ Q q E => ⟨y, d, e, hy, q⟩
theorem ok_count {f f1 : Addr} {fd fd1 : FuncData} (D_is_whole : Df K mg "is_whole" s_is_whole ["value"] f1 fd1) (G_is_whole : FnOk P w K mg base CX0 (k + 1) f1 fd1 ["value"] spWhole) (T : Txt mg tk) (D : Df K mg "is_count" s_is_count ["value"] f fd) :
    FnOk P w K mg base CX0 (k + 2) f fd ["value"] spCount := by
  refine D.F.ok sc_is_count (fun vs H Q E h => ?_) (fun cdv A outer s H vs Q E hr h => ?_)
  · obtain ⟨x, d, rfl, _⟩ := h
    rfl
  · obtain ⟨x, d, rfl, hx, q⟩ := h
    refine ⟨_, (pss_one (ps_ret (pe_and (pe_call G_is_whole (hr.mono (by omega)) (by rfl) D_is_whole.g D_is_whole.F.kp D_is_whole.b .nil pass0 (pa_cons (pv 0) pa_nil)) (pe_one (pe_cmpR op_ge (pv 0) pe_int (nomark _)))))), ?_⟩
    have h1 : EvP (tVar 0) (start N_is_count [x]) H (fun v H => It H v d) := evp_var rfl hx mono_it
    refine evp_is (evp_and (a := isI d) (b := isC d) (evp_call (E := E0) (eap_one h1) sp_whole_it) fun hi => ?_) ?_ H (Ex.refl H) _ q
    · obtain ⟨i, rfl, rfl⟩ := it_int hx hi
      exact evp_I0 (g := fun i j => .bl (decide (i ≥ j))) (evp_var (v := .int i) rfl rfl mono_is) (evp_c (v := .int 0))
    · cases d <;> rfl
def spLim : Sp := fun vs H Q _ => ∃ (x : V) (d : PyData), vs = [x] ∧ It H x d ∧ ∀ v H2, Evl.Ex H H2 → v = .bl (limB d) → Q v H2
theorem sp_lim_it {d : PyData} : SpP spLim (fun vs H1 => ∃ y, vs = [y] ∧ It H1 y d) (Is (.bl (limB d))) := fun vs H1 ⟨y, e, hy⟩ Q q E => ⟨y, d, e, hy, q⟩
theorem isC_int {d : PyData} (h : isC d = true) : ∃ i, d = .int i ∧ 0 ≤ i := by
  cases d <;> first | exact ⟨_, rfl, of_decide_eq_true h⟩ | cases h
theorem ok_limits {f f1 : Addr} {fd fd1 : FuncData} (D_is_count : Df K mg "is_count" s_is_count ["value"] f1 fd1) (G_is_count : FnOk P w K mg base CX0 (k + 2) f1 fd1 ["value"] spCount) (T : Txt mg tk) (D : Df K mg "is_limits" s_is_limits ["value"] f fd) :
    FnOk P w K mg base CX0 (k + 3) f fd ["value"] spLim := by
  refine D.F.ok sc_is_limits (fun vs H Q E h => ?_) (fun cdv A outer s H vs Q E hr h => ?_)
  · obtain ⟨x, d, rfl, _⟩ := h
    rfl
  · obtain ⟨x, d, rfl, hx, q⟩ := h
    refine ⟨_, (pss_cons (ps_if (PW.pt (pw_or (pt_not (pt_val (pe_callB (r := rIsi K) call_isi (by rfl) T.n_isinstance PyProof.Rows.boot_isinstance (pa_cons (pv 0) (pa_cons (pe_bltn (v := .ty "tuple") (by rfl) T.n_tuple PyProof.Rows.boot_tuple rfl) pa_nil))))) (pw_or1 (pt_cmpR op_ne (pe_callB (r := rLenQ K) call_len_seq (by rfl) T.n_len PySem.boot_len (pa_cons (pv 0) pa_nil)) pe_int (nomark _))))) (pss_one (ps_ret pe_bl)) pss_nil) (pss_one (ps_ret (pe_and (pe_call G_is_count (hr.mono (by omega)) (by rfl) D_is_count.g D_is_count.F.kp D_is_count.b .nil pass0 (pa_cons (pe_ix (r := rIxT K) ix_tup (pv 0) pe_int (fun _ _ => rfl)) pa_nil)) (pe_and (pe_call G_is_count (hr.mono (by omega)) (by rfl) D_is_count.g D_is_count.F.kp D_is_count.b .nil pass0 (pa_cons (pe_ix (r := rIxT K) ix_tup (pv 0) pe_int (fun _ _ => rfl)) pa_nil)) (pe_one (pe_cmpR op_le (pe_ix (r := rIxT K) ix_tup (pv 0) pe_int (fun _ _ => rfl)) (pe_ix (r := rIxT K) ix_tup (pv 0) pe_int (fun _ _ => rfl)) (nomark _)))))))), ?_⟩
    have h1 : EvP (tVar 0) (start N_is_limits [x]) H (fun v H => It H v d) := evp_var rfl hx mono_it
    by_cases ht : isTup d = true
    · obtain ⟨ds, rfl⟩ : ∃ ds, d = .tuple ds := by cases d <;> first | exact ⟨_, rfl⟩ | (cases ht; done)
      cases hx with
      | flat hx => cases x <;> first | exact hx.elim | (cases hx; done)
      | @tup a xs _ ha p =>
        have hT : ∀ {H' : Hp}, Evl.Ex H H' → EvP (tVar 0) (start N_is_limits [.ref a]) H' (TupP ds.length (fun i v _ => fl v (ds.getD i .none))) := fun ex => evp_var rfl (tup_fl p (ex _ _ ha)) (mf_tup fun _ => mf_fl).mono
        refine s_when (b := !true || !decide (ds.length = 2)) (et_or (et_not (et_tst (evp_isiD (K := K) h1 (kit_tup' (.tuple ds))))) fun _ => et_tst (evp_is (evp_ne (evp_len (hT (Ex.refl H))) (evp_c (v := .int 2)) rfl) (by simp; omega))) (fun hb H1 e1 => ?_) (fun hb H1 e1 => ?_)
        · have hl : ds.length ≠ 2 := by simpa using hb
          refine s_ret ev_c fun H2 e2 => q _ H2 (e1.trans e2) ?_
          congr 1
          match ds, hl with
          | [], _ => rfl
          | [_], _ => rfl
          | [_, _], hl => exact absurd rfl hl
          | _ :: _ :: _ :: _, _ => rfl
        · have hl : ds.length = 2 := by simpa using hb
          obtain ⟨a0, b0, rfl⟩ : ∃ a0 b0, ds = [a0, b0] := by
            match ds, hl with
            | [a0, b0], _ => exact ⟨a0, b0, rfl⟩
          have i0 : EvP (tOp (rIxT K) (tVar 0) (tC (.int 0))) (start N_is_limits [.ref a]) H1 (fun v _ => fl v a0) := evp_ixT (K := K) (i := 0) (hT e1) (evp_c (v := .int ((0 : Nat) : Int))) (Nat.succ_pos 1) fun _ => mf_fl
          have i1 : EvP (tOp (rIxT K) (tVar 0) (tC (.int 1))) (start N_is_limits [.ref a]) H1 (fun v _ => fl v b0) := evp_ixT (K := K) (i := 1) (hT e1) (evp_c (v := .int ((1 : Nat) : Int))) (Nat.lt_succ_self 1) fun _ => mf_fl
          refine s_ret (EvP.ev (evp_and (evp_call (E := E0) (eap_one (i0.imp fun v H2 _ h => fl_it h)) sp_count_it) fun hc => evp_and (evp_call (E := E0) (eap_one (i1.imp fun v H2 _ h => fl_it h)) sp_count_it) fun hc2 => ?_)) fun H2 e2 => q _ H2 (e1.trans e2) rfl
          obtain ⟨i, rfl, _⟩ := isC_int hc
          obtain ⟨j, rfl, _⟩ := isC_int hc2
          exact evp_I0 (g := fun i j => .bl (decide (i ≤ j))) (i0.imp fun v H2 _ h => fl_int h) (i1.imp fun v H2 _ h => fl_int h)
    · have hf : isTup d = false := by simpa using ht
      refine s_when (b := true) (et_is (et_or (b := true) (et_not (et_tst (evp_isiD (K := K) h1 (kit_tup' d)))) fun hc => ?_) ?_) (fun hb H1 e1 => s_ret ev_c fun H2 e2 => q _ H2 (e1.trans e2) (by congr 1; cases d <;> first | rfl | (cases hf; done))) (fun hb => by cases hb)
      · rw [hf] at hc; cases hc
      · rw [hf]; rfl
def spMost : Sp := fun vs H Q _ => ∃ (x : V) (d : PyData), vs = [x] ∧ It H x d ∧ ∀ v H2, Evl.Ex H H2 → v = .bl (mostB d) → Q v H2
theorem sp_most_it {d : PyData} : SpP spMost (fun vs H1 => ∃ y, vs = [y] ∧ It H1 y d) (Is (.bl (mostB d))) := fun vs H1 ⟨y, e, hy⟩ Q q E => ⟨y, d, e, hy, q⟩
theorem it_none {x : V} {d : PyData} {H : Hp} (h : It H x d) : decide (x = .non) = (match d with | .none => true | _ => false) := by
  cases h with
  | flat h => cases x <;> first | exact h.elim | (cases h; rfl)
  | tup h p => rfl
  | lst h p => rfl
theorem ok_most {f f1 : Addr} {fd fd1 : FuncData} (D_is_whole : Df K mg "is_whole" s_is_whole ["value"] f1 fd1) (G_is_whole : FnOk P w K mg base CX0 (k + 1) f1 fd1 ["value"] spWhole) (T : Txt mg tk) (D : Df K mg "is_most" s_is_most ["value"] f fd) :
    FnOk P w K mg base CX0 (k + 2) f fd ["value"] spMost := by
  refine D.F.ok sc_is_most (fun vs H Q E h => ?_) (fun cdv A outer s H vs Q E hr h => ?_)
  · obtain ⟨x, d, rfl, _⟩ := h
    rfl
  · obtain ⟨x, d, rfl, hx, q⟩ := h
    refine ⟨_, (pss_one (ps_ret (pe_or (pe_cmpR (r := rNon) op_isN (pv 0) pe_non (nomark _)) (pe_one (pe_and (pe_call G_is_whole (hr.mono (by omega)) (by rfl) D_is_whole.g D_is_whole.F.kp D_is_whole.b .nil pass0 (pa_cons (pv 0) pa_nil)) (pe_one (pe_cmpR op_ge (pv 0) pe_int (nomark _)))))))), ?_⟩
    have h1 : EvP (tVar 0) (start N_is_most [x]) H (fun v H => It H v d) := evp_var rfl hx mono_it
    have h0 : EvP (tVar 0) (start N_is_most [x]) H (Is x) := evp_var rfl rfl mono_is
    refine evp_is (evp_or (b := mostB d) (evp_is (evp_non h0) (congrArg V.bl (it_none hx))) fun hn => evp_is (evp_and (a := isI d) (b := mostB d) (evp_call (E := E0) (eap_one h1) sp_whole_it) fun hi => ?_) ?_) ?_ H (Ex.refl H) _ q
    · obtain ⟨i, rfl, rfl⟩ := it_int hx hi
      exact evp_I0 (g := fun i j => .bl (decide (i ≥ j))) h0 (evp_c (v := .int 1))
    · cases d <;> first | rfl | (cases hn; done)
    · cases d <;> rfl
/-! the least and the greatest rows of so many different values -/
def spLg : Sp := fun vs H Q _ => ∃ (x : V) (r0 r1 d : Int) (m : Option Int), vs = [x, .int d, OI m] ∧ Pr r0 r1 x H ∧ (0 ≤ d ∧ d ≤ 1000) ∧ ∀ v H2, Evl.Ex H H2 → Pr (lgM r0 r1 d m).1 (lgM r0 r1 d m).2 v H2 → Q v H2
theorem ok_lg {f : Addr} {fd : FuncData} (T : Txt mg tk) (D : Df K mg "least_greatest" s_least_greatest ["rows", "different", "most"] f fd) : FnOk P w K mg base CX0 (k + 1) f fd ["rows", "different", "most"] spLg := by
  refine D.F.ok sc_least_greatest (fun vs H Q E h => ?_) (fun cdv A outer s H vs Q E hr h => ?_)
  · obtain ⟨x, r0, r1, d, m, rfl, _⟩ := h
    rfl
  · obtain ⟨x, r0, r1, d, m, rfl, hx, hd, q⟩ := h
    refine ⟨_, (pss_cons (ps_if (pt_cmpR op_eq (pv 1) pe_int (nomark _)) (pss_one (ps_ret (pe_tup (pa_cons (pe_ix (r := rIxT K) ix_tup (pv 0) pe_int (fun _ _ => rfl)) (pa_cons (pe_callB (call_min2 rfl) (by rfl) T.n_min PyProof.Rows.boot_min (pa_cons (pe_ix (r := rIxT K) ix_tup (pv 0) pe_int (fun _ _ => rfl)) (pa_cons pe_int pa_nil))) pa_nil))))) pss_nil) (pss_one (ps_ret (pe_tup (pa_cons (pe_callB (call_max2 rfl) (by rfl) T.n_max PyProof.Rows.boot_max (pa_cons (pe_ix (r := rIxT K) ix_tup (pv 0) pe_int (fun _ _ => rfl)) (pa_cons (pv 1) pa_nil))) (pa_cons (pe_ifExp (pt_cmpR (r := rNon) op_isN (pv 2) pe_non (nomark _)) (pe_ix (r := rIxT K) ix_tup (pv 0) pe_int (fun _ _ => rfl)) (pe_callB (call_min2 rfl) (by rfl) T.n_min PyProof.Rows.boot_min (pa_cons (pe_ix (r := rIxT K) ix_tup (pv 0) pe_int (fun _ _ => rfl)) (pa_cons (pe_op op_mul (pv 1) (pv 2)) pa_nil)))) pa_nil)))))), ?_⟩
    have v0 : ∀ {H' : Hp}, Evl.Ex H H' → EvP (tVar 0) (start N_least_greatest [x, .int d, OI m]) H' (Pr r0 r1) := fun e => evp_var rfl (mono_pr _ _ _ e hx) mono_pr
    have v1 : ∀ {H' : Hp}, EvP (tVar 1) (start N_least_greatest [x, .int d, OI m]) H' (Is (.int d)) := evp_var rfl rfl mono_is
    have v2 : ∀ {H' : Hp}, EvP (tVar 2) (start N_least_greatest [x, .int d, OI m]) H' (Is (OI m)) := evp_var rfl rfl mono_is
    refine s_when (b := decide (d = 0)) (et_tst (evp_is (evp_eq v1 (evp_c (v := .int 0)) rfl) (by simp))) (fun hb H1 e1 => ?_) (fun hb H1 e1 => ?_)
    · have hd0 : d = 0 := of_decide_eq_true hb
      refine evp_pr (evp_pr0 (K := K) (v0 e1)) (evp_min (evp_pr1 (K := K) (v0 e1)) (evp_c (v := .int 0))) H1 (Ex.refl _) _ fun v H2 e2 hv => q v H2 (e1.trans e2) ?_
      rw [show lgM r0 r1 d m = (r0, if 0 < r1 then 0 else r1) by unfold lgM; rw [if_pos hd0]]
      exact hv
    · have hd0 : ¬ d = 0 := of_decide_eq_false hb
      have go : ∀ z : Int, hiM r1 d m = z → EvP (tIf (tTest (tOp rNon (tVar 2) (tC .non))) (tOp (rIxT K) (tVar 0) (tC (.int 1))) (tCB rMin2 (tCons (tOp (rIxT K) (tVar 0) (tC (.int 1))) (tCons (tOp (rI CMul fun i j => .int (i * j)) (tVar 1) (tVar 2)) tNil)))) (start N_least_greatest [x, .int d, OI m]) H1 (Is (.int z)) := fun z hz => by
        cases m with
        | none => exact evp_if (b := true) (et_tst (evp_is (evp_non v2) rfl)) (fun _ => evp_is (evp_pr1 (K := K) (v0 e1)) (by rw [← hz]; rfl)) (fun z => nomatch z)
        | some m => exact evp_if (b := false) (et_tst (evp_is (evp_non v2) rfl)) (fun z => nomatch z) (fun _ => evp_is (evp_min (evp_pr1 (K := K) (v0 e1)) (evp_I (C := CMul) (g := fun i j => .int (i * j)) v1 (v2 (H' := H1)) (.inl ⟨by omega, by omega⟩))) (by rw [← hz]; rfl))
      refine evp_pr (evp_max (evp_pr0 (K := K) (v0 e1)) v1) (go _ rfl) H1 (Ex.refl _) _ fun v H2 e2 hv => q v H2 (e1.trans e2) ?_
      rw [show lgM r0 r1 d m = (if d > r0 then d else r0, hiM r1 d m) by unfold lgM; rw [if_neg hd0]]
      exact hv
end
end K20
namespace K20
open PySem PySem.Spec PyProof.Rows L2 Evl RZ Ev2 TA5
theorem Paired.snoc {α β : Type} {R : α → β → Prop} : ∀ {xs : List α} {ys : List β} {x : α} {y : β}, Paired R xs ys → R x y → Paired R (xs ++ [x]) (ys ++ [y])
  | _, _, _, _, .nil, r => .cons r .nil
  | _, _, _, _, .cons h t, r => .cons h (Paired.snoc t r)
theorem Paired.impl {α β : Type} {R S : α → β → Prop} (k : ∀ x y, R x y → S x y) : ∀ {xs : List α} {ys : List β}, Paired R xs ys → Paired S xs ys
  | _, _, .nil => .nil
  | _, _, .cons h t => .cons (k _ _ h) (Paired.impl k t)
/-! ### a comprehension with a test -/
def WiX (wi : TI) (σ : L2.St) (H : Hp) (n : Nat) (item : Nat → V → Hp → Prop) : Prop := ∀ H1, Evl.Ex H H1 → ∀ R : L2.It → Hp → Prop, (∀ J H2, Evl.Ex H1 H2 → (∀ i H3, Evl.Ex H2 H3 → (i < n → J.go i H3) ∧ (n ≤ i → J.stop i H3) ∧ (i < n → ∀ x H', J.yld i H3 x H' → Evl.Ex H3 H' ∧ item i x H')) → R J H2) → wi σ H1 R
section
variable {K : PySem.W.Frag} {σ : L2.St} {H : Hp} {ta tb te tl : TE} {tt : TT}
theorem wx_list {a : Addr} {xs : List V} (h : Ev tl σ H (.ref a)) (hs : H a = some (.lst xs)) : WiX (iList K tl) σ H xs.length (fun i x _ => xs[i]? = some x) := fun H1 e R k =>
  h H1 e _ fun H2 e2 => ⟨a, rfl, ⟨xs, sq_of ((e.trans e2) _ _ hs)⟩, k _ H2 e2 fun i H3 e3 => by
    have h3 := sq_of (K := K) ((e.trans e2).trans e3 _ _ hs)
    exact ⟨fun hi => ⟨xs, _, h3, List.getElem?_eq_getElem hi⟩, fun hi => ⟨xs, h3, hi⟩, fun hi x H' ⟨y1, y2⟩ => by rw [y1]; exact ⟨Ex.refl _, y2 xs h3⟩⟩⟩
theorem wx_tup {n : Nat} {Pi : Nat → HP} (h : EvP tl σ H (TupP n Pi)) (m : ∀ i, Mono (Pi i)) : WiX (iTup K tl) σ H n Pi := fun H1 e R k =>
  h H1 e _ fun v H2 e2 ⟨a, xs, hv, ha, hl, hi⟩ => ⟨a, hv, ⟨xs, st_of ha⟩, k _ H2 e2 fun i H3 e3 => by
    have h3 := st_of (K := K) (e3 _ _ ha)
    exact ⟨fun hlt => ⟨xs, _, h3, List.getElem?_eq_getElem (by omega)⟩, fun hlt => ⟨xs, h3, by omega⟩, fun hlt x H' ⟨y1, y2⟩ => by rw [y1]; exact ⟨Ex.refl _, m i _ _ _ e3 (hi i x (y2 xs h3))⟩⟩⟩
theorem evp_lcF {wi : TI} {g : TG} {vs : List Nat} {n : Nat} {item : Nat → V → Hp → Prop} {Sg : Nat → L2.St → Hp → Prop} {f : Nat → Bool} {Pi : Nat → HP} (hw : WiX wi σ H n item) (hn : n ≤ 40000)
    (hg : ∀ i x H1, i < n → Evl.Ex H H1 → item i x H1 → GP g x (wipe σ vs) H1 (fun σ2 H2 => wipe σ2 vs = wipe σ vs ∧ Sg i σ2 H2)) (ht : ∀ i σ2 H1, i < n → Evl.Ex H H1 → Sg i σ2 H1 → EvT tt σ2 H1 (f i))
    (he : ∀ i σ2 H1, i < n → Evl.Ex H H1 → Sg i σ2 H1 → EvP te σ2 H1 (Pi i)) (m : ∀ i, MonoF (Pi i)) :
    EvP (tLc wi g tt te vs) σ H (fun v H1 => ∃ p ys, v = .ref p ∧ H1 p = some (.lst ys) ∧ Paired (fun y i => Pi i y H1) ys ((List.range n).filter f)) := fun H1 e Q q => hw H1 e _ fun J H2 e2 T => fun D hD => by
  refine ⟨fun i k H3 => k = n - i ∧ i ≤ n ∧ Evl.Ex H2 H3 ∧ ∃ ys, H3 D = some (.lst ys) ∧ Paired (fun y i => Pi i y H3) ys ((List.range i).filter f), ⟨n, by simp, Nat.zero_le _, Ex.new hD, [], upd_same, .nil⟩, ?_⟩
  rintro i k H3 ⟨rfl, hi, ex, ys, hys, hP⟩
  obtain ⟨tg, ts, ty⟩ := T i H3 ex
  by_cases hlt : i < n
  · refine .inr ⟨tg hlt, fun H4 => Evl.Ex H2 H4 ∧ ∃ ys, H4 D = some (.lst ys) ∧ Paired (fun y i => Pi i y H4) ys ((List.range (i + 1)).filter f), fun H4 ⟨a, b⟩ => ⟨n - (i + 1), by omega, rfl, by omega, a, b⟩, fun x H4 y => ?_⟩
    obtain ⟨e4, it⟩ := ty hlt x H4 y
    have ex4 := ((e.trans e2).trans ex).trans e4
    refine hg i x H4 hlt ex4 it _ fun σ2 ⟨hw2, hs⟩ => ⟨hw2, ?_⟩
    refine ht i σ2 H4 hlt ex4 hs H4 (Ex.refl _) _ fun H5 e5 => ?_
    cases hb : f i with
    | true =>
      rw [if_pos rfl]
      refine he i σ2 H4 hlt ex4 hs H5 e5 _ fun z H6 e6 hz => ?_
      have hys6 := e6 _ _ (e5 _ _ (e4 _ _ hys))
      have hl6 : ys.length ≤ i := by
        rw [Paired.len hP]
        exact Nat.le_trans (List.length_filter_le _ _) (by simp)
      refine ⟨_, hys6, sz_lt (by omega), Ex.mut (((ex.trans e4).trans e5).trans e6) hD, _, upd_same, ?_⟩
      rw [List.range_succ, List.filter_append, List.filter_cons, if_pos hb]
      exact Paired.impl (fun _ j h => m j _ _ _ (Fx.lst hys6) h) (Paired.snoc (Paired.impl (fun _ j h => (m j).mono _ _ _ ((e4.trans e5).trans e6) h) hP) hz)
    | false =>
      rw [if_neg (by decide)]
      refine ⟨(ex.trans e4).trans e5, ys, e5 _ _ (e4 _ _ hys), ?_⟩
      rw [List.range_succ, List.filter_append, List.filter_cons, if_neg (by rw [hb]; decide)]
      simp only [List.filter_nil, List.append_nil]
      exact Paired.impl (fun _ j h => (m j).mono _ _ _ (e4.trans e5) h) hP
  · have hinn : i = n := by omega
    subst hinn
    exact .inl ⟨ts (Nat.le_refl _), q _ H3 (e2.trans ex) ⟨D, ys, rfl, hys, hP⟩⟩
end

section
variable {K : PySem.W.Frag} {σ : L2.St} {H : Hp} {ta tb te tl : TE} {P : HP}
theorem wx_lst {n : Nat} {Pi : Nat → HP} (h : EvP tl σ H (LstP n Pi)) (m : ∀ i, Mono (Pi i)) : WiX (iList K tl) σ H n Pi := fun H1 e R k =>
  h H1 e _ fun v H2 e2 ⟨a, xs, hv, ha, hl, hi⟩ => ⟨a, hv, ⟨xs, sq_of ha⟩, k _ H2 e2 fun i H3 e3 => by
    have h3 := sq_of (K := K) (e3 _ _ ha)
    exact ⟨fun hlt => ⟨xs, _, h3, List.getElem?_eq_getElem (by omega)⟩, fun hlt => ⟨xs, h3, by omega⟩, fun hlt x H' ⟨y1, y2⟩ => by rw [y1]; exact ⟨Ex.refl _, m i _ _ _ e3 (hi i x (y2 xs h3))⟩⟩⟩
theorem wi_rng2 {ta : TA} {lo hi : Int} (h : EvAP ta σ H (fun vs _ => vs = [.int lo, .int hi])) (hb : -(2 ^ 62) ≤ lo ∧ lo < 2 ^ 62 ∧ -(2 ^ 62) ≤ hi ∧ hi < 2 ^ 62) : WiP (iRng2 ta) σ H (hi - lo).toNat (fun i x _ => x = .int (lo + (i : Int))) := fun H1 e R k =>
  h H1 e _ fun vs H2 e2 hv => by
    subst hv
    refine ⟨lo, hi, rfl, hb, ?_⟩
    refine k _ H2 (fun _ => True) e2 ⟨fun _ _ _ _ => trivial, fun i H hlt _ => ?_, fun H _ => ?_, fun i H x H' hlt _ y => ?_⟩ trivial
    · exact hlt
    · exact Nat.le_refl _
    · obtain ⟨rfl, rfl⟩ := y
      exact ⟨Ex.refl _, rfl⟩
/-- (int, (int, int)) -/
def Pq (i a b : Int) : HP := fun v H => ∃ p t, v = .ref p ∧ H p = some (.tup [.int i, .ref t]) ∧ H t = some (.tup [.int a, .int b])
theorem mf_pq {i a b : Int} : MonoF (Pq i a b) := fun _ _ _ e ⟨p, t, h1, h2, h3⟩ => ⟨p, t, h1, e _ _ h2 (fun _ z => nomatch z), e _ _ h3 (fun _ z => nomatch z)⟩
theorem evp_pq {i a b : Int} (h1 : EvP ta σ H (Is (.int i))) (h2 : EvP tb σ H (Pr a b)) : EvP (tTup (tCons ta (tCons tb tNil))) σ H (Pq i a b) := fun H1 e Q q =>
  h1 H1 e _ fun x H2 e2 hx => h2 H2 (e.trans e2) _ fun y H3 e3 ⟨t, hy, ht⟩ => ⟨by show 2 ≤ sizeLine; decide, fun p hp => by
    rw [show x = .int i from hx, hy]
    exact q _ _ ((e2.trans e3).trans (Ex.new hp)) ⟨p, t, rfl, upd_same, Ex.new hp _ _ ht⟩⟩
theorem g_pq {i a b : Int} {x : V} {σ0 : L2.St} {i1 i2 i3 : Nat} {S : L2.St → Hp → Prop} (h : Pq i a b x H) (hS : S (((σ0.set i1 (some (.int i))).set i2 (some (.int a))).set i3 (some (.int b))) H) :
    GP (gTup K 2 (gCons (gName i1) (gCons (gTup K 2 (gCons (gName i2) (gCons (gName i3) gNil))) gNil))) x σ0 H S := fun Q q => by
  obtain ⟨p, t, h1, h2, h3⟩ := h
  exact ⟨p, _, h1, st_of h2, rfl, _, _, rfl, _, _, rfl, t, _, rfl, st_of h3, rfl, _, _, rfl, _, _, rfl, rfl, rfl, q _ hS⟩
theorem evp_tup3 {x y z : V} {tc : TE} (ha : EvP ta σ H (Is x)) (hb : EvP tb σ H (Is y)) (hc : EvP tc σ H (Is z)) : EvP (tTup (tCons ta (tCons tb (tCons tc tNil)))) σ H (fun _ _ => True) := fun H1 e Q q =>
  eu_tup (ea_cons ha.ev (ea_cons hb.ev (ea_cons hc.ev ea_nil))) (show 3 ≤ 100000 by decide) H1 e Q fun p H2 _ e2 hp => q _ H2 e2 trivial
end
def possK (n d0 d1 : Int) : Nat := ((if n < d1 then n else d1) + 1 - d0).toNat
def posL (n r0 r1 d0 d1 : Int) (m : Option Int) : List Nat := (List.range (possK n d0 d1)).filter fun i => decide ((lgM r0 r1 (d0 + (i : Int)) m).1 ≤ (lgM r0 r1 (d0 + (i : Int)) m).2)
section
variable {K : PySem.W.Frag} {σ : L2.St} {H : Hp} {te : TE} {P : HP} {D : Ends}
theorem s_ret_P (h : EvP te σ H P) (k : ∀ v H1, Evl.Ex H H1 → P v H1 → D.rt v H1) : tRet te D σ H := h H (Ex.refl H) _ fun v H1 e p => k v H1 e p
end
section
variable {P : Program} {w : World} {K : PySem.W.Frag} {mg : Str → Option Value} {base : Heap} {tk : Tok} {k : Nat}
def spPairs : Sp := fun vs H Q _ => ∃ (x z : V) (n r0 r1 d0 d1 : Int) (m : Option Int), vs = [.int n, x, z, OI m] ∧ Pr r0 r1 x H ∧ Pr d0 d1 z H ∧ (1 ≤ n ∧ n ≤ 64) ∧ (0 ≤ d0 ∧ d0 ≤ 1000 ∧ -1000 ≤ d1) ∧
  ∀ v H2, Evl.Ex H H2 → (∃ p ys, v = .ref p ∧ H2 p = some (.lst ys) ∧ ys.length = (posL n r0 r1 d0 d1 m).length) → Q v H2
theorem ok_pairs {f f1 : Addr} {fd fd1 : FuncData} (D_least_greatest : Df K mg "least_greatest" s_least_greatest ["rows", "different", "most"] f1 fd1) (G_least_greatest : FnOk P w K mg base CX0 (k + 1) f1 fd1 ["rows", "different", "most"] spLg) (T : Txt mg tk)
    (D : Df K mg "possible_pairs" s_possible_pairs ["size", "rows", "different", "most"] f fd) : FnOk P w K mg base CX0 (k + 2) f fd ["size", "rows", "different", "most"] spPairs := by
  refine D.F.ok sc_possible_pairs (fun vs H Q E h => ?_) (fun cdv A outer s H vs Q E hr h => ?_)
  · obtain ⟨x, z, n, r0, r1, d0, d1, m, rfl, _⟩ := h
    rfl
  · obtain ⟨x, z, n, r0, r1, d0, d1, m, rfl, hx, hz, hn, hd, q⟩ := h
    have nd := sc_possible_pairs.nd
    refine ⟨_, (pss_cons (ps_setLc (i := 4) (wi := iRng2 _) (g := gName 5) (own := [("many", 5)]) (by rfl) nd rfl rfl (by rfl) (pi_range2 (by rfl) T.n_range (pa_cons (pe_ix (r := rIxT K) ix_tup (pv 2) pe_int (fun _ _ => rfl)) (pa_cons (pe_op op_add (pe_callB (call_min2 rfl) (by rfl) T.n_min PyProof.Rows.boot_min (pa_cons (pe_ix (r := rIxT K) ix_tup (pv 2) pe_int (fun _ _ => rfl)) (pa_cons (pv 0) pa_nil))) pe_int) pa_nil))) (blkOk_by (by kernel_rfl)) (fun _ _ _ _ _ => (pg_name (i := 5) nd rfl (Or.inl rfl))) (fun _ _ _ _ _ => pts_nil) (fun _ _ _ _ _ => (pe_tup (pa_cons (pv 5) (pa_cons (pe_call G_least_greatest (hr.mono (by omega)) (by rfl) D_least_greatest.g D_least_greatest.F.kp D_least_greatest.b .nil pass0 (pa_cons (pv 1) (pa_cons (pv 5) (pa_cons (pv 3) pa_nil)))) pa_nil))))) (pss_one (ps_ret (pe_lc (wi := iList K _) (g := gTup K 2 (gCons (gName 5) (gCons (gTup K 2 (gCons (gName 6) (gCons (gName 7) gNil))) gNil))) (own := [("many", 5), ("least", 6), ("greatest", 7)]) (by rfl) nd (pi_list (pv 4)) (blkOk_by (by kernel_rfl)) (fun _ _ _ _ _ => (pg_tup rfl (pgs_cons (pg_name (i := 5) nd rfl (Or.inl rfl)) (pgs_cons (pg_tup rfl (pgs_cons (pg_name (i := 6) nd rfl (Or.inl rfl)) (pgs_cons (pg_name (i := 7) nd rfl (Or.inl rfl)) pgs_nil))) pgs_nil)))) (fun _ _ _ _ _ => (pts_one (pt_cmpR op_le (pv 6) (pv 7) (nomark _)))) (fun _ _ _ _ _ => (pe_tup (pa_cons (pv 5) (pa_cons (pv 6) (pa_cons (pv 7) pa_nil))))))))), ?_⟩
    have v0 : ∀ {H' : Hp}, EvP (tVar 0) (start N_possible_pairs [.int n, x, z, OI m]) H' (Is (.int n)) := evp_var rfl rfl mono_is
    have v2 : ∀ {H' : Hp}, Evl.Ex H H' → EvP (tVar 2) (start N_possible_pairs [.int n, x, z, OI m]) H' (Pr d0 d1) := fun e => evp_var rfl (mono_pr _ _ _ e hz) mono_pr
    have hmin : (if n < d1 then n else d1) ≤ 64 ∧ -1000 ≤ (if n < d1 then n else d1) := by split <;> omega
    have hk : possK n d0 d1 ≤ 65 := by unfold possK; omega
    have hi : ∀ i : Nat, i < possK n d0 d1 → 0 ≤ d0 + (i : Int) ∧ d0 + (i : Int) ≤ 1000 := fun i hi => by unfold possK at hi; omega
    refine q_asgP (evp_lc (vs := [5]) (g := gName 5) (n := possK n d0 d1) (Pi := fun i => Pq (d0 + (i : Int)) (lgM r0 r1 (d0 + (i : Int)) m).1 (lgM r0 r1 (d0 + (i : Int)) m).2)
      (wi_rng2 (ta := tCons (tOp (rIxT K) (tVar 2) (tC (.int 0))) (tCons (tOp (rI0 fun i j => .int (i + j)) (tCB rMin2 (tCons (tOp (rIxT K) (tVar 2) (tC (.int 1))) (tCons (tVar 0) tNil))) (tC (.int 1))) tNil)) (lo := d0) (hi := (if n < d1 then n else d1) + 1)
        (fun H1 e Q q => eap_two (evp_pr0 (K := K) (v2 (Ex.refl H))) (evp_I0 (g := fun i j => .int (i + j)) (evp_min (evp_pr1 (K := K) (v2 (Ex.refl H))) v0) (evp_c (v := .int 1))) mono_is H1 e _ fun vs H2 e2 ⟨a, b, hv, ha, hb⟩ => q _ H2 e2 (by rw [hv, show a = _ from ha, show b = _ from hb])) (by omega)) (by omega)
      (Sg := fun i σ2 _ => σ2 = [some (.int n), some x, some z, some (OI m), none, some (.int (d0 + (i : Int))), none, none]) (fun i y H1 _ _ hy => by subst hy; exact g_name (i := 5) ⟨rfl, rfl⟩) (fun i σ2 H1 hlt e1 hs => by
        subst hs
        refine evp_pq (evp_var (i := 5) rfl rfl mono_is) (evp_call (E := E0) (S := Pr (lgM r0 r1 (d0 + (i : Int)) m).1 (lgM r0 r1 (d0 + (i : Int)) m).2) (eap_three (P := Pr r0 r1) (R := Is (.int (d0 + (i : Int)))) (S := Is (OI m)) (evp_var (i := 1) (v := x) rfl (mono_pr _ _ _ e1 hx) mono_pr) (evp_var (i := 5) rfl rfl mono_is) (evp_var (i := 3) rfl rfl mono_is) mono_pr mono_is) fun vs H2 ⟨a, b, c, hv, ha, hb, hc⟩ Q q E => ⟨a, r0, r1, d0 + (i : Int), m, by rw [hv, show b = _ from hb, show c = _ from hc], ha, hi i hlt, fun v H3 e3 h3 => q v H3 e3 h3⟩)) fun _ => mf_pq) fun v4 H1 e1 h4 => ?_
    have v4' : EvP (tVar 4) [some (.int n), some x, some z, some (OI m), some v4, none, none, none] H1 (LstP (possK n d0 d1) fun i => Pq (d0 + (i : Int)) (lgM r0 r1 (d0 + (i : Int)) m).1 (lgM r0 r1 (d0 + (i : Int)) m).2) := fun H2 e2 Q q => ⟨v4, rfl, q v4 H2 (Ex.refl _) (by
      obtain ⟨a, ys, h1, h2, h3, h5⟩ := h4
      exact ⟨a, ys, h1, e2 _ _ h2, h3, fun i y hy => mf_pq.mono _ _ _ e2 (h5 i y hy)⟩)⟩
    refine s_ret_P (evp_lcF (vs := [5, 6, 7]) (g := gTup K 2 (gCons (gName 5) (gCons (gTup K 2 (gCons (gName 6) (gCons (gName 7) gNil))) gNil))) (f := fun i => decide ((lgM r0 r1 (d0 + (i : Int)) m).1 ≤ (lgM r0 r1 (d0 + (i : Int)) m).2)) (Pi := fun _ _ _ => True) (wx_lst (K := K) v4' fun _ => mf_pq.mono) (by omega)
      (Sg := fun i σ2 _ => σ2 = [some (.int n), some x, some z, some (OI m), some v4, some (.int (d0 + (i : Int))), some (.int (lgM r0 r1 (d0 + (i : Int)) m).1), some (.int (lgM r0 r1 (d0 + (i : Int)) m).2)]) (fun i y H2 hlt e2 hy => g_pq hy ⟨rfl, rfl⟩)
      (fun i σ2 H2 hlt e2 hs => by subst hs; exact et_tst (evp_I0 (g := fun i j => .bl (decide (i ≤ j))) (evp_var (i := 6) rfl rfl mono_is) (evp_var (i := 7) rfl rfl mono_is)))
      (fun i σ2 H2 hlt e2 hs => by subst hs; exact evp_tup3 (evp_var (i := 5) rfl rfl mono_is) (evp_var (i := 6) rfl rfl mono_is) (evp_var (i := 7) rfl rfl mono_is)) fun _ _ _ _ _ _ => trivial) fun v H2 e2 ⟨p, ys, hv, hp, hP⟩ => q v H2 (e1.trans e2) ⟨p, ys, hv, hp, ?_⟩
    rw [Paired.len hP]
    rfl
end
end K20
namespace K20
open PySem PySem.Spec PyProof.Rows L2 Evl RZ Ev2 TA5
abbrev EVT (K : PySem.W.Frag) (mg : Str → Option Value) (C f : Addr) : Prop := PySem.ErrV.ErrTxt K mg "InvalidNumber" "InvalidNumber.__init__" C f
abbrev EST (K : PySem.W.Frag) (mg : Str → Option Value) (C f : Addr) : Prop := PySem.ErrV.ErrTxt K mg "InvalidSpread" "InvalidSpread.__init__" C f
abbrev ECT (K : PySem.W.Frag) (mg : Str → Option Value) (C f : Addr) : Prop := PySem.ErrC.ErrTxt K mg "Contradictory" "Contradictory.__init__" C f
structure SpK (K : PySem.W.Frag) (mg : Str → Option Value) (C fI : Addr) : Prop where
  cl : Cls K C
  n1 : NoAttr K C "_size"
  n2 : NoAttr K C "_rows"
  n3 : NoAttr K C "_different"
  n4 : NoAttr K C "_most"
  gC : mg "Spread" = some (.ref C)
  mkc : Mk K C fI
  ha : PySem.W.findIn K (.ref C) "__class__" = some (some (.builtin "object.__class__"))
  hn : PySem.W.specialIn K (.builtin "object.__class__") "__get__" = some (some (.builtin "getset_descriptor.__get__"))
  htk : PySem.W.takesIn K (.builtin "object.__class__") = some true
  hm : PySem.W.mroIn K C (.type "object") = some true
def Rz (fn : Str) (C : Addr) (x : V) (H : Hp) (E : XK) : Prop := ∀ (d : Addr) (H2 : Hp), Evl.Ex H H2 → H2 d = some (.xd [(fn, x)]) → E (.ref C) (some d) H2
def RzT (fn : Str) (C : Addr) (xs : List V) (H : Hp) (E : XK) : Prop := ∀ (d p : Addr) (H2 : Hp), Evl.Ex H H2 → H2 p = some (.tup xs) → H2 d = some (.xd [(fn, .ref p)]) → E (.ref C) (some d) H2
def numL : PyData → Int × Int
  | .tuple [a, b] => (dI a, dI b)
  | _ => (0, 0)
def mo : PyData → Option Int
  | .int i => some i
  | _ => none
def posD (d1 d2 d3 d4 : PyData) : List Nat := posL (dI d1) (numL d2).1 (numL d2).2 (numL d3).1 (numL d3).2 (mo d4)
def flds (x y z w : V) : List (Str × V) := [("_size", x), ("_rows", y), ("_different", z), ("_most", w)]
def spMk (C CV CS CC : Addr) : Sp := fun vs H Q E => ∃ (a dx : Addr) (x y z w : V) (d1 d2 d3 d4 : PyData), vs = [.ref a, x, y, z, w] ∧ H a = some (.ins C dx []) ∧ It H x d1 ∧ It H y d2 ∧ It H z d3 ∧ It H w d4 ∧
  (szB d1 = false → Rz "value" CV x H E) ∧ (szB d1 = true → limB d2 = false → Rz "value" CS y H E) ∧ (szB d1 = true → limB d2 = true → limB d3 = false → Rz "value" CS z H E) ∧
  (szB d1 = true → limB d2 = true → limB d3 = true → mostB d4 = false → Rz "value" CS w H E) ∧
  (szB d1 = true → limB d2 = true → limB d3 = true → mostB d4 = true → (numL d3).1 ≤ 1000 ∧ ((posD d1 d2 d3 d4).length = 0 → RzT "part" CC [x, y, z, w] H E) ∧
    ((posD d1 d2 d3 d4).length ≠ 0 → ∀ H2, Evl.Ex (fun b => if b = a then none else H b) H2 → H2 a = some (.ins C dx (flds x y z w)) → Q .non H2))
def F1 (x : V) : List (Str × V) := [("_size", x)]
def F2 (x y : V) : List (Str × V) := [("_size", x), ("_rows", y)]
def F3 (x y z : V) : List (Str × V) := [("_size", x), ("_rows", y), ("_different", z)]
theorem put1 {x : V} : putF "_size" x [] = F1 x := rfl
theorem put_ne {f g : Str} {v x : V} {r : List (Str × V)} (h : g ≠ f) : putF f v ((g, x) :: r) = (g, x) :: putF f v r := if_neg h
theorem put2 {x y : V} : putF "_rows" y (F1 x) = F2 x y := by
  unfold F1 F2
  rw [put_ne (by decide)]; rfl
theorem put3 {x y z : V} : putF "_different" z (F2 x y) = F3 x y z := by
  unfold F2 F3
  rw [put_ne (by decide), put_ne (by decide)]; rfl
theorem put4 {x y z w : V} : putF "_most" w (F3 x y z) = flds x y z w := by
  unfold F3 flds
  rw [put_ne (by decide), put_ne (by decide), put_ne (by decide)]; rfl
theorem lim_pr {x : V} {d : PyData} {H : Hp} (h : It H x d) (hl : limB d = true) : Pr (numL d).1 (numL d).2 x H ∧ 0 ≤ (numL d).1 ∧ 0 ≤ (numL d).2 := by
  obtain ⟨ds, rfl⟩ : ∃ ds, d = .tuple ds := by cases d <;> first | exact ⟨_, rfl⟩ | (cases hl; done)
  match ds, hl with
  | [], hl => cases hl
  | [_], hl => cases hl
  | _ :: _ :: _ :: _, hl => cases hl
  | [a, b], hl =>
    have hl' : (isC a && (isC b && decide (dI a ≤ dI b))) = true := hl
    simp only [Bool.and_eq_true, decide_eq_true_eq] at hl'
    obtain ⟨i, rfl, hi⟩ := isC_int hl'.1
    obtain ⟨j, rfl, hj⟩ := isC_int hl'.2.1
    cases h with
    | flat h => cases x <;> first | exact h.elim | (cases h; done)
    | @tup p xs _ hp pp =>
      cases pp with
      | cons h1 t =>
        cases t with
        | cons h2 t =>
          cases t
          rw [fl_int h1, fl_int h2] at hp
          exact ⟨⟨p, rfl, hp⟩, hi, hj⟩
theorem most_oi {x : V} {d : PyData} {H : Hp} (h : It H x d) (hm : mostB d = true) : x = OI (mo d) := by
  cases h with
  | flat h => cases x <;> first | exact h.elim | (cases h; first | rfl | (cases hm; done))
  | tup h p => cases hm
  | lst h p => cases hm
theorem sz_int {x : V} {d : PyData} {H : Hp} (h : It H x d) (hs : szB d = true) : x = .int (dI d) ∧ 1 ≤ dI d ∧ dI d ≤ 64 := by
  obtain ⟨i, e1, e2⟩ := it_int h (by cases d <;> first | rfl | (cases hs; done))
  subst e1
  subst e2
  have : (decide (1 ≤ i) && decide (i ≤ 64)) = true := hs
  simp only [Bool.and_eq_true, decide_eq_true_eq] at this
  exact ⟨rfl, this⟩
section
variable {K : PySem.W.Frag} {σ : L2.St} {H : Hp} {ta te : TE}
theorem evp_lenL {N : Nat} (h : EvP te σ H (fun v H1 => ∃ p ys, v = .ref p ∧ H1 p = some (.lst ys) ∧ ys.length = N)) : EvP (tCB (rLenQ K) (tCons te tNil)) σ H (Is (.int (N : Int))) := fun H1 e Q q =>
  h H1 e _ fun v H2 e2 ⟨p, ys, h1, h2, h3⟩ => ⟨p, ys, by rw [h1], .inl (sq_of h2), by rw [h3]; exact q _ H2 e2 rfl⟩
end
section
variable {P : Program} {w : World} {K : PySem.W.Frag} {mg : Str → Option Value} {base : Heap} {tk : Tok} {k : Nat} {C fI CV iV CS iS CC iC : Addr}
theorem ok_init {f1 f2 f3 f4 : Addr} {fd d1 d2 d3 d4 : FuncData} (EV : EVT K mg CV iV) (ES : EST K mg CS iS) (EC : ECT K mg CC iC) (SK : SpK K mg C fI) (T : Txt mg tk)
    (D_is_whole : Df K mg "is_whole" s_is_whole ["value"] f1 d1) (G_is_whole : FnOk P w K mg base CX0 (k + 1) f1 d1 ["value"] spWhole)
    (D_is_limits : Df K mg "is_limits" s_is_limits ["value"] f2 d2) (G_is_limits : FnOk P w K mg base CX0 (k + 3) f2 d2 ["value"] spLim)
    (D_is_most : Df K mg "is_most" s_is_most ["value"] f3 d3) (G_is_most : FnOk P w K mg base CX0 (k + 2) f3 d3 ["value"] spMost)
    (D_possible_pairs : Df K mg "possible_pairs" s_possible_pairs ["size", "rows", "different", "most"] f4 d4) (G_possible_pairs : FnOk P w K mg base CX0 (k + 2) f4 d4 ["size", "rows", "different", "most"] spPairs)
    {dvs : List V} (F : FunD K "__init__" "Spread.__init__" (defArgs s_Spread_init) (defBody s_Spread_init) (defScope s_Spread_init) dvs [] fI fd) :
    FnOk P w K mg base (L2.CX P w) (k + 6) fI fd ["self", "size", "rows", "different", "most"] (spMk C CV CS CC) := by
  refine F.ok sc_Spread_init (fun vs H Q E h => ?_) (fun cdv A outer s H vs Q E hr h => ?_)
  · obtain ⟨a, dx, x, y, z, w, d1, d2, d3, d4, rfl, _⟩ := h
    rfl
  · obtain ⟨a, dx, x, y, z, w, d1, d2, d3, d4, rfl, ha, hx, hy, hz, hw, k1, k2, k3, k4, k5⟩ := h
    have nd := sc_Spread_init.nd
    refine ⟨_, (pss_cons (ps_if (PW.pt (pw_or (pt_not (pt_val (pe_call G_is_whole (hr.mono (by omega)) (by rfl) D_is_whole.g D_is_whole.F.kp D_is_whole.b .nil pass0 (pa_cons (pv 1) pa_nil)))) (pw_or1 (pt_not (pt_chain op_le op_le pe_int (pv 1) (pe_glob (v := .int 64) rfl T.c_MOST_HEIGHTS ⟨_, rfl⟩)))))) (pss_one (ErrVL.ps_raiseErr rfl EV hr (takes_of rfl rfl rfl rfl) (pa_cons (pv 1) pa_nil))) pss_nil) (pss_cons (ps_for (passes_of rfl) rfl (pi_tup (pe_tup (pa_cons (pv 2) (pa_cons (pv 3) pa_nil)))) (pg_name (i := 5) nd rfl (Or.inl rfl)) (pss_one (ps_if (pt_not (pt_val (pe_call G_is_limits (hr.mono (by omega)) (by rfl) D_is_limits.g D_is_limits.F.kp D_is_limits.b .nil pass0 (pa_cons (pv 5) pa_nil)))) (pss_one (ErrVL.ps_raiseErr rfl ES hr (takes_of rfl rfl rfl rfl) (pa_cons (pv 5) pa_nil))) pss_nil))) (pss_cons (ps_if (pt_not (pt_val (pe_call G_is_most (hr.mono (by omega)) (by rfl) D_is_most.g D_is_most.F.kp D_is_most.b .nil pass0 (pa_cons (pv 4) pa_nil)))) (pss_one (ErrVL.ps_raiseErr rfl ES hr (takes_of rfl rfl rfl rfl) (pa_cons (pv 4) pa_nil))) pss_nil) (pss_cons (ps_if (pt_cmpR op_eq (pe_callB (r := rLenQ K) call_len_seq (by rfl) T.n_len PySem.boot_len (pa_cons (pe_call G_possible_pairs (hr.mono (by omega)) (by rfl) D_possible_pairs.g D_possible_pairs.F.kp D_possible_pairs.b .nil pass0 (pa_cons (pv 1) (pa_cons (pv 2) (pa_cons (pv 3) (pa_cons (pv 4) pa_nil))))) pa_nil)) pe_int (nomark _)) (pss_one (ErrCL.ps_raiseErr rfl EC hr (takes_of rfl rfl rfl rfl) (pa_cons (pe_tup (pa_cons (pv 1) (pa_cons (pv 2) (pa_cons (pv 3) (pa_cons (pv 4) pa_nil))))) pa_nil))) pss_nil) (pss_cons (ps_fld (pv 0) (pv 1) rfl) (pss_cons (ps_fld (pv 0) (pv 2) rfl) (pss_cons (ps_fld (pv 0) (pv 3) rfl) (pss_one (ps_fld (pv 0) (pv 4) rfl))))))))), ?_⟩
    have v1 : ∀ {σ' : L2.St} {H' : Hp}, σ'[1]? = some (some x) → Evl.Ex H H' → EvP (tVar 1) σ' H' (fun v H => It H v d1) := fun h e => evp_var h (hx.mono (Kx.of e)) mono_it
    have v4 : ∀ {σ' : L2.St} {H' : Hp}, σ'[4]? = some (some w) → Evl.Ex H H' → EvP (tVar 4) σ' H' (fun v H => It H v d4) := fun h e => evp_var h (hw.mono (Kx.of e)) mono_it
    -- the size
    refine q_when (b := !szB d1) (et_is (et_or (a := !isI d1) (b := !szB d1) (et_not (et_bl (evp_call (E := E0) (eap_one (v1 rfl (Ex.refl H))) sp_whole_it))) fun hi => ?_) (by cases d1 <;> first | rfl | (simp [isI]))) (fun hb H1 e1 => ⟨x, rfl, x, rfl, fun d hd => k1 (by simpa using hb) d _ (e1.trans (Ex.new hd)) upd_same⟩) fun hb H1 e1 => ?_
    · obtain ⟨i, rfl, rfl⟩ := it_int hx (by simpa using hi)
      exact et_not (et_tst (evp_chain (g := fun i j => .bl (decide (i ≤ j))) (g' := fun i j => .bl (decide (i ≤ j))) (evp_c (v := .int 1)) (evp_var (v := .int i) (i := 1) rfl rfl mono_is) (evp_c (v := .int 64)) rfl rfl))
    have hs1 : szB d1 = true := by simpa using hb
    clear hb
    -- the limits
    refine ⟨y, rfl, z, rfl, by show 2 ≤ sizeLine; decide, fun p hp => ⟨p, rfl, ⟨[y, z], st_of upd_same⟩, ?_⟩⟩
    have e2 : Evl.Ex H (upd H1 p (.tup [y, z])) := e1.trans (Ex.new hp)
    have turn : ∀ (D : Ends) (v : V) (dv : PyData) (H' : Hp), Evl.Ex H H' → It H v dv → (limB dv = false → Rz "value" CS v H E) → (limB dv = true → ∀ H1, Evl.Ex H' H1 → D.nx [some (.ref a), some x, some y, some z, some w, some v] H1) →
        tIfS (tNot (tB (tCall spLim [] E0 (tCons (tVar 5) tNil)))) (ErrVL.tRaiseErr CS (fun cls d _ H => E cls d H) (tCons (tVar 5) tNil)) tNext D [some (.ref a), some x, some y, some z, some w, some v] H' := fun D v dv H' ex hv hbad hgood =>
      s_when (b := !limB dv) (et_not (et_bl (evp_call (E := E0) (eap_one (evp_var (i := 5) (v := v) rfl (hv.mono (Kx.of ex)) mono_it)) sp_lim_it))) (fun hb H1 e1 => ⟨v, rfl, v, rfl, fun d hd => hbad (by simpa using hb) d _ ((ex.trans e1).trans (Ex.new hd)) upd_same⟩) fun hb H1 e1 => hgood (by simpa using hb) H1 e1
    refine for_tup (xs := [y, z]) (fun i σ' H' => ∃ s5, σ' = [some (.ref a), some x, some y, some z, some w, s5] ∧ Evl.Ex H H' ∧ H' p = some (.tup [y, z]) ∧ (1 ≤ i → limB d2 = true) ∧ (2 ≤ i → limB d3 = true)) ⟨none, rfl, e2, upd_same, fun z => absurd z (by decide), fun z => absurd z (by decide)⟩ (fun i σ' H' _ ⟨_, _, _, h, _⟩ => st_of h) (fun i v σ' H' hv ⟨s5, hs, ex, hpt, h1, h2⟩ => ?_) (fun σ' H' ⟨s5, hs, ex, hpt, h1, h2⟩ => ?_)
    · subst hs
      match i, hv with
      | 0, hv => cases hv; exact turn _ _ d2 H' ex hy (k2 hs1) fun g H1 e1 => ⟨some y, rfl, ex.trans e1, e1 _ _ hpt, fun _ => g, fun z => absurd z (by decide)⟩
      | 1, hv => cases hv; exact turn _ _ d3 H' ex hz (k3 hs1 (h1 (by decide))) fun g H1 e1 => ⟨some z, rfl, ex.trans e1, e1 _ _ hpt, fun _ => h1 (by decide), fun _ => g⟩
      | i + 2, hv => simp at hv
    subst hs
    have hl2 : limB d2 = true := h1 (Nat.le_succ 1)
    have hl3 : limB d3 = true := h2 (Nat.le_refl 2)
    -- most
    refine q_when (b := !mostB d4) (et_not (et_bl (evp_call (E := E0) (eap_one (v4 rfl ex)) sp_most_it))) (fun hb H3 e3 => ⟨w, rfl, w, rfl, fun d hd => k4 hs1 hl2 hl3 (by simpa using hb) d _ ((ex.trans e3).trans (Ex.new hd)) upd_same⟩) fun hb H3 e3' => ?_
    have hm4 : mostB d4 = true := by simpa using hb
    have e3 := ex.trans e3'
    obtain ⟨hbd, kp, q⟩ := k5 hs1 hl2 hl3 hm4
    obtain ⟨hx1, hn⟩ := sz_int hx hs1
    obtain ⟨hy1, hr0, hr1⟩ := lim_pr hy hl2
    obtain ⟨hz1, hd0, hd1⟩ := lim_pr hz hl3
    have hw1 := most_oi hw hm4
    -- the pairs
    have hlen := evp_lenL (K := K) (N := (posD d1 d2 d3 d4).length) (evp_call (E := E0) (sp := spPairs) (σ := [some (.ref a), some x, some y, some z, some w, s5]) (H := H3) (ta := tCons (tVar 1) (tCons (tVar 2) (tCons (tVar 3) (tCons (tVar 4) tNil)))) (A := fun vs H1 => vs = [x, y, z, w] ∧ Evl.Ex H H1) (fun H4 e4 Q q => ⟨x, rfl, y, rfl, z, rfl, w, rfl, q _ H4 (Ex.refl _) ⟨rfl, e3.trans e4⟩⟩) fun vs H4 ⟨hv, e4⟩ Q q E => ⟨y, z, dI d1, (numL d2).1, (numL d2).2, (numL d3).1, (numL d3).2, mo d4, by rw [hv, hx1, hw1], mono_pr _ _ _ e4 hy1, mono_pr _ _ _ e4 hz1, hn, ⟨hd0, hbd, by omega⟩, fun v H5 e5 h5 => q v H5 e5 h5⟩)
    refine q_when (b := decide ((posD d1 d2 d3 d4).length = 0)) (et_tst (evp_is (evp_eq hlen (evp_c (v := .int 0)) rfl) (by simp))) (fun hb H4 e4 => ⟨x, rfl, y, rfl, z, rfl, w, rfl, by show 4 ≤ sizeLine; decide, fun t ht => ⟨.ref t, rfl, fun d hd => kp (of_decide_eq_true hb) d t _ ((e3.trans e4).trans ((Ex.new ht).trans (Ex.new hd))) (Ex.new hd _ _ upd_same) upd_same⟩⟩) fun hb H4 e4' => ?_
    have e4 := e3.trans e4'
    have hne : (posD d1 d2 d3 d4).length ≠ 0 := of_decide_eq_false hb
    -- the fields
    refine ⟨x, rfl, .ref a, rfl, a, C, dx, [], rfl, e4 _ _ ha, SK.cl, SK.n1, (by show 0 < 1000; decide), ?_⟩
    rw [put1]
    refine ⟨y, rfl, .ref a, rfl, a, C, dx, F1 x, rfl, upd_same, SK.cl, SK.n2, (by show 1 < 1000; decide), ?_⟩
    rw [put2]
    refine ⟨z, rfl, .ref a, rfl, a, C, dx, F2 x y, rfl, upd_same, SK.cl, SK.n3, (by show 2 < 1000; decide), ?_⟩
    rw [put3]
    refine ⟨w, rfl, .ref a, rfl, a, C, dx, F3 x y z, rfl, upd_same, SK.cl, SK.n4, (by show 3 < 1000; decide), ?_⟩
    rw [put4]
    refine q hne _ (fun b o hb => ?_) upd_same
    dsimp only at hb
    by_cases hba : b = a
    · rw [if_pos hba] at hb; cases hb
    · rw [if_neg hba] at hb; rw [upd_ne hba, upd_ne hba, upd_ne hba, upd_ne hba]; exact e4 _ _ hb
end
end K20
namespace K20
open PySem PySem.Spec PyProof.Rows L2 Evl RZ Ev2 TA5
theorem make_ex {H : Hp} {x dx C : Addr} (hx : H x = none) (hdx : H dx = none) (hne : dx ≠ x) : Evl.Ex H (upd (upd H dx (.own x)) x (.ins C dx [])) := (Ex.new hdx).trans (Ex.new (by rw [upd_ne hne.symm]; exact hx))

def Spr (C : Addr) (x y z w : V) : HP := fun v H => ∃ a dx, v = .ref a ∧ H a = some (.ins C dx (flds x y z w))
theorem mf_spr {C : Addr} {x y z w : V} : MonoF (Spr C x y z w) := fun _ _ _ e ⟨a, dx, h1, h2⟩ => ⟨a, dx, h1, e _ _ h2 (fun _ z => nomatch z)⟩
theorem lk1 {x y z w : V} : (flds x y z w).lookup ("_size" : Str) = some x := rfl
theorem lk2 {x y z w : V} : (flds x y z w).lookup ("_rows" : Str) = some y := rfl
theorem lk3 {x y z w : V} : (flds x y z w).lookup ("_different" : Str) = some z := rfl
theorem lk4 {x y z w : V} : (flds x y z w).lookup ("_most" : Str) = some w := rfl
theorem made_ex {H H2 : Hp} {a dx C : Addr} {o : HO} (ha : H a = none) (hd : H dx = none) (hne : dx ≠ a) (e : Evl.Ex (fun b => if b = a then none else (upd (upd H dx (.own a)) a o) b) H2) : Evl.Ex H H2 := fun b o hb => e b o (by
    have hbx : b ≠ a := fun z => by rw [z, ha] at hb; cases hb
    dsimp only
    rw [if_neg hbx, upd_ne hbx, upd_ne (fun z => by rw [z, hd] at hb; cases hb)]
    exact hb)
structure Pf (K : PySem.W.Frag) (C : Addr) (x qual : Str) (st : Stmt) (p f : Addr) (fd : FuncData) : Prop where
  F : Fun K x qual st f fd
  b : Binds K fd ["self"] []
  hp : PropOf K C x p f
structure FD (K : PySem.W.Frag) (x qual : Str) (st : Stmt) (ps : List Str) (dvs : List V) (f : Addr) (fd : FuncData) : Prop where
  F : FunD K x qual (defArgs st) (defBody st) (defScope st) dvs [] f fd
  b : Binds K fd ps []
def Ls (xs : List V) : HP := fun v H => ∃ p, v = .ref p ∧ H p = some (.lst xs)
theorem evp_prop {σ : L2.St} {H : Hp} {te : TE} {C : Addr} {x y z w : V} {S : HP} {sp : Sp} {E : XK} (h : EvP te σ H (Spr C x y z w)) (hs : SpP sp (fun vs H1 => ∃ v, vs = [v] ∧ Spr C x y z w v H1) S) : EvP (tProp C sp [] E te) σ H S := fun H1 e Q q => h H1 e _ fun v H2 e2 ⟨a, dx, h1, h2⟩ =>
  ⟨a, dx, _, h1, h2, hs _ H2 ⟨_, rfl, a, dx, rfl, h2⟩ Q (fun v H3 e3 s => q v H3 (e2.trans e3) s) E⟩
def spProp (C : Addr) (g : V → V → V → V → V) : Sp := fun vs H Q _ => ∃ (v x y z w : V), vs = [v] ∧ Spr C x y z w v H ∧ ∀ H2, Evl.Ex H H2 → Q (g x y z w) H2
section
variable {P : Program} {w : World} {K : PySem.W.Frag} {mg : Str → Option Value} {base : Heap} {tk : Tok} {k : Nat} {C fI CV iV CS iS CC iC p f : Addr} {fd : FuncData}
theorem ok_size (SK : SpK K mg C fI) (PP : Pf K C "size" "Spread.size" s_Spread_size p f fd) : FnOk P w K mg base CX0 (k + 1) f fd ["self"] (spProp C fun x _ _ _ => x) := by
  refine PP.F.ok sc_Spread_size (fun vs H Q E h => ?_) (fun cdv A outer s H vs Q E hr h => ?_)
  · obtain ⟨v, x, y, z, w, rfl, _⟩ := h
    rfl
  · obtain ⟨v, x, y, z, w, rfl, ⟨a, dx, rfl, ha⟩, q⟩ := h
    exact ⟨_, (pss_one (ps_ret (pe_fld (pv 0) rfl))), _, rfl, a, C, dx, _, x, rfl, ha, SK.cl, SK.n1, lk1, q H (Ex.refl _)⟩
theorem ok_rows (SK : SpK K mg C fI) (PP : Pf K C "rows" "Spread.rows" s_Spread_rows p f fd) : FnOk P w K mg base CX0 (k + 1) f fd ["self"] (spProp C fun _ y _ _ => y) := by
  refine PP.F.ok sc_Spread_rows (fun vs H Q E h => ?_) (fun cdv A outer s H vs Q E hr h => ?_)
  · obtain ⟨v, x, y, z, w, rfl, _⟩ := h
    rfl
  · obtain ⟨v, x, y, z, w, rfl, ⟨a, dx, rfl, ha⟩, q⟩ := h
    exact ⟨_, (pss_one (ps_ret (pe_fld (pv 0) rfl))), _, rfl, a, C, dx, _, y, rfl, ha, SK.cl, SK.n2, lk2, q H (Ex.refl _)⟩
theorem ok_different (SK : SpK K mg C fI) (PP : Pf K C "different" "Spread.different" s_Spread_different p f fd) : FnOk P w K mg base CX0 (k + 1) f fd ["self"] (spProp C fun _ _ z _ => z) := by
  refine PP.F.ok sc_Spread_different (fun vs H Q E h => ?_) (fun cdv A outer s H vs Q E hr h => ?_)
  · obtain ⟨v, x, y, z, w, rfl, _⟩ := h
    rfl
  · obtain ⟨v, x, y, z, w, rfl, ⟨a, dx, rfl, ha⟩, q⟩ := h
    exact ⟨_, (pss_one (ps_ret (pe_fld (pv 0) rfl))), _, rfl, a, C, dx, _, z, rfl, ha, SK.cl, SK.n3, lk3, q H (Ex.refl _)⟩
theorem ok_mostp (SK : SpK K mg C fI) (PP : Pf K C "most" "Spread.most" s_Spread_most p f fd) : FnOk P w K mg base CX0 (k + 1) f fd ["self"] (spProp C fun _ _ _ w => w) := by
  refine PP.F.ok sc_Spread_most (fun vs H Q E h => ?_) (fun cdv A outer s H vs Q E hr h => ?_)
  · obtain ⟨v, x, y, z, w, rfl, _⟩ := h
    rfl
  · obtain ⟨v, x, y, z, w, rfl, ⟨a, dx, rfl, ha⟩, q⟩ := h
    exact ⟨_, (pss_one (ps_ret (pe_fld (pv 0) rfl))), _, rfl, a, C, dx, _, w, rfl, ha, SK.cl, SK.n4, lk4, q H (Ex.refl _)⟩
end
end K20
namespace K20
open PySem PySem.Spec PyProof.Rows L2 Evl RZ Ev2 TA5
def Tu (l : List Int) : HP := fun v H => ∃ a, v = .ref a ∧ H a = some (.tup (l.map V.int))
theorem mf_tu {l : List Int} : MonoF (Tu l) := fun _ _ _ e ⟨a, h1, h2⟩ => ⟨a, h1, e _ _ h2 (fun _ z => nomatch z)⟩
def TLs (ls : List (List Int)) : HP := LstP ls.length fun i => Tu (ls.getD i [])
theorem mono_tls {ls : List (List Int)} : Mono (TLs ls) := fun _ _ _ e ⟨p, ys, h1, h2, h3, h4⟩ => ⟨p, ys, h1, e _ _ h2, h3, fun i y hy => mf_tu.mono _ _ _ e (h4 i y hy)⟩
def splitsL : Nat → Nat → List (List Int)
  | 0, _ => [[]]
  | n + 1, t => (List.range (t + 1)).flatMap fun f => (splitsL n (t - f)).map fun r => (f : Int) :: r
def preL (n t i : Nat) : List (List Int) := (List.range i).flatMap fun f => (splitsL n (t - f)).map fun r => (f : Int) :: r
theorem splits_len : (List.range 5).all (fun m => (List.range 7).all fun t => decide ((splitsL m t).length ≤ 210) && (List.range 8).all fun i => decide ((preL m t i).length ≤ 1000)) = true := by decide +kernel
theorem pre_len {m t i : Nat} (hm : m < 5) (ht : t < 7) (hi : i < 8) : (splitsL m t).length ≤ 210 ∧ (preL m t i).length ≤ 1000 := by
  have h1 := List.all_eq_true.mp splits_len m (List.mem_range.mpr hm)
  have h2 := List.all_eq_true.mp h1 t (List.mem_range.mpr ht)
  simp only [Bool.and_eq_true, decide_eq_true_eq] at h2
  exact ⟨h2.1, of_decide_eq_true (List.all_eq_true.mp h2.2 i (List.mem_range.mpr hi))⟩
theorem pre_succ (n t i : Nat) : preL n t (i + 1) = preL n t i ++ (splitsL n (t - i)).map fun r => (i : Int) :: r := by
  unfold preL
  rw [List.range_succ, List.flatMap_append]
  simp
section
variable {K : PySem.W.Frag} {σ : L2.St} {H : Hp} {ta tb te tl : TE}
theorem tls_of {n : Nat} {Pi : Nat → HP} {ls : List (List Int)} {v : V} (h : LstP n Pi v H) (hn : n = ls.length) (hp : ∀ i y, i < n → Pi i y H → Tu (ls.getD i []) y H) : TLs ls v H := by
  obtain ⟨p, ys, h1, h2, h3, h4⟩ := h
  refine ⟨p, ys, h1, h2, by omega, fun i y hy => hp i y ?_ (h4 i y hy)⟩
  have := (List.getElem?_eq_some_iff.mp hy).1
  omega
theorem evp_cat {as bs : List (List Int)} (ha : EvP ta σ H (TLs as)) (hb : EvP tb σ H (TLs bs)) (hz : as.length + bs.length ≤ 100000) : EvP (tOp rCat ta tb) σ H (TLs (as ++ bs)) := fun H1 e Q q =>
  ha H1 e _ fun v H2 e2 hv => hb H2 (e.trans e2) _ fun w H3 e3 ⟨p2, zs, g1, g2, g3, g4⟩ => by
    obtain ⟨p, ys, h1, h2, h3, h4⟩ := mono_tls _ _ _ e3 hv
    refine ⟨p, p2, ys, zs, h1, g1, h2, g2, sz_of (by omega), fun l hl => ?_⟩
    have ex : Evl.Ex H3 (upd H3 l (.lst (ys ++ zs))) := Ex.new hl
    refine q _ _ ((e2.trans e3).trans ex) ⟨l, ys ++ zs, rfl, upd_same, by simp [h3, g3], fun i y hy => mf_tu.mono _ _ _ ex ?_⟩
    by_cases hi : i < ys.length
    · rw [List.getElem?_append_left hi] at hy
      have := h4 i y hy
      rwa [List.getD_eq_getElem?_getD, List.getElem?_append_left (by omega), ← List.getD_eq_getElem?_getD]
    · rw [List.getElem?_append_right (by omega)] at hy
      have := g4 (i - ys.length) y hy
      rw [List.getD_eq_getElem?_getD, List.getElem?_append_right (by omega), ← List.getD_eq_getElem?_getD]
      rwa [h3] at this
theorem evp_catT {i : Int} {l : List Int} (ha : EvP ta σ H (Is (.int i))) (hb : EvP tb σ H (Tu l)) (hl : l.length ≤ 1000) : EvP (tOp (rCatT K) (tTup (tCons ta tNil)) tb) σ H (Tu (i :: l)) := fun H1 e Q q =>
  ha H1 e _ fun x H2 e2 hx => ⟨by show 1 ≤ sizeLine; decide, fun p hp => by
    have ex : Evl.Ex H2 (upd H2 p (.tup [x])) := Ex.new hp
    have lp : (upd H2 p (.tup [x])) p = some (.tup [x]) := upd_same
    generalize upd H2 p (.tup [x]) = H2' at ex lp
    refine hb H2' ((e.trans e2).trans ex) _ fun y H3 e3 ⟨a, hy, hal⟩ => ⟨p, a, [x], l.map V.int, rfl, hy, st_of (e3 _ _ lp), st_of hal, by simp, sz_of (by simp; omega), fun hn => ?_, fun hn l' hl' => ?_⟩
    · have : l = [] := by simpa using hn
      subst this
      exact q _ H3 ((e2.trans ex).trans e3) ⟨p, rfl, by rw [e3 _ _ lp, show x = .int i from hx]; rfl⟩
    · exact q _ _ (((e2.trans ex).trans e3).trans (Ex.new hl')) ⟨l', rfl, by rw [upd_same, show x = .int i from hx]; rfl⟩⟩
end
theorem evp_ofL {te : TE} {σ : L2.St} {H : Hp} (h : EvL te σ H []) : EvP te σ H (TLs []) := fun H1 e Q q => h H1 e Q fun p H2 _ e2 hp => q _ H2 e2 ⟨p, [], rfl, hp, rfl, fun i y hy => by simp at hy⟩
theorem et_yes {σ : L2.St} {H : Hp} : EvT tYes σ H true := fun H1 e Q q => q H1 (Ex.refl _)
theorem paired_tls {ls : List (List Int)} {c : Int} {v : V} {H : Hp} (h : ∃ p ys, v = .ref p ∧ H p = some (.lst ys) ∧ Paired (fun y i => Tu (c :: (ls.getD i [])) y H) ys ((List.range ls.length).filter fun _ => true)) : TLs (ls.map fun r => c :: r) v H := by
  obtain ⟨p, ys, h1, h2, h3⟩ := h
  have e : (List.range ls.length).filter (fun _ => true) = List.range ls.length := List.filter_eq_self.mpr fun _ _ => rfl
  rw [e] at h3
  refine ⟨p, ys, h1, h2, by rw [Paired.len h3]; simp, fun i y hy => ?_⟩
  obtain ⟨j, g1, g2⟩ := Paired.at h3 hy
  rw [List.getElem?_range] at g1
  · cases g1
    rw [List.getD_eq_getElem?_getD, List.getElem?_map]
    have hi : i < ls.length := by
      have := (List.getElem?_eq_some_iff.mp hy).1
      rw [Paired.len h3] at this
      simpa using this
    rw [List.getD_eq_getElem?_getD, List.getElem?_eq_getElem hi] at g2
    rw [List.getElem?_eq_getElem hi]
    exact g2
  · have := (List.getElem?_eq_some_iff.mp hy).1
    rw [Paired.len h3] at this
    simpa using this
theorem splits_mem : ∀ (m t : Nat) (l : List Int), l ∈ splitsL m t → l.length = m
  | 0, t, l, h => by simp [splitsL] at h; subst h; rfl
  | m + 1, t, l, h => by
    simp only [splitsL, List.mem_flatMap, List.mem_map] at h
    obtain ⟨f, _, r, hr, rfl⟩ := h
    simp [splits_mem m _ r hr]
theorem mem_len (m t j : Nat) : ((splitsL m t).getD j []).length ≤ m := by
  rw [List.getD_eq_getElem?_getD]
  cases h : (splitsL m t)[j]? with
  | none => exact Nat.zero_le _
  | some l => exact Nat.le_of_eq (splits_mem m t l (List.mem_of_getElem? h))
section
variable {P : Program} {w : World} {K : PySem.W.Frag} {mg : Str → Option Value} {base : Heap} {tk : Tok} {k : Nat}
def spS (n : Nat) : Sp := fun vs H Q _ => ∃ t m : Nat, vs = [.int (t : Int), .int (m : Int)] ∧ m < n ∧ m < 5 ∧ t < 7 ∧ ∀ v H2, Evl.Ex H H2 → TLs (splitsL m t) v H2 → Q v H2
end
end K20
namespace K20
open PySem PySem.Spec PyProof.Rows L2 Evl RZ Ev2 TA5
def maxL : List Int → Int
  | [] => 0
  | [a] => a
  | a :: b :: r => if maxL (b :: r) > a then maxL (b :: r) else a
theorem maxL_mem : ∀ l : List Int, l ≠ [] → maxL l ∈ l ∧ ∀ y ∈ l, y ≤ maxL l
  | [], h => absurd rfl h
  | [a], _ => by simp [maxL]
  | a :: b :: r, _ => by
    have ih := maxL_mem (b :: r) (by simp)
    have e : maxL (a :: b :: r) = if maxL (b :: r) > a then maxL (b :: r) else a := rfl
    rw [e]
    by_cases h : maxL (b :: r) > a
    · rw [if_pos h]
      refine ⟨List.mem_cons_of_mem _ ih.1, fun y hy => ?_⟩
      rcases List.mem_cons.mp hy with rfl | hy
      · omega
      · exact ih.2 y hy
    · rw [if_neg h]
      refine ⟨List.mem_cons_self .., fun y hy => ?_⟩
      rcases List.mem_cons.mp hy with rfl | hy
      · omega
      · have := ih.2 y hy; omega
theorem max_is {l : List Int} {m : Int} (h1 : m ∈ l) (h2 : ∀ y, y ∈ l → y ≤ m) : m = maxL l := by
  have hn : l ≠ [] := fun e => by rw [e] at h1; cases h1
  have := maxL_mem l hn
  have a := this.2 m h1
  have b := h2 _ this.1
  omega
def cntL (l : List Int) : Nat := (l.filter fun x => decide (x > 0)).length
theorem filter_range (p : Int → Bool) : ∀ l : List Int, ((List.range l.length).filter fun i => p (l.getD i 0)).length = (l.filter p).length
  | [] => rfl
  | x :: l => by
    have ih := filter_range p l
    rw [List.length_cons, List.range_succ_eq_map, List.filter_cons, List.filter_map, List.filter_cons]
    have e : ((fun i => p ((x :: l).getD i 0)) ∘ Nat.succ) = fun i => p (l.getD i 0) := by funext i; rfl
    rw [e]
    have e0 : p ((x :: l).getD 0 0) = p x := rfl
    rw [e0]
    cases p x
    · rw [if_neg (by decide), if_neg (by decide), List.length_map]; exact ih
    · rw [if_pos rfl, if_pos rfl, List.length_cons, List.length_cons, List.length_map, ih]
def T3 (a b c : Int) : HP := fun v H => ∃ p, v = .ref p ∧ H p = some (.tup [.int a, .int b, .int c])
def topB (mx : Int) : Option Int → Bool
  | none => true
  | some m => decide (mx ≤ m)
def holdsB (n r0 r1 d0 d1 : Int) (m : Option Int) (hs : List Int) : Bool :=
  !(!decide ((hs.length : Int) = n) || (!(decide (r0 ≤ hs.sum) && decide (hs.sum ≤ r1)) || !(decide (d0 ≤ (cntL hs : Int)) && decide ((cntL hs : Int) ≤ d1)))) && topB (maxL hs) m
/-- (size, rows, different, most) -/
def Told4 (n r0 r1 d0 d1 : Int) (m : Option Int) : HP := fun v H => ∃ p y z, v = .ref p ∧ H p = some (.tup [.int n, y, z, OI m]) ∧ Pr r0 r1 y H ∧ Pr d0 d1 z H
theorem mono_told {n r0 r1 d0 d1 : Int} {m : Option Int} : Mono (Told4 n r0 r1 d0 d1 m) := fun _ _ _ e ⟨p, y, z, h1, h2, h3, h4⟩ => ⟨p, y, z, h1, e _ _ h2, mono_pr _ _ _ e h3, mono_pr _ _ _ e h4⟩
section
variable {K : PySem.W.Frag} {σ : L2.St} {H : Hp} {ta tb te tl : TE}
theorem tu_tup {l : List Int} {v : V} (h : Tu l v H) : TupP l.length (fun i => Is (.int (l.getD i 0))) v H := by
  obtain ⟨a, h1, h2⟩ := h
  refine ⟨a, _, h1, h2, by simp, fun i y hy => ?_⟩
  rw [List.getElem?_map] at hy
  rw [List.getD_eq_getElem?_getD]
  cases e : l[i]? with
  | none => rw [e] at hy; cases hy
  | some c => rw [e] at hy; cases hy; rfl
theorem evp_sumT {l : List Int} (h : EvP te σ H (Tu l)) : EvP (tCB (rSumT K) (tCons te tNil)) σ H (Is (.int l.sum)) := fun H1 e Q q => h H1 e _ fun v H2 e2 ⟨a, h1, h2⟩ => ⟨a, l, by rw [h1], st_of h2, q _ H2 e2 rfl⟩
theorem evp_maxT {l : List Int} (h : EvP te σ H (Tu l)) (hl : l ≠ []) : EvP (tCB (rMaxT K) (tCons te tNil)) σ H (Is (.int (maxL l))) := fun H1 e Q q => h H1 e _ fun v H2 e2 ⟨a, h1, h2⟩ =>
  ⟨a, l, by rw [h1], st_of h2, List.length_pos_iff.mpr hl, fun m hm hle => q _ H2 e2 (by rw [max_is hm hle]; rfl)⟩
theorem q_asgG {te : TE} {g : TG} {tz : TS} {D : Ends} (h : te σ H (fun v H1 => g v σ H1 fun σ2 H2 => tz D σ2 H2)) : tSeq (tAsg te g) tz D σ H := h
end
section
variable {P : Program} {w : World} {K : PySem.W.Frag} {mg : Str → Option Value} {base : Heap} {tk : Tok} {k : Nat}
def spTold : Sp := fun vs H Q _ => ∃ (x : V) (hs : List Int), vs = [x] ∧ Tu hs x H ∧ hs ≠ [] ∧ hs.length ≤ 100 ∧ ∀ v H2, Evl.Ex H H2 → T3 hs.sum (cntL hs) (maxL hs) v H2 → Q v H2
def spHolds : Sp := fun vs H Q _ => ∃ (x y : V) (n r0 r1 d0 d1 : Int) (m : Option Int) (hs : List Int), vs = [x, y] ∧ Told4 n r0 r1 d0 d1 m x H ∧ Tu hs y H ∧ hs ≠ [] ∧ hs.length ≤ 100 ∧ ∀ v H2, Evl.Ex H H2 → v = .bl (holdsB n r0 r1 d0 d1 m hs) → Q v H2
/-! draws -/
theorem drawI {σ : L2.St} {H : Hp} {s p : Addr} {xs : List Int} {E : XK} {i : Nat} {ta : TE} {M : Int} (hs : σ[i]? = some (some (.ref s))) (ha : ∀ H1, EvP ta σ H1 (Is (.int M))) (hm : 1 ≤ M) : EvD s p xs (tCall spDraw [] E (tCons (tVar i) (tCons ta tNil))) σ H (BI fun r => 0 ≤ r ∧ r < M) := fun H1 e d Q q =>
  eap_two (P := Is (.ref s)) (evp_var hs rfl mono_is) (ha H1) mono_is H1 (Ex.refl _) _ fun vs H2 e2 ⟨x, y, hv, hx, hy⟩ => ⟨s, p, xs, M, by rw [hv, show x = .ref s from hx, show y = .int M from hy]; rfl, d.ex e2, hm, fun v H3 g3 d3 h3 => q v H3 ((Gs.of e2).trans g3) d3 h3⟩
theorem q_asgD {σ : L2.St} {H : Hp} {te : TE} {tz : TS} {D : Ends} {i : Nat} (h : te σ H (fun v H1 => tz D (σ.set i (some v)) H1)) : tSeq (tAsg te (gName i)) tz D σ H := h
theorem opD {σ : L2.St} {H : Hp} {ta tb : TE} {r : R2} {Q : VK} (h : ta σ H fun x H1 => tb σ H1 fun y H2 => r x y H2 Q) : tOp r ta tb σ H Q := h
theorem retD {σ : L2.St} {H : Hp} {te : TE} {D : Ends} (h : te σ H D.rt) : tRet te D σ H := h
theorem tup2 {σ : L2.St} {H : Hp} {t1 t2 : TE} {Q : VK} (h : t1 σ H fun x H1 => t2 σ H1 fun y H2 => 2 ≤ sizeLine ∧ ∀ p, H2 p = none → Q (.ref p) (upd H2 p (.tup [x, y]))) : tTup (tCons t1 (tCons t2 tNil)) σ H Q := h
end
end K20
namespace K20
open PySem PySem.Spec PyProof.Rows L2 Evl RZ Ev2 TA5
theorem lay_all : ∀ {ds : List PyData}, (∀ d ∈ ds, d.canLay0 = true) → PyData.canLayAll0 ds = true
  | [], _ => rfl
  | d :: ds, h => by
    show (d.canLay0 && PyData.canLayAll0 ds) = true
    rw [h d (List.mem_cons_self ..), lay_all fun e he => h e (List.mem_cons_of_mem _ he)]; rfl
theorem lay_of : ∀ {ds : List PyData}, PyData.canLayAll0 ds = true → ∀ d ∈ ds, d.canLay0 = true
  | [], _, _, h => nomatch h
  | e :: ds, h, d, hd => by
    have h' : (e.canLay0 && PyData.canLayAll0 ds) = true := h
    rw [Bool.and_eq_true] at h'
    rcases List.mem_cons.mp hd with rfl | hd
    · exact h'.1
    · exact lay_of h'.2 d hd
theorem depth_all {n : Nat} : ∀ {ds : List PyData}, (∀ d ∈ ds, d.depth ≤ n) → PyData.depthAll ds ≤ n
  | [], _ => Nat.zero_le _
  | d :: ds, h => by
    show max d.depth (PyData.depthAll ds) ≤ n
    exact Nat.max_le.mpr ⟨h d (List.mem_cons_self ..), depth_all fun e he => h e (List.mem_cons_of_mem _ he)⟩
theorem depth_of {n : Nat} : ∀ {ds : List PyData}, PyData.depthAll ds ≤ n → ∀ d ∈ ds, d.depth ≤ n
  | [], _, _, h => nomatch h
  | e :: ds, h, d, hd => by
    have h' : max e.depth (PyData.depthAll ds) ≤ n := h
    rcases List.mem_cons.mp hd with rfl | hd
    · omega
    · exact depth_of (by omega) d hd
theorem sh_of {d : PyData} (h1 : d.canLay0 = true) (h2 : d.depth ≤ 64) : SeqAt.shaped d = true := by
  unfold SeqAt.shaped
  rw [h1, decide_eq_true h2]; rfl
theorem ints_lay (is : List Int) : PyData.canLayAll0 (is.map PyData.int) = true := lay_all fun d hd => by obtain ⟨i, _, rfl⟩ := List.mem_map.mp hd; rfl
theorem ints_depth (is : List Int) : PyData.depthAll (is.map PyData.int) ≤ 0 := depth_all fun d hd => by obtain ⟨i, _, rfl⟩ := List.mem_map.mp hd; exact Nat.le_refl _
section
variable {K : PySem.W.Frag} {σ : L2.St} {H : Hp} {ta tb te : TE} {P R : HP}
theorem fl_dp {v : V} {d : PyData} (h : fl v d) : Dp K H v d := by
  cases v <;> first | exact h.elim | (cases h; constructor)
theorem fls_dp : ∀ {xs : List V} {ds : List PyData}, Paired fl xs ds → DpAll K H xs ds
  | _, _, .nil => .nil
  | _, _, .cons h t => .cons (fl_dp h) (fls_dp t)
theorem it_dp {v : V} {d : PyData} (h : It H v d) : Dp K H v d := by
  cases h with
  | flat h => exact fl_dp h
  | tup h p => exact .tup (st_of h) (fls_dp p)
  | lst h p => exact .lst (sq_of h) (fls_dp p)
theorem its_dp : ∀ {xs : List V} {ds : List PyData}, Paired (It H) xs ds → DpAll K H xs ds
  | _, _, .nil => .nil
  | _, _, .cons h t => .cons (it_dp h) (its_dp t)
theorem evp_eqD {d e : PyData} (ha : EvP ta σ H P) (hb : EvP tb σ H R) (m : Mono P) (hp : ∀ v H1, P v H1 → Dp K H1 v d) (hr : ∀ v H1, R v H1 → Dp K H1 v e) (s1 : SeqAt.shaped d = true) (s2 : SeqAt.shaped e = true) : EvP (tOp (rEqD K) ta tb) σ H (Is (.bl (PyData.eqv d e))) :=
  evp_op ha hb m fun x y H1 _ px py Q q => ⟨d, e, hp _ _ px, hr _ _ py, s1, s2, q _ H1 (Ex.refl _) rfl⟩
theorem evp_neD {d e : PyData} (ha : EvP ta σ H P) (hb : EvP tb σ H R) (m : Mono P) (hp : ∀ v H1, P v H1 → Dp K H1 v d) (hr : ∀ v H1, R v H1 → Dp K H1 v e) (s1 : SeqAt.shaped d = true) (s2 : SeqAt.shaped e = true) : EvP (tOp (rNeD K) ta tb) σ H (Is (.bl (!PyData.eqv d e))) :=
  evp_op ha hb m fun x y H1 _ px py Q q => ⟨d, e, hp _ _ px, hr _ _ py, s1, s2, q _ H1 (Ex.refl _) rfl⟩

theorem eqvAll_nil {ds : List PyData} : PyData.eqvAll ds [] = ds.isEmpty := by cases ds <;> rfl
theorem mono_ls {xs : List V} : Mono (Ls xs) := fun _ _ _ e ⟨p, h1, h2⟩ => ⟨p, h1, e _ _ h2⟩
end
theorem filter_rangeL {α : Type} (d : α) (p : α → Bool) : ∀ l : List α, ((List.range l.length).filter fun i => p (l.getD i d)).length = (l.filter p).length
  | [] => rfl
  | x :: l => by
    have ih := filter_rangeL d p l
    rw [List.length_cons, List.range_succ_eq_map, List.filter_cons, List.filter_map, List.filter_cons]
    have e : ((fun i => p ((x :: l).getD i d)) ∘ Nat.succ) = fun i => p (l.getD i d) := by funext i; rfl
    rw [e]
    have e0 : p ((x :: l).getD 0 d) = p x := rfl
    rw [e0]
    cases p x
    · rw [if_neg (by decide), if_neg (by decide), List.length_map]; exact ih
    · rw [if_pos rfl, if_pos rfl, List.length_cons, List.length_cons, List.length_map, ih]
/-! lists of things -/
def LIt (ds : List PyData) : HP := fun v H => ∃ p ys, v = .ref p ∧ H p = some (.lst ys) ∧ Paired (It H) ys ds
def tuD (l : List Int) : PyData := .tuple (l.map PyData.int)
section
variable {K : PySem.W.Frag} {σ : L2.St} {H : Hp} {ta tb te tl : TE} {tas : TA} {P : HP}
def EvI (ta : TA) (σ : L2.St) (H : Hp) (ds : List PyData) : Prop := EvAP ta σ H (fun vs H1 => Paired (It H1) vs ds)
theorem ei_nil : EvI tNil σ H [] := fun H1 e Q q => q [] H1 (Ex.refl _) .nil
theorem ei_cons {d : PyData} {ds : List PyData} (h : EvP te σ H (fun v H => It H v d)) (h2 : EvI tas σ H ds) : EvI (tCons te tas) σ H (d :: ds) := fun H1 e Q q =>
  h H1 e _ fun v H2 e2 hv => h2 H2 (e.trans e2) _ fun vs H3 e3 hp => q (v :: vs) H3 (e2.trans e3) (.cons (hv.mono (Kx.of e3)) hp)
theorem evp_lit {ds : List PyData} (h : EvI tas σ H ds) (hl : ds.length ≤ 100000) : EvP (tLst tas) σ H (LIt ds) := fun H1 e Q q =>
  h H1 e _ fun vs H2 e2 hp => ⟨sz_of (by rw [Paired.len hp]; exact hl), fun l hl => q _ _ (e2.trans (Ex.new hl)) ⟨l, vs, rfl, upd_same, its_mono (Kx.of (Ex.new hl)) hp⟩⟩
theorem it_c {v : V} {d : PyData} (h : fl v d) : EvP (tC v) σ H (fun v H => It H v d) := fun H1 e Q q => q v H1 (Ex.refl _) (.flat h)
theorem it_neg : EvP (tUn (rU fun i => .int (-i)) (tC (.int 1))) σ H (fun v H => It H v (.int (-1))) := fun H1 e Q q => (ev_un ev_c ru_neg : Ev (tUn (rU fun i => .int (-i)) (tC (.int 1))) σ H (.int (-1))) H1 e Q fun H2 e2 => q _ H2 e2 (.flat rfl)
theorem it_t {vs : List V} {ds : List PyData} (h : EvA tas σ H vs) (p : Paired fl vs ds) (hl : vs.length ≤ 100000) : EvP (tTup tas) σ H (fun v H => It H v (.tuple ds)) := fun H1 e Q q => eu_tup h hl H1 e Q fun a H2 _ e2 ha => q _ H2 e2 (.tup ha p)
theorem it_l {vs : List V} {ds : List PyData} (h : EvA tas σ H vs) (p : Paired fl vs ds) (hl : vs.length ≤ 100000) : EvP (tLst tas) σ H (fun v H => It H v (.list ds)) := fun H1 e Q q => el_lst h hl H1 e Q fun a H2 _ e2 ha => q _ H2 e2 (.lst ha p)
theorem it_one {i : Int} : EvP (tTup (tCons (tC (.int i)) tNil)) σ H (fun v H => It H v (.tuple [.int i])) := it_t (vs := [.int i]) (ea_cons ev_c ea_nil) (.cons rfl .nil) (show 1 ≤ 100000 by decide)
theorem it_two {x y : V} {d e : PyData} (h1 : fl x d) (h2 : fl y e) : EvP (tTup (tCons (tC x) (tCons (tC y) tNil))) σ H (fun v H => It H v (.tuple [d, e])) := it_t (vs := [x, y]) (ea_cons ev_c (ea_cons ev_c ea_nil)) (.cons h1 (.cons h2 .nil)) (show 2 ≤ 100000 by decide)
theorem evp_ofL' {xs : List V} (h : EvL te σ H xs) : EvP te σ H (Ls xs) := fun H1 e Q q => h H1 e Q fun p H2 _ e2 hp => q _ H2 e2 ⟨p, rfl, hp⟩
theorem evp_msg {m : Str} {x : V} {i : Nat} (h : σ[i]? = some (some x)) : EvP (tLst (tCons (tC (.str m)) (tCons (tVar i) tNil))) σ H (Ls [.str m, x]) := evp_ofL' (el_lst (ea_cons ev_c (ea_cons (ev_var h) ea_nil)) (show 2 ≤ 100000 by decide))
/-- ["..", x], twice -/
theorem e_same {m : Str} {x : V} {d : PyData} (hx : It H x d) (hs : SeqAt.shaped (.list [.str m, d]) = true) (ha : EvP ta σ H (Ls [.str m, x])) (hb : EvP tb σ H (Ls [.str m, x])) : EvT (tTest (tOp (rNeD K) ta tb)) σ H false := by
  have hd : ∀ v H1, Ls [.str m, x] v H1 ∧ Evl.Ex H H1 → Dp K H1 v (.list [.str m, d]) := fun v H1 ⟨⟨p, h1, h2⟩, e⟩ => by
    subst h1; exact .lst (sq_of h2) (.cons (.str m) (.cons (it_dp (hx.mono (Kx.of e))) .nil))
  have go : ∀ {te : TE}, EvP te σ H (Ls [.str m, x]) → EvP te σ H (fun v H1 => Ls [.str m, x] v H1 ∧ Evl.Ex H H1) := fun h H1 e Q q => h H1 e Q fun v H2 e2 hv => q v H2 e2 ⟨hv, e.trans e2⟩
  exact et_tst (evp_is (evp_neD (K := K) (d := .list [.str m, d]) (e := .list [.str m, d]) (go ha) (go hb) (fun v H1 H2 e ⟨h1, h2⟩ => ⟨mono_ls _ _ _ e h1, h2.trans e⟩) hd hd hs hs) (by rw [SeqAt.eqv_refl _ (SeqAt.canLay_of_shaped hs)]; rfl))
/-- a for over a list that is written; nothing is changed within -/
theorem s_forI {ds : List PyData} {g : TG} {tu : TS} {D : Ends} (h : EvP tl σ H (LIt ds)) (S : L2.St → Prop) (h0 : S σ)
    (hs : ∀ (i : Nat) (v : V) (d : PyData) (σ' : L2.St) (H' : Hp) (D' : Ends), ds[i]? = some d → S σ' → Evl.Ex H H' → It H' v d → (∀ σ2 H2, Evl.Ex H' H2 → S σ2 → D'.nx σ2 H2) → g v σ' H' fun σ2 H2 => tu D' σ2 H2) (hd : ∀ σ' H', S σ' → Evl.Ex H H' → D.nx σ' H') : tFor (iList K tl) g tu D σ H :=
  h H (Ex.refl H) _ fun v H1 e1 ⟨p, ys, hv, hp, hP⟩ => ⟨p, hv, ⟨ys, sq_of hp⟩, for_list (xs := ys) (fun _ σ' H' => S σ' ∧ Evl.Ex H1 H') ⟨h0, Ex.refl _⟩ (fun i σ' H' _ ⟨_, e⟩ => sq_of (e _ _ hp))
    (fun i x σ' H' hx ⟨hS, e⟩ => by
      obtain ⟨d, g1, g2⟩ := Paired.at hP hx
      exact hs i x d σ' H' _ g1 hS (e1.trans e) (g2.mono (Kx.of e)) fun σ2 H2 e2 hS2 => ⟨hS2, e.trans e2⟩) (fun σ' H' ⟨hS, e⟩ => hd σ' H' hS (e1.trans e))⟩
theorem q_forI {ds : List PyData} {g : TG} {tu tz : TS} {D : Ends} (h : EvP tl σ H (LIt ds)) (S : L2.St → Prop) (h0 : S σ)
    (hs : ∀ (i : Nat) (v : V) (d : PyData) (σ' : L2.St) (H' : Hp) (D' : Ends), ds[i]? = some d → S σ' → Evl.Ex H H' → It H' v d → (∀ σ2 H2, Evl.Ex H' H2 → S σ2 → D'.nx σ2 H2) → g v σ' H' fun σ2 H2 => tu D' σ2 H2) (hd : ∀ σ' H', S σ' → Evl.Ex H H' → tz D σ' H') : tSeq (tFor (iList K tl) g tu) tz D σ H :=
  s_forI (D := { D with nx := tz D }) h S h0 hs hd
/-- the tables found -/
def Found (ls : List (List Int)) (idx : List Nat) : HP := fun v H => ∃ p ys, v = .ref p ∧ H p = some (.lst ys) ∧ Paired (fun y i => Tu (ls.getD i []) y H) ys idx
theorem mono_found {ls : List (List Int)} {idx : List Nat} : Mono (Found ls idx) := fun _ _ _ e ⟨p, ys, h1, h2, h3⟩ => ⟨p, ys, h1, e _ _ h2, Paired.impl (fun _ _ h => mf_tu.mono _ _ _ e h) h3⟩
theorem fls_ints : ∀ l : List Int, Paired fl (l.map V.int) (l.map PyData.int)
  | [] => .nil
  | i :: l => .cons rfl (fls_ints l)
theorem found_dp {ls : List (List Int)} {idx : List Nat} {v : V} (h : Found ls idx v H) : Dp K H v (.list (idx.map fun i => tuD (ls.getD i []))) := by
  obtain ⟨p, ys, rfl, h2, h3⟩ := h
  refine .lst (sq_of h2) ?_
  have go : ∀ {ys : List V} {idx : List Nat}, Paired (fun y i => Tu (ls.getD i []) y H) ys idx → DpAll K H ys (idx.map fun i => tuD (ls.getD i [])) := fun {ys idx} h => by
    induction h with
    | nil => exact .nil
    | cons h t ih =>
      obtain ⟨a, rfl, ha⟩ := h
      exact .cons (it_dp (.tup ha (fls_ints _))) ih
  exact go h3
theorem found_sh (ls : List (List Int)) (idx : List Nat) : SeqAt.shaped (.list (idx.map fun i => tuD (ls.getD i []))) = true := by
  refine sh_of (lay_all fun d hd => ?_) ?_
  · obtain ⟨i, _, rfl⟩ := List.mem_map.mp hd
    exact ints_lay _
  · show PyData.depthAll _ + 1 ≤ 64
    have : PyData.depthAll (idx.map fun i => tuD (ls.getD i [])) ≤ 10 := depth_all fun d hd => by
      obtain ⟨i, _, rfl⟩ := List.mem_map.mp hd
      show PyData.depthAll _ + 1 ≤ 10
      have := ints_depth (ls.getD i []); omega
    omega
theorem et_found {ls : List (List Int)} {idx : List Nat} (h : EvP te σ H (Found ls idx)) : EvT (tTest (tOp (rNeD K) te (tLst tNil))) σ H (!decide (idx.length = 0)) :=
  et_tst (evp_is (evp_neD (K := K) (P := Found ls idx) (R := Ls []) (d := .list (idx.map fun i => tuD (ls.getD i []))) (e := .list []) h (evp_ofL' (el_lst ea_nil (by decide))) mono_found (fun _ _ h => found_dp h) (fun v H1 ⟨p, h1, h2⟩ => by subst h1; exact .lst (sq_of h2) .nil) (found_sh _ _) rfl) (by
    show V.bl (!PyData.eqvAll _ []) = _
    rw [eqvAll_nil]
    cases idx <;> rfl))
end
end K20
namespace K20
open PySem PySem.Spec PyProof.Rows L2 Evl RZ Ev2 TA5 Ow
/-! heights, limits, the lesser most, `in` -/
def mxI (i j : Int) : Int := if j > i then j else i
def mnI (i j : Int) : Int := if j < i then j else i
section
variable {P : Program} {w : World} {K : PySem.W.Frag} {mg : Str → Option Value} {base : Heap} {tk : Tok} {k : Nat} {C fI : Addr}
def spHts : Sp := fun vs H Q _ => ∃ (v : V) (n : Int) (l : List Int), vs = [.int n, v] ∧ Tu l v H ∧ (∀ x ∈ l, 0 ≤ x) ∧ l.length ≤ 1000 ∧ ∀ v H2, Evl.Ex H H2 → v = .bl (decide ((l.length : Int) = n)) → Q v H2
theorem all_cnt (l : List Int) (h : ∀ x ∈ l, 0 ≤ x) : ((List.range l.length).all fun i => isC (.int (l.getD i 0))) = true := by
  rw [all_range (fun x => isC (.int x)) 0 l, List.all_eq_true]
  exact fun x hx => decide_eq_true (h x hx)
theorem ok_hts {f f1 : Addr} {fd fd1 : FuncData} (D_is_count : Df K mg "is_count" s_is_count ["value"] f1 fd1) (G_is_count : FnOk P w K mg base CX0 (k + 2) f1 fd1 ["value"] spCount) (T : Txt mg tk) (D : Df K mg "is_heights" s_is_heights ["size", "value"] f fd) : FnOk P w K mg base CX0 (k + 3) f fd ["size", "value"] spHts := by
  refine D.F.ok sc_is_heights (fun vs H Q E h => ?_) (fun cdv A outer s H vs Q E hr h => ?_)
  · obtain ⟨v, n, l, rfl, _⟩ := h
    rfl
  · obtain ⟨v, n, l, rfl, hv, hl, hz, q⟩ := h
    have nd := sc_is_heights.nd
    refine ⟨_, (pss_one (ps_ret (pe_and (pe_callB (r := rIsi K) call_isi (by rfl) T.n_isinstance PyProof.Rows.boot_isinstance (pa_cons (pv 1) (pa_cons (pe_bltn (v := .ty "tuple") (by rfl) T.n_tuple PyProof.Rows.boot_tuple rfl) pa_nil))) (pe_and (pe_cmpR op_eq (pe_callB (r := rLenQ K) call_len_seq (by rfl) T.n_len PySem.boot_len (pa_cons (pv 1) pa_nil)) (pv 0) (nomark _)) (pe_one (pe_callB (r := rAll K) (cr_all rfl) (by rfl) T.n_all PyProof.Rows.boot_all (pa_cons (pe_lc (wi := iTup K _) (g := gName 2) (own := [("height", 2)]) (by rfl) nd (pi_tup (pv 1)) (blkOk_by (by kernel_rfl)) (fun _ _ _ _ _ => (pg_name (i := 2) nd rfl (Or.inl rfl))) (fun _ _ _ _ _ => pts_nil) (fun _ _ _ _ _ => (pe_call G_is_count (hr.mono (by omega)) (by rfl) D_is_count.g D_is_count.F.kp D_is_count.b .nil pass0 (pa_cons (pv 2) pa_nil)))) pa_nil))))))), ?_⟩
    have h1 : EvP (tVar 1) (start N_is_heights [.int n, v]) H (Tu l) := evp_var rfl hv mf_tu.mono
    have ht : EvP (tVar 1) (start N_is_heights [.int n, v]) H (TupP l.length fun i => Is (.int (l.getD i 0))) := h1.imp fun v H1 _ h => tu_tup h
    refine evp_is (evp_and (a := true) (b := decide ((l.length : Int) = n)) (evp_isi (K := K) (t := .type "tuple") (b := true) h1 (fun x H1 ⟨p, e, hp⟩ => by rw [e]; exact .base (.tup hp)) (.ty "tuple") (kit_ty (by decide +kernel))) fun _ => evp_is (evp_and (a := decide ((l.length : Int) = n)) (b := true) (evp_is (evp_eq (evp_len ht) (evp_var (i := 0) (v := .int n) rfl rfl mono_is) rfl) (by simp)) fun _ => ?_) (by rw [Bool.and_true])) (by rw [Bool.true_and]) H (Ex.refl H) _ q
    refine evp_is (evp_allB (K := K) (b := fun i => isC (.int (l.getD i 0))) (evp_lc (vs := [2]) (g := gName 2) (wi_tup (K := K) ht fun _ => mf_is) (by omega)
      (Sg := fun i σ2 _ => ∃ y, σ2 = [some (.int n), some v, some y] ∧ y = .int (l.getD i 0)) (fun i y H2 hi e2 hy => g_name (i := 2) ⟨rfl, y, rfl, hy⟩) (fun i σ2 H2 hi e2 ⟨y, hs, hy⟩ => by subst hs; exact evp_call (E := E0) (eap_one (P := fun v H => It H v (.int (l.getD i 0))) (evp_var (i := 2) (v := y) rfl (by subst hy; exact .flat rfl) mono_it)) sp_count_it) fun _ => mf_is)) (by rw [all_cnt l hl])
def spWithin : Sp := fun vs H Q _ => ∃ (v : V) (a b x : Int), vs = [v, .int x] ∧ Pr a b v H ∧ ∀ v H2, Evl.Ex H H2 → v = .bl (decide (a ≤ x) && decide (x ≤ b)) → Q v H2
theorem ok_within {f : Addr} {fd : FuncData} (D : Df K mg "is_within" s_is_within ["limits", "number"] f fd) : FnOk P w K mg base CX0 (k + 1) f fd ["limits", "number"] spWithin := by
  refine D.F.ok sc_is_within (fun vs H Q E h => ?_) (fun cdv A outer s H vs Q E hr h => ?_)
  · obtain ⟨v, a, b, x, rfl, _⟩ := h
    rfl
  · obtain ⟨v, a, b, x, rfl, hv, q⟩ := h
    refine ⟨_, (pss_one (ps_ret (pe_chain op_le op_le (pe_ix (r := rIxT K) ix_tup (pv 0) pe_int (fun _ _ => rfl)) (pv 1) (pe_ix (r := rIxT K) ix_tup (pv 0) pe_int (fun _ _ => rfl))))), ?_⟩
    have h0 : EvP (tVar 0) (start N_is_within [v, .int x]) H (Pr a b) := evp_var rfl hv mono_pr
    exact evp_chain (g := fun i j => .bl (decide (i ≤ j))) (g' := fun i j => .bl (decide (i ≤ j))) (evp_pr0 (K := K) h0) (evp_var (i := 1) (v := .int x) rfl rfl mono_is) (evp_pr1 (K := K) h0) rfl rfl H (Ex.refl H) _ q
def spMov : Sp := fun vs H Q _ => ∃ (u v : V) (a b c d : Int), vs = [u, v] ∧ Pr a b u H ∧ Pr c d v H ∧ ∀ v H2, Evl.Ex H H2 → Pr (mxI 0 (a + c)) (b + d) v H2 → Q v H2
theorem ok_moved {f : Addr} {fd : FuncData} (T : Txt mg tk) (D : Df K mg "moved" s_moved ["limits", "steps"] f fd) : FnOk P w K mg base CX0 (k + 1) f fd ["limits", "steps"] spMov := by
  refine D.F.ok sc_moved (fun vs H Q E h => ?_) (fun cdv A outer s H vs Q E hr h => ?_)
  · obtain ⟨u, v, a, b, c, d, rfl, _⟩ := h
    rfl
  · obtain ⟨u, v, a, b, c, d, rfl, hu, hv, q⟩ := h
    refine ⟨_, (pss_one (ps_ret (pe_tup (pa_cons (pe_callB (call_max2 rfl) (by rfl) T.n_max PyProof.Rows.boot_max (pa_cons pe_int (pa_cons (pe_op op_add (pe_ix (r := rIxT K) ix_tup (pv 0) pe_int (fun _ _ => rfl)) (pe_ix (r := rIxT K) ix_tup (pv 1) pe_int (fun _ _ => rfl))) pa_nil))) (pa_cons (pe_op op_add (pe_ix (r := rIxT K) ix_tup (pv 0) pe_int (fun _ _ => rfl)) (pe_ix (r := rIxT K) ix_tup (pv 1) pe_int (fun _ _ => rfl))) pa_nil))))), ?_⟩
    have h0 : EvP (tVar 0) (start N_moved [u, v]) H (Pr a b) := evp_var rfl hu mono_pr
    have h1 : EvP (tVar 1) (start N_moved [u, v]) H (Pr c d) := evp_var rfl hv mono_pr
    exact evp_pr (evp_max (evp_c (v := .int 0)) (evp_I0 (g := fun i j => .int (i + j)) (evp_pr0 (K := K) h0) (evp_pr0 (K := K) h1))) (evp_I0 (g := fun i j => .int (i + j)) (evp_pr1 (K := K) h0) (evp_pr1 (K := K) h1)) H (Ex.refl H) _ q
/-- a spread -/
def SprN (C : Addr) (n r0 r1 d0 d1 : Int) (m : Option Int) : HP := fun v H => ∃ y z, Spr C (.int n) y z (OI m) v H ∧ Pr r0 r1 y H ∧ Pr d0 d1 z H
theorem mono_sprN {n r0 r1 d0 d1 : Int} {m : Option Int} : Mono (SprN C n r0 r1 d0 d1 m) := fun _ _ _ e ⟨y, z, h1, h2, h3⟩ => ⟨y, z, mf_spr.mono _ _ _ e h1, mono_pr _ _ _ e h2, mono_pr _ _ _ e h3⟩
theorem evp_fS {σ : L2.St} {H : Hp} {te : TE} {f : Str} {x y z w u : V} (SK : SpK K mg C fI) (hn : NoAttr K C f) (h : EvP te σ H (Spr C x y z w)) (hl : (flds x y z w).lookup f = some u) : EvP (tFld K te f) σ H (Is u) := fun H1 e Q q => h H1 e _ fun v H2 e2 ⟨a, dx, h1, h2⟩ =>
  ⟨a, C, dx, _, u, h1, h2, SK.cl, hn, hl, q _ H2 e2 rfl⟩
def spIn (C : Addr) : Sp := fun vs H Q _ => ∃ (x v : V) (n r0 r1 d0 d1 : Int) (m : Option Int) (l : List Int), vs = [x, v] ∧ SprN C n r0 r1 d0 d1 m x H ∧ Tu l v H ∧ (∀ x ∈ l, 0 ≤ x) ∧ l ≠ [] ∧ l.length ≤ 1000 ∧ ∀ v H2, Evl.Ex H H2 → v = .bl (holdsB n r0 r1 d0 d1 m l) → Q v H2
theorem ok_in {f f1 f2 : Addr} {fd fd1 fd2 : FuncData} (SK : SpK K mg C fI) (T : Txt mg tk) (D_is_heights : Df K mg "is_heights" s_is_heights ["size", "value"] f1 fd1) (G_is_heights : FnOk P w K mg base CX0 (k + 3) f1 fd1 ["size", "value"] spHts)
    (D_is_within : Df K mg "is_within" s_is_within ["limits", "number"] f2 fd2) (G_is_within : FnOk P w K mg base CX0 (k + 1) f2 fd2 ["limits", "number"] spWithin) (F : Fun K "__contains__" "Spread.__contains__" s_Spread_contains f fd) : FnOk P w K mg base CX0 (k + 4) f fd ["self", "heights"] (spIn C) := by
  refine F.ok sc_Spread_contains (fun vs H Q E h => ?_) (fun cdv A outer s H vs Q E hr h => ?_)
  · obtain ⟨x, v, n, r0, r1, d0, d1, m, l, rfl, _⟩ := h
    rfl
  · obtain ⟨x, v, n, r0, r1, d0, d1, m, l, rfl, ⟨y, z, hx, hy, hz⟩, hv, hl, hne, hlen, q⟩ := h
    have nd := sc_Spread_contains.nd
    refine ⟨_, (pss_cons (ps_if (PW.pt (pw_or (pt_not (pt_val (pe_call G_is_heights (hr.mono (by omega)) (by rfl) D_is_heights.g D_is_heights.F.kp D_is_heights.b .nil pass0 (pa_cons (pe_fld (pv 0) rfl) (pa_cons (pv 1) pa_nil))))) (pw_or1 (pt_not (pt_val (pe_call G_is_within (hr.mono (by omega)) (by rfl) D_is_within.g D_is_within.F.kp D_is_within.b .nil pass0 (pa_cons (pe_fld (pv 0) rfl) (pa_cons (pe_callB (r := rSumT K) (cr_sumT rfl) (by rfl) T.n_sum PyProof.Rows.boot_sum (pa_cons (pv 1) pa_nil)) pa_nil)))))))) (pss_one (ps_ret pe_bl)) pss_nil) (pss_cons (ps_if (pt_not (pt_val (pe_call G_is_within (hr.mono (by omega)) (by rfl) D_is_within.g D_is_within.F.kp D_is_within.b .nil pass0 (pa_cons (pe_fld (pv 0) rfl) (pa_cons (pe_callB (r := rLenQ K) call_len_seq (by rfl) T.n_len PySem.boot_len (pa_cons (pe_lc (wi := iTup K _) (g := gName 2) (own := [("height", 2)]) (by rfl) nd (pi_tup (pv 1)) (blkOk_by (by kernel_rfl)) (fun _ _ _ _ _ => (pg_name (i := 2) nd rfl (Or.inl rfl))) (fun _ _ _ _ _ => (pts_one (pt_cmpR op_gt (pv 2) pe_int (nomark _)))) (fun _ _ _ _ _ => (pv 2))) pa_nil)) pa_nil))))) (pss_one (ps_ret pe_bl)) pss_nil) (pss_one (ps_ret (pe_or (pe_cmpR (r := rNon) op_isN (pe_fld (pv 0) rfl) pe_non (nomark _)) (pe_one (pe_cmpR op_le (pe_callB (r := rMaxT K) (cr_maxT rfl) (by rfl) T.n_max PyProof.Rows.boot_max (pa_cons (pv 1) pa_nil)) (pe_fld (pv 0) rfl) (nomark _)))))))), ?_⟩
    have v0 : ∀ {H' : Hp}, Evl.Ex H H' → EvP (tVar 0) (start N_Spread_contains [x, v]) H' (Spr C (.int n) y z (OI m)) := fun e => evp_var rfl (mf_spr.mono _ _ _ e hx) mf_spr.mono
    have v1 : ∀ {H' : Hp}, Evl.Ex H H' → EvP (tVar 1) (start N_Spread_contains [x, v]) H' (Tu l) := fun e => evp_var rfl (mf_tu.mono _ _ _ e hv) mf_tu.mono
    have fR : ∀ {H' : Hp}, Evl.Ex H H' → EvP (tFld K (tVar 0) "_rows") (start N_Spread_contains [x, v]) H' (Pr r0 r1) := fun e H1 e1 Q q => evp_fS SK SK.n2 (v0 e) lk2 H1 e1 Q fun u H2 e2 hu => q u H2 e2 (by rw [show u = y from hu]; exact mono_pr _ _ _ ((e.trans e1).trans e2) hy)
    have fD : ∀ {H' : Hp}, Evl.Ex H H' → EvP (tFld K (tVar 0) "_different") (start N_Spread_contains [x, v]) H' (Pr d0 d1) := fun e H1 e1 Q q => evp_fS SK SK.n3 (v0 e) lk3 H1 e1 Q fun u H2 e2 hu => q u H2 e2 (by rw [show u = z from hu]; exact mono_pr _ _ _ ((e.trans e1).trans e2) hz)
    have fM : ∀ {H' : Hp}, Evl.Ex H H' → EvP (tFld K (tVar 0) "_most") (start N_Spread_contains [x, v]) H' (Is (OI m)) := fun e => evp_fS SK SK.n4 (v0 e) lk4
    refine q_when (b := !decide ((l.length : Int) = n) || !(decide (r0 ≤ l.sum) && decide (l.sum ≤ r1))) (et_or (et_not (et_bl (evp_call (E := E0) (eap_two (evp_fS SK SK.n1 (v0 (Ex.refl H)) lk1) (v1 (Ex.refl H)) mono_is) fun vs H1 ⟨a, b, hab, ha, hb⟩ Q q E => ⟨b, n, l, by rw [hab, show a = _ from ha], hb, hl, hlen, q⟩))) fun _ => et_not (et_bl (evp_call (E := E0) (eap_two (fR (Ex.refl H)) (evp_sumT (K := K) (v1 (Ex.refl H))) mono_pr) fun vs H1 ⟨a, b, hab, ha, hb⟩ Q q E => ⟨a, r0, r1, l.sum, by rw [hab, show b = _ from hb], ha, q⟩)))
      (fun hb H1 e1 => s_ret ev_c fun H2 e2 => q _ H2 (e1.trans e2) ?_) fun hb H1 e1 => ?_
    · congr 1
      unfold holdsB
      cases h1 : decide ((l.length : Int) = n)
      · rfl
      · rw [h1] at hb
        have : (!(decide (r0 ≤ l.sum) && decide (l.sum ≤ r1))) = true := hb
        rw [this]; rfl
    have hb1 := Bool.or_eq_false_iff.mp hb
    have hcnt : EvP (tCB (rLenQ K) (tCons (tLc (iTup K (tVar 1)) (gName 2) (tTest (tOp (rI0 fun i j => .bl (decide (i > j))) (tVar 2) (tC (.int 0)))) (tVar 2) [2]) tNil)) (start N_Spread_contains [x, v]) H1 (Is (.int (cntL l : Int))) :=
      evp_lenL (K := K) ((evp_lcF (vs := [2]) (g := gName 2) (f := fun i => decide (l.getD i 0 > 0)) (n := l.length) (Pi := fun i => Is (.int (l.getD i 0))) (wx_tup (K := K) ((v1 e1).imp fun v H1 _ h => tu_tup h) fun _ => mono_is) (by omega)
        (Sg := fun i σ2 _ => σ2 = [some x, some v, some (.int (l.getD i 0))]) (fun i y H1 hi e1 hy => by rw [show y = _ from hy]; exact g_name (i := 2) ⟨rfl, rfl⟩) (fun i σ2 H1 hi e1 hs2 => by subst hs2; exact et_tst (evp_I0 (g := fun i j => .bl (decide (i > j))) (evp_var (i := 2) rfl rfl mono_is) (evp_c (v := .int 0))))
        (fun i σ2 H1 hi e1 hs2 => by subst hs2; exact evp_var (i := 2) rfl rfl mono_is) fun _ => mf_is).imp fun v H1 _ ⟨p, ys, h1, h2, h3⟩ => ⟨p, ys, h1, h2, by rw [Paired.len h3]; exact filter_range (fun x => decide (x > 0)) l⟩)
    refine q_when (b := !(decide (d0 ≤ (cntL l : Int)) && decide ((cntL l : Int) ≤ d1))) (et_not (et_bl (evp_call (E := E0) (eap_two (fD e1) hcnt mono_pr) fun vs H1 ⟨a, b, hab, ha, hb⟩ Q q E => ⟨a, d0, d1, (cntL l : Int), by rw [hab, show b = _ from hb], ha, q⟩)))
      (fun hb2 H2 e2 => s_ret ev_c fun H3 e3 => q _ H3 ((e1.trans e2).trans e3) ?_) fun hb2 H2 e2 => ?_
    · congr 1
      unfold holdsB
      rw [hb1.1, hb1.2, hb2]; rfl
    refine s_ret (EvP.ev (v := .bl (topB (maxL l) m)) ?_) fun H3 e3 => q _ H3 ((e1.trans e2).trans e3) (by unfold holdsB; rw [hb1.1, hb1.2, hb2]; rfl)
    have ex := e1.trans e2
    cases m with
    | none => exact evp_is (evp_or (a := true) (b := true) (evp_is (evp_non (fM ex)) rfl) fun z => nomatch z) rfl
    | some m => exact evp_is (evp_or (a := false) (evp_is (evp_non (fM ex)) rfl) fun _ => evp_I0 (g := fun i j => .bl (decide (i ≤ j))) (evp_maxT (K := K) (v1 ex) hne) (fM ex)) (by rw [Bool.false_or]; rfl)
end
end K20
namespace K20
open PySem PySem.Spec PyProof.Rows L2 Evl RZ Ev2 TA5 Ow
/-! a row more, a row less -/
theorem kit_me {K : PySem.W.Frag} {C : Addr} : PySem.W.kitOne K (.ref C) (.ref C) = some true := by
  unfold PySem.W.kitOne
  rw [if_pos (by simp)]
theorem pos_lim {n r0 r1 d0 d1 : Int} {m : Option Int} (h : (posL n r0 r1 d0 d1 m).length ≠ 0) : r0 ≤ r1 ∧ d0 ≤ d1 := by
  obtain ⟨i, hi⟩ := List.exists_mem_of_length_pos (Nat.pos_of_ne_zero h)
  obtain ⟨h1, h2⟩ := List.mem_filter.mp hi
  have h3 := List.mem_range.mp h1
  have h4 := of_decide_eq_true h2
  unfold possK at h3
  unfold lgM at h4
  constructor
  · by_cases hd : d0 + (i : Int) = 0
    · rw [if_pos hd] at h4
      dsimp only at h4
      by_cases h5 : 0 < r1
      · rw [if_pos h5] at h4; omega
      · rw [if_neg h5] at h4; exact h4
    · rw [if_neg hd] at h4
      dsimp only at h4
      have hle : hiM r1 (d0 + (i : Int)) m ≤ r1 := by
        cases m with
        | none => exact Int.le_refl _
        | some m =>
          show (if (d0 + (i : Int)) * m < r1 then (d0 + (i : Int)) * m else r1) ≤ r1
          by_cases h6 : (d0 + (i : Int)) * m < r1
          · rw [if_pos h6]; omega
          · rw [if_neg h6]; omega
      by_cases h5 : d0 + (i : Int) > r0
      · rw [if_pos h5] at h4; omega
      · rw [if_neg h5] at h4; omega
  · by_cases h5 : n < d1
    · rw [if_pos h5] at h3; omega
    · rw [if_neg h5] at h3; omega
def okM : Option Int → Prop
  | none => True
  | some m => 1 ≤ m
def mD : Option Int → PyData
  | none => .none
  | some i => .int i
theorem mo_mD (m : Option Int) : mo (mD m) = m := by cases m <;> rfl
theorem most_mD {m : Option Int} (h : okM m) : mostB (mD m) = true := by
  cases m with
  | none => rfl
  | some m => exact decide_eq_true h
theorem it_OI {H : Hp} (m : Option Int) : It H (OI m) (mD m) := .flat (by cases m <;> rfl)
theorem it_pr {H : Hp} {a b : Int} {v : V} (h : Pr a b v H) : It H v (.tuple [.int a, .int b]) := by
  obtain ⟨p, rfl, hp⟩ := h
  exact .tup hp (.cons rfl (.cons rfl .nil))
theorem lim_pr' {a b : Int} (h0 : 0 ≤ a) (h : a ≤ b) : limB (.tuple [.int a, .int b]) = true := by
  show (decide (a ≥ 0) && (decide (b ≥ 0) && decide (a ≤ b))) = true
  rw [decide_eq_true h0, decide_eq_true (by omega : b ≥ 0), decide_eq_true h]; rfl
section
variable {K : PySem.W.Frag} {H : Hp} {C CV CS CC : Addr}
/-- a spread is made -/
theorem mk_ok {n r0 r1 d0 d1 : Int} {m : Option Int} {y z : V} {Q : VK} {E : XK} (hn : 1 ≤ n ∧ n ≤ 64) (h0 : 0 ≤ r0 ∧ 0 ≤ d0 ∧ d0 ≤ 1000) (hm : okM m) (hp : (posL n r0 r1 d0 d1 m).length ≠ 0) (hy : Pr r0 r1 y H) (hz : Pr d0 d1 z H) (q : ∀ v H2, Evl.Ex H H2 → SprN C n r0 r1 d0 d1 m v H2 → Q v H2) :
    ∀ x dx, H x = none → H dx = none → dx ≠ x → spMk C CV CS CC (.ref x :: ([.int n, y, z, OI m] ++ [])) (upd (upd H dx (.own x)) x (.ins C dx [])) (fun v H2 => v = .non ∧ Q (.ref x) H2) E := fun a dx ha hd hne => by
  have em : Evl.Ex H (upd (upd H dx (.own a)) a (.ins C dx [])) := make_ex ha hd hne
  obtain ⟨l1, l2⟩ := pos_lim hp
  have hs : szB (.int n) = true := by show (decide (1 ≤ n) && decide (n ≤ 64)) = true; rw [decide_eq_true hn.1, decide_eq_true hn.2]; rfl
  have b2 := lim_pr' h0.1 l1
  have b3 := lim_pr' h0.2.1 l2
  have b4 := most_mD hm
  refine ⟨a, dx, .int n, y, z, OI m, .int n, .tuple [.int r0, .int r1], .tuple [.int d0, .int d1], mD m, rfl, upd_same, .flat rfl, (it_pr hy).mono (Kx.of em), (it_pr hz).mono (Kx.of em), it_OI m, fun e => ?_, fun _ e => ?_, fun _ _ e => ?_, fun _ _ _ e => ?_, fun _ _ _ _ => ⟨h0.2.2, fun e => ?_, fun _ H2 e h2 => ⟨rfl, ?_⟩⟩⟩
  · rw [hs] at e; cases e
  · rw [b2] at e; cases e
  · rw [b3] at e; cases e
  · rw [b4] at e; cases e
  · exact absurd (show (posL n r0 r1 d0 d1 m).length = 0 by rw [← mo_mD m]; exact e) hp
  · have e' := made_ex (C := C) ha hd hne e
    exact q _ H2 e' ⟨y, z, ⟨a, dx, rfl, h2⟩, mono_pr _ _ _ e' hy, mono_pr _ _ _ e' hz⟩
theorem pr_dp {a b : Int} {v : V} (h : Pr a b v H) : Dp K H v (.tuple [.int a, .int b]) := by
  obtain ⟨p, rfl, hp⟩ := h
  exact .tup (st_of hp) (.cons (.int a) (.cons (.int b) .nil))
end
theorem ins_isi {K : PySem.W.Frag} {σ : L2.St} {H : Hp} {te : TE} {C fI : Addr} {mg : Str → Option Value} {x y z w : V} (SK : SpK K mg C fI) (h : EvP te σ H (Spr C x y z w)) : EvP (tCB (rIsi K) (tCons te (tCons (tC (.ref C)) tNil))) σ H (Is (.bl true)) :=
  evp_isi (t := .ref C) (b := true) h (fun _ _ ⟨a, dx, e, h2⟩ => by rw [e]; exact .base (.ins h2 SK.cl SK.ha SK.hn SK.htk SK.hm)) (.own C) kit_me
theorem ts_mk {C : Addr} {sp : Sp} {dvs : List V} {E : L2.St → XK} {ta : TA} {σ : L2.St} {H : Hp} {Q : VK} {vs : List V} (h : EvA ta σ H vs) (k : ∀ H2, Evl.Ex H H2 → ∀ x dx, H2 x = none → H2 dx = none → dx ≠ x → sp (.ref x :: (vs ++ dvs)) (upd (upd H2 dx (.own x)) x (.ins C dx [])) (fun v H2 => v = .non ∧ Q (.ref x) H2) (E σ)) : tMakeS C sp dvs E ta σ H Q :=
  h H (Ex.refl _) _ fun H2 e2 => k H2 e2
theorem ts_raiseT {C : Addr} {W : WX} {ta : TA} {D : Ends} {σ : L2.St} {H : Hp} {vs : List V} (h : EvA ta σ H vs) (hl : vs.length ≤ 100000) (k : ∀ p H2, Evl.Ex H H2 → H2 p = some (.tup vs) → ∀ d, H2 d = none → W (.ref C) (some d) σ (upd H2 d (.xd [("part", .ref p)]))) : ErrCL.tRaiseErr C W (tCons (tTup ta) tNil) D σ H := by
  have go : ∀ Q : VK, (∀ p H2, Evl.Ex H H2 → H2 p = some (.tup vs) → Q (.ref p) H2) → tTup ta σ H Q := fun Q q => eu_tup h hl H (Ex.refl _) Q fun p H2 _ e2 hp => q p H2 e2 hp
  exact go (fun v H1 => tNil σ H1 fun vs H2 => ∃ u, (v :: vs) = [u] ∧ ∀ d, H2 d = none → W (.ref C) (some d) σ (upd H2 d (.xd [(("part" : Str), u)]))) fun p H2 e2 hp => ⟨.ref p, rfl, fun d hd => k p H2 e2 hp d hd⟩
theorem eap_of {ta : TA} {σ : L2.St} {H : Hp} {vs : List V} (h : EvA ta σ H vs) : EvAP ta σ H (fun us H1 => us = vs ∧ Evl.Ex H H1) := fun H1 e Q q => h H1 e Q fun H2 e2 => q vs H2 e2 ⟨rfl, e.trans e2⟩

def mM : Option Int → Int → Option Int
  | none, _ => none
  | some a, k => some (a + k)
def sR : Bool → Int
  | true => 1
  | false => -1
/-- the steps of the limits of the different values, and of most -/
def dl : Bool → Option Bool → Int
  | true, none => 0
  | true, some true => 0
  | true, some false => 1
  | false, none => -1
  | false, some true => -1
  | false, some false => 0
def dh : Bool → Option Bool → Int
  | true, none => 1
  | true, some true => 0
  | true, some false => 1
  | false, none => 0
  | false, some true => -1
  | false, some false => 0
def mr : Bool → Option Bool → Int
  | true, none => 1
  | true, some true => 1
  | true, some false => 0
  | false, _ => 0
def KV : Option Bool → V
  | none => .non
  | some b => .bl b
theorem mM_ok {m : Option Int} {k : Int} (h : okM m) (hk : 0 ≤ k) : okM (mM m k) := by
  cases m with
  | none => trivial
  | some a => have h' : 1 ≤ a := h; show 1 ≤ a + k; omega
theorem mr_ok (g : Bool) (k : Option Bool) : 0 ≤ mr g k := by cases g <;> rcases k with _ | _ | _ <;> decide
theorem d_ok (g : Bool) (k : Option Bool) : -1 ≤ dl g k ∧ dl g k ≤ 1 ∧ -1 ≤ dh g k ∧ dh g k ≤ 1 := by cases g <;> rcases k with _ | _ | _ <;> decide
section
variable {K : PySem.W.Frag} {σ : L2.St} {H : Hp} {te : TE} {C : Addr}
theorem ts_meth {m : Str} {sp : Sp} {dvs : List V} {E : L2.St → XK} {ta : TA} {Q : VK} {n r0 r1 d0 d1 : Int} {mo : Option Int} {A : List V → Hp → Prop} (h : EvP te σ H (SprN C n r0 r1 d0 d1 mo)) (ha : EvAP ta σ H A) (hl : ∀ x y z w, (flds x y z w).lookup m = none)
    (k : ∀ x vs H2, Evl.Ex H H2 → SprN C n r0 r1 d0 d1 mo x H2 → A vs H2 → sp (x :: (vs ++ dvs)) H2 Q (E σ)) : tMethE C m sp dvs E te ta σ H Q :=
  h H (Ex.refl _) _ fun x H1 e1 hx => by
    obtain ⟨y, z, ⟨a, dx, rfl, h1⟩, hy, hz⟩ := id hx
    exact ⟨a, dx, _, rfl, h1, hl _ _ _ _, ha H1 e1 _ fun vs H2 e2 hv => k _ vs H2 (e1.trans e2) (mono_sprN _ _ _ e2 hx) hv⟩
theorem evp_neg {i : Int} : EvP (tUn (rU fun i => .int (-i)) (tC (.int i))) σ H (Is (.int (-i))) := evp_of (ev_un ev_c ru_neg)
end
section
variable {P : Program} {w : World} {K : PySem.W.Frag} {mg : Str → Option Value} {base : Heap} {tk : Tok} {k : Nat} {C fI CV iV CS iS CC iC : Addr}
def spChg (C CC : Addr) : Sp := fun vs H Q E => ∃ (x y z : V) (n r0 r1 d0 d1 a b c e s : Int) (m : Option Int), vs = [x, y, z, .int s] ∧ SprN C n r0 r1 d0 d1 m x H ∧ Pr a b y H ∧ Pr c e z H ∧ (1 ≤ n ∧ n ≤ 64) ∧ (d0 + c ≤ 1000 ∧ -1000 ≤ d1 + e) ∧ okM (mM m s) ∧
  ((posL n (mxI 0 (r0 + a)) (r1 + b) (mxI 0 (d0 + c)) (d1 + e) (mM m s)).length = 0 → ∀ (d p : Addr) (u v : V) (H2 : Hp), Evl.Ex H H2 → H2 p = some (.tup [.int n, u, v, OI m]) → Pr r0 r1 u H2 → Pr d0 d1 v H2 → H2 d = some (.xd [("part", .ref p)]) → E (.ref CC) (some d) H2) ∧
  ((posL n (mxI 0 (r0 + a)) (r1 + b) (mxI 0 (d0 + c)) (d1 + e) (mM m s)).length ≠ 0 → ∀ v H2, Evl.Ex H H2 → SprN C n (mxI 0 (r0 + a)) (r1 + b) (mxI 0 (d0 + c)) (d1 + e) (mM m s) v H2 → Q v H2)
theorem mx_ok {a b : Int} (h : 0 ≤ a) : 0 ≤ mxI a b := by unfold mxI; by_cases h1 : b > a <;> simp only [h1, if_true, if_false] <;> omega
theorem mx_le {a b c : Int} (h : a ≤ c) (h2 : b ≤ c) : mxI a b ≤ c := by unfold mxI; by_cases h1 : b > a <;> simp only [h1, if_true, if_false] <;> omega
theorem ok_changed {f f1 f3 : Addr} {fd d1 d3 d4 : FuncData} {dvs : List V} (EC : ECT K mg CC iC) (SK : SpK K mg C fI) (T : Txt mg tk)
    (D_moved : Df K mg "moved" s_moved ["limits", "steps"] f1 d1) (G_moved : FnOk P w K mg base CX0 (k + 1) f1 d1 ["limits", "steps"] spMov)
    (D_possible_pairs : Df K mg "possible_pairs" s_possible_pairs ["size", "rows", "different", "most"] f3 d3) (G_possible_pairs : FnOk P w K mg base CX0 (k + 2) f3 d3 ["size", "rows", "different", "most"] spPairs)
    (M_init : FD K "__init__" "Spread.__init__" s_Spread_init ["self", "size", "rows", "different", "most"] dvs fI d4) (G_init : FnOk P w K mg base (L2.CX P w) (k + 6) fI d4 ["self", "size", "rows", "different", "most"] (spMk C CV CS CC))
    (F : Fun K "_changed" "Spread._changed" s_Spread_changed f fd) : FnOk P w K mg base (L2.CX P w) (k + 8) f fd ["self", "row_steps", "different_steps", "more"] (spChg C CC) := by
  refine F.okX sc_Spread_changed (fun vs H Q E h => ?_) (fun cdv A outer s H vs Q E hr h => ?_)
  · obtain ⟨x, y, z, n, r0, r1, d0, d1, a, b, c, e, s, m, rfl, _⟩ := h
    rfl
  · obtain ⟨x, y, z, n, r0, r1, d0, d1, a, b, c, e, st, m, rfl, ⟨y1, z1, hx, hy1, hz1⟩, hy, hz, hn, hb, hm, qp, q⟩ := h
    have nd := sc_Spread_changed.nd
    refine ⟨_, (pss_cons (ps_set (i := 4) nd rfl (Or.inl rfl) (pe_call G_moved (hr.mono (by omega)) (by rfl) D_moved.g D_moved.F.kp D_moved.b .nil pass0 (pa_cons (pe_fld (pv 0) rfl) (pa_cons (pv 1) pa_nil)))) (pss_cons (ps_set (i := 5) nd rfl (Or.inl rfl) (pe_call G_moved (hr.mono (by omega)) (by rfl) D_moved.g D_moved.F.kp D_moved.b .nil pass0 (pa_cons (pe_fld (pv 0) rfl) (pa_cons (pv 2) pa_nil)))) (pss_cons (ps_set (i := 6) nd rfl (Or.inl rfl) (pe_ifExp (pt_cmpR (r := rNon) op_isN (pe_fld (pv 0) rfl) pe_non (nomark _)) pe_non (pe_op op_add (pe_fld (pv 0) rfl) (pv 3)))) (pss_cons (ps_if (pt_cmpR op_eq (pe_callB (r := rLenQ K) call_len_seq (by rfl) T.n_len PySem.boot_len (pa_cons (pe_call G_possible_pairs (hr.mono (by omega)) (by rfl) D_possible_pairs.g D_possible_pairs.F.kp D_possible_pairs.b .nil pass0 (pa_cons (pe_fld (pv 0) rfl) (pa_cons (pv 4) (pa_cons (pv 5) (pa_cons (pv 6) pa_nil))))) pa_nil)) pe_int (nomark _)) (pss_one (ErrCL.ps_raiseErr rfl EC hr (takes_of rfl rfl rfl rfl) (pa_cons (pe_tup (pa_cons (pe_fld (pv 0) rfl) (pa_cons (pe_fld (pv 0) rfl) (pa_cons (pe_fld (pv 0) rfl) (pa_cons (pe_fld (pv 0) rfl) pa_nil))))) pa_nil))) pss_nil) (pss_one (ps_ret (pe_makeS SK.mkc G_init (hr.mono (by omega)) (by rfl) SK.gC M_init.b .nil (fun σ => passAt (W := fun _ _ _ _ => False) takes0 σ) (pa_cons (pe_fld (pv 0) rfl) (pa_cons (pv 4) (pa_cons (pv 5) (pa_cons (pv 6) pa_nil))))))))))), ?_⟩
    have v0 : ∀ {σ' : L2.St} {H' : Hp}, σ'[0]? = some (some x) → Evl.Ex H H' → EvP (tVar 0) σ' H' (Spr C (.int n) y1 z1 (OI m)) := fun h e => evp_var h (mf_spr.mono _ _ _ e hx) mf_spr.mono
    have pr : ∀ {te : TE} {σ' : L2.St} {H' : Hp} {u : V} {a b : Int}, EvP te σ' H' (Is u) → Evl.Ex H H' → Pr a b u H → EvP te σ' H' (Pr a b) := fun h e' hu H1 e Q q => h H1 e Q fun v H2 e2 hv => q v H2 e2 (by rw [show v = _ from hv]; exact mono_pr _ _ _ ((e'.trans e).trans e2) hu)
    refine q_asgP (evp_call (E := E0) (S := Pr (mxI 0 (r0 + a)) (r1 + b)) (eap_two (pr (evp_fS SK SK.n2 (v0 rfl (Ex.refl H)) lk2) (Ex.refl H) hy1) (evp_var (i := 1) (v := y) rfl hy mono_pr) mono_pr) fun vs H2 ⟨u, v, hv, hu, hv'⟩ Q q E => ⟨u, v, r0, r1, a, b, hv, hu, hv', q⟩) fun w2 H2 e2 h2 => ?_
    refine q_asgP (evp_call (E := E0) (S := Pr (mxI 0 (d0 + c)) (d1 + e)) (eap_two (pr (evp_fS SK SK.n3 (v0 rfl e2) lk3) e2 hz1) (evp_var (i := 2) (v := z) rfl (mono_pr _ _ _ e2 hz) mono_pr) mono_pr) fun vs H2 ⟨u, v, hv, hu, hv'⟩ Q q E => ⟨u, v, d0, d1, c, e, hv, hu, hv', q⟩) fun w3 H3 e3' h3 => ?_
    have e3 := e2.trans e3'
    have fM : ∀ {σ' : L2.St} {H' : Hp}, σ'[0]? = some (some x) → Evl.Ex H H' → EvP (tFld K (tVar 0) "_most") σ' H' (Is (OI m)) := fun h e => evp_fS SK SK.n4 (v0 h e) lk4
    refine q_asgP (P := Is (OI (mM m st))) (by
      cases m with
      | none => exact evp_if (b := true) (et_tst (evp_is (evp_non (fM rfl e3)) rfl)) (fun _ => evp_c) (fun z => nomatch z)
      | some m => exact evp_if (b := false) (et_tst (evp_is (evp_non (fM rfl e3)) rfl)) (fun z => nomatch z) (fun _ => evp_I0 (g := fun i j => .int (i + j)) (fM rfl e3) (evp_var (i := 3) (v := .int st) rfl rfl mono_is))) fun w4 H4 e4' h4 => ?_
    have e4 := e3.trans e4'
    have hw4 : w4 = OI (mM m st) := h4
    subst hw4
    replace h2 := mono_pr _ _ _ (e3'.trans e4') h2
    replace h3 := mono_pr _ _ _ e4' h3
    have args : ∀ {H' : Hp}, Evl.Ex H4 H' → EvA (tCons (tFld K (tVar 0) "_size") (tCons (tVar 4) (tCons (tVar 5) (tCons (tVar 6) tNil)))) [some x, some y, some z, some (.int st), some w2, some w3, some (OI (mM m st))] H' [.int n, w2, w3, OI (mM m st)] := fun e => ea_cons (evp_fS SK SK.n1 (v0 rfl (e4.trans e)) lk1).ev (ea_cons (ev_var rfl) (ea_cons (ev_var rfl) (ea_cons (ev_var rfl) ea_nil)))
    have told : ∀ {H' : Hp}, Evl.Ex H4 H' → EvA (tCons (tFld K (tVar 0) "_size") (tCons (tFld K (tVar 0) "_rows") (tCons (tFld K (tVar 0) "_different") (tCons (tFld K (tVar 0) "_most") tNil)))) [some x, some y, some z, some (.int st), some w2, some w3, some (OI (mM m st))] H' [.int n, y1, z1, OI m] := fun e => ea_cons (evp_fS SK SK.n1 (v0 rfl (e4.trans e)) lk1).ev (ea_cons (evp_fS SK SK.n2 (v0 rfl (e4.trans e)) lk2).ev (ea_cons (evp_fS SK SK.n3 (v0 rfl (e4.trans e)) lk3).ev (ea_cons (fM rfl (e4.trans e)).ev ea_nil)))
    have hd0 : mxI 0 (d0 + c) ≤ 1000 := mx_le (by omega) hb.1
    have hlen := evp_lenL (K := K) (N := (posL n (mxI 0 (r0 + a)) (r1 + b) (mxI 0 (d0 + c)) (d1 + e) (mM m st)).length) (evp_call (E := E0) (sp := spPairs) (eap_of (args (Ex.refl H4))) fun vs H5 ⟨hv, e5⟩ Q q E => ⟨w2, w3, n, _, _, _, _, _, hv, mono_pr _ _ _ e5 h2, mono_pr _ _ _ e5 h3, hn, ⟨mx_ok (by omega), hd0, hb.2⟩, q⟩)
    refine q_when (b := decide ((posL n (mxI 0 (r0 + a)) (r1 + b) (mxI 0 (d0 + c)) (d1 + e) (mM m st)).length = 0)) (et_tst (evp_is (evp_eq hlen (evp_c (v := .int 0)) rfl) (by simp))) (fun hb5 H5 e5 => ?_) fun hb5 H5 e5 => ?_
    · exact ts_raiseT (told e5) (show 4 ≤ 100000 by decide) fun p H6 e6 hp d hd => qp (of_decide_eq_true hb5) d p y1 z1 _ (((e4.trans e5).trans e6).trans (Ex.new hd)) (Ex.new hd _ _ hp) (mono_pr _ _ _ (((e4.trans e5).trans e6).trans (Ex.new hd)) hy1) (mono_pr _ _ _ (((e4.trans e5).trans e6).trans (Ex.new hd)) hz1) upd_same
    · exact ts_mk (args e5) fun H6 e6 => mk_ok hn ⟨mx_ok (by omega), mx_ok (by omega), hd0⟩ hm (of_decide_eq_false hb5) (mono_pr _ _ _ (e5.trans e6) h2) (mono_pr _ _ _ (e5.trans e6) h3) fun v H7 e7 hv => q (of_decide_eq_false hb5) v H7 (((e4.trans e5).trans e6).trans e7) hv
/-- x.grown(y), x.shrunk(y) -/
def PosG (g : Bool) (kn : Option Bool) (n r0 r1 d0 d1 : Int) (m : Option Int) : Nat := (posL n (mxI 0 (r0 + sR g)) (r1 + sR g) (mxI 0 (d0 + dl g kn)) (d1 + dh g kn) (mM m (mr g kn))).length
def SprG (C : Addr) (g : Bool) (kn : Option Bool) (n r0 r1 d0 d1 : Int) (m : Option Int) : HP := SprN C n (mxI 0 (r0 + sR g)) (r1 + sR g) (mxI 0 (d0 + dl g kn)) (d1 + dh g kn) (mM m (mr g kn))
def spGr (C CS CC : Addr) (g : Bool) : Sp := fun vs H Q E => ∃ (x y : V) (n r0 r1 d0 d1 : Int) (m : Option Int), vs = [x, y] ∧ SprN C n r0 r1 d0 d1 m x H ∧ (1 ≤ n ∧ n ≤ 64) ∧ (d0 ≤ 900 ∧ -900 ≤ d1) ∧ okM m ∧
  ((isV y = true ∧ y ≠ .non ∧ y ≠ .bl true ∧ y ≠ .bl false ∧ Rz "value" CS y H E) ∨
   (∃ kn, y = KV kn ∧
    (PosG g kn n r0 r1 d0 d1 m = 0 → ∀ (d p : Addr) (u v : V) (H2 : Hp), Evl.Ex H H2 → H2 p = some (.tup [.int n, u, v, OI m]) → Pr r0 r1 u H2 → Pr d0 d1 v H2 → H2 d = some (.xd [("part", .ref p)]) → E (.ref CC) (some d) H2) ∧
    (PosG g kn n r0 r1 d0 d1 m ≠ 0 → ∀ v H2, Evl.Ex H H2 → SprG C g kn n r0 r1 d0 d1 m v H2 → Q v H2)))
theorem ok_grown {f f1 : Addr} {fd d1 : FuncData} (ES : EST K mg CS iS) (SK : SpK K mg C fI) (W_changed : Meth K C "_changed" f1) (G_changed : FnOk P w K mg base (L2.CX P w) (k + 8) f1 d1 ["self", "row_steps", "different_steps", "more"] (spChg C CC)) (b_changed : Binds K d1 ["self", "row_steps", "different_steps", "more"] [])
    {dvs : List V} (F : FunD K "grown" "Spread.grown" (defArgs s_Spread_grown) (defBody s_Spread_grown) (defScope s_Spread_grown) dvs [] f fd) : FnOk P w K mg base (L2.CX P w) (k + 10) f fd ["self", "known"] (spGr C CS CC true) := by
  refine F.ok sc_Spread_grown (fun vs H Q E h => ?_) (fun cdv A outer s H vs Q E hr h => ?_)
  · obtain ⟨x, y, n, r0, r1, d0, d1, m, rfl, _⟩ := h
    rfl
  · obtain ⟨x, y, n, r0, r1, d0, d1, m, rfl, hx, hn, hb, hm, hq⟩ := h
    have nd := sc_Spread_grown.nd
    refine ⟨_, (pss_cons (ps_if (pt_cmpR (r := rNon) op_isN (pv 1) pe_non (nomark _)) (pss_one (ps_ret (pe_methE (pv 0) SK.cl W_changed G_changed (hr.mono (by omega)) b_changed .nil (fun σ => passAt (takes_of rfl rfl rfl rfl) σ) (pa_cons (pe_tup (pa_cons pe_int (pa_cons pe_int pa_nil))) (pa_cons (pe_tup (pa_cons pe_int (pa_cons pe_int pa_nil))) (pa_cons pe_int pa_nil)))))) pss_nil) (pss_cons (ps_if (pt_cmpR (r := rIsC) op_isC (pv 1) pe_bl (nomark _)) (pss_one (ps_ret (pe_methE (pv 0) SK.cl W_changed G_changed (hr.mono (by omega)) b_changed .nil (fun σ => passAt (takes_of rfl rfl rfl rfl) σ) (pa_cons (pe_tup (pa_cons pe_int (pa_cons pe_int pa_nil))) (pa_cons (pe_tup (pa_cons pe_int (pa_cons pe_int pa_nil))) (pa_cons pe_int pa_nil)))))) pss_nil) (pss_cons (ps_if (pt_cmpR (r := rIsC) op_isC (pv 1) pe_bl (nomark _)) (pss_one (ps_ret (pe_methE (pv 0) SK.cl W_changed G_changed (hr.mono (by omega)) b_changed .nil (fun σ => passAt (takes_of rfl rfl rfl rfl) σ) (pa_cons (pe_tup (pa_cons pe_int (pa_cons pe_int pa_nil))) (pa_cons (pe_tup (pa_cons pe_int (pa_cons pe_int pa_nil))) (pa_cons pe_int pa_nil)))))) pss_nil) (pss_one (ErrVL.ps_raiseErr rfl ES hr (takes_of rfl rfl rfl rfl) (pa_cons (pv 1) pa_nil)))))), ?_⟩
    have v0 : ∀ {H' : Hp}, Evl.Ex H H' → EvP (tVar 0) (start N_Spread_grown [x, y]) H' (SprN C n r0 r1 d0 d1 m) := fun e => evp_var rfl (mono_sprN _ _ _ e hx) mono_sprN
    have v1 : ∀ {H' : Hp}, EvP (tVar 1) (start N_Spread_grown [x, y]) H' (Is y) := evp_var rfl rfl mono_is
    have is : ∀ {H' : Hp} (b : Bool), isV y = true → EvT (tTest (tOp rIsC (tVar 1) (tC (.bl b)))) (start N_Spread_grown [x, y]) H' (decide (y = .bl b)) := fun b hv => et_tst (evp_op v1 evp_c mono_is fun x' y' H1 _ hx' hy' Q q => ⟨b, hy', by rw [show x' = y from hx']; exact hv, by rw [show x' = y from hx']; exact q _ H1 (Ex.refl _) rfl⟩)
    rcases hq with ⟨hv, n1, n2, n3, q⟩ | ⟨kn, rfl, qp, q⟩
    · refine q_when (b := false) (et_tst (evp_is (evp_non v1) (by rw [decide_eq_false n1]))) (fun z => nomatch z) fun _ H1 e1 => ?_
      refine q_when (b := false) (et_is (is true hv) (decide_eq_false n2)) (fun z => nomatch z) fun _ H2 e2 => ?_
      refine q_when (b := false) (et_is (is false hv) (decide_eq_false n3)) (fun z => nomatch z) fun _ H3 e3 => ?_
      exact ⟨y, rfl, y, rfl, fun d hd => q d _ (((e1.trans e2).trans e3).trans (Ex.new hd)) upd_same⟩
    · have hd := d_ok true kn
      have go : ∀ {t1 t2 t3 : TE} {H1 : Hp}, Evl.Ex H H1 → EvP t1 (start N_Spread_grown [x, KV kn]) H1 (Pr (sR true) (sR true)) → EvP t2 (start N_Spread_grown [x, KV kn]) H1 (Pr (dl true kn) (dh true kn)) → EvP t3 (start N_Spread_grown [x, KV kn]) H1 (Is (.int (mr true kn))) →
          tMethE C "_changed" (spChg C CC) [] (WE fun cls d _ H => E cls d H) (tVar 0) (tCons t1 (tCons t2 (tCons t3 tNil))) (start N_Spread_grown [x, KV kn]) H1 Q := fun e1 h1 h2 h3 => ts_meth (v0 e1) (eap_three h1 h2 h3 mono_pr mono_pr) (fun _ _ _ _ => rfl) fun x' vs H2 e2 hx' ⟨a, b, c, hv, ha, hb', hc⟩ => by
        subst hv
        have hc' : c = .int (mr true kn) := hc
        subst hc'
        exact ⟨x', a, b, n, r0, r1, d0, d1, _, _, _, _, _, m, rfl, hx', ha, hb', hn, ⟨by omega, by omega⟩, mM_ok hm (mr_ok true kn), fun hz d p u v H3 e3 => qp hz d p u v H3 ((e1.trans e2).trans e3), fun hz v H3 e3 => q hz v H3 ((e1.trans e2).trans e3)⟩
      rcases kn with _ | _ | _
      · exact q_when (b := true) (et_tst (evp_is (evp_non v1) rfl)) (fun _ H1 e1 => go e1 (evp_pr evp_c evp_c) (evp_pr evp_c evp_c) evp_c) fun z => nomatch z
      · refine q_when (b := false) (et_tst (evp_is (evp_non v1) rfl)) (fun z => nomatch z) fun _ H1 e1 => ?_
        refine q_when (b := false) (et_is (is true rfl) rfl) (fun z => nomatch z) fun _ H2 e2 => ?_
        exact q_when (b := true) (et_is (is false rfl) rfl) (fun _ H3 e3 => go ((e1.trans e2).trans e3) (evp_pr evp_c evp_c) (evp_pr evp_c evp_c) evp_c) fun z => nomatch z
      · refine q_when (b := false) (et_tst (evp_is (evp_non v1) rfl)) (fun z => nomatch z) fun _ H1 e1 => ?_
        exact q_when (b := true) (et_is (is true rfl) rfl) (fun _ H2 e2 => go (e1.trans e2) (evp_pr evp_c evp_c) (evp_pr evp_c evp_c) evp_c) fun z => nomatch z
theorem ok_shrunk {f f1 : Addr} {fd d1 : FuncData} (ES : EST K mg CS iS) (SK : SpK K mg C fI) (W_changed : Meth K C "_changed" f1) (G_changed : FnOk P w K mg base (L2.CX P w) (k + 8) f1 d1 ["self", "row_steps", "different_steps", "more"] (spChg C CC)) (b_changed : Binds K d1 ["self", "row_steps", "different_steps", "more"] [])
    {dvs : List V} (F : FunD K "shrunk" "Spread.shrunk" (defArgs s_Spread_shrunk) (defBody s_Spread_shrunk) (defScope s_Spread_shrunk) dvs [] f fd) : FnOk P w K mg base (L2.CX P w) (k + 10) f fd ["self", "last"] (spGr C CS CC false) := by
  refine F.ok sc_Spread_shrunk (fun vs H Q E h => ?_) (fun cdv A outer s H vs Q E hr h => ?_)
  · obtain ⟨x, y, n, r0, r1, d0, d1, m, rfl, _⟩ := h
    rfl
  · obtain ⟨x, y, n, r0, r1, d0, d1, m, rfl, hx, hn, hb, hm, hq⟩ := h
    have nd := sc_Spread_shrunk.nd
    refine ⟨_, (pss_cons (ps_if (pt_cmpR (r := rNon) op_isN (pv 1) pe_non (nomark _)) (pss_one (ps_ret (pe_methE (pv 0) SK.cl W_changed G_changed (hr.mono (by omega)) b_changed .nil (fun σ => passAt (takes_of rfl rfl rfl rfl) σ) (pa_cons (pe_tup (pa_cons (pe_un un_neg pe_int) (pa_cons (pe_un un_neg pe_int) pa_nil))) (pa_cons (pe_tup (pa_cons (pe_un un_neg pe_int) (pa_cons pe_int pa_nil))) (pa_cons pe_int pa_nil)))))) pss_nil) (pss_cons (ps_if (pt_cmpR (r := rIsC) op_isC (pv 1) pe_bl (nomark _)) (pss_one (ps_ret (pe_methE (pv 0) SK.cl W_changed G_changed (hr.mono (by omega)) b_changed .nil (fun σ => passAt (takes_of rfl rfl rfl rfl) σ) (pa_cons (pe_tup (pa_cons (pe_un un_neg pe_int) (pa_cons (pe_un un_neg pe_int) pa_nil))) (pa_cons (pe_tup (pa_cons (pe_un un_neg pe_int) (pa_cons (pe_un un_neg pe_int) pa_nil))) (pa_cons pe_int pa_nil)))))) pss_nil) (pss_cons (ps_if (pt_cmpR (r := rIsC) op_isC (pv 1) pe_bl (nomark _)) (pss_one (ps_ret (pe_methE (pv 0) SK.cl W_changed G_changed (hr.mono (by omega)) b_changed .nil (fun σ => passAt (takes_of rfl rfl rfl rfl) σ) (pa_cons (pe_tup (pa_cons (pe_un un_neg pe_int) (pa_cons (pe_un un_neg pe_int) pa_nil))) (pa_cons (pe_tup (pa_cons pe_int (pa_cons pe_int pa_nil))) (pa_cons pe_int pa_nil)))))) pss_nil) (pss_one (ErrVL.ps_raiseErr rfl ES hr (takes_of rfl rfl rfl rfl) (pa_cons (pv 1) pa_nil)))))), ?_⟩
    have v0 : ∀ {H' : Hp}, Evl.Ex H H' → EvP (tVar 0) (start N_Spread_shrunk [x, y]) H' (SprN C n r0 r1 d0 d1 m) := fun e => evp_var rfl (mono_sprN _ _ _ e hx) mono_sprN
    have v1 : ∀ {H' : Hp}, EvP (tVar 1) (start N_Spread_shrunk [x, y]) H' (Is y) := evp_var rfl rfl mono_is
    have is : ∀ {H' : Hp} (b : Bool), isV y = true → EvT (tTest (tOp rIsC (tVar 1) (tC (.bl b)))) (start N_Spread_shrunk [x, y]) H' (decide (y = .bl b)) := fun b hv => et_tst (evp_op v1 evp_c mono_is fun x' y' H1 _ hx' hy' Q q => ⟨b, hy', by rw [show x' = y from hx']; exact hv, by rw [show x' = y from hx']; exact q _ H1 (Ex.refl _) rfl⟩)
    rcases hq with ⟨hv, n1, n2, n3, q⟩ | ⟨kn, rfl, qp, q⟩
    · refine q_when (b := false) (et_tst (evp_is (evp_non v1) (by rw [decide_eq_false n1]))) (fun z => nomatch z) fun _ H1 e1 => ?_
      refine q_when (b := false) (et_is (is true hv) (decide_eq_false n2)) (fun z => nomatch z) fun _ H2 e2 => ?_
      refine q_when (b := false) (et_is (is false hv) (decide_eq_false n3)) (fun z => nomatch z) fun _ H3 e3 => ?_
      exact ⟨y, rfl, y, rfl, fun d hd => q d _ (((e1.trans e2).trans e3).trans (Ex.new hd)) upd_same⟩
    · have hd := d_ok false kn
      have go : ∀ {t1 t2 t3 : TE} {H1 : Hp}, Evl.Ex H H1 → EvP t1 (start N_Spread_shrunk [x, KV kn]) H1 (Pr (sR false) (sR false)) → EvP t2 (start N_Spread_shrunk [x, KV kn]) H1 (Pr (dl false kn) (dh false kn)) → EvP t3 (start N_Spread_shrunk [x, KV kn]) H1 (Is (.int (mr false kn))) →
          tMethE C "_changed" (spChg C CC) [] (WE fun cls d _ H => E cls d H) (tVar 0) (tCons t1 (tCons t2 (tCons t3 tNil))) (start N_Spread_shrunk [x, KV kn]) H1 Q := fun e1 h1 h2 h3 => ts_meth (v0 e1) (eap_three h1 h2 h3 mono_pr mono_pr) (fun _ _ _ _ => rfl) fun x' vs H2 e2 hx' ⟨a, b, c, hv, ha, hb', hc⟩ => by
        subst hv
        have hc' : c = .int (mr false kn) := hc
        subst hc'
        exact ⟨x', a, b, n, r0, r1, d0, d1, _, _, _, _, _, m, rfl, hx', ha, hb', hn, ⟨by omega, by omega⟩, mM_ok hm (mr_ok false kn), fun hz d p u v H3 e3 => qp hz d p u v H3 ((e1.trans e2).trans e3), fun hz v H3 e3 => q hz v H3 ((e1.trans e2).trans e3)⟩
      rcases kn with _ | _ | _
      · exact q_when (b := true) (et_tst (evp_is (evp_non v1) rfl)) (fun _ H1 e1 => go e1 (evp_pr evp_neg evp_neg) (evp_pr evp_neg evp_c) evp_c) fun z => nomatch z
      · refine q_when (b := false) (et_tst (evp_is (evp_non v1) rfl)) (fun z => nomatch z) fun _ H1 e1 => ?_
        refine q_when (b := false) (et_is (is true rfl) rfl) (fun z => nomatch z) fun _ H2 e2 => ?_
        exact q_when (b := true) (et_is (is false rfl) rfl) (fun _ H3 e3 => go ((e1.trans e2).trans e3) (evp_pr evp_neg evp_neg) (evp_pr evp_c evp_c) evp_c) fun z => nomatch z
      · refine q_when (b := false) (et_tst (evp_is (evp_non v1) rfl)) (fun z => nomatch z) fun _ H1 e1 => ?_
        exact q_when (b := true) (et_is (is true rfl) rfl) (fun _ H2 e2 => go (e1.trans e2) (evp_pr evp_neg evp_neg) (evp_pr evp_neg evp_neg) evp_c) fun z => nomatch z

end
end K20
namespace K20
open PySem PySem.Spec PyProof.Rows L2 Evl RZ Ev2 TA5 Ow
/-! the law's own defs -/
section
variable {K : PySem.W.Frag} {σ : L2.St} {H : Hp} {ta tb te tl : TE}
def Tp (xs : List V) : HP := fun v H => ∃ p, v = .ref p ∧ H p = some (.tup xs)
theorem mono_tp {xs : List V} : Mono (Tp xs) := fun _ _ _ e ⟨p, h1, h2⟩ => ⟨p, h1, e _ _ h2⟩
theorem evp_tpi {xs : List V} {i : Nat} {z : V} (h : EvP te σ H (Tp xs)) (hx : xs[i]? = some z) : EvP (tOp (rIxT K) te (tC (.int (i : Int)))) σ H (Is z) := fun H1 e Q q => h H1 e _ fun v H2 e2 ⟨p, h1, h2⟩ => ⟨p, xs, _, z, h1, rfl, st_of h2, atI_nat hx, q z H2 e2 rfl⟩
theorem evp_pr' {te : TE} {u : V} {a b : Int} {H0 : Hp} (h : EvP te σ H (Is u)) (e' : Evl.Ex H0 H) (hu : Pr a b u H0) : EvP te σ H (Pr a b) := fun H1 e Q q => h H1 e Q fun v H2 e2 hv => q v H2 e2 (by rw [show v = _ from hv]; exact mono_pr _ _ _ ((e'.trans e).trans e2) hu)
end
section
variable {P : Program} {w : World} {K : PySem.W.Frag} {mg : Str → Option Value} {base : Heap} {tk : Tok} {k : Nat} {C fI CV iV CS iS CC iC : Addr}
def spMade (C : Addr) : Sp := fun vs H Q _ => ∃ (x : V) (n r0 r1 d0 d1 : Int) (m : Option Int), vs = [x] ∧ Told4 n r0 r1 d0 d1 m x H ∧ (1 ≤ n ∧ n ≤ 64) ∧ (0 ≤ r0 ∧ 0 ≤ d0 ∧ d0 ≤ 1000) ∧ okM m ∧ (posL n r0 r1 d0 d1 m).length ≠ 0 ∧ ∀ v H2, Evl.Ex H H2 → SprN C n r0 r1 d0 d1 m v H2 → Q v H2
def PartN (n r0 r1 d0 d1 : Int) (m : Option Int) : HP := fun v H => ∃ p t, v = .ref p ∧ H p = some (.lst [.str "part", .ref t]) ∧ Told4 n r0 r1 d0 d1 m (.ref t) H
theorem mono_partN {n r0 r1 d0 d1 : Int} {m : Option Int} : Mono (PartN n r0 r1 d0 d1 m) := fun _ _ _ e ⟨p, t, h1, h2, h3⟩ => ⟨p, t, h1, e _ _ h2, mono_told _ _ _ e h3⟩

def doorI : Bool → Int
  | true => 0
  | false => 1
/-- moved(x, door, y) -/
def spLMv (C : Addr) : Sp := fun vs H Q _ => ∃ (g : Bool) (x y : V) (n r0 r1 d0 d1 : Int) (m : Option Int), vs = [x, .int (doorI g), y] ∧ SprN C n r0 r1 d0 d1 m x H ∧ (1 ≤ n ∧ n ≤ 64) ∧ (d0 ≤ 900 ∧ -900 ≤ d1) ∧ okM m ∧
  ((isV y = true ∧ y ≠ .non ∧ y ≠ .bl true ∧ y ≠ .bl false ∧ ∀ v H2, Evl.Ex H H2 → Ls [.str "none", y] v H2 → Q v H2) ∨
   (∃ kn, y = KV kn ∧ (PosG g kn n r0 r1 d0 d1 m = 0 → ∀ v H2, Evl.Ex H H2 → PartN n r0 r1 d0 d1 m v H2 → Q v H2) ∧ (PosG g kn n r0 r1 d0 d1 m ≠ 0 → ∀ v H2, Evl.Ex H H2 → SprG C g kn n r0 r1 d0 d1 m v H2 → Q v H2)))
end
end K20
namespace K20
open PySem PySem.Spec PyProof.Rows L2 Evl RZ Ev2 TA5 Ow
/-! heights with one height changed; what fits then -/

section
variable {K : PySem.W.Frag} {σ : L2.St} {H : Hp} {ta tb te : TE}
theorem evp_catA {xs ys : List V} (ha : EvP ta σ H (Tp xs)) (hb : EvP tb σ H (Tp ys)) (hl : xs.length + ys.length ≤ 100000) : EvP (tOp (rCatA K) ta tb) σ H (Tp (xs ++ ys)) := fun H1 e Q q =>
  ha H1 e _ fun v H2 e2 hv => hb H2 (e.trans e2) _ fun w H3 e3 ⟨b, hw, hb'⟩ => by
    obtain ⟨a, hv', ha'⟩ := mono_tp _ _ _ e3 hv
    refine ⟨a, b, xs, ys, hv', hw, st_of ha', st_of hb', sz_of hl, fun h => ?_, fun h1 h2 => ?_, fun h1 h2 p hp => ?_⟩
    · subst h; exact q _ H3 (e2.trans e3) ⟨b, rfl, hb'⟩
    · subst h2; exact q _ H3 (e2.trans e3) ⟨a, rfl, by rw [List.append_nil]; exact ha'⟩
    · exact q _ _ ((e2.trans e3).trans (Ex.new hp)) ⟨p, rfl, upd_same⟩
theorem evp_one {i : Int} (h : EvP te σ H (Is (.int i))) : EvP (tTup (tCons te tNil)) σ H (Tp [.int i]) := fun H1 e Q q => eu_tup (ea_cons h.ev ea_nil) (show 1 ≤ 100000 by decide) H1 e Q fun p H2 _ e2 hp => q _ H2 e2 ⟨p, rfl, hp⟩
end
theorem drop_mid (a b : List Int) (c : V) : List.drop (a.length + 1) (a.map V.int ++ c :: b.map V.int) = b.map V.int := by
  have : a.length + 1 = (a.map V.int).length + 1 := by simp
  rw [this, List.drop_append]
  simp
section
variable {P : Program} {w : World} {K : PySem.W.Frag} {mg : Str → Option Value} {base : Heap} {tk : Tok} {k : Nat}
def spCh : Sp := fun vs H Q _ => ∃ (x : V) (a b : List Int) (c s : Int), vs = [x, .int (a.length : Int), .int s] ∧ Tu (a ++ c :: b) x H ∧ a.length + b.length ≤ 1000 ∧ ∀ v H2, Evl.Ex H H2 → Tu (a ++ (c + s) :: b) v H2 → Q v H2
end
/-! what fits -/
theorem cnt_app (a b : List Int) : cntL (a ++ b) = cntL a + cntL b := by unfold cntL; rw [List.filter_append, List.length_append]
theorem cnt_cons (c : Int) (b : List Int) : cntL (c :: b) = (if c > 0 then 1 else 0) + cntL b := by
  unfold cntL
  rw [List.filter_cons]
  by_cases h : c > 0
  · rw [if_pos (decide_eq_true h), if_pos h, List.length_cons]; omega
  · rw [if_neg (by simp; omega), if_neg h]; omega
theorem cnt_facts : ∀ l : List Int, (∀ x ∈ l, 0 ≤ x) → (cntL l : Int) ≤ l.sum ∧ (cntL l = 0 → l.sum = 0) ∧ cntL l ≤ l.length ∧ (∀ m : Int, (∀ x ∈ l, x ≤ m) → l.sum ≤ (cntL l : Int) * m)
  | [], _ => ⟨by simp [cntL], fun _ => rfl, by simp [cntL], fun m _ => by simp [cntL]⟩
  | x :: l, h => by
    obtain ⟨i1, i2, i3, i4⟩ := cnt_facts l fun y hy => h y (List.mem_cons_of_mem _ hy)
    have hx := h x (List.mem_cons_self ..)
    rw [cnt_cons, List.sum_cons, List.length_cons]
    by_cases h0 : x > 0
    · rw [if_pos h0]
      refine ⟨by push_cast; omega, fun z => by omega, by omega, fun m hm => ?_⟩
      have h1 := i4 m fun y hy => hm y (List.mem_cons_of_mem _ hy)
      have h2 := hm x (List.mem_cons_self ..)
      have e : ((1 + cntL l : Nat) : Int) * m = m + (cntL l : Int) * m := by push_cast; rw [Int.add_mul, Int.one_mul]
      rw [e]; omega
    · rw [if_neg h0]
      have : x = 0 := by omega
      subst this
      refine ⟨by omega, fun z => by have := i2 (by omega); omega, by omega, fun m hm => ?_⟩
      have h1 := i4 m fun y hy => hm y (List.mem_cons_of_mem _ hy)
      rw [Nat.zero_add]; omega
def topP (l : List Int) : Option Int → Prop
  | none => True
  | some m => ∀ x ∈ l, x ≤ m
theorem top_iff {l : List Int} (hl : l ≠ []) (m : Option Int) : topB (maxL l) m = true ↔ topP l m := by
  cases m with
  | none => exact ⟨fun _ => trivial, fun _ => rfl⟩
  | some m =>
    obtain ⟨h1, h2⟩ := maxL_mem l hl
    show decide (maxL l ≤ m) = true ↔ ∀ x ∈ l, x ≤ m
    rw [decide_eq_true_eq]
    exact ⟨fun h x hx => by have := h2 x hx; omega, fun h => h _ h1⟩
theorem holds_iff {n r0 r1 d0 d1 : Int} {m : Option Int} {l : List Int} (hl : l ≠ []) : holdsB n r0 r1 d0 d1 m l = true ↔ (l.length : Int) = n ∧ (r0 ≤ l.sum ∧ l.sum ≤ r1) ∧ (d0 ≤ (cntL l : Int) ∧ (cntL l : Int) ≤ d1) ∧ topP l m := by
  unfold holdsB
  rw [← top_iff hl m]
  generalize topB (maxL l) m = t
  constructor
  · intro h
    simp only [Bool.and_eq_true, Bool.not_eq_true', Bool.or_eq_false_iff, Bool.not_eq_false', decide_eq_true_eq] at h
    exact ⟨h.1.1, h.1.2.1, h.1.2.2, h.2⟩
  · rintro ⟨h1, h2, h3, h4⟩
    simp only [Bool.and_eq_true, Bool.not_eq_true', Bool.or_eq_false_iff, Bool.not_eq_false', decide_eq_true_eq]
    exact ⟨⟨h1, h2, h3⟩, h4⟩
/-- what heights fit is possible -/
theorem fit_pos {n r0 r1 d0 d1 : Int} {m : Option Int} {l : List Int} (hl : l ≠ []) (h0 : ∀ x ∈ l, 0 ≤ x) (hm : okM m) (h : holdsB n r0 r1 d0 d1 m l = true) : (posL n r0 r1 d0 d1 m).length ≠ 0 := by
  obtain ⟨h1, h2, h3, h4⟩ := (holds_iff hl).mp h
  obtain ⟨c1, c2, c3, c4⟩ := cnt_facts l h0
  intro z
  have hmem : ((cntL l : Int) - d0).toNat ∈ posL n r0 r1 d0 d1 m := by
    refine List.mem_filter.mpr ⟨List.mem_range.mpr ?_, decide_eq_true ?_⟩
    · unfold possK
      by_cases h5 : n < d1
      · rw [if_pos h5]; omega
      · rw [if_neg h5]; omega
    · rw [show d0 + ((((cntL l : Int) - d0).toNat : Nat) : Int) = (cntL l : Int) by omega]
      unfold lgM
      by_cases h5 : (cntL l : Int) = 0
      · rw [if_pos h5]
        have := c2 (by omega)
        dsimp only
        by_cases h6 : 0 < r1
        · rw [if_pos h6]; omega
        · rw [if_neg h6]; omega
      · rw [if_neg h5]
        dsimp only
        have key : l.sum ≤ hiM r1 (cntL l : Int) m := by
          cases m with
          | none => exact h2.2
          | some m =>
            have h7 := c4 m h4
            show l.sum ≤ if (cntL l : Int) * m < r1 then (cntL l : Int) * m else r1
            by_cases h6 : (cntL l : Int) * m < r1
            · rw [if_pos h6]; exact h7
            · rw [if_neg h6]; exact h2.2
        by_cases h6 : (cntL l : Int) > r0
        · rw [if_pos h6]; omega
        · rw [if_neg h6]; omega
  rw [List.eq_nil_of_length_eq_zero z] at hmem
  cases hmem
theorem mx0 {a : Int} {b : Int} (h : a ≤ b) (h0 : 0 ≤ b) : mxI 0 a ≤ b := by
  unfold mxI
  by_cases h1 : a > 0
  · rw [if_pos h1]; exact h
  · rw [if_neg h1]; exact h0
theorem holds_grow {n r0 r1 d0 d1 c : Int} {m : Option Int} {a b : List Int} (h0 : ∀ x ∈ a ++ c :: b, 0 ≤ x) (hm : okM m) (h : holdsB n r0 r1 d0 d1 m (a ++ c :: b) = true) (kn : Option Bool) (hk : kn = none ∨ kn = some (decide (c > 0))) :
    holdsB n (mxI 0 (r0 + sR true)) (r1 + sR true) (mxI 0 (d0 + dl true kn)) (d1 + dh true kn) (mM m (mr true kn)) (a ++ (c + 1) :: b) = true := by
  obtain ⟨h1, h2, h3, h4⟩ := (holds_iff (by simp)).mp h
  have hc := h0 c (by simp)
  refine (holds_iff (by simp)).mpr ?_
  have hs : (a ++ (c + 1) :: b).sum = (a ++ c :: b).sum + 1 := by simp only [List.sum_append, List.sum_cons]; omega
  have hn : (a ++ (c + 1) :: b).length = (a ++ c :: b).length := by simp
  have hcn : cntL (a ++ (c + 1) :: b) = cntL a + (1 + cntL b) := by rw [cnt_app, cnt_cons, if_pos (by omega)]
  have hco : cntL (a ++ c :: b) = cntL a + ((if c > 0 then 1 else 0) + cntL b) := by rw [cnt_app, cnt_cons]
  have hp := (cnt_facts (a ++ c :: b) h0).1
  rw [hs, hn, hcn]
  rw [hco] at h3 hp
  refine ⟨h1, ⟨mx0 (by show r0 + 1 ≤ _; omega) (by omega), by show _ ≤ r1 + 1; omega⟩, ?_, ?_⟩
  · rcases hk with rfl | rfl
    · by_cases h5 : c > 0
      · rw [if_pos h5] at h3; exact ⟨mx0 (by show d0 + 0 ≤ _; push_cast at *; omega) (by omega), by show _ ≤ d1 + 1; push_cast at *; omega⟩
      · rw [if_neg h5] at h3; exact ⟨mx0 (by show d0 + 0 ≤ _; push_cast at *; omega) (by omega), by show _ ≤ d1 + 1; push_cast at *; omega⟩
    · by_cases h5 : c > 0
      · rw [if_pos h5] at h3; rw [decide_eq_true h5]; exact ⟨mx0 (by show d0 + 0 ≤ _; push_cast at *; omega) (by omega), by show _ ≤ d1 + 0; push_cast at *; omega⟩
      · rw [if_neg h5] at h3; rw [decide_eq_false h5]; exact ⟨mx0 (by show d0 + 1 ≤ _; push_cast at *; omega) (by omega), by show _ ≤ d1 + 1; push_cast at *; omega⟩
  · cases m with
    | none => rcases hk with rfl | rfl <;> trivial
    | some m =>
      have hm' : 1 ≤ m := hm
      have h4' : ∀ x ∈ a ++ c :: b, x ≤ m := h4
      have big : ∀ M : Int, m ≤ M → c + 1 ≤ M → ∀ x ∈ a ++ (c + 1) :: b, x ≤ M := fun M h7 h8 x hx => by
        rcases List.mem_append.mp hx with hx | hx
        · have := h4' x (List.mem_append_left _ hx); omega
        · rcases List.mem_cons.mp hx with rfl | hx
          · exact h8
          · have := h4' x (List.mem_append_right _ (List.mem_cons_of_mem _ hx)); omega
      have hcm := h4' c (by simp)
      rcases hk with rfl | rfl
      · exact big (m + 1) (by omega) (by omega)
      · by_cases h5 : c > 0
        · rw [decide_eq_true h5]; exact big (m + 1) (by omega) (by omega)
        · rw [decide_eq_false h5]; exact big (m + 0) (by omega) (by omega)
theorem holds_shrink {n r0 r1 d0 d1 c : Int} {m : Option Int} {a b : List Int} (h0 : ∀ x ∈ a ++ c :: b, 0 ≤ x) (hm : okM m) (hc : c > 0) (h : holdsB n r0 r1 d0 d1 m (a ++ c :: b) = true) (kn : Option Bool) (hk : kn = none ∨ kn = some (decide (c = 1))) :
    holdsB n (mxI 0 (r0 + sR false)) (r1 + sR false) (mxI 0 (d0 + dl false kn)) (d1 + dh false kn) (mM m (mr false kn)) (a ++ (c + -1) :: b) = true := by
  obtain ⟨h1, h2, h3, h4⟩ := (holds_iff (by simp)).mp h
  refine (holds_iff (by simp)).mpr ?_
  have hs : (a ++ (c + -1) :: b).sum = (a ++ c :: b).sum + -1 := by simp only [List.sum_append, List.sum_cons]; omega
  have hn : (a ++ (c + -1) :: b).length = (a ++ c :: b).length := by simp
  have hcn : cntL (a ++ (c + -1) :: b) = cntL a + ((if c + -1 > 0 then 1 else 0) + cntL b) := by rw [cnt_app, cnt_cons]
  have hco : cntL (a ++ c :: b) = cntL a + (1 + cntL b) := by rw [cnt_app, cnt_cons, if_pos hc]
  have hp := (cnt_facts (a ++ c :: b) h0).1
  rw [hs, hn, hcn]
  rw [hco] at h3 hp
  refine ⟨h1, ⟨mx0 (by show r0 + -1 ≤ _; omega) (by push_cast at hp; omega), by show _ ≤ r1 + -1; omega⟩, ?_, ?_⟩
  · by_cases h5 : c = 1
    · rw [if_neg (by omega)]
      rcases hk with rfl | rfl
      · exact ⟨mx0 (by show d0 + -1 ≤ _; push_cast at *; omega) (by omega), by show _ ≤ d1 + 0; push_cast at *; omega⟩
      · rw [decide_eq_true h5]; exact ⟨mx0 (by show d0 + -1 ≤ _; push_cast at *; omega) (by omega), by show _ ≤ d1 + -1; push_cast at *; omega⟩
    · rw [if_pos (by omega)]
      rcases hk with rfl | rfl
      · exact ⟨mx0 (by show d0 + -1 ≤ _; push_cast at *; omega) (by omega), by show _ ≤ d1 + 0; push_cast at *; omega⟩
      · rw [decide_eq_false h5]; exact ⟨mx0 (by show d0 + 0 ≤ _; push_cast at *; omega) (by omega), by show _ ≤ d1 + 0; push_cast at *; omega⟩
  · cases m with
    | none => trivial
    | some m =>
      have h4' : ∀ x ∈ a ++ c :: b, x ≤ m := h4
      have z : mr false kn = 0 := rfl
      show topP _ (mM (some m) (mr false kn))
      rw [z]
      intro x hx
      rcases List.mem_append.mp hx with hx | hx
      · have := h4' x (List.mem_append_left _ hx); omega
      · have hcm := h4' c (by simp)
        rcases List.mem_cons.mp hx with rfl | hx
        · omega
        · have := h4' x (List.mem_append_right _ (List.mem_cons_of_mem _ hx)); omega
end K20
namespace K20
open PySem PySem.Spec PyProof.Rows L2 Evl RZ Ev2 TA5 Ow
/-! each row more and less fits -/

theorem for_enumT {K : PySem.W.Frag} {a : Addr} {xs : List V} {g : TG} {tb : TS} {D : Ends} {σ : L2.St} {H : Hp} (Pv : Nat → L2.St → Hp → Prop) (h0 : Pv 0 σ H) (hl : ∀ i σ H, Pv i σ H → SqT K H a xs)
    (hs : ∀ (i : Nat) (x : V) (T : Addr) (σ : L2.St) (H : Hp), xs[i]? = some x → Pv i σ H → H T = none → g (.ref T) σ (upd H T (.tup [.int (i : Nat), x])) fun σ2 H2 => tb { D with nx := Pv (i + 1), ct := Pv (i + 1), bk := D.nx } σ2 H2) (hd : ∀ σ H, Pv xs.length σ H → D.nx σ H) :
    ∃ W : Nat → Nat → L2.St → Hp → Prop, (∃ m, W 0 m σ H) ∧ ∀ i m σ H, W i m σ H → ((IteT K a).stop i H ∧ D.nx σ H) ∨ ((IteT K a).go i H ∧ ∃ N : L2.St → Hp → Prop, (∀ σ' H', N σ' H' → ∃ m', m' < m ∧ W (i + 1) m' σ' H') ∧ ∀ v H', (IteT K a).yld i H v H' → g v σ H' fun σ2 H2 => tb { D with nx := N, ct := N, bk := D.nx } σ2 H2) := by
  refine ⟨fun i m σ H => m = xs.length - i ∧ i ≤ xs.length ∧ Pv i σ H, ⟨xs.length, rfl, Nat.zero_le _, h0⟩, ?_⟩
  rintro i m σ H ⟨rfl, hi, pv⟩
  have ql := hl i σ H pv
  by_cases hlt : i < xs.length
  · refine .inr ⟨⟨xs, xs[i], ql, List.getElem?_eq_getElem hlt⟩, Pv (i + 1), fun σ' H' p' => ⟨xs.length - (i + 1), by omega, rfl, hlt, p'⟩, fun v H' y => ?_⟩
    obtain ⟨T, x, rfl, hT, rfl, f1⟩ := y
    exact hs i x T σ H (f1 xs ql) pv hT
  · have e : i = xs.length := by omega
    subst e
    exact .inl ⟨⟨xs, ql, Nat.le_refl _⟩, hd σ H pv⟩
theorem split_at {l : List Int} {i : Nat} {x : V} (h : (l.map V.int)[i]? = some x) : ∃ a c b, l = a ++ c :: b ∧ a.length = i ∧ x = .int c := by
  rw [List.getElem?_map] at h
  cases e : l[i]? with
  | none => rw [e] at h; cases h
  | some c =>
    rw [e] at h
    obtain ⟨hi, hc⟩ := List.getElem?_eq_some_iff.mp e
    refine ⟨l.take i, c, l.drop (i + 1), ?_, by simp; omega, (Option.some.inj h).symm⟩
    rw [← hc, List.getElem_cons_drop]
    exact (List.take_append_drop i l).symm
section
variable {K : PySem.W.Frag} {σ : L2.St} {H : Hp} {ta tb te : TE} {C CS CC : Addr}
/-- l not in a spread that l fits -/
theorem et_notin {n r0 r1 d0 d1 : Int} {m : Option Int} {l : List Int} (ha : EvP ta σ H (Tu l)) (hb : EvP tb σ H (SprN C n r0 r1 d0 d1 m)) (h0 : ∀ x ∈ l, 0 ≤ x) (hne : l ≠ []) (hl : l.length ≤ 1000) (hh : holdsB n r0 r1 d0 d1 m l = true) : EvT (tTest (tOp (rOwnIn C (spIn C) E0 true) ta tb)) σ H false :=
  et_tst (evp_op ha hb mf_tu.mono fun x y H1 _ hx hy Q q => by
    obtain ⟨y1, z1, ⟨a, dx, rfl, h1⟩, hy1, hz1⟩ := id hy
    exact ⟨a, dx, _, rfl, h1, _, x, n, r0, r1, d0, d1, m, l, rfl, hy, hx, h0, hne, hl, fun v H2 e2 hv => ⟨true, by rw [hv, hh], q _ H2 e2 rfl⟩⟩)
/-- x.grown(..), x.shrunk(..) where it is made -/
theorem evp_mv {g : Bool} {kn : Option Bool} {nm : Str} {dvs : List V} {E : L2.St → XK} {tas : TA} {n r0 r1 d0 d1 : Int} {m : Option Int} (h : EvP te σ H (SprN C n r0 r1 d0 d1 m)) (ha : EvAP tas σ H (fun vs _ => vs ++ dvs = [KV kn])) (hl : ∀ x y z w, (flds x y z w).lookup nm = none)
    (hn : 1 ≤ n ∧ n ≤ 64) (hb : d0 ≤ 900 ∧ -900 ≤ d1) (hm : okM m) (hp : PosG g kn n r0 r1 d0 d1 m ≠ 0) : EvP (tMethE C nm (spGr C CS CC g) dvs E te tas) σ H (SprG C g kn n r0 r1 d0 d1 m) := fun H1 e Q q =>
  ts_meth (h.mono e) (fun H2 e2 => ha H2 (e.trans e2)) hl fun x vs H2 e2 hx hv => by
    rw [hv]
    exact ⟨x, KV kn, n, r0, r1, d0, d1, m, rfl, hx, hn, hb, hm, .inr ⟨kn, rfl, fun hz => absurd hz hp, fun hz v H3 e3 h3 => q v H3 (e2.trans e3) h3⟩⟩
theorem eap_n {dvs : List V} {us : List V} (h : dvs = us) : EvAP tNil σ H (fun vs _ => vs ++ dvs = us) := fun H1 e Q q => q [] H1 (Ex.refl _) h
theorem eap_1 {x : V} (h : EvP te σ H (Is x)) : EvAP (tCons te tNil) σ H (fun vs _ => vs ++ [] = [x]) := fun H1 e Q q => h H1 e _ fun v H2 e2 hv => q [v] H2 e2 (by rw [show v = x from hv]; rfl)
end
section
variable {P : Program} {w : World} {K : PySem.W.Frag} {mg : Str → Option Value} {base : Heap} {tk : Tok} {k : Nat} {C fI CS CC : Addr}
def spRR (C : Addr) : Sp := fun vs H Q _ => ∃ (x y : V) (n r0 r1 d0 d1 : Int) (m : Option Int) (l : List Int), vs = [x, y] ∧ SprN C n r0 r1 d0 d1 m x H ∧ Tu l y H ∧ (∀ x ∈ l, 0 ≤ x) ∧ l ≠ [] ∧ l.length ≤ 900 ∧ holdsB n r0 r1 d0 d1 m l = true ∧ (1 ≤ n ∧ n ≤ 64) ∧ (d0 ≤ 900 ∧ -900 ≤ d1) ∧ okM m ∧ ∀ v H2, Evl.Ex H H2 → v = .bl true → Q v H2
end
end K20
namespace K20
open PySem PySem.Spec PyProof.Rows L2 Evl RZ Ev2 TA5 Ow
/-! draws: heights, and limits around them -/
section
variable {K : PySem.W.Frag} {σ : L2.St} {H : Hp} {ta tb te tl : TE} {s p : Addr} {xs : List Int}
theorem evd_b {g : Int → Int → Int} {i : Int} {c e : Int → Prop} (ha : ∀ H1, EvP ta σ H1 (Is (.int i))) (hb : EvD s p xs tb σ H (BI c)) (h : ∀ j, c j → e (g i j)) : EvD s p xs (tOp (rI0 fun i j => .int (g i j)) ta tb) σ H (BI e) := fun H1 e1 d1 Q q =>
  ha H1 H1 (Ex.refl _) _ fun x H2 e2 hx => hb H2 (e1.trans (Gs.of e2)) (d1.ex e2) _ fun y H3 e3 d3 ⟨j, hy, hj⟩ => ⟨i, j, hx, hy, q _ H3 ((Gs.of e2).trans e3) d3 ⟨_, rfl, h j hj⟩⟩
theorem evd_b' {g : Int → Int → Int} {i : Int} {c e : Int → Prop} (hb : EvD s p xs tb σ H (BI c)) (h : ∀ j, c j → e (g j i)) : EvD s p xs (tOp (rI0 fun i j => .int (g i j)) tb (tC (.int i))) σ H (BI e) := fun H1 e1 d1 Q q =>
  hb H1 e1 d1 _ fun y H3 e3 d3 ⟨j, hy, hj⟩ => ⟨j, i, hy, rfl, q _ H3 e3 d3 ⟨_, rfl, h j hj⟩⟩
theorem evd_mx {i : Int} {c e : Int → Prop} (hb : EvD s p xs tb σ H (BI c)) (h : ∀ j, c j → e (mxI i j)) : EvD s p xs (tCB rMax2 (tCons (tC (.int i)) (tCons tb tNil))) σ H (BI e) := fun H1 e1 d1 Q q =>
  hb H1 e1 d1 _ fun y H3 e3 d3 ⟨j, hy, hj⟩ => ⟨i, j, by rw [hy], q _ H3 e3 d3 ⟨_, rfl, h j hj⟩⟩
theorem evd_pair {c e : Int → Prop} (ha : EvD s p xs ta σ H (BI c)) (hb : EvD s p xs tb σ H (BI e)) : EvD s p xs (tTup (tCons ta (tCons tb tNil))) σ H (fun v H => ∃ i j, c i ∧ e j ∧ Pr i j v H) := fun H1 e1 d1 Q q =>
  ha H1 e1 d1 _ fun x H2 e2 d2 ⟨i, hx, hc⟩ => hb H2 (e1.trans e2) d2 _ fun y H3 e3 d3 ⟨j, hy, hd⟩ => ⟨by show 2 ≤ sizeLine; decide, fun t ht => q _ _ ((e2.trans e3).trans (Gs.of (Ex.new ht))) (d3.ex (Ex.new ht)) ⟨i, j, hc, hd, t, rfl, by rw [hx, hy]; exact upd_same⟩⟩
theorem evd_draw {M : Int} {i : Nat} {E : XK} (hs : σ[i]? = some (some (.ref s))) (ha : ∀ H1, EvP ta σ H1 (Is (.int M))) (hm : 1 ≤ M) : EvD s p xs (tCall spDraw [] E (tCons (tVar i) (tCons ta tNil))) σ H (BI fun r => 0 ≤ r ∧ r < M) := drawI hs ha hm
theorem eap_c {n : Nat} {i : Nat} (h : σ[i]? = some (some (.int (n : Int)))) : EvAP (tCons (tVar i) tNil) σ H (fun vs _ => vs = [.int (n : Int)]) := fun H1 e Q q => ⟨_, h, q _ H1 (Ex.refl _) rfl⟩
end
def vI : V → Int
  | .int i => i
  | _ => 0
theorem tu_of {n : Nat} {v : V} {H : Hp} (h : TupP n (fun _ => BI fun x => 0 ≤ x ∧ x ≤ 1) v H) : ∃ l : List Int, l.length = n ∧ (∀ x ∈ l, 0 ≤ x ∧ x ≤ 1) ∧ Tu l v H := by
  obtain ⟨p, ys, h1, h2, h3, h4⟩ := h
  have e : (ys.map vI).map V.int = ys := by
    rw [List.map_map]
    have : ys.map (V.int ∘ vI) = ys.map id := List.map_congr_left fun y hy => by
      obtain ⟨i, hi, rfl⟩ := List.mem_iff_getElem.mp hy
      obtain ⟨j, hj, _⟩ := h4 i _ (List.getElem?_eq_getElem hi)
      show V.int (vI ys[i]) = ys[i]
      rw [hj]; rfl
    rw [this, List.map_id]
  refine ⟨ys.map vI, by simp [h3], fun x hx => ?_, p, h1, by rw [e]; exact h2⟩
  obtain ⟨y, hy, rfl⟩ := List.mem_map.mp hx
  obtain ⟨i, hi, rfl⟩ := List.mem_iff_getElem.mp hy
  obtain ⟨j, hj, h5⟩ := h4 i _ (List.getElem?_eq_getElem hi)
  rw [hj]; exact h5
section
variable {P : Program} {w : World} {K : PySem.W.Frag} {mg : Str → Option Value} {base : Heap} {tk : Tok} {k : Nat}
def spLH : Sp := fun vs H Q _ => ∃ (s p : Addr) (xs : List Int) (n : Nat), vs = [.ref s, .int (n : Int), .int 1] ∧ Dr s p xs H ∧ n ≤ 1000 ∧ ∀ v H2, Gs s H H2 → Dr s p xs H2 → (∃ l : List Int, l.length = n ∧ (∀ x ∈ l, 0 ≤ x ∧ x ≤ 1) ∧ Tu l v H2) → Q v H2
/-- limits around heights -/
def Arnd (l : List Int) : HP := fun v H => ∃ (a b c e : Int) (m : Option Int), (0 ≤ a ∧ a < 3) ∧ (0 ≤ b ∧ b < 3) ∧ (0 ≤ c ∧ c < 2) ∧ (0 ≤ e ∧ e < 2) ∧ (m = none ∨ ∃ f : Int, 0 ≤ f ∧ f < 2 ∧ m = some (mxI 1 (maxL l + f))) ∧
  Told4 (l.length : Int) (mxI 0 (l.sum - a)) (l.sum + b) (mxI 0 ((cntL l : Int) - c)) ((cntL l : Int) + e) m v H
def spAr : Sp := fun vs H Q _ => ∃ (s p : Addr) (xs l : List Int) (x : V), vs = [.ref s, x] ∧ Dr s p xs H ∧ Tu l x H ∧ l ≠ [] ∧ l.length ≤ 100 ∧ ∀ v H2, Gs s H H2 → Dr s p xs H2 → Arnd l v H2 → Q v H2
theorem gs_tu {s p : Addr} {xs l : List Int} {H H2 : Hp} {x : V} (g : Gs s H H2) (d : Dr s p xs H) (h : Tu l x H) : Tu l x H2 := by
  obtain ⟨a, h1, h2⟩ := h
  exact ⟨a, h1, Gs.fx g d _ _ h2 (fun _ z => nomatch z)⟩
theorem gs_pr {s p : Addr} {xs : List Int} {i j : Int} {H H2 : Hp} {x : V} (g : Gs s H H2) (d : Dr s p xs H) (h : Pr i j x H) : Pr i j x H2 := by
  obtain ⟨a, h1, h2⟩ := h
  exact ⟨a, h1, Gs.fx g d _ _ h2 (fun _ z => nomatch z)⟩
end
end K20
namespace K20
open PySem PySem.Spec PyProof.Rows L2 Evl RZ Ev2 TA5 Ow
abbrev s_common_limits : Stmt := topS 21
abbrev N_common_limits : List Str := ["limits", "other"]
theorem sc_common_limits : FnScope N_common_limits ["limits", "other"] (defScope s_common_limits) := ⟨rfl, rfl, rfl, by decide +kernel, rfl, by decide +kernel, by decide +kernel⟩
abbrev s_lesser_most : Stmt := topS 22
abbrev N_lesser_most : List Str := ["most", "other", "told"]
theorem sc_lesser_most : FnScope N_lesser_most ["most", "other"] (defScope s_lesser_most) := ⟨rfl, rfl, rfl, by decide +kernel, rfl, by decide +kernel, by decide +kernel⟩
abbrev s_Spread_and : Stmt := inClass (topS 24) 14
abbrev N_Spread_and : List Str := ["self", "other", "rows", "different", "most"]
theorem sc_Spread_and : FnScope N_Spread_and ["self", "other"] (defScope s_Spread_and) := ⟨rfl, rfl, rfl, by decide +kernel, rfl, by decide +kernel, by decide +kernel⟩
def loM : Option Int → Option Int → Option Int
  | none, b => b
  | some a, none => some a
  | some a, some b => some (min a b)
def known (m m' : Option Int) : List Int := m.toList ++ m'.toList
theorem minO_known (m m' : Option Int) : minO (known m m') = OI (loM m m') := by cases m <;> cases m' <;> rfl
theorem paired_is {g : Nat → V} : ∀ {ys : List V} {idx : List Nat}, Paired (fun y i => y = g i) ys idx → ys = idx.map g
  | _, _, .nil => rfl
  | _, _, .cons h t => by rw [h, paired_is t]; rfl
theorem known_is (m m' : Option Int) : ((List.range 2).filter fun i => !decide ((if i = 0 then OI m else OI m') = V.non)).map (fun i => if i = 0 then OI m else OI m') = (known m m').map V.int := by
  cases m <;> cases m' <;> rfl
def IL (ns : List Int) : HP := fun v H => ∃ p, v = .ref p ∧ H p = some (.lst (ns.map V.int))
section
variable {K : PySem.W.Frag} {σ : L2.St} {H : Hp} {ta tb te tl : TE}
theorem evp_minO {ns : List Int} (h : EvP te σ H (IL ns)) : EvP (tCKw (rMinO K) (tCons te tNil) (tCons (tC .non) tNil)) σ H (Is (minO ns)) := fun H1 e Q q => h H1 e _ fun v H2 e2 ⟨p, h1, h2⟩ => ⟨p, ns, by rw [h1], rfl, sq_of h2, q _ H2 e2 rfl⟩
theorem two_tup {x y v : V} {H : Hp} (h : ∃ p, v = .ref p ∧ H p = some (.tup [x, y])) : TupP 2 (fun i v _ => v = if i = 0 then x else y) v H := by
  obtain ⟨p, h1, h2⟩ := h
  refine ⟨p, _, h1, h2, rfl, fun k z hz => ?_⟩
  match k, hz with
  | 0, hz => cases hz; rfl
  | 1, hz => cases hz; rfl
  | k + 2, hz => simp at hz
theorem evp_minL {ns : List Int} (h : EvP te σ H (IL ns)) (hn : ns ≠ []) {z : Int} (hz : ∀ m, m ∈ ns → (∀ y, y ∈ ns → m ≤ y) → m = z) : EvP (tCB (rMin K) (tCons te tNil)) σ H (Is (.int z)) := fun H1 e Q q => h H1 e _ fun v H2 e2 ⟨p, h1, h2⟩ =>
  ⟨p, ns, by rw [h1], sq_of h2, List.length_pos_iff.mpr hn, fun m hm hle => q _ H2 e2 (by rw [hz m hm hle]; rfl)⟩
theorem mono_il {ns : List Int} : Mono (IL ns) := fun _ _ _ e ⟨p, h1, h2⟩ => ⟨p, h1, e _ _ h2⟩
end
section
variable {P : Program} {w : World} {K : PySem.W.Frag} {mg : Str → Option Value} {base : Heap} {tk : Tok} {k : Nat} {C fI CV iV CS iS CC iC : Addr}
def spCommon : Sp := fun vs H Q _ => ∃ (u v : V) (a b c d : Int), vs = [u, v] ∧ Pr a b u H ∧ Pr c d v H ∧ ∀ v H2, Evl.Ex H H2 → Pr (mxI a c) (mnI b d) v H2 → Q v H2
theorem ok_common {f : Addr} {fd : FuncData} (T : Txt mg tk) (D : Df K mg "common_limits" s_common_limits ["limits", "other"] f fd) : FnOk P w K mg base CX0 (k + 1) f fd ["limits", "other"] spCommon := by
  refine D.F.ok sc_common_limits (fun vs H Q E h => ?_) (fun cdv A outer s H vs Q E hr h => ?_)
  · obtain ⟨u, v, a, b, c, d, rfl, _⟩ := h
    rfl
  · obtain ⟨u, v, a, b, c, d, rfl, hu, hv, q⟩ := h
    refine ⟨_, (pss_one (ps_ret (pe_tup (pa_cons (pe_callB (call_max2 rfl) (by rfl) T.n_max PyProof.Rows.boot_max (pa_cons (pe_ix (r := rIxT K) ix_tup (pv 0) pe_int (fun _ _ => rfl)) (pa_cons (pe_ix (r := rIxT K) ix_tup (pv 1) pe_int (fun _ _ => rfl)) pa_nil))) (pa_cons (pe_callB (call_min2 rfl) (by rfl) T.n_min PyProof.Rows.boot_min (pa_cons (pe_ix (r := rIxT K) ix_tup (pv 0) pe_int (fun _ _ => rfl)) (pa_cons (pe_ix (r := rIxT K) ix_tup (pv 1) pe_int (fun _ _ => rfl)) pa_nil))) pa_nil))))), ?_⟩
    have h0 : EvP (tVar 0) (start N_common_limits [u, v]) H (Pr a b) := evp_var rfl hu mono_pr
    have h1 : EvP (tVar 1) (start N_common_limits [u, v]) H (Pr c d) := evp_var rfl hv mono_pr
    exact evp_pr (evp_max (evp_pr0 (K := K) h0) (evp_pr0 (K := K) h1)) (evp_min (evp_pr1 (K := K) h0) (evp_pr1 (K := K) h1)) H (Ex.refl H) _ q
def spLess : Sp := fun vs H Q _ => ∃ (m m' : Option Int), vs = [OI m, OI m'] ∧ ∀ v H2, Evl.Ex H H2 → v = OI (loM m m') → Q v H2
theorem ok_less {f : Addr} {fd : FuncData} (T : Txt mg tk) (D : Df K mg "lesser_most" s_lesser_most ["most", "other"] f fd) : FnOk P w K mg base CX0 (k + 1) f fd ["most", "other"] spLess := by
  refine D.F.ok sc_lesser_most (fun vs H Q E h => ?_) (fun cdv A outer s H vs Q E hr h => ?_)
  · obtain ⟨m, m', rfl, _⟩ := h
    rfl
  · obtain ⟨m, m', rfl, q⟩ := h
    have nd := sc_lesser_most.nd
    refine ⟨_, (pss_one (ps_ret (pe_callBK (cr_minO rfl hr.units) (by rfl) T.n_min PyProof.Rows.boot_min (pa_cons (pe_lc (wi := iTup K _) (g := gName 2) (own := [("told", 2)]) (by rfl) nd (pi_tup (pe_tup (pa_cons (pv 0) (pa_cons (pv 1) pa_nil)))) (blkOk_by (by kernel_rfl)) (fun _ _ _ _ _ => (pg_name (i := 2) nd rfl (Or.inl rfl))) (fun _ _ _ _ _ => (pts_one (pt_cmpR (r := rNoN) op_notN (pv 2) pe_non (nomark _)))) (fun _ _ _ _ _ => (pv 2))) pa_nil) (pk_cons pe_non pk_nil)))), ?_⟩
    have ht : EvP (tTup (tCons (tVar 0) (tCons (tVar 1) tNil))) (start N_lesser_most [OI m, OI m']) H (TupP 2 (fun i v _ => v = if i = 0 then OI m else OI m')) := (evp_tup2 (x := OI m) (y := OI m') (evp_var rfl rfl mono_is) (evp_var rfl rfl mono_is)).imp fun v H1 _ h => two_tup h
    refine evp_is (evp_minO (K := K) (ns := known m m') ((evp_lcF (vs := [2]) (g := gName 2) (f := fun i => !decide ((if i = 0 then OI m else OI m') = V.non)) (n := 2) (Pi := fun i v _ => v = if i = 0 then OI m else OI m') (wx_tup (K := K) ht fun _ _ _ _ _ z => z) (by decide)
      (Sg := fun i σ2 _ => σ2 = [some (OI m), some (OI m'), some (if i = 0 then OI m else OI m')]) (fun i y H2 hi e2 hy => by rw [show y = _ from hy]; exact g_name (i := 2) ⟨rfl, rfl⟩) (fun i σ2 H2 hi e2 hs => by subst hs; exact et_tst (evp_noN (evp_var (i := 2) rfl rfl mono_is)))
      (fun i σ2 H2 hi e2 hs => by subst hs; exact evp_var (i := 2) rfl rfl mono_is) fun _ _ _ _ _ z => z).imp fun v H1 _ ⟨p, ys, h1, h2, h3⟩ => ⟨p, h1, by rw [h2, paired_is h3, known_is]⟩)) (minO_known m m') H (Ex.refl H) _ q
def spAnd (K : PySem.W.Frag) (C CS CC : Addr) : Sp := fun vs H Q E => ∃ (x y : V) (n r0 r1 d0 d1 : Int) (m : Option Int), vs = [x, y] ∧ SprN C n r0 r1 d0 d1 m x H ∧ (1 ≤ n ∧ n ≤ 64) ∧ ((0 ≤ r0 ∧ 0 ≤ r1) ∧ (0 ≤ d0 ∧ d0 ≤ 1000) ∧ 0 ≤ d1) ∧ okM m ∧
  ((∃ t, (∀ H1, Evl.Ex H H1 → TyX K H1 y t) ∧ PySem.W.kitOne K t (.ref C) = some false ∧ Rz "value" CS y H E) ∨
   (∃ (n' : Int) (a b c : V), Spr C (.int n') a b c y H ∧ n' ≠ n ∧ Rz "value" CS y H E) ∨
   (∃ (s0 s1 e0 e1 : Int) (m' : Option Int), SprN C n s0 s1 e0 e1 m' y H ∧ ((0 ≤ s0 ∧ 0 ≤ s1) ∧ (0 ≤ e0 ∧ e0 ≤ 1000) ∧ 0 ≤ e1) ∧ okM m' ∧
     ((posL n (mxI r0 s0) (mnI r1 s1) (mxI d0 e0) (mnI d1 e1) (loM m m')).length = 0 → ∀ (d p : Addr) (u v : V) (H2 : Hp), Evl.Ex H H2 → H2 p = some (.tup [.int n, u, v, OI (loM m m')]) → Pr (mxI r0 s0) (mnI r1 s1) u H2 → Pr (mxI d0 e0) (mnI d1 e1) v H2 → H2 d = some (.xd [("part", .ref p)]) → E (.ref CC) (some d) H2) ∧
     ((posL n (mxI r0 s0) (mnI r1 s1) (mxI d0 e0) (mnI d1 e1) (loM m m')).length ≠ 0 → ∀ v H2, Evl.Ex H H2 → SprN C n (mxI r0 s0) (mnI r1 s1) (mxI d0 e0) (mnI d1 e1) (loM m m') v H2 → Q v H2)))
theorem mn_ok {a b : Int} (h : 0 ≤ a) (h2 : 0 ≤ b) : 0 ≤ mnI a b := by unfold mnI; by_cases h1 : b < a <;> simp only [h1, if_true, if_false] <;> omega
theorem lo_ok {m m' : Option Int} (h : okM m) (h2 : okM m') : okM (loM m m') := by
  cases m <;> cases m' <;> first | exact h | exact h2 | (exact (by unfold okM loM at *; omega))
theorem ok_and {f f1 f2 f3 f4 : Addr} {fd d1 d2 d3 d4 : FuncData} {dvs : List V} (ES : EST K mg CS iS) (EC : ECT K mg CC iC) (SK : SpK K mg C fI) (T : Txt mg tk)
    (D_common_limits : Df K mg "common_limits" s_common_limits ["limits", "other"] f1 d1) (G_common_limits : FnOk P w K mg base CX0 (k + 1) f1 d1 ["limits", "other"] spCommon)
    (D_lesser_most : Df K mg "lesser_most" s_lesser_most ["most", "other"] f2 d2) (G_lesser_most : FnOk P w K mg base CX0 (k + 1) f2 d2 ["most", "other"] spLess)
    (D_possible_pairs : Df K mg "possible_pairs" s_possible_pairs ["size", "rows", "different", "most"] f3 d3) (G_possible_pairs : FnOk P w K mg base CX0 (k + 2) f3 d3 ["size", "rows", "different", "most"] spPairs)
    (M_init : FD K "__init__" "Spread.__init__" s_Spread_init ["self", "size", "rows", "different", "most"] dvs fI d4) (G_init : FnOk P w K mg base (L2.CX P w) (k + 6) fI d4 ["self", "size", "rows", "different", "most"] (spMk C CV CS CC))
    (F : Fun K "__and__" "Spread.__and__" s_Spread_and f fd) : FnOk P w K mg base (L2.CX P w) (k + 8) f fd ["self", "other"] (spAnd K C CS CC) := by
  refine F.okX sc_Spread_and (fun vs H Q E h => ?_) (fun cdv A outer s H vs Q E hr h => ?_)
  · obtain ⟨x, y, n, r0, r1, d0, d1, m, rfl, _⟩ := h
    rfl
  · obtain ⟨x, y, n, r0, r1, d0, d1, m, rfl, ⟨y1, z1, hx, hy1, hz1⟩, hn, hb, hm, hq⟩ := h
    have nd := sc_Spread_and.nd
    refine ⟨_, (pss_cons (ps_if (PW.pt (pw_or (pt_not (pt_val (pe_callB (r := rIsi K) call_isi (by rfl) T.n_isinstance PyProof.Rows.boot_isinstance (pa_cons (pv 1) (pa_cons (pe_glob (v := .ref C) rfl SK.gC rfl) pa_nil))))) (pw_or1 (pt_cmpR op_ne (pe_fld (pv 1) rfl) (pe_fld (pv 0) rfl) (nomark _))))) (pss_one (ErrVL.ps_raiseErr rfl ES hr (takes_of rfl rfl rfl rfl) (pa_cons (pv 1) pa_nil))) pss_nil) (pss_cons (ps_set (i := 2) nd rfl (Or.inl rfl) (pe_call G_common_limits (hr.mono (by omega)) (by rfl) D_common_limits.g D_common_limits.F.kp D_common_limits.b .nil pass0 (pa_cons (pe_fld (pv 0) rfl) (pa_cons (pe_fld (pv 1) rfl) pa_nil)))) (pss_cons (ps_set (i := 3) nd rfl (Or.inl rfl) (pe_call G_common_limits (hr.mono (by omega)) (by rfl) D_common_limits.g D_common_limits.F.kp D_common_limits.b .nil pass0 (pa_cons (pe_fld (pv 0) rfl) (pa_cons (pe_fld (pv 1) rfl) pa_nil)))) (pss_cons (ps_set (i := 4) nd rfl (Or.inl rfl) (pe_call G_lesser_most (hr.mono (by omega)) (by rfl) D_lesser_most.g D_lesser_most.F.kp D_lesser_most.b .nil pass0 (pa_cons (pe_fld (pv 0) rfl) (pa_cons (pe_fld (pv 1) rfl) pa_nil)))) (pss_cons (ps_if (pt_cmpR op_eq (pe_callB (r := rLenQ K) call_len_seq (by rfl) T.n_len PySem.boot_len (pa_cons (pe_call G_possible_pairs (hr.mono (by omega)) (by rfl) D_possible_pairs.g D_possible_pairs.F.kp D_possible_pairs.b .nil pass0 (pa_cons (pe_fld (pv 0) rfl) (pa_cons (pv 2) (pa_cons (pv 3) (pa_cons (pv 4) pa_nil))))) pa_nil)) pe_int (nomark _)) (pss_one (ErrCL.ps_raiseErr rfl EC hr (takes_of rfl rfl rfl rfl) (pa_cons (pe_tup (pa_cons (pe_fld (pv 0) rfl) (pa_cons (pv 2) (pa_cons (pv 3) (pa_cons (pv 4) pa_nil))))) pa_nil))) pss_nil) (pss_one (ps_ret (pe_makeS SK.mkc G_init (hr.mono (by omega)) (by rfl) SK.gC M_init.b .nil (fun σ => passAt (W := fun _ _ _ _ => False) takes0 σ) (pa_cons (pe_fld (pv 0) rfl) (pa_cons (pv 2) (pa_cons (pv 3) (pa_cons (pv 4) pa_nil)))))))))))), ?_⟩
    have v0 : ∀ {σ' : L2.St} {H' : Hp}, σ'[0]? = some (some x) → Evl.Ex H H' → EvP (tVar 0) σ' H' (Spr C (.int n) y1 z1 (OI m)) := fun h e => evp_var h (mf_spr.mono _ _ _ e hx) mf_spr.mono
    rcases hq with ⟨t, ht, hk, q⟩ | ⟨n', a, b, c, hy, hne, q⟩ | ⟨s0, s1, e0, e1', m', ⟨y2, z2, hy, hy2, hz2⟩, hb', hm', qp, q⟩
    · have h1 : EvP (tVar 1) (start N_Spread_and [x, y]) H (fun v H1 => v = y ∧ Evl.Ex H H1) := fun H1 e Q q => ⟨y, rfl, q y H1 (Ex.refl _) ⟨rfl, e⟩⟩
      exact q_when (b := true) (et_or (a := true) (b := true) (et_not (et_tst (evp_isi (K := K) (t := t) (u := .ref C) (b := false) h1 (fun v H1 ⟨e, ex⟩ => by rw [e]; exact ht H1 ex) (.own C) hk))) fun z => nomatch z) (fun _ H1 e1 => ⟨y, rfl, y, rfl, fun d hd => q d _ (e1.trans (Ex.new hd)) upd_same⟩) fun z => nomatch z
    · have v1 : EvP (tVar 1) (start N_Spread_and [x, y]) H (Spr C (.int n') a b c) := evp_var rfl hy mf_spr.mono
      exact q_when (b := true) (et_or (a := false) (b := true) (et_not (et_tst (ins_isi SK v1))) fun _ => et_tst (evp_is (evp_ne (evp_fS SK SK.n1 v1 lk1) (evp_fS SK SK.n1 (v0 rfl (Ex.refl H)) lk1) rfl) (by simp [hne]))) (fun _ H1 e1 => ⟨y, rfl, y, rfl, fun d hd => q d _ (e1.trans (Ex.new hd)) upd_same⟩) fun z => nomatch z
    have v1 : ∀ {σ' : L2.St} {H' : Hp}, σ'[1]? = some (some y) → Evl.Ex H H' → EvP (tVar 1) σ' H' (Spr C (.int n) y2 z2 (OI m')) := fun h e => evp_var h (mf_spr.mono _ _ _ e hy) mf_spr.mono
    have pr : ∀ {te : TE} {σ' : L2.St} {H' : Hp} {u : V} {a b : Int}, EvP te σ' H' (Is u) → Evl.Ex H H' → Pr a b u H → EvP te σ' H' (Pr a b) := fun h e' hu H1 e Q q => h H1 e Q fun v H2 e2 hv => q v H2 e2 (by rw [show v = _ from hv]; exact mono_pr _ _ _ ((e'.trans e).trans e2) hu)
    refine q_when (b := false) (et_or (a := false) (b := false) (et_not (et_tst (ins_isi SK (v1 rfl (Ex.refl H))))) fun _ => et_tst (evp_is (evp_ne (evp_fS SK SK.n1 (v1 rfl (Ex.refl H)) lk1) (evp_fS SK SK.n1 (v0 rfl (Ex.refl H)) lk1) rfl) (by simp))) (fun z => nomatch z) fun _ H1 e1 => ?_
    refine q_asgP (evp_call (E := E0) (S := Pr (mxI r0 s0) (mnI r1 s1)) (eap_two (pr (evp_fS SK SK.n2 (v0 rfl e1) lk2) e1 hy1) (pr (evp_fS SK SK.n2 (v1 rfl e1) lk2) e1 hy2) mono_pr) fun vs H2 ⟨u, v, hv, hu, hv'⟩ Q q E => ⟨u, v, r0, r1, s0, s1, hv, hu, hv', q⟩) fun w2 H2 e2' h2 => ?_
    have e2 := e1.trans e2'
    refine q_asgP (evp_call (E := E0) (S := Pr (mxI d0 e0) (mnI d1 e1')) (eap_two (pr (evp_fS SK SK.n3 (v0 rfl e2) lk3) e2 hz1) (pr (evp_fS SK SK.n3 (v1 rfl e2) lk3) e2 hz2) mono_pr) fun vs H2 ⟨u, v, hv, hu, hv'⟩ Q q E => ⟨u, v, d0, d1, e0, e1', hv, hu, hv', q⟩) fun w3 H3 e3' h3 => ?_
    have e3 := e2.trans e3'
    refine q_asgP (evp_call (E := E0) (S := Is (OI (loM m m'))) (eap_two (evp_fS SK SK.n4 (v0 rfl e3) lk4) (evp_fS SK SK.n4 (v1 rfl e3) lk4) mono_is) fun vs H2 ⟨u, v, hv, hu, hv'⟩ Q q E => ⟨m, m', by rw [hv, show u = _ from hu, show v = _ from hv'], q⟩) fun w4 H4 e4' h4 => ?_
    have e4 := e3.trans e4'
    have hw4 : w4 = OI (loM m m') := h4
    subst hw4
    replace h2 := mono_pr _ _ _ (e3'.trans e4') h2
    replace h3 := mono_pr _ _ _ e4' h3
    have args : ∀ {H' : Hp}, Evl.Ex H4 H' → EvA (tCons (tFld K (tVar 0) "_size") (tCons (tVar 2) (tCons (tVar 3) (tCons (tVar 4) tNil)))) [some x, some y, some w2, some w3, some (OI (loM m m'))] H' [.int n, w2, w3, OI (loM m m')] := fun e => ea_cons (evp_fS SK SK.n1 (v0 rfl (e4.trans e)) lk1).ev (ea_cons (ev_var rfl) (ea_cons (ev_var rfl) (ea_cons (ev_var rfl) ea_nil)))
    have hM := lo_ok hm hm'
    have hlen := evp_lenL (K := K) (N := (posL n (mxI r0 s0) (mnI r1 s1) (mxI d0 e0) (mnI d1 e1') (loM m m')).length) (evp_call (E := E0) (sp := spPairs) (eap_of (args (Ex.refl H4))) fun vs H5 ⟨hv, e5⟩ Q q E => ⟨w2, w3, n, _, _, _, _, _, hv, mono_pr _ _ _ e5 h2, mono_pr _ _ _ e5 h3, hn, ⟨mx_ok hb.2.1.1, mx_le hb.2.1.2 hb'.2.1.2, (by have := mn_ok hb.2.2 hb'.2.2; omega)⟩, q⟩)
    refine q_when (b := decide ((posL n (mxI r0 s0) (mnI r1 s1) (mxI d0 e0) (mnI d1 e1') (loM m m')).length = 0)) (et_tst (evp_is (evp_eq hlen (evp_c (v := .int 0)) rfl) (by simp))) (fun hb5 H5 e5 => ?_) fun hb5 H5 e5 => ?_
    · exact ts_raiseT (args e5) (show 4 ≤ 100000 by decide) fun p H6 e6 hp d hd => qp (of_decide_eq_true hb5) d p w2 w3 _ (((e4.trans e5).trans e6).trans (Ex.new hd)) (Ex.new hd _ _ hp) (mono_pr _ _ _ ((e5.trans e6).trans (Ex.new hd)) h2) (mono_pr _ _ _ ((e5.trans e6).trans (Ex.new hd)) h3) upd_same
    · exact ts_mk (args e5) fun H6 e6 => mk_ok hn ⟨mx_ok hb.1.1, mx_ok hb.2.1.1, mx_le hb.2.1.2 hb'.2.1.2⟩ hM (of_decide_eq_false hb5) (mono_pr _ _ _ (e5.trans e6) h2) (mono_pr _ _ _ (e5.trans e6) h3) fun v H7 e7 hv => q (of_decide_eq_false hb5) v H7 (((e4.trans e5).trans e6).trans e7) hv
end
end K20
set_option maxHeartbeats 2000000
/-! a for in a generator's body -/
namespace L2
open PySem PySem.Spec PyProof.Rows GenW
section
variable {prog : Program} {w : World} {A : Around} {R : GenEnd} {Y : Protocol} {n : Nat} {s₀ : Shared} {fs : List Frame} {s : Shared} {env : Env}
/-- what is left when a turn raises -/
abbrev notedTo (e : Value) (env : Env) : Sem PySem.Fin := (do noteFrame e env; theTreesLotGoes e : Sem Unit).wrap (fun _ => .raise e) .raise id id
theorem seg_forLoop {target : Expr} {it : Value} {body orelse : List Stmt} 
    (h : wpAny (model prog w) (A.over (.forLoop target it body orelse env) fs) (pyNext it) (fun r s1 => match r with
        | none => Seg (model prog w) A R Y n s₀ (.forLoop target it body orelse env) (.pure (.again (.block orelse env))) fs s1
        | some v => wpAny (model prog w) (A.over (.forLoop target it body orelse env) fs) (letOwnedTupleGo target it v) (fun _ s2 =>
            wpAny (model prog w) (A.over (.forLoop target it body orelse env) fs) (assign target env v) (fun _ s3 =>
              Seg (model prog w) A R Y n s₀ (.forLoop target it body orelse env) ((execs body env).wrap (fun f => match f with
                | .next | .cont => .pure (.again (.forLoop target it body orelse env))
                | .brk => .pure (.done .next)
                | .ret v => .pure (.done (.ret v))) (fun e => notedTo e env) id id) fs s3)
              (fun x s' => Seg (model prog w) A R Y n s₀ (.forLoop target it body orelse env) (notedTo x env) fs s') s2)
            (fun x s' => Seg (model prog w) A R Y n s₀ (.forLoop target it body orelse env) (notedTo x env) fs s') s1)
      (fun x s' => Seg (model prog w) A R Y n s₀ (.forLoop target it body orelse env) (notedTo x env) fs s') s) :
    Seg (model prog w) A R Y n s₀ (.forLoop target it body orelse env) ((model prog w).den (.forLoop target it body orelse env)) fs s := by
  show Seg _ A R Y n s₀ _ ((forTurn target it body orelse env).onRaise (fun x => do noteFrame x env; theTreesLotGoes x)) fs s
  have hJ : (fun e => ((do noteFrame e env; theTreesLotGoes e : Sem Unit)).bind fun _ => (Sem.raise e : Sem PySem.Fin)) = fun e => notedTo e env := by
    funext e
    exact Sem.bind_eq_wrap _ _
  unfold forTurn
  rw [Sem.onRaise_eq_wrap, hJ]
  refine seg_bind_wrap (wpAny_standAt ?_)
  refine seg_bind_wrap (wpAny_onRaise (wpAny_mono h (fun r s1 h1 => ?_) fun x s' hx => wpAny_standAt hx))
  cases r with
  | none => exact h1
  | some v =>
    refine seg_bind_wrap (wpAny_mono h1 (fun _ s2 h2 => ?_) fun x s' hx => hx)
    refine seg_bind_wrap (wpAny_mono h2 (fun _ s3 h3 => ?_) fun x s' hx => hx)
    rw [Sem.bind_eq_wrap', Sem.wrap_wrap]
    have h4 := h3
    refine cast (congrArg (fun t => Seg (model prog w) A R Y n s₀ (.forLoop target it body orelse env) t fs s3) ?_) h4
    refine (Sem.wrap_congr (execs body env) id id (fun f => ?_) (fun e => rfl)).symm
    cases f <;> rfl
theorem seg_block_nil (h : Seg (model prog w) A R Y n s₀ (.block [] env) (.pure (.done .next)) fs s) : Seg (model prog w) A R Y n s₀ (.block [] env) ((model prog w).den (.block [] env)) fs s := h
theorem seg_For {target iter : Expr} {body orelse : List Stmt} {pos : Pos} {c : Code} {K : Flow → Sem PySem.Fin} {J : Value → Sem PySem.Fin} {gd : Bool → Bool} {lv : List Value → List Value} {A1 : Around} (ho : A.over c fs = A1)
    (hs : ∀ x, foldedSetIterable iter env x = pure x)
    (h : wpAny (model prog w) A1 (eval iter env) (fun v s1 => wpAny (model prog w) A1 (pyIter v) (fun itv s2 => ∀ p, Seg (model prog w) A R Y n s₀ (.forLoop target itv body orelse env) ((model prog w).den (.forLoop target itv body orelse env))
      (.ret (fun r => ((match r with | .ok f => (.pure f : Sem Flow) | .error e => .raise e).onRaise (cameBack env)).wrap K J gd lv) none (gd false) (lv []) c p [] :: fs) s2)
      (fun x s' => Seg (model prog w) A R Y n s₀ c (J x) fs s') s1) (fun x s' => Seg (model prog w) A R Y n s₀ c (J x) fs s') s) :
    Seg (model prog w) A R Y n s₀ c ((exec (.For target iter body orelse pos) env).wrap K J gd lv) fs s := by
  subst ho
  rw [exec_For]
  refine seg_bind_wrap (wpAny_standAt ?_)
  refine seg_bind_wrap ?_
  refine wpAny_mono h (fun v s1 h1 => ?_) fun x s' hx => hx
  refine seg_bind_wrap (wpAny_of_eq (hs v) ?_)
  refine seg_bind_wrap (wpAny_standAt ?_)
  refine seg_bind_wrap (wpAny_holding ?_)
  refine wpAny_mono h1 (fun itv s2 h2 => ?_) fun x s' hx => hx
  exact seg_call h2
end
section
variable {X : Cx}
def tGFor (wi : TI) (g : TG) (tb : TGn) : TGn := fun D ys σ H => wi σ H fun J H1 => ∃ W : Nat → Nat → List V → St → Hp → Prop, (∃ m, W 0 m ys σ H1) ∧ ∀ i m ys σ H, W i m ys σ H →
  (J.stop i H ∧ D.nx ys σ H) ∨ (J.go i H ∧ ∃ N : List V → St → Hp → Prop, (∀ ys' σ' H', N ys' σ' H' → ∃ m', m' < m ∧ W (i + 1) m' ys' σ' H') ∧ ∀ x H', J.yld i H x H' → g x σ H' fun σ2 H2 => tb { D with nx := N, ct := N, bk := D.nx } ys σ2 H2)
theorem gc_more {S : Addr} {ip : List (Addr × Obj)} {A : Around} {c : Code} {fs : List Frame} {gd : Bool → Bool} {pl : List (Addr × Obj)} (g : GC X S ip A c fs gd) (h : ∀ p ∈ pl, p.1 ≠ S) : GC X S (ip ++ pl) A c fs gd where
  pn := g.pn
  ip := fun p hp => (List.mem_append.mp hp).elim (g.ip p) (h p)
  apart := g.apart
  over := g.over
  split := g.split
  guard := g.guard
  gd := g.gd
theorem GI.unpinned {S : Addr} {ip pl : List (Addr × Obj)} {ys : List V} {σ : St} {H : Hp} {s : Shared} (h : GI X S (ip ++ pl) ys σ H s) : GI X S ip ys σ H s := by
  obtain ⟨acc, c, r, I⟩ := h
  exact ⟨acc, c, r, Inv.unpinned (pins := (S, lstObj acc c) :: ip) (pl := pl) I⟩
theorem GI.pin_at {S : Addr} {ip pl : List (Addr × Obj)} {ys : List V} {σ : St} {H : Hp} {s : Shared} (h : GI X S (ip ++ pl) ys σ H s) {p : Addr × Obj} (hp : p ∈ pl) : s.heap.get? p.1 = some p.2 ∧ H p.1 = none := by
  obtain ⟨acc, c, r, I⟩ := h
  have z := I.pin p (List.mem_append_right _ (List.mem_cons_of_mem _ (List.mem_append_right _ hp)))
  exact ⟨z.1, z.2.1⟩
theorem gs_for {tg iter : Expr} {body : List Stmt} {wi : TI} {g : TG} {tb : TGn} {pos : Pos} (hp : PassesOwn (model X.prog X.w) X.A X.env X.xe) (hc : X.calm = true) (hi : PI X tg iter wi) (hg : PG X tg g) (hb : GSs X body tb)
    (hs : ∀ x, foldedSetIterable iter X.env x = pure x := by intro _; rfl) : GS X (.For tg iter body [] pos) (tGFor wi g tb) := by
  refine ⟨fun A S ip R n ys s₀ c fs K J gd lv s σ H D gc hn k hI ht => ?_⟩
  obtain ⟨acc, cc, r, I⟩ := hI
  refine seg_For gc.over hs ?_
  refine wpAny_mono (hi.run _ s σ H _ I ht) (fun v s1 h1 => ?_) fun x s' hx => k.exc n s₀ x s' hx
  refine wpAny_mono h1 (fun itv s2 h2 => ?_) fun x s' hx => k.exc n s₀ x s' hx
  intro p
  obtain ⟨it, fp, tn, J', H2, e, I2, T, st2, f2, W, ⟨m0, w0⟩, turn⟩ := h2
  subst e
  have fS : ∀ b ∈ fp, b ≠ S := fun b hb z => (f2 b hb).2.2.2.2.2 (S, lstObj acc cc) (List.mem_append_right _ List.mem_cons_self) z.symm
  have stat : ∀ {H' : Hp} {acc' : Array Value} {cc' : Nat}, (∀ b ∈ fp, H' b = none) → ∀ b ∈ fp, FpOk X ((S, lstObj acc' cc') :: ip) H' b := fun {H' acc' cc'} hn b hb => by
    obtain ⟨_, a1, a2, a3, a4, a5⟩ := f2 b hb
    refine ⟨hn b hb, a1, a2, a3, a4, fun q hq => ?_⟩
    rcases List.mem_append.mp hq with hq | hq
    · exact a5 q (List.mem_append_left _ hq)
    · rcases List.mem_cons.mp hq with hq | hq
      · subst hq; exact Ne.symm (fS b hb)
      · exact a5 q (List.mem_append_right _ (List.mem_cons_of_mem _ hq))
  have gl := fun (c' : Code) (hw : c'.weight = 0) (hu : c'.cUnits = 0) (kk : Result → Sem PySem.Fin) => gc_loop (k := kk) (c' := c') (l := lv []) (kp := []) (p := p) gc hw hu
  have loop : ∀ (m i n : Nat) (ys : List V) (s₀ s : Shared) (σ : St) (H : Hp), n + ys.length = sizeLine → W i m ys σ H → GI X S ip ys σ H s → tn i s.heap → (∀ b ∈ fp, H b = none) →
      Seg (model X.prog X.w) A R (GY X S) n s₀ (.forLoop tg (.ref it) body [] X.env) ((model X.prog X.w).den (.forLoop tg (.ref it) body [] X.env))
        (.ret (fun r => ((match r with | .ok f => (.pure f : Sem Flow) | .error e => .raise e).onRaise (cameBack X.env)).wrap K J gd lv) none (gd false) (lv []) c p [] :: fs) s := by
    intro m
    induction m using Nat.strongRecOn with
    | ind m ih =>
      intro i n ys s₀ s σ H hn w hI st fr
      have ee : ∀ (n : Nat) (s₀ : Shared) (x : Value) (s' : Shared), X.xe x s' → Seg (model X.prog X.w) A R (GY X S) n s₀ (.forLoop tg (.ref it) body [] X.env) (notedTo x X.env)
          (.ret (fun r => ((match r with | .ok f => (.pure f : Sem Flow) | .error e => .raise e).onRaise (cameBack X.env)).wrap K J gd lv) none (gd false) (lv []) c p [] :: fs) s' := fun n s₀ x s' hx => by
        refine seg_wrap ?_
        rw [(gl (.forLoop tg (.ref it) body [] X.env) rfl rfl _).over]
        refine wpAny_bind (wpAny_mono (hp x s' hx) (fun _ s'' hcb => wpAny_theTreesLotGoes ?_) fun y s'' hcb => ?_)
        · exact seg_leaf (.error x) (seg_cameBack gc k hcb)
        · exact seg_leaf (.error y) (seg_cameBack gc k hcb)
      refine seg_forLoop ?_
      rw [(gl (.forLoop tg (.ref it) body [] X.env) rfl rfl _).over]
      obtain ⟨acc, cc, r, I⟩ := hI
      rcases turn i m ys σ H w with ⟨stop, qn⟩ | ⟨go, N, hN, step⟩
      · refine wpAny_mono (T.done X rfl rfl rfl hc i _ s σ H X.xe I (stat fr) st stop) (fun r' s4 hr => ?_) fun x s' hx => ee n s₀ x s' hx
        obtain ⟨hr, I4⟩ := hr
        subst hr
        refine seg_again rfl ?_
        refine seg_block_nil ?_
        exact seg_leaf (.ok .next) (k.ok n ys s₀ s4 .next hn ⟨σ, H, ⟨acc, cc, r, I4⟩, qn⟩)
      · refine wpAny_mono (T.item X rfl rfl rfl hc i _ s σ H X.xe I (stat fr) st go) (fun r' s4 hr => ?_) fun x s' hx => ee n s₀ x s' hx
        obtain ⟨u, hr, h4⟩ := hr
        subst hr
        refine wpAny_mono h4 (fun _ s5 h5 => ?_) fun x s' hx => ee n s₀ x s' hx
        obtain ⟨x, H5, I5, r5, y5, st5, fr5⟩ := h5
        have I5' := I5.pinned (stat fr5) (T.obj _ _ st5)
        refine wpAny_mono (hg.run _ s5 σ H5 x u _ I5' r5 (step x H5 y5)) (fun _ s6 h6 => ?_) fun x s' hx => ee n s₀ x s' hx
        obtain ⟨σ6, H6, I6, q6⟩ := h6
        have gl' := gc_more (pl := pinsAt fp s5.heap) (gl (.forLoop tg (.ref it) body [] X.env) rfl rfl (fun r => ((match r with | .ok f => (.pure f : Sem Flow) | .error e => .raise e).onRaise (cameBack X.env)).wrap K J gd lv)) fun q hq => fS q.1 (of_pinsAt hq).1
        have again : ∀ {ys7 : List V} {σ7 : St} {H7 : Hp} {s7 : Shared}, GI X S (ip ++ pinsAt fp s5.heap) ys7 σ7 H7 s7 → tn (i + 1) s7.heap ∧ ∀ b ∈ fp, H7 b = none := fun {ys7 σ7 H7 s7} I7 => by
          refine ⟨T.keep _ _ _ st5 fun b hb o e => (I7.pin_at (mem_pinsAt hb e)).1, fun b hb => ?_⟩
          obtain ⟨o, e, d⟩ := T.obj _ _ st5 b hb
          exact (I7.pin_at (mem_pinsAt hb e)).2
        refine hb.run A S (ip ++ pinsAt fp s5.heap) R n ys s₀ _ _ _ _ id id s6 σ6 H6 { D with nx := N, ct := N, bk := D.nx } gl' hn ⟨fun n' ys' s₀' s7 f hn' hs => ?_, fun n' s₀' x s7 hx => ee n' s₀' x s7 hx⟩ ⟨acc, cc, r, I6⟩ q6
        cases f with
        | next =>
          obtain ⟨σ7, H7, I7, n7⟩ := hs
          obtain ⟨m', hm, w7⟩ := hN ys' σ7 H7 n7
          exact seg_again rfl (ih m' hm (i + 1) n' ys' s₀' s7 σ7 H7 hn' w7 I7.unpinned (again I7).1 (again I7).2)
        | cont =>
          obtain ⟨σ7, H7, I7, n7⟩ := hs
          obtain ⟨m', hm, w7⟩ := hN ys' σ7 H7 n7
          exact seg_again rfl (ih m' hm (i + 1) n' ys' s₀' s7 σ7 H7 hn' w7 I7.unpinned (again I7).1 (again I7).2)
        | brk =>
          obtain ⟨σ7, H7, I7, q7⟩ := hs
          exact seg_leaf (.ok .next) (k.ok n' ys' s₀' s7 .next hn' ⟨σ7, H7, I7.unpinned, q7⟩)
        | ret v =>
          obtain ⟨x7, σ7, H7, I7, r7, q7⟩ := hs
          exact seg_leaf (.ok (.ret v)) (k.ok n' ys' s₀' s7 (.ret v) hn' ⟨x7, σ7, H7, I7.unpinned, r7, q7⟩)
  exact loop m0 0 n ys s₀ s2 σ H2 hn w0 ⟨acc, cc, r, I2⟩ st2 fun b hb => (f2 b hb).1
end
end L2
set_option maxHeartbeats 4000000
/-! t * 1, t a tuple: t -/
namespace SetLi
open PySem PySem.Spec PyProof.Rows L2
theorem tup_mul_one (l : Addr) (its : Array Value) (n : Nat) (dd : Option Addr) (sl : Array (Option Value)) (u : Tok) :
    Meets (Builtin.«tuple.__mul__» ⟨[.ref l, .int 1 u], []⟩) (fun _ R s => s.heap.get? l = some { cls := .type "tuple", dict := dd, data := .seq its n, slots := sl } ∧ R (.ok (.ret (Value.ref l))) s) :=
  .of_wp fun prog w A R s h => by
    obtain ⟨hp, g, d, tk, os⟩ := s
    obtain ⟨hl, h⟩ := h
    have f1 := AutoSeq1.idx_int
    have c1 : (its.isEmpty || (1 : Int) == 1) = true := by simp
    wp_walk using wpAny_loadPart' hl
    exact ⟨_, rfl, h⟩
def rRep1 (K : PySem.W.Frag) : R2 := fun x y H Q => ∃ l xs, x = .ref l ∧ y = .int 1 ∧ SqT K H l xs ∧ Q (.ref l) H
theorem op_rep1 {X : Cx} : OpR X (binaryOp .Mult) (rRep1 X.K) := by
  intro pins s σ H x y v u Q I rx ry h
  obtain ⟨l, xs, rfl, rfl, hT, q⟩ := h
  cases rx
  obtain ⟨t, rfl⟩ := ry
  obtain ⟨its, r, ⟨⟨cls, dd, data, sl⟩, ho, hc, n, hd⟩, hs⟩ := I.tuple hT
  simp only at hc hd
  subst hc hd
  refine wpAny_binaryOp_repeat_ref (T := "tuple") (U := "int") (by decide) ⟨_, ho, rfl⟩ (fun s' => typeIs_int s' 1 t) noFill_tuple_mul F.fills_int_mul F.slot_int_rmul repeat_tuple F.slot_int_index.lookup
    (call_meets F.slot_int_rmul (typeIs_int s 1 t) F.entry_int_rmul (F.args_int_rmul_2 _ _) (int_rmul_tuple 1 t l its.toArray n dd sl) ⟨ho, rfl, ⟨_, ho, rfl⟩, call_meets F.slot_tuple_mul ⟨_, ho, rfl⟩ F.entry_tuple_mul (F.args_tuple_mul_2 _ _) (tup_mul_one l its.toArray n dd sl t) ⟨ho, ?_⟩⟩)
  exact ⟨.ref l, H, I, rfl, q⟩
end SetLi
/-! t * 0, t a tuple of one: () -/
namespace SetLi
open PySem PySem.Spec PyProof.Rows L2
theorem tup_mul_zero (l : Addr) (x : Value) (n : Nat) (dd : Option Addr) (sl : Array (Option Value)) (u : Tok) :
    Meets (Builtin.«tuple.__mul__» ⟨[.ref l, .int 0 u], []⟩) (fun _ R s => s.heap.get? l = some { cls := .type "tuple", dict := dd, data := .seq #[x] n, slots := sl } ∧ R (.ok (.ret (Value.ref s.heap.objs.size))) { s with heap := s.heap.push { cls := Value.type "tuple", data := Data.seq #[] }, toks := s.toks }) :=
  .of_wp fun prog w A R s h => by
    obtain ⟨hp, g, d, tk, os⟩ := s
    obtain ⟨hl, h⟩ := h
    have f1 := AutoSeq1.idx_int
    wp_walk using wpAny_loadPart' hl
    exact ⟨_, rfl, h⟩
def rRep0 (K : PySem.W.Frag) : R2 := fun x y H Q => ∃ l z, x = .ref l ∧ y = .int 0 ∧ SqT K H l [z] ∧ ∀ p, H p = none → Q (.ref p) (upd H p (.tup []))
theorem op_rep0 {X : Cx} : OpR X (binaryOp .Mult) (rRep0 X.K) := by
  intro pins s σ H x y v u Q I rx ry h
  obtain ⟨l, z, rfl, rfl, hT, q⟩ := h
  cases rx
  obtain ⟨t, rfl⟩ := ry
  obtain ⟨its, r, ⟨⟨cls, dd, data, sl⟩, ho, hc, n, hd⟩, hs⟩ := I.tuple hT
  simp only at hc hd
  subst hc hd
  cases r with
  | cons r1 rr =>
    cases rr
    refine wpAny_binaryOp_repeat_ref (T := "tuple") (U := "int") (by decide) ⟨_, ho, rfl⟩ (fun s' => typeIs_int s' 0 t) noFill_tuple_mul F.fills_int_mul F.slot_int_rmul repeat_tuple F.slot_int_index.lookup
      (call_meets F.slot_int_rmul (typeIs_int s 0 t) F.entry_int_rmul (F.args_int_rmul_2 _ _) (int_rmul_tuple 0 t l _ n dd sl) ⟨ho, rfl, ⟨_, ho, rfl⟩, call_meets F.slot_tuple_mul ⟨_, ho, rfl⟩ F.entry_tuple_mul (F.args_tuple_mul_2 _ _) (tup_mul_zero l _ n dd sl t) ⟨ho, ?_⟩⟩)
    exact ⟨.ref s.heap.objs.size, _, I.laid (t' := s.toks) (o := .tup []) (fun b ob q => Heap.get?_push_of_some _ q) (Nat.le_refl _) ⟨Nat.zero_le _, [], .nil, IsTup.new _ _⟩, rfl, q _ (I.hok.fresh (Nat.le_refl _))⟩
end SetLi
namespace K20
open PySem PySem.Spec PyProof.Rows L2 Evl RZ Ev2 TA5 Ow
/-! the pairs that a spread tells, one by one; the narrowed spread -/
abbrev s_Spread_pairs : Stmt := inClass (topS 24) 5
abbrev N_Spread_pairs : List Str := ["self", "pair"]
theorem sc_Spread_pairs : GScope N_Spread_pairs ["self"] (defScope s_Spread_pairs) := ⟨rfl, rfl, rfl, by decide +kernel, rfl, by decide +kernel, by decide +kernel⟩
abbrev s_Spread_narrowed : Stmt := inClass (topS 24) 6
abbrev N_Spread_narrowed : List Str := ["self", "found", "rows", "pair"]
theorem sc_Spread_narrowed : FnScope N_Spread_narrowed ["self"] (defScope s_Spread_narrowed) := ⟨rfl, rfl, rfl, by decide +kernel, rfl, by decide +kernel, by decide +kernel⟩

def lgR (r0 r1 d0 : Int) (m : Option Int) (i : Nat) : List Int := [d0 + (i : Int), (lgM r0 r1 (d0 + (i : Int)) m).1, (lgM r0 r1 (d0 + (i : Int)) m).2]
def tripL (n r0 r1 d0 d1 : Int) (m : Option Int) : List (List Int) := (posL n r0 r1 d0 d1 m).map (lgR r0 r1 d0 m)
theorem trip_len {n r0 r1 d0 d1 : Int} {m : Option Int} (hn : 1 ≤ n ∧ n ≤ 64) (hd : 0 ≤ d0 ∧ d0 ≤ 1000 ∧ -1000 ≤ d1) : (tripL n r0 r1 d0 d1 m).length ≤ 65 := by
  unfold tripL posL
  rw [List.length_map]
  refine Nat.le_trans (List.length_filter_le _ _) ?_
  rw [List.length_range]
  unfold possK
  have hmin : (if n < d1 then n else d1) ≤ 64 ∧ -1000 ≤ (if n < d1 then n else d1) := by split <;> omega
  omega
theorem trip_at {n r0 r1 d0 d1 : Int} {m : Option Int} {i : Nat} (h : i < (tripL n r0 r1 d0 d1 m).length) : ((tripL n r0 r1 d0 d1 m).getD i []).length = 3 := by
  unfold tripL at h ⊢
  rw [List.getD_eq_getElem?_getD, List.getElem?_map]
  rw [List.length_map] at h
  rw [List.getElem?_eq_getElem h]
  rfl
theorem paired_map {α β γ : Type} {R : α → γ → Prop} {g : β → γ} : ∀ {ys : List α} {idx : List β}, Paired (fun y i => R y (g i)) ys idx → Paired R ys (idx.map g)
  | _, _, .nil => .nil
  | _, _, .cons h t => .cons h (paired_map t)
section
variable {K : PySem.W.Frag} {σ : L2.St} {H : Hp} {ta tb tc te tl : TE}
theorem tls_paired {ts : List (List Int)} {p : Addr} {ys : List V} (hp : H p = some (.lst ys)) (h : Paired (fun y t => Tu t y H) ys ts) : TLs ts (.ref p) H := by
  refine ⟨p, ys, rfl, hp, Paired.len h, fun i y hy => ?_⟩
  obtain ⟨t, g1, g2⟩ := Paired.at h hy
  rw [List.getD_eq_getElem?_getD, g1]
  exact g2
theorem paired_of {ts : List (List Int)} {ys : List V} (hl : ys.length = ts.length) (h : ∀ i y, ys[i]? = some y → Tu (ts.getD i []) y H) : Paired (fun y t => Tu t y H) ys ts := by
  induction ts generalizing ys with
  | nil => cases ys with
    | nil => exact .nil
    | cons y ys => simp at hl
  | cons t ts ih => cases ys with
    | nil => simp at hl
    | cons y ys =>
      refine .cons (h 0 y rfl) (ih (by simpa using hl) fun i z hz => ?_)
      have := h (i + 1) z (by simpa using hz)
      simpa using this
theorem evp_tu3 {i j l : Int} (ha : EvP ta σ H (Is (.int i))) (hb : EvP tb σ H (Is (.int j))) (hc : EvP tc σ H (Is (.int l))) : EvP (tTup (tCons ta (tCons tb (tCons tc tNil)))) σ H (Tu [i, j, l]) := fun H1 e Q q =>
  eu_tup (ea_cons ha.ev (ea_cons hb.ev (ea_cons hc.ev ea_nil))) (show 3 ≤ 100000 by decide) H1 e Q fun p H2 _ e2 hp => q _ H2 e2 ⟨p, rfl, hp⟩
end
section
variable {P : Program} {w : World} {K : PySem.W.Frag} {mg : Str → Option Value} {base : Heap} {tk : Tok} {k : Nat} {C fI CV CS CC : Addr}
def spPairs2 : Sp := fun vs H Q _ => ∃ (x z : V) (n r0 r1 d0 d1 : Int) (m : Option Int), vs = [.int n, x, z, OI m] ∧ Pr r0 r1 x H ∧ Pr d0 d1 z H ∧ (1 ≤ n ∧ n ≤ 64) ∧ (0 ≤ d0 ∧ d0 ≤ 1000 ∧ -1000 ≤ d1) ∧
  ∀ v H2, Evl.Ex H H2 → TLs (tripL n r0 r1 d0 d1 m) v H2 → Q v H2
theorem ok_pairs2 {f f1 : Addr} {fd fd1 : FuncData} (D_least_greatest : Df K mg "least_greatest" s_least_greatest ["rows", "different", "most"] f1 fd1) (G_least_greatest : FnOk P w K mg base CX0 (k + 1) f1 fd1 ["rows", "different", "most"] spLg) (T : Txt mg tk)
    (D : Df K mg "possible_pairs" s_possible_pairs ["size", "rows", "different", "most"] f fd) : FnOk P w K mg base CX0 (k + 2) f fd ["size", "rows", "different", "most"] spPairs2 := by
  refine D.F.ok sc_possible_pairs (fun vs H Q E h => ?_) (fun cdv A outer s H vs Q E hr h => ?_)
  · obtain ⟨x, z, n, r0, r1, d0, d1, m, rfl, _⟩ := h
    rfl
  · obtain ⟨x, z, n, r0, r1, d0, d1, m, rfl, hx, hz, hn, hd, q⟩ := h
    have nd := sc_possible_pairs.nd
    refine ⟨_, (pss_cons (ps_setLc (i := 4) (wi := iRng2 _) (g := gName 5) (own := [("many", 5)]) (by rfl) nd rfl rfl (by rfl) (pi_range2 (by rfl) T.n_range (pa_cons (pe_ix (r := rIxT K) ix_tup (pv 2) pe_int (fun _ _ => rfl)) (pa_cons (pe_op op_add (pe_callB (call_min2 rfl) (by rfl) T.n_min PyProof.Rows.boot_min (pa_cons (pe_ix (r := rIxT K) ix_tup (pv 2) pe_int (fun _ _ => rfl)) (pa_cons (pv 0) pa_nil))) pe_int) pa_nil))) (blkOk_by (by kernel_rfl)) (fun _ _ _ _ _ => (pg_name (i := 5) nd rfl (Or.inl rfl))) (fun _ _ _ _ _ => pts_nil) (fun _ _ _ _ _ => (pe_tup (pa_cons (pv 5) (pa_cons (pe_call G_least_greatest (hr.mono (by omega)) (by rfl) D_least_greatest.g D_least_greatest.F.kp D_least_greatest.b .nil pass0 (pa_cons (pv 1) (pa_cons (pv 5) (pa_cons (pv 3) pa_nil)))) pa_nil))))) (pss_one (ps_ret (pe_lc (wi := iList K _) (g := gTup K 2 (gCons (gName 5) (gCons (gTup K 2 (gCons (gName 6) (gCons (gName 7) gNil))) gNil))) (own := [("many", 5), ("least", 6), ("greatest", 7)]) (by rfl) nd (pi_list (pv 4)) (blkOk_by (by kernel_rfl)) (fun _ _ _ _ _ => (pg_tup rfl (pgs_cons (pg_name (i := 5) nd rfl (Or.inl rfl)) (pgs_cons (pg_tup rfl (pgs_cons (pg_name (i := 6) nd rfl (Or.inl rfl)) (pgs_cons (pg_name (i := 7) nd rfl (Or.inl rfl)) pgs_nil))) pgs_nil)))) (fun _ _ _ _ _ => (pts_one (pt_cmpR op_le (pv 6) (pv 7) (nomark _)))) (fun _ _ _ _ _ => (pe_tup (pa_cons (pv 5) (pa_cons (pv 6) (pa_cons (pv 7) pa_nil))))))))), ?_⟩
    have v0 : ∀ {H' : Hp}, EvP (tVar 0) (start N_possible_pairs [.int n, x, z, OI m]) H' (Is (.int n)) := evp_var rfl rfl mono_is
    have v2 : ∀ {H' : Hp}, Evl.Ex H H' → EvP (tVar 2) (start N_possible_pairs [.int n, x, z, OI m]) H' (Pr d0 d1) := fun e => evp_var rfl (mono_pr _ _ _ e hz) mono_pr
    have hmin : (if n < d1 then n else d1) ≤ 64 ∧ -1000 ≤ (if n < d1 then n else d1) := by split <;> omega
    have hk : possK n d0 d1 ≤ 65 := by unfold possK; omega
    have hi : ∀ i : Nat, i < possK n d0 d1 → 0 ≤ d0 + (i : Int) ∧ d0 + (i : Int) ≤ 1000 := fun i hi => by unfold possK at hi; omega
    refine q_asgP (evp_lc (vs := [5]) (g := gName 5) (n := possK n d0 d1) (Pi := fun i => Pq (d0 + (i : Int)) (lgM r0 r1 (d0 + (i : Int)) m).1 (lgM r0 r1 (d0 + (i : Int)) m).2)
      (wi_rng2 (ta := tCons (tOp (rIxT K) (tVar 2) (tC (.int 0))) (tCons (tOp (rI0 fun i j => .int (i + j)) (tCB rMin2 (tCons (tOp (rIxT K) (tVar 2) (tC (.int 1))) (tCons (tVar 0) tNil))) (tC (.int 1))) tNil)) (lo := d0) (hi := (if n < d1 then n else d1) + 1)
        (fun H1 e Q q => eap_two (evp_pr0 (K := K) (v2 (Ex.refl H))) (evp_I0 (g := fun i j => .int (i + j)) (evp_min (evp_pr1 (K := K) (v2 (Ex.refl H))) v0) (evp_c (v := .int 1))) mono_is H1 e _ fun vs H2 e2 ⟨a, b, hv, ha, hb⟩ => q _ H2 e2 (by rw [hv, show a = _ from ha, show b = _ from hb])) (by omega)) (by omega)
      (Sg := fun i σ2 _ => σ2 = [some (.int n), some x, some z, some (OI m), none, some (.int (d0 + (i : Int))), none, none]) (fun i y H1 _ _ hy => by subst hy; exact g_name (i := 5) ⟨rfl, rfl⟩) (fun i σ2 H1 hlt e1 hs => by
        subst hs
        refine evp_pq (evp_var (i := 5) rfl rfl mono_is) (evp_call (E := E0) (S := Pr (lgM r0 r1 (d0 + (i : Int)) m).1 (lgM r0 r1 (d0 + (i : Int)) m).2) (eap_three (P := Pr r0 r1) (R := Is (.int (d0 + (i : Int)))) (S := Is (OI m)) (evp_var (i := 1) (v := x) rfl (mono_pr _ _ _ e1 hx) mono_pr) (evp_var (i := 5) rfl rfl mono_is) (evp_var (i := 3) rfl rfl mono_is) mono_pr mono_is) fun vs H2 ⟨a, b, c, hv, ha, hb, hc⟩ Q q E => ⟨a, r0, r1, d0 + (i : Int), m, by rw [hv, show b = _ from hb, show c = _ from hc], ha, hi i hlt, fun v H3 e3 h3 => q v H3 e3 h3⟩)) fun _ => mf_pq) fun v4 H1 e1 h4 => ?_
    have v4' : EvP (tVar 4) [some (.int n), some x, some z, some (OI m), some v4, none, none, none] H1 (LstP (possK n d0 d1) fun i => Pq (d0 + (i : Int)) (lgM r0 r1 (d0 + (i : Int)) m).1 (lgM r0 r1 (d0 + (i : Int)) m).2) := fun H2 e2 Q q => ⟨v4, rfl, q v4 H2 (Ex.refl _) (by
      obtain ⟨a, ys, h1, h2, h3, h5⟩ := h4
      exact ⟨a, ys, h1, e2 _ _ h2, h3, fun i y hy => mf_pq.mono _ _ _ e2 (h5 i y hy)⟩)⟩
    refine s_ret_P (evp_lcF (vs := [5, 6, 7]) (g := gTup K 2 (gCons (gName 5) (gCons (gTup K 2 (gCons (gName 6) (gCons (gName 7) gNil))) gNil))) (f := fun i => decide ((lgM r0 r1 (d0 + (i : Int)) m).1 ≤ (lgM r0 r1 (d0 + (i : Int)) m).2)) (Pi := fun i => Tu (lgR r0 r1 d0 m i)) (wx_lst (K := K) v4' fun _ => mf_pq.mono) (by omega)
      (Sg := fun i σ2 _ => σ2 = [some (.int n), some x, some z, some (OI m), some v4, some (.int (d0 + (i : Int))), some (.int (lgM r0 r1 (d0 + (i : Int)) m).1), some (.int (lgM r0 r1 (d0 + (i : Int)) m).2)]) (fun i y H2 hlt e2 hy => g_pq hy ⟨rfl, rfl⟩)
      (fun i σ2 H2 hlt e2 hs => by subst hs; exact et_tst (evp_I0 (g := fun i j => .bl (decide (i ≤ j))) (evp_var (i := 6) rfl rfl mono_is) (evp_var (i := 7) rfl rfl mono_is)))
      (fun i σ2 H2 hlt e2 hs => by subst hs; exact evp_tu3 (evp_var (i := 5) rfl rfl mono_is) (evp_var (i := 6) rfl rfl mono_is) (evp_var (i := 7) rfl rfl mono_is)) fun _ => mf_tu) fun v H2 e2 ⟨p, ys, hv, hp, hP⟩ => q v H2 (e1.trans e2) ?_
    subst hv
    exact tls_paired hp (paired_map (R := fun y t => Tu t y H2) hP)

def spPG (C : Addr) : SpG := fun vs H Q _ => ∃ (x : V) (n r0 r1 d0 d1 : Int) (m : Option Int), vs = [x] ∧ SprN C n r0 r1 d0 d1 m x H ∧ (1 ≤ n ∧ n ≤ 64) ∧ (0 ≤ d0 ∧ d0 ≤ 1000 ∧ -1000 ≤ d1) ∧ ∀ ys H2, Evl.Ex H H2 → Paired (fun y t => Tu t y H2) ys (tripL n r0 r1 d0 d1 m) → Q ys H2
theorem gok_pairs {f f1 : Addr} {fd fd1 : FuncData} (SK : SpK K mg C fI) (D_possible_pairs : Df K mg "possible_pairs" s_possible_pairs ["size", "rows", "different", "most"] f1 fd1) (G_possible_pairs : FnOk P w K mg base CX0 (k + 2) f1 fd1 ["size", "rows", "different", "most"] spPairs2)
    (F : Fun K "pairs" "Spread.pairs" s_Spread_pairs f fd) : GFn P w K mg base (k + 3) f fd ["self"] (spPG C) := by
  obtain ⟨oc, od, kV, doc, pm, an, cdv, ct, osl, rfl, lk, hcd⟩ := F.ex
  refine gfn_of lk hcd sc_Spread_pairs (fun vs H Q E h => ?_) (fun A outer s H vs Q E pn hr h => ?_)
  · obtain ⟨x, n, r0, r1, d0, d1, m, rfl, _⟩ := h
    rfl
  · obtain ⟨x, n, r0, r1, d0, d1, m, rfl, ⟨y, z, hx, hy, hz⟩, hn, hd, q⟩ := h
    have nd := sc_Spread_pairs.nd
    refine ⟨_, gss_cons (gs_for owns_gcx rfl (pi_list (pe_call G_possible_pairs (hr.mono (by omega)) (by rfl) D_possible_pairs.g D_possible_pairs.F.kp D_possible_pairs.b .nil pass0 (pa_cons (pe_fld (pv 0) rfl) (pa_cons (pe_fld (pv 0) rfl) (pa_cons (pe_fld (pv 0) rfl) (pa_cons (pe_fld (pv 0) rfl) pa_nil)))))) (pg_name (i := 1) nd rfl (Or.inl rfl)) (gss_cons (gs_yield (pv 1)) gss_nil)) gss_nil, ?_⟩
    have v0 : EvP (tVar 0) (start N_Spread_pairs [x]) H (Spr C (.int n) y z (OI m)) := evp_var rfl hx mf_spr.mono
    have args : EvA (tCons (tFld K (tVar 0) "_size") (tCons (tFld K (tVar 0) "_rows") (tCons (tFld K (tVar 0) "_different") (tCons (tFld K (tVar 0) "_most") tNil)))) (start N_Spread_pairs [x]) H [.int n, y, z, OI m] := ea_cons (evp_fS SK SK.n1 v0 lk1).ev (ea_cons (evp_fS SK SK.n2 v0 lk2).ev (ea_cons (evp_fS SK SK.n3 v0 lk3).ev (ea_cons (evp_fS SK SK.n4 v0 lk4).ev ea_nil)))
    have hp : EvP (tCall spPairs2 [] E0 (tCons (tFld K (tVar 0) "_size") (tCons (tFld K (tVar 0) "_rows") (tCons (tFld K (tVar 0) "_different") (tCons (tFld K (tVar 0) "_most") tNil))))) (start N_Spread_pairs [x]) H (TLs (tripL n r0 r1 d0 d1 m)) :=
      evp_call (E := E0) (sp := spPairs2) (eap_of args) fun vs H5 ⟨hv, e5⟩ Q q E => ⟨y, z, n, r0, r1, d0, d1, m, hv, mono_pr _ _ _ e5 hy, mono_pr _ _ _ e5 hz, hn, hd, q⟩
    have hlen := trip_len (r0 := r0) (r1 := r1) (m := m) hn hd
    refine hp H (Ex.refl H) _ fun v H1 e1 ⟨p, ys, hv, hp, hl, hi⟩ => ⟨p, hv, ⟨ys, sq_of hp⟩, fun i mm out σ' H' => mm = ys.length - i ∧ i ≤ ys.length ∧ out = ys.take i ∧ (∃ s1, σ' = [some x, s1]) ∧ Evl.Ex H1 H', ⟨ys.length, rfl, Nat.zero_le _, rfl, ⟨none, rfl⟩, Ex.refl _⟩, ?_⟩
    rintro i mm out σ' H' ⟨rfl, hle, rfl, ⟨s1, rfl⟩, ex⟩
    have hp' := sq_of (K := K) (ex _ _ hp)
    by_cases hlt : i < ys.length
    · refine .inr ⟨⟨ys, _, hp', List.getElem?_eq_getElem hlt⟩, fun out' σ2 H2 => out' = ys.take (i + 1) ∧ (∃ s1, σ2 = [some x, s1]) ∧ Evl.Ex H1 H2, fun out' σ2 H2 ⟨h1, h2, h3⟩ => ⟨ys.length - (i + 1), by omega, rfl, by omega, h1, h2, h3⟩, fun u H2 ⟨yh, yv⟩ => ?_⟩
      subst yh
      have hu := yv ys hp'
      show (ys.take i).length < sizeLine ∧ _
      refine ⟨?_, u, rfl, ?_⟩
      · have : (ys.take i).length ≤ 65 := by rw [List.length_take]; omega
        have h2 : (65 : Nat) < sizeLine := by decide
        omega
      · refine ⟨?_, ⟨some u, rfl⟩, ex⟩
        rw [List.take_add_one, hu]; rfl
    · have e : i = ys.length := by omega
      subst e
      refine .inl ⟨⟨ys, hp', Nat.le_refl _⟩, ?_⟩
      show Q (ys.take ys.length) H'
      rw [List.take_length]
      exact q ys H' (e1.trans ex) (Paired.impl (fun _ _ h => mf_tu.mono _ _ _ ex h) (paired_of hl hi))
theorem passE0 {X : Cx} : Passes (L2.CX X.prog X.w) X E0 := fun _ _ _ _ _ _ _ h => by
  obtain ⟨_, _, _, _, _, _, _, _, _, _, _, _, z⟩ := h
  exact z.elim
theorem nostop0 {K : PySem.W.Frag} : NoStop K E0 := fun _ _ _ z => z.elim
end
end K20
namespace K20
open PySem PySem.Spec PyProof.Rows L2 Evl RZ Ev2 TA5 Ow
/-! narrowed -/
def minL : List Int → Int
  | [] => 0
  | [a] => a
  | a :: b :: r => if minL (b :: r) < a then minL (b :: r) else a
theorem minL_mem : ∀ l : List Int, l ≠ [] → minL l ∈ l ∧ ∀ y ∈ l, minL l ≤ y
  | [], h => absurd rfl h
  | [a], _ => by simp [minL]
  | a :: b :: r, _ => by
    have ih := minL_mem (b :: r) (by simp)
    unfold minL
    by_cases h : minL (b :: r) < a
    · rw [if_pos h]
      refine ⟨List.mem_cons_of_mem _ ih.1, fun y hy => ?_⟩
      rcases List.mem_cons.mp hy with rfl | hy
      · omega
      · exact ih.2 y hy
    · rw [if_neg h]
      refine ⟨List.mem_cons_self .., fun y hy => ?_⟩
      rcases List.mem_cons.mp hy with rfl | hy
      · omega
      · have := ih.2 y hy; omega
def colL (ts : List (List Int)) (j : Nat) : List Int := ts.map fun t => t.getD j 0
section
variable {K : PySem.W.Frag} {σ : L2.St} {H : Hp} {ta tb tc te tl : TE}
theorem evp_minIL {ns : List Int} (h : EvP te σ H (IL ns)) (hn : ns ≠ []) : EvP (tCB (rMin K) (tCons te tNil)) σ H (Is (.int (minL ns))) :=
  evp_minL h hn fun m hm hle => by
    have := minL_mem ns hn
    have h1 := hle _ this.1
    have h2 := this.2 m hm
    omega
theorem evp_maxIL {ns : List Int} (h : EvP te σ H (IL ns)) (hn : ns ≠ []) : EvP (tCB (rMax K) (tCons te tNil)) σ H (Is (.int (maxL ns))) := fun H1 e Q q => h H1 e _ fun v H2 e2 ⟨p, h1, h2⟩ =>
  ⟨p, ns, by rw [h1], sq_of h2, List.length_pos_iff.mpr hn, fun m hm hle => q _ H2 e2 (by
    have := maxL_mem ns hn
    have h3 := hle _ this.1
    have h4 := this.2 m hm
    have : m = maxL ns := by omega
    rw [this]; rfl)⟩
theorem paired_vals {α : Type} {g : α → V} : ∀ {ys : List V} {idx : List α}, Paired (fun y i => y = g i) ys idx → ys = idx.map g
  | _, _, .nil => rfl
  | _, _, .cons h t => by rw [h, paired_vals t]; rfl
theorem range_getD {α β : Type} (d : α) (f : α → β) : ∀ l : List α, (List.range l.length).map (fun i => f (l.getD i d)) = l.map f
  | [] => rfl
  | x :: l => by
    rw [List.length_cons, List.range_succ_eq_map, List.map_cons, List.map_map]
    have := range_getD d f l
    rw [List.map_cons, ← this]; rfl
/-- one column of a list of tuples -/
theorem evp_col {ts : List (List Int)} {i j : Nat} (h : EvP tl σ H (TLs ts)) (hi : i < σ.length) (hj : ∀ t < ts.length, j < (ts.getD t []).length) (hl : ts.length ≤ 40000) (hw : ∀ v, wipe (σ.set i (some v)) [i] = wipe σ [i]) (hwi : ∀ v, (wipe σ [i]).set i (some v) = σ.set i (some v)) :
    EvP (tLc (iList K tl) (gName i) tYes (tOp (rIxT K) (tVar i) (tC (.int (j : Int)))) [i]) σ H (IL (colL ts j)) :=
  (evp_lcF (vs := [i]) (g := gName i) (f := fun _ => true) (n := ts.length) (Pi := fun t => Is (.int ((ts.getD t []).getD j 0))) (wx_lst (K := K) h fun _ => mf_tu.mono) hl
    (Sg := fun t σ2 H2 => ∃ o, σ2 = σ.set i (some o) ∧ Tu (ts.getD t []) o H2) (fun t o H3 ht e3 ho => g_name (i := i) ⟨by rw [hwi]; exact hw o, o, hwi o, ho⟩) (fun t σ2 H3 ht e3 hs => et_yes)
    (fun t σ2 H3 ht e3 ⟨o, hs, ho⟩ => by
      subst hs
      refine evp_ixT (K := K) (n := (ts.getD t []).length) (Pi := fun k => Is (.int ((ts.getD t []).getD k 0))) (i := j) ((evp_var (i := i) (v := o) (by simp [hi]) ho mf_tu.mono).imp fun v H1 _ h => tu_tup h) evp_c (hj t ht) fun _ => mf_is) fun _ => mf_is).imp fun v H1 _ ⟨p, ys, h1, h2, h3⟩ => ⟨p, h1, by
      rw [h2, paired_vals (g := fun t => .int ((ts.getD t []).getD j 0)) h3, List.filter_eq_self.mpr fun _ _ => rfl]
      unfold colL
      rw [List.map_map]
      exact congrArg (fun z => some (HO.lst z)) (range_getD [] (fun t => V.int (t.getD j 0)) ts)⟩
theorem atI_last {α : Type} {xs : List α} {z : α} (h : xs.getLast? = some z) : atI xs (-1) = some z := by
  unfold atI ixN
  have hne : xs ≠ [] := fun e => by rw [e] at h; cases h
  have hl : 0 < xs.length := List.length_pos_iff.mpr hne
  rw [if_neg (by decide), if_pos (by omega)]
  have : ((-1 : Int) + (xs.length : Int)).toNat = xs.length - 1 := by omega
  show (some _).bind _ = _
  rw [this]
  show xs[xs.length - 1]? = some z
  rw [← List.getLast?_eq_getElem?]; exact h
theorem evp_at0 {ts : List (List Int)} {t : List Int} {r : List (List Int)} (e : ts = t :: r) (h : EvP te σ H (TLs ts)) : EvP (tOp (rIxL K) te (tC (.int 0))) σ H (Tu t) := fun H1 ex Q q => h H1 ex _ fun v H2 e2 ⟨p, ys, hv, hp, hl, hi⟩ => by
  subst e
  obtain ⟨y, ys', rfl⟩ : ∃ y ys', ys = y :: ys' := by cases ys with
    | nil => simp at hl
    | cons y ys' => exact ⟨y, ys', rfl⟩
  exact ⟨p, y :: ys', 0, y, hv, rfl, sq_of hp, atI_nat (j := 0) rfl, q y H2 e2 (hi 0 y rfl)⟩
theorem evp_atL {ts : List (List Int)} {t : List Int} (e : ts.getLast? = some t) (h : EvP te σ H (TLs ts)) : EvP (tOp (rIxL K) te (tUn (rU fun i => .int (-i)) (tC (.int 1)))) σ H (Tu t) := fun H1 ex Q q => h H1 ex _ fun v H2 e2 ⟨p, ys, hv, hp, hl, hi⟩ => by
  have hne : ys ≠ [] := fun z => by subst z; cases ts with
    | nil => cases e
    | cons a b => simp at hl
  refine (ev_un ev_c ru_neg : Ev (tUn (rU fun i => .int (-i)) (tC (.int 1))) σ H2 (.int (-1))) H2 (Ex.refl _) _ fun H3 e3 => ?_
  have hz : ys.getLast? = some (ys.getLast hne) := List.getLast?_eq_some_getLast hne
  refine ⟨p, ys, -1, _, hv, rfl, sq_of (e3 _ _ hp), atI_last hz, q _ H3 (e2.trans e3) ?_⟩
  rw [List.getLast?_eq_getElem?] at hz
  have := hi _ _ hz
  rw [List.getLast?_eq_getElem?] at e
  rw [hl, List.getD_eq_getElem?_getD, e] at this
  exact mf_tu.mono _ _ _ e3 this
theorem evp_tui {l : List Int} {i : Nat} (h : EvP te σ H (Tu l)) (hi : i < l.length) : EvP (tOp (rIxT K) te (tC (.int (i : Int)))) σ H (Is (.int (l.getD i 0))) :=
  evp_ixT (K := K) (n := l.length) (Pi := fun k => Is (.int (l.getD k 0))) (h.imp fun v H1 _ h => tu_tup h) evp_c hi fun _ => mf_is
end
theorem ts_mkP {C : Addr} {sp : Sp} {dvs : List V} {E : L2.St → XK} {ta : TA} {σ : L2.St} {H : Hp} {Q : VK} {A : List V → Hp → Prop} (h : EvAP ta σ H A) (k : ∀ vs H2, Evl.Ex H H2 → A vs H2 → ∀ x dx, H2 x = none → H2 dx = none → dx ≠ x → sp (.ref x :: (vs ++ dvs)) (upd (upd H2 dx (.own x)) x (.ins C dx [])) (fun v H2 => v = .non ∧ Q (.ref x) H2) (E σ)) : tMakeS C sp dvs E ta σ H Q :=
  h H (Ex.refl _) _ fun vs H2 e2 a => k vs H2 e2 a
section
variable {P : Program} {w : World} {K : PySem.W.Frag} {mg : Str → Option Value} {base : Heap} {tk : Tok} {k : Nat} {C fI CV CS CC : Addr}
theorem evp_pairs {σ : L2.St} {H : Hp} {te : TE} {n r0 r1 d0 d1 : Int} {m : Option Int} (hn : 1 ≤ n ∧ n ≤ 64) (hd : 0 ≤ d0 ∧ d0 ≤ 1000 ∧ -1000 ≤ d1) (h : EvP te σ H (SprN C n r0 r1 d0 d1 m)) : EvP (tListG (tMethG C "pairs" (spPG C) [] E0 te tNil)) σ H (TLs (tripL n r0 r1 d0 d1 m)) := fun H1 e Q q => h H1 e _ fun v H2 e2 hv => by
  obtain ⟨y, z, ⟨a, dx, rfl, ha⟩, hy, hz⟩ := id hv
  refine ⟨a, dx, _, rfl, ha, rfl, ?_⟩
  exact ⟨.ref a, n, r0, r1, d0, d1, m, rfl, hv, hn, hd, fun ys H3 e3 hP p hp => q _ _ (e2.trans (e3.trans (Ex.new hp))) (tls_paired (p := p) upd_same (Paired.impl (fun _ _ h => mf_tu.mono _ _ _ (Ex.new hp) h) hP))⟩
def nR0 (ts : List (List Int)) : Int := minL (colL ts 1)
def nR1 (ts : List (List Int)) : Int := maxL (colL ts 2)
def nD0 (ts : List (List Int)) : Int := (ts.headD []).getD 0 0
def nD1 (ts : List (List Int)) : Int := (ts.getLastD []).getD 0 0
def spNar (C : Addr) : Sp := fun vs H Q _ => ∃ (x : V) (n r0 r1 d0 d1 : Int) (m : Option Int), vs = [x] ∧ SprN C n r0 r1 d0 d1 m x H ∧ (1 ≤ n ∧ n ≤ 64) ∧ (0 ≤ d0 ∧ d0 ≤ 1000 ∧ -1000 ≤ d1) ∧ okM m ∧ tripL n r0 r1 d0 d1 m ≠ [] ∧
  (0 ≤ nR0 (tripL n r0 r1 d0 d1 m) ∧ 0 ≤ nD0 (tripL n r0 r1 d0 d1 m) ∧ nD0 (tripL n r0 r1 d0 d1 m) ≤ 1000) ∧
  (posL n (nR0 (tripL n r0 r1 d0 d1 m)) (nR1 (tripL n r0 r1 d0 d1 m)) (nD0 (tripL n r0 r1 d0 d1 m)) (nD1 (tripL n r0 r1 d0 d1 m)) m).length ≠ 0 ∧
  ∀ v H2, Evl.Ex H H2 → SprN C n (nR0 (tripL n r0 r1 d0 d1 m)) (nR1 (tripL n r0 r1 d0 d1 m)) (nD0 (tripL n r0 r1 d0 d1 m)) (nD1 (tripL n r0 r1 d0 d1 m)) m v H2 → Q v H2
theorem ok_nar {f g : Addr} {fd gd d4 : FuncData} {dvs : List V} (SK : SpK K mg C fI) (T : Txt mg tk) (M_pairs : Meth K C "pairs" g) (G_pairs : GFn P w K mg base (k + 3) g gd ["self"] (spPG C)) (b_pairs : Binds K gd ["self"] [])
    (M_init : FD K "__init__" "Spread.__init__" s_Spread_init ["self", "size", "rows", "different", "most"] dvs fI d4) (G_init : FnOk P w K mg base (L2.CX P w) (k + 6) fI d4 ["self", "size", "rows", "different", "most"] (spMk C CV CS CC))
    (F : Fun K "narrowed" "Spread.narrowed" s_Spread_narrowed f fd) : FnOk P w K mg base CX0 (k + 8) f fd ["self"] (spNar C) := by
  refine F.ok sc_Spread_narrowed (fun vs H Q E h => ?_) (fun cdv A outer s H vs Q E hr h => ?_)
  · obtain ⟨x, n, r0, r1, d0, d1, m, rfl, _⟩ := h
    rfl
  · obtain ⟨x, n, r0, r1, d0, d1, m, rfl, hx, hn, hd, hm, hne, hb, hpos, q⟩ := h
    have nd := sc_Spread_narrowed.nd
    refine ⟨_, (pss_cons (ps_set (i := 1) nd rfl (Or.inl rfl) (pe_listG (pgen_meth0 (E := E0) (pv 0) SK.cl M_pairs G_pairs (hr.mono (by omega)) b_pairs .nil) (passE0) nostop0 (hr.mono (by omega)) (by rfl) T.n_list PyProof.Rows.boot_list)) (pss_cons (ps_set (i := 2) nd rfl (Or.inl rfl) (pe_tup (pa_cons (pe_callB (r := rMin K) (cr_min rfl) (by rfl) T.n_min PyProof.Rows.boot_min (pa_cons (pe_lc (wi := iList K _) (g := gName 3) (own := [("pair", 3)]) (by rfl) nd (pi_list (pv 1)) (blkOk_by (by kernel_rfl)) (fun _ _ _ _ _ => (pg_name (i := 3) nd rfl (Or.inl rfl))) (fun _ _ _ _ _ => pts_nil) (fun _ _ _ _ _ => (pe_ix (r := rIxT K) ix_tup (pv 3) pe_int (fun _ _ => rfl)))) pa_nil)) (pa_cons (pe_callB (r := rMax K) (cr_max rfl) (by rfl) T.n_max PyProof.Rows.boot_max (pa_cons (pe_lc (wi := iList K _) (g := gName 3) (own := [("pair", 3)]) (by rfl) nd (pi_list (pv 1)) (blkOk_by (by kernel_rfl)) (fun _ _ _ _ _ => (pg_name (i := 3) nd rfl (Or.inl rfl))) (fun _ _ _ _ _ => pts_nil) (fun _ _ _ _ _ => (pe_ix (r := rIxT K) ix_tup (pv 3) pe_int (fun _ _ => rfl)))) pa_nil)) pa_nil)))) (pss_one (ps_ret (pe_makeS SK.mkc G_init (hr.mono (by omega)) (by rfl) SK.gC M_init.b .nil (fun σ => passAt (W := fun _ _ _ _ => False) takes0 σ) (pa_cons (pe_fld (pv 0) rfl) (pa_cons (pv 2) (pa_cons (pe_tup (pa_cons (pe_ix (r := rIxT K) ix_tup (pe_ix (r := rIxL K) ix_list (pv 1) pe_int (fun _ _ => rfl)) pe_int (fun _ _ => rfl)) (pa_cons (pe_ix (r := rIxT K) ix_tup (pe_ix (r := rIxL K) ix_list (pv 1) (pe_un un_neg pe_int) (fun _ _ => rfl)) pe_int (fun _ _ => rfl)) pa_nil))) (pa_cons (pe_fld (pv 0) rfl) pa_nil))))))))), ?_⟩
    have hlen := trip_len (r0 := r0) (r1 := r1) (m := m) hn hd
    have h3 : ∀ i < (tripL n r0 r1 d0 d1 m).length, ((tripL n r0 r1 d0 d1 m).getD i []).length = 3 := fun i hi => trip_at hi
    refine q_asgP (evp_pairs hn hd (evp_var (i := 0) (v := x) rfl hx mono_sprN)) fun v1 H1 e1 h1 => ?_
    generalize tripL n r0 r1 d0 d1 m = ts at *
    have v1' : ∀ {σ' : L2.St} {H' : Hp}, σ'[1]? = some (some v1) → Evl.Ex H1 H' → EvP (tVar 1) σ' H' (TLs ts) := fun h e => evp_var h (mono_tls _ _ _ e h1) mono_tls
    have hc : ∀ j, colL ts j ≠ [] := fun j z => hne (by unfold colL at z; exact List.map_eq_nil_iff.mp z)
    refine q_asgP (P := Pr (nR0 ts) (nR1 ts)) (evp_pr (evp_minIL (evp_col (j := 1) (i := 3) (v1' rfl (Ex.refl _)) (show 3 < 4 by decide) (fun t ht => by rw [h3 t ht]; decide) (by omega) (fun v => rfl) (fun v => rfl)) (hc 1)) (evp_maxIL (evp_col (j := 2) (i := 3) (v1' rfl (Ex.refl _)) (show 3 < 4 by decide) (fun t ht => by rw [h3 t ht]; decide) (by omega) (fun v => rfl) (fun v => rfl)) (hc 2))) fun v2 H2 e2 h2 => ?_
    have v0 : ∀ {σ' : L2.St} {H' : Hp}, σ'[0]? = some (some x) → Evl.Ex H1 H' → ∃ y z, EvP (tVar 0) σ' H' (Spr C (.int n) y z (OI m)) := fun h e => by
      obtain ⟨y, z, hs, _⟩ := mono_sprN _ _ _ (e1.trans e) hx
      exact ⟨y, z, evp_var h hs mf_spr.mono⟩
    obtain ⟨y, z, hx0⟩ := v0 (σ' := [some x, some v1, some v2, none]) (H' := H2) rfl e2
    obtain ⟨t, r, e⟩ : ∃ t r, ts = t :: r := by cases ts with
      | nil => exact absurd rfl hne
      | cons t r => exact ⟨t, r, rfl⟩
    have ht : t.length = 3 := by have := h3 0 (by rw [e]; simp); rw [e] at this; simpa using this
    have hL : ts.getLast? = some (ts.getLast hne) := List.getLast?_eq_some_getLast hne
    have hl3 : (ts.getLast hne).length = 3 := by
      have := h3 (ts.length - 1) (by have := List.length_pos_iff.mpr hne; omega)
      rw [List.getD_eq_getElem?_getD, ← List.getLast?_eq_getElem?, hL] at this
      exact this
    have last : EvP (tTup (tCons (tOp (rIxT K) (tOp (rIxL K) (tVar 1) (tC (.int 0))) (tC (.int 0))) (tCons (tOp (rIxT K) (tOp (rIxL K) (tVar 1) (tUn (rU fun i => .int (-i)) (tC (.int 1)))) (tC (.int 0))) tNil))) [some x, some v1, some v2, none] H2 (Pr (nD0 ts) (nD1 ts)) := by
      have a := evp_tui (K := K) (i := 0) (evp_at0 (K := K) e (v1' (σ' := [some x, some v1, some v2, none]) (H' := H2) rfl e2)) (by omega)
      have b := evp_tui (K := K) (i := 0) (evp_atL (K := K) hL (v1' (σ' := [some x, some v1, some v2, none]) (H' := H2) rfl e2)) (by omega)
      have ea : t.getD 0 0 = nD0 ts := by rw [e]; rfl
      have eb : (ts.getLast hne).getD 0 0 = nD1 ts := by
        unfold nD1
        rw [List.getLastD_eq_getLast?, hL]; rfl
      rw [ea] at a
      rw [eb] at b
      exact evp_pr a b
    have e2' := e1.trans e2
    exact ts_mkP (A := fun vs H' => ∃ u3, vs = [.int n, v2, u3, OI m] ∧ Pr (nD0 ts) (nD1 ts) u3 H') (fun H' e' Q q => evp_fS SK SK.n1 hx0 lk1 H' e' _ fun u1 H3 e3 hu1 => ⟨v2, rfl, last H3 (e'.trans e3) _ fun u3 H4 e4 hu3 => evp_fS SK SK.n4 hx0 lk4 H4 ((e'.trans e3).trans e4) _ fun u4 H5 e5 hu4 => q _ H5 ((e3.trans e4).trans e5) ⟨u3, by rw [show u1 = _ from hu1, show u4 = _ from hu4], mono_pr _ _ _ e5 hu3⟩⟩) fun vs H3 e3 ⟨u3, hv, hu⟩ a dx ha hdx hne' => by
      subst hv
      exact mk_ok hn hb hm hpos (mono_pr _ _ _ e3 h2) hu (fun v H6 e6 hv => q v H6 ((e2'.trans e3).trans e6) hv) a dx ha hdx hne'
end
end K20
namespace K20
open PySem PySem.Spec PyProof.Rows L2 Evl RZ Ev2 TA5 Ow
/-! level heights -/
abbrev s_is_possible : Stmt := topS 13
abbrev N_is_possible : List Str := ["rows", "different", "most"]
theorem sc_is_possible : FnScope N_is_possible ["rows", "different", "most"] (defScope s_is_possible) := ⟨rfl, rfl, rfl, by decide +kernel, rfl, by decide +kernel, by decide +kernel⟩
abbrev s_level_heights : Stmt := topS 16
abbrev N_level_heights : List Str := ["rows", "different", "share", "more"]
theorem sc_level_heights : FnScope N_level_heights ["rows", "different"] (defScope s_level_heights) := ⟨rfl, rfl, rfl, by decide +kernel, rfl, by decide +kernel, by decide +kernel⟩
abbrev s_check_pair : Stmt := topS 17
abbrev N_check_pair : List Str := ["rows", "different"]
theorem sc_check_pair : FnScope N_check_pair ["rows", "different"] (defScope s_check_pair) := ⟨rfl, rfl, rfl, by decide +kernel, rfl, by decide +kernel, by decide +kernel⟩
abbrev s_level : Stmt := topS 18
abbrev N_level : List Str := ["rows", "different"]
theorem sc_level : FnScope N_level ["rows", "different"] (defScope s_level) := ⟨rfl, rfl, rfl, by decide +kernel, rfl, by decide +kernel, by decide +kernel⟩

def levL (S c : Int) : List Int := if c = 0 then [] else List.replicate (S % c).toNat (S / c + 1) ++ List.replicate (c - S % c).toNat (S / c)
def levB (S c : Int) : Bool := if c = 0 then decide (S = 0) else decide (c ≤ S)
abbrev rRep (K : PySem.W.Frag) : R2 := rOr (rOr (rRepT K) (SetLi.rRep1 K)) (SetLi.rRep0 K)
section
variable {K : PySem.W.Frag} {σ : L2.St} {H : Hp} {ta tb tc te tl : TE}
theorem flat_one (a : Int) : ∀ n : Nat, (List.replicate n [V.int a]).flatten = (List.replicate n a).map V.int
  | 0 => rfl
  | n + 1 => by rw [List.replicate_succ, List.flatten_cons, flat_one a n, List.replicate_succ]; rfl
theorem evp_repI {a k : Int} (ha : EvP ta σ H (Is (.int a))) (hb : EvP tb σ H (Is (.int k))) (hk : 0 ≤ k ∧ k ≤ 1000) : EvP (tOp (rRep K) (tTup (tCons ta tNil)) tb) σ H (Tu (List.replicate k.toNat a)) := fun H1 e Q q =>
  evp_one ha H1 e _ fun v H2 e2 ⟨p, hv, hp⟩ => hb H2 (e.trans e2) _ fun w H3 e3 hw => by
    have hw' : w = .int k := hw
    subst hw' hv
    have hp3 := e3 _ _ hp
    by_cases h1 : k = 1
    · subst h1
      exact .inl (.inr ⟨p, _, rfl, rfl, st_of hp3, q _ H3 (e2.trans e3) ⟨p, rfl, hp3⟩⟩)
    · by_cases h0 : k = 0
      · subst h0
        exact .inr ⟨p, _, rfl, rfl, st_of hp3, fun p2 hp2 => q _ _ ((e2.trans e3).trans (Ex.new hp2)) ⟨p2, rfl, upd_same⟩⟩
      · exact .inl (.inl ⟨p, k, _, rfl, rfl, st_of hp3, by simp, by omega, by omega, by simp, fun p2 hp2 => q _ _ ((e2.trans e3).trans (Ex.new hp2)) ⟨p2, rfl, by rw [upd_same, flat_one]⟩⟩)
theorem evp_catI {xs ys : List Int} (ha : EvP ta σ H (Tu xs)) (hb : EvP tb σ H (Tu ys)) (hl : xs.length + ys.length ≤ 100000) : EvP (tOp (rCatA K) ta tb) σ H (Tu (xs ++ ys)) := by
  have := evp_catA (K := K) (xs := xs.map V.int) (ys := ys.map V.int) ha hb (by simpa using hl)
  rw [← List.map_append] at this
  exact this
end
theorem lev_facts {S c : Int} (h0 : 0 ≤ c) (h : levB S c = true) : ((levL S c).length : Int) = c ∧ (levL S c).sum = S ∧ ∀ x ∈ levL S c, 1 ≤ x := by
  unfold levB at h
  unfold levL
  by_cases hc : c = 0
  · rw [if_pos hc] at h ⊢
    subst hc
    exact ⟨rfl, (of_decide_eq_true h).symm, fun x hx => by cases hx⟩
  · rw [if_neg hc] at h ⊢
    have hle : c ≤ S := of_decide_eq_true h
    have hpos : 0 < c := by omega
    have m0 := Int.emod_nonneg S hc
    have m1 := Int.emod_lt_of_pos S hpos
    have hd : 1 ≤ S / c := (Int.le_ediv_iff_mul_le hpos).mpr (by omega)
    have he := Int.emod_add_mul_ediv S c
    have hs : ∀ (n : Nat) (a : Int), (List.replicate n a).sum = (n : Int) * a := fun n a => by
      induction n with
      | zero => simp
      | succ n ih => rw [List.replicate_succ, List.sum_cons, ih, Int.natCast_succ, Int.add_mul]; omega
    refine ⟨by rw [List.length_append, List.length_replicate, List.length_replicate]; omega, ?_, fun x hx => ?_⟩
    · rw [List.sum_append, hs, hs, Int.toNat_of_nonneg m0, Int.toNat_of_nonneg (by omega), Int.mul_add, Int.sub_mul]
      omega
    · rcases List.mem_append.mp hx with hx | hx
      · rw [(List.mem_replicate.mp hx).2]; omega
      · rw [(List.mem_replicate.mp hx).2]; exact hd
section
variable {P : Program} {w : World} {K : PySem.W.Frag} {mg : Str → Option Value} {base : Heap} {tk : Tok} {k : Nat} {C fI CV CS CC : Addr}
def spPoss : Sp := fun vs H Q _ => ∃ (S c : Int), vs = [.int S, .int c, .non] ∧ ∀ v H2, Evl.Ex H H2 → v = .bl (levB S c) → Q v H2
theorem ok_poss {f : Addr} {fd : FuncData} (D : Df K mg "is_possible" s_is_possible ["rows", "different", "most"] f fd) : FnOk P w K mg base CX0 (k + 1) f fd ["rows", "different", "most"] spPoss := by
  refine D.F.ok sc_is_possible (fun vs H Q E h => ?_) (fun cdv A outer s H vs Q E hr h => ?_)
  · obtain ⟨S, c, rfl, _⟩ := h
    rfl
  · obtain ⟨S, c, rfl, q⟩ := h
    refine ⟨_, (pss_cons (ps_if (pt_cmpR op_eq (pv 1) pe_int (nomark _)) (pss_one (ps_ret (pe_cmpR op_eq (pv 0) pe_int (nomark _)))) pss_nil) (pss_one (ps_ret (pe_and (pe_cmpR op_le (pv 1) (pv 0) (nomark _)) (pe_one (pe_or (pe_cmpR (r := rNon) op_isN (pv 2) pe_non (nomark _)) (pe_one (pe_cmpR op_le (pv 0) (pe_op op_mul (pv 1) (pv 2)) (nomark _))))))))), ?_⟩
    have v0 : ∀ {H' : Hp}, EvP (tVar 0) (start N_is_possible [.int S, .int c, .non]) H' (Is (.int S)) := evp_var rfl rfl mono_is
    have v1 : ∀ {H' : Hp}, EvP (tVar 1) (start N_is_possible [.int S, .int c, .non]) H' (Is (.int c)) := evp_var rfl rfl mono_is
    refine q_when (b := decide (c = 0)) (et_tst (evp_is (evp_eq v1 (evp_c (v := .int 0)) rfl) (by simp))) (fun hb H1 e1 => s_ret (EvP.ev (v := .bl (levB S c)) (evp_is (evp_eq v0 (evp_c (v := .int 0)) rfl) (by unfold levB; rw [if_pos (of_decide_eq_true hb)]; simp))) fun H2 e2 => q _ H2 (e1.trans e2) rfl) fun hb H1 e1 => ?_
    refine s_ret (EvP.ev (v := .bl (levB S c)) ?_) fun H2 e2 => q _ H2 (e1.trans e2) rfl
    have e : levB S c = decide (c ≤ S) := by unfold levB; rw [if_neg (of_decide_eq_false hb)]
    rw [e]
    exact evp_is (evp_and (a := decide (c ≤ S)) (b := true) (evp_I0 (g := fun i j => .bl (decide (i ≤ j))) v1 v0) fun _ => evp_is (evp_or (a := true) (b := true) (evp_is (evp_non (evp_var (i := 2) (v := .non) rfl rfl mono_is)) rfl) fun z => nomatch z) rfl) (by rw [Bool.and_true])
def spChk : Sp := fun vs H Q _ => ∃ (S c : Int), vs = [.int S, .int c] ∧ 0 ≤ S ∧ 0 ≤ c ∧ c ≤ 64 ∧ ∀ H2, Evl.Ex H H2 → Q .non H2
theorem ok_chk {f f1 : Addr} {fd fd1 : FuncData} (D_is_count : Df K mg "is_count" s_is_count ["value"] f1 fd1) (G_is_count : FnOk P w K mg base CX0 (k + 2) f1 fd1 ["value"] spCount) (T : Txt mg tk) (D : Df K mg "check_pair" s_check_pair ["rows", "different"] f fd) : FnOk P w K mg base CX0 (k + 3) f fd ["rows", "different"] spChk := by
  refine D.F.ok sc_check_pair (fun vs H Q E h => ?_) (fun cdv A outer s H vs Q E hr h => ?_)
  · obtain ⟨S, c, rfl, _⟩ := h
    rfl
  · obtain ⟨S, c, rfl, hS, hc, hc2, q⟩ := h
    refine ⟨_, (pss_cons (ps_if (pt_not (pt_val (pe_call G_is_count (hr.mono (by omega)) (by rfl) D_is_count.g D_is_count.F.kp D_is_count.b .nil pass0 (pa_cons (pv 0) pa_nil)))) (pss_one ps_never) pss_nil) (pss_one (ps_if (PW.pt (pw_or (pt_not (pt_val (pe_call G_is_count (hr.mono (by omega)) (by rfl) D_is_count.g D_is_count.F.kp D_is_count.b .nil pass0 (pa_cons (pv 1) pa_nil)))) (pw_or1 (pt_cmpR op_gt (pv 1) (pe_glob (v := .int 64) rfl T.c_MOST_HEIGHTS ⟨_, rfl⟩) (nomark _))))) (pss_one ps_never) pss_nil))), ?_⟩
    have cnt : ∀ {i : Nat} {x : Int} {H' : Hp}, (start N_check_pair [.int S, .int c])[i]? = some (some (.int x)) → 0 ≤ x → EvP (tCall spCount [] E0 (tCons (tVar i) tNil)) (start N_check_pair [.int S, .int c]) H' (Is (.bl true)) := fun {i x H'} h hx =>
      evp_is (evp_call (E := E0) (eap_one (P := fun v H => It H v (.int x)) (evp_var h (.flat rfl) mono_it)) sp_count_it) (congrArg V.bl (decide_eq_true hx))
    refine q_when (b := false) (et_is (et_not (et_bl (cnt (i := 0) rfl hS))) rfl) (fun z => nomatch z) fun _ H1 e1 => ?_
    exact s_when (b := false) (et_is (et_or (a := false) (b := false) (et_is (et_not (et_bl (cnt (i := 1) rfl hc))) rfl) fun _ => et_tst (evp_is (evp_I0 (g := fun i j => .bl (decide (i > j))) (evp_var (i := 1) (v := .int c) rfl rfl mono_is) (evp_c (v := .int 64))) (congrArg V.bl (decide_eq_false (by omega))))) rfl) (fun z => nomatch z) fun _ H2 e2 => q H2 (e1.trans e2)
def spLH2 : Sp := fun vs H Q _ => ∃ (S c : Int), vs = [.int S, .int c] ∧ 0 ≤ c ∧ c ≤ 64 ∧ ∀ v H2, Evl.Ex H H2 → Tu (levL S c) v H2 → Q v H2
theorem ok_lev_h {f : Addr} {fd : FuncData} (n_divmod : mg "divmod" = none) (D : Df K mg "level_heights" s_level_heights ["rows", "different"] f fd) : FnOk P w K mg base CX0 (k + 1) f fd ["rows", "different"] spLH2 := by
  refine D.F.ok sc_level_heights (fun vs H Q E h => ?_) (fun cdv A outer s H vs Q E hr h => ?_)
  · obtain ⟨S, c, rfl, _⟩ := h
    rfl
  · obtain ⟨S, c, rfl, hc, hc2, q⟩ := h
    have nd := sc_level_heights.nd
    refine ⟨_, (pss_cons (ps_if (pt_cmpR op_eq (pv 1) pe_int (nomark _)) (pss_one (ps_ret (pe_tup pa_nil))) pss_nil) (pss_cons (ps_asg (pe_callB call_divmod (by rfl) n_divmod PyProof.Rows.boot_divmod (pa_cons (pv 0) (pa_cons (pv 1) pa_nil))) (pg_tup rfl (pgs_cons (pg_name (i := 2) nd rfl (Or.inl rfl)) (pgs_cons (pg_name (i := 3) nd rfl (Or.inl rfl)) pgs_nil)))) (pss_one (ps_ret (pe_op (r := rCatA K) op_catA (pe_op (r := rOr (rOr (rRepT K) (SetLi.rRep1 K)) (SetLi.rRep0 K)) (op_or (op_or op_repT SetLi.op_rep1) SetLi.op_rep0) (pe_tup (pa_cons (pe_op op_add (pv 2) pe_int) pa_nil)) (pv 3)) (pe_op (r := rOr (rOr (rRepT K) (SetLi.rRep1 K)) (SetLi.rRep0 K)) (op_or (op_or op_repT SetLi.op_rep1) SetLi.op_rep0) (pe_tup (pa_cons (pv 2) pa_nil)) (pe_op op_sub (pv 1) (pv 3)))))))), ?_⟩
    have v1 : ∀ {σ' : L2.St} {H' : Hp}, σ'[1]? = some (some (.int c)) → EvP (tVar 1) σ' H' (Is (.int c)) := fun h => evp_var h rfl mono_is
    refine q_when (b := decide (c = 0)) (et_tst (evp_is (evp_eq (v1 rfl) (evp_c (v := .int 0)) rfl) (by simp))) (fun hb H1 e1 => ?_) fun hb H1 e1 => ?_
    · have h0 : c = 0 := of_decide_eq_true hb
      exact ⟨by show 0 ≤ sizeLine; decide, fun p hp => q _ _ (e1.trans (Ex.new hp)) ⟨p, rfl, by rw [upd_same]; unfold levL; rw [if_pos h0]; rfl⟩⟩
    · have h0 : c ≠ 0 := of_decide_eq_false hb
      have hpos : 0 < c := by omega
      have m0 := Int.emod_nonneg S h0
      have m1 := Int.emod_lt_of_pos S hpos
      refine ⟨_, rfl, _, rfl, S, c, rfl, ⟨by omega, by omega⟩, fun p hp => ?_⟩
      have e2 : Evl.Ex H1 (upd H1 p (.tup [.int (S / c), .int (S % c)])) := Ex.new hp
      have lp : (upd H1 p (.tup [.int (S / c), .int (S % c)])) p = some (.tup [.int (S / c), .int (S % c)]) := upd_same
      generalize upd H1 p (.tup [.int (S / c), .int (S % c)]) = H2 at e2 lp
      refine ⟨p, _, rfl, st_of lp, rfl, _, _, rfl, _, _, rfl, rfl, ?_⟩
      refine evp_catI (K := K) (xs := List.replicate (S % c).toNat (S / c + 1)) (ys := List.replicate (c - S % c).toNat (S / c)) (evp_repI (K := K) (evp_I0 (g := fun i j => .int (i + j)) (evp_var (i := 2) rfl rfl mono_is) (evp_c (v := .int 1))) (evp_var (i := 3) rfl rfl mono_is) (by omega)) (evp_repI (K := K) (evp_var (i := 2) rfl rfl mono_is) (evp_I0 (g := fun i j => .int (i - j)) (v1 rfl) (evp_var (i := 3) rfl rfl mono_is)) (by omega)) (by rw [List.length_replicate, List.length_replicate]; omega) H2 (Ex.refl _) _ fun v H3 e3 hv => q v H3 ((e1.trans e2).trans e3) ?_
      have : levL S c = List.replicate (S % c).toNat (S / c + 1) ++ List.replicate (c - S % c).toNat (S / c) := by unfold levL; rw [if_neg h0]
      rw [this]; exact hv
def spLev : Sp := fun vs H Q _ => ∃ (S c : Int), vs = [.int S, .int c] ∧ 0 ≤ S ∧ 0 ≤ c ∧ c ≤ 64 ∧ levB S c = true ∧ ∀ v H2, Evl.Ex H H2 → Tu (levL S c) v H2 → Q v H2
theorem ok_lev {f f1 f2 f3 : Addr} {fd d1 d2 d3 : FuncData} (D_check_pair : Df K mg "check_pair" s_check_pair ["rows", "different"] f1 d1) (G_check_pair : FnOk P w K mg base CX0 (k + 3) f1 d1 ["rows", "different"] spChk)
    (D_is_possible : Df K mg "is_possible" s_is_possible ["rows", "different", "most"] f2 d2) (G_is_possible : FnOk P w K mg base CX0 (k + 1) f2 d2 ["rows", "different", "most"] spPoss)
    (D_level_heights : Df K mg "level_heights" s_level_heights ["rows", "different"] f3 d3) (G_level_heights : FnOk P w K mg base CX0 (k + 1) f3 d3 ["rows", "different"] spLH2)
    (D : Df K mg "level" s_level ["rows", "different"] f fd) : FnOk P w K mg base CX0 (k + 4) f fd ["rows", "different"] spLev := by
  refine D.F.ok sc_level (fun vs H Q E h => ?_) (fun cdv A outer s H vs Q E hr h => ?_)
  · obtain ⟨S, c, rfl, _⟩ := h
    rfl
  · obtain ⟨S, c, rfl, hS, hc, hc2, hb, q⟩ := h
    refine ⟨_, (pss_cons (ps_expr (pe_call G_check_pair (hr.mono (by omega)) (by rfl) D_check_pair.g D_check_pair.F.kp D_check_pair.b .nil pass0 (pa_cons (pv 0) (pa_cons (pv 1) pa_nil)))) (pss_cons (ps_if (pt_not (pt_val (pe_call G_is_possible (hr.mono (by omega)) (by rfl) D_is_possible.g D_is_possible.F.kp D_is_possible.b .nil pass0 (pa_cons (pv 0) (pa_cons (pv 1) (pa_cons pe_non pa_nil)))))) (pss_one ps_never) pss_nil) (pss_one (ps_ret (pe_call G_level_heights (hr.mono (by omega)) (by rfl) D_level_heights.g D_level_heights.F.kp D_level_heights.b .nil pass0 (pa_cons (pv 0) (pa_cons (pv 1) pa_nil))))))), ?_⟩
    refine ⟨_, rfl, _, rfl, S, c, rfl, hS, hc, hc2, fun H1 e1 => ?_⟩
    have a2 : ∀ {H' : Hp}, EvAP (tCons (tVar 0) (tCons (tVar 1) tNil)) (start N_level [.int S, .int c]) H' (fun vs _ => vs = [.int S, .int c]) := fun H2 e Q q => ⟨_, rfl, _, rfl, q _ H2 (Ex.refl _) rfl⟩
    have a3 : ∀ {H' : Hp}, EvAP (tCons (tVar 0) (tCons (tVar 1) (tCons (tC .non) tNil))) (start N_level [.int S, .int c]) H' (fun vs _ => vs = [.int S, .int c, .non]) := fun H2 e Q q => ⟨_, rfl, _, rfl, q _ H2 (Ex.refl _) rfl⟩
    refine q_when (b := false) (et_is (et_not (et_bl (evp_call (E := E0) (sp := spPoss) (S := Is (.bl (levB S c))) a3 fun vs H1 hv Q q E => ⟨S, c, hv, q⟩))) (by rw [hb]; rfl)) (fun z => nomatch z) fun _ H2 e2 => ?_
    exact evp_call (E := E0) (sp := spLH2) (S := Tu (levL S c)) a2 (fun vs H1 hv Q q E => ⟨S, c, hv, hc, hc2, q⟩) H2 (Ex.refl _) _ fun v H3 e3 hv => q v H3 ((e1.trans e2).trans e3) hv
end
end K20
namespace K20
open PySem PySem.Spec PyProof.Rows L2 Evl RZ Ev2 TA5 Ow
/-! a bucket's life: heights, what is known sharply, what is known bluntly -/
structure Lv (n : Int) (l : List Int) (m1 : Option Int) (d0 d1 : Int) (m2 : Option Int) : Prop where
  len : (l.length : Int) = n
  rg : 1 ≤ n ∧ n ≤ 6
  pos : ∀ x ∈ l, 0 ≤ x
  h1 : holdsB n l.sum l.sum (cntL l : Int) (cntL l : Int) m1 l = true
  h2 : holdsB n l.sum l.sum d0 d1 m2 l = true
  o1 : okM m1
  o2 : okM m2
  z : 0 ≤ d0
def knw (g : Bool) (x : Int) : Option Bool := some (if g = true then decide (x > 0) else decide (x = 1))
theorem Lv.ne {n : Int} {l : List Int} {m1 m2 : Option Int} {d0 d1 : Int} (h : Lv n l m1 d0 d1 m2) : l ≠ [] := fun z => by
  have h1 := h.len; have h2 := h.rg; rw [z] at h1; simp at h1; omega
theorem Lv.cnt {n : Int} {l : List Int} {m1 m2 : Option Int} {d0 d1 : Int} (h : Lv n l m1 d0 d1 m2) : d0 ≤ (cntL l : Int) ∧ (cntL l : Int) ≤ d1 ∧ (cntL l : Int) ≤ n ∧ (cntL l : Int) ≤ l.sum ∧ levB l.sum (cntL l : Int) = true := by
  obtain ⟨_, _, h3, _⟩ := (holds_iff h.ne).mp h.h2
  obtain ⟨c1, c2, c3, _⟩ := cnt_facts l h.pos
  have := h.len
  refine ⟨h3.1, h3.2, by omega, c1, ?_⟩
  unfold levB
  by_cases hc : (cntL l : Int) = 0
  · rw [if_pos hc]; exact decide_eq_true (c2 (by omega))
  · rw [if_neg hc]; exact decide_eq_true c1
theorem mxI_ge (y : Int) : y ≤ mxI 0 y ∧ 0 ≤ mxI 0 y := by
  unfold mxI
  by_cases h : y > 0
  · rw [if_pos h]; omega
  · rw [if_neg h]; omega
theorem mxI_id {y : Int} (h : 0 ≤ y) : mxI 0 y = y := by
  unfold mxI
  by_cases h1 : y > 0
  · rw [if_pos h1]
  · rw [if_neg h1]; omega
theorem sum_mid (a b : List Int) (x s : Int) : (a ++ (x + s) :: b).sum = (a ++ x :: b).sum + s := by
  simp only [List.sum_append, List.sum_cons]; omega
theorem Lv.step {n x : Int} {a b : List Int} {m1 m2 : Option Int} {d0 d1 : Int} (g : Bool) (h : Lv n (a ++ x :: b) m1 d0 d1 m2) (hg : g = false → x > 0) :
    PosG g (knw g x) n (a ++ x :: b).sum (a ++ x :: b).sum (cntL (a ++ x :: b) : Int) (cntL (a ++ x :: b) : Int) m1 ≠ 0 ∧ PosG g none n (a ++ x :: b).sum (a ++ x :: b).sum d0 d1 m2 ≠ 0 ∧
    Lv n (a ++ (x + sR g) :: b) (mM m1 (mr g (knw g x))) (mxI 0 (d0 + dl g none)) (d1 + dh g none) (mM m2 (mr g none)) ∧
    (mxI 0 ((a ++ x :: b).sum + sR g) = (a ++ (x + sR g) :: b).sum ∧ (a ++ x :: b).sum + sR g = (a ++ (x + sR g) :: b).sum ∧ mxI 0 ((cntL (a ++ x :: b) : Int) + dl g (knw g x)) = (cntL (a ++ (x + sR g) :: b) : Int) ∧ (cntL (a ++ x :: b) : Int) + dh g (knw g x) = (cntL (a ++ (x + sR g) :: b) : Int)) := by
  have p0 : ∀ y ∈ a ++ (x + sR g) :: b, 0 ≤ y := fun y hy => by
    rcases List.mem_append.mp hy with hy | hy
    · exact h.pos y (List.mem_append_left _ hy)
    · rcases List.mem_cons.mp hy with rfl | hy
      · have hx := h.pos x (by simp)
        cases g
        · have := hg rfl; show 0 ≤ x + -1; omega
        · show 0 ≤ x + 1; omega
      · exact h.pos y (List.mem_append_right _ (List.mem_cons_of_mem _ hy))
  have q1 : holdsB n (mxI 0 ((a ++ x :: b).sum + sR g)) ((a ++ x :: b).sum + sR g) (mxI 0 ((cntL (a ++ x :: b) : Int) + dl g (knw g x))) ((cntL (a ++ x :: b) : Int) + dh g (knw g x)) (mM m1 (mr g (knw g x))) (a ++ (x + sR g) :: b) = true := by
    cases g
    · exact holds_shrink h.pos h.o1 (hg rfl) h.h1 _ (.inr rfl)
    · exact holds_grow h.pos h.o1 h.h1 _ (.inr rfl)
  have q2 : holdsB n (mxI 0 ((a ++ x :: b).sum + sR g)) ((a ++ x :: b).sum + sR g) (mxI 0 (d0 + dl g none)) (d1 + dh g none) (mM m2 (mr g none)) (a ++ (x + sR g) :: b) = true := by
    cases g
    · exact holds_shrink h.pos h.o2 (hg rfl) h.h2 _ (.inl rfl)
    · exact holds_grow h.pos h.o2 h.h2 _ (.inl rfl)
  have hne : a ++ (x + sR g) :: b ≠ [] := by simp
  have o1 := mM_ok (k := mr g (knw g x)) h.o1 (mr_ok g (knw g x))
  have o2 := mM_ok (k := mr g none) h.o2 (mr_ok g none)
  have es : (a ++ x :: b).sum + sR g = (a ++ (x + sR g) :: b).sum := (sum_mid a b x (sR g)).symm
  have hs0 : 0 ≤ (a ++ (x + sR g) :: b).sum := by
    have := cnt_facts _ p0; omega
  have em : mxI 0 ((a ++ x :: b).sum + sR g) = (a ++ (x + sR g) :: b).sum := by rw [es, mxI_id hs0]
  obtain ⟨_, _, c3, _⟩ := (holds_iff hne).mp q1
  have hd : dl g (knw g x) = dh g (knw g x) := by
    unfold knw
    cases g
    · cases decide (x = 1) <;> rfl
    · cases decide (x > 0) <;> rfl
  have hge := mxI_ge ((cntL (a ++ x :: b) : Int) + dl g (knw g x))
  rw [← hd] at c3
  have ec : (cntL (a ++ x :: b) : Int) + dl g (knw g x) = (cntL (a ++ (x + sR g) :: b) : Int) := by omega
  have ec' : mxI 0 ((cntL (a ++ x :: b) : Int) + dl g (knw g x)) = (cntL (a ++ (x + sR g) :: b) : Int) := by omega
  refine ⟨fit_pos hne p0 o1 q1, fit_pos hne p0 o2 q2, ⟨?_, h.rg, p0, ?_, ?_, o1, o2, (mxI_ge _).2⟩, em, es, ec', by rw [← hd]; exact ec⟩
  · have := h.len; simp at this ⊢; omega
  · rw [em, es, ec', ← hd, ec] at q1; exact q1
  · rw [em, es] at q2; exact q2
theorem top_lo {l : List Int} {m1 m2 : Option Int} (h1 : topP l m1) (h2 : topP l m2) : topP l (loM m1 m2) := by
  cases m1 with
  | none => exact h2
  | some a => cases m2 with
    | none => exact h1
    | some b => exact fun x hx => by have := h1 x hx; have := h2 x hx; omega
theorem mx_self' (a : Int) : mxI a a = a ∧ mnI a a = a := by
  unfold mxI mnI
  exact ⟨ite_self a, ite_self a⟩
theorem Lv.and {n : Int} {l : List Int} {m1 m2 : Option Int} {d0 d1 : Int} (h : Lv n l m1 d0 d1 m2) : (posL n (mxI l.sum l.sum) (mnI l.sum l.sum) (mxI (cntL l : Int) d0) (mnI (cntL l : Int) d1) (loM m1 m2)).length ≠ 0 := by
  obtain ⟨a1, a2, a3, a4⟩ := (holds_iff h.ne).mp h.h1
  obtain ⟨b1, b2, b3, b4⟩ := (holds_iff h.ne).mp h.h2
  refine fit_pos h.ne h.pos (lo_ok h.o1 h.o2) ((holds_iff h.ne).mpr ⟨a1, by rw [(mx_self' _).1, (mx_self' _).2]; exact a2, ?_, top_lo a4 b4⟩)
  unfold mxI mnI
  constructor
  · by_cases h1 : d0 > (cntL l : Int)
    · rw [if_pos h1]; omega
    · rw [if_neg h1]; omega
  · by_cases h1 : d1 < (cntL l : Int)
    · rw [if_pos h1]; omega
    · rw [if_neg h1]; omega
def flatL (n S c : Int) : List Int := levL S c ++ List.replicate (n - c).toNat 0
theorem cnt_rep0 : ∀ k : Nat, cntL (List.replicate k 0) = 0
  | 0 => rfl
  | k + 1 => by rw [List.replicate_succ, cnt_cons, cnt_rep0 k]; rfl
theorem cnt_all : ∀ l : List Int, (∀ x ∈ l, 1 ≤ x) → cntL l = l.length
  | [], _ => rfl
  | x :: l, h => by
    have := h x (List.mem_cons_self ..)
    rw [cnt_cons, if_pos (by omega), cnt_all l fun y hy => h y (List.mem_cons_of_mem _ hy), List.length_cons]; omega
theorem Lv.flat {n : Int} {l : List Int} {m1 m2 : Option Int} {d0 d1 : Int} (h : Lv n l m1 d0 d1 m2) :
    ((flatL n l.sum (cntL l : Int)).length : Int) = n ∧ (∀ x ∈ flatL n l.sum (cntL l : Int), 0 ≤ x) ∧ flatL n l.sum (cntL l : Int) ≠ [] ∧ holdsB n l.sum l.sum (cntL l : Int) (cntL l : Int) m1 (flatL n l.sum (cntL l : Int)) = topB (maxL (flatL n l.sum (cntL l : Int))) m1 := by
  obtain ⟨_, _, c3, _, cb⟩ := h.cnt
  obtain ⟨f1, f2, f3⟩ := lev_facts (S := l.sum) (c := (cntL l : Int)) (by omega) cb
  have len : ((flatL n l.sum (cntL l : Int)).length : Int) = n := by
    unfold flatL
    rw [List.length_append, List.length_replicate]; omega
  have hsum : (flatL n l.sum (cntL l : Int)).sum = l.sum := by
    unfold flatL
    rw [List.sum_append, f2]
    have : ∀ k : Nat, (List.replicate k (0 : Int)).sum = 0 := fun k => by induction k with
      | zero => rfl
      | succ k ih => rw [List.replicate_succ, List.sum_cons, ih]; rfl
    rw [this]; omega
  have hcnt : (cntL (flatL n l.sum (cntL l : Int)) : Int) = (cntL l : Int) := by
    have : cntL (flatL n l.sum (cntL l : Int)) = cntL (levL l.sum (cntL l : Int)) + cntL (List.replicate (n - (cntL l : Int)).toNat 0) := cnt_app _ _
    rw [this, cnt_rep0, cnt_all _ f3]; omega
  have hrg := h.rg
  refine ⟨len, fun x hx => ?_, fun z => ?_, ?_⟩
  · rcases List.mem_append.mp hx with hx | hx
    · have := f3 x hx; omega
    · rw [(List.mem_replicate.mp hx).2]; omega
  · rw [z] at len; simp at len; omega
  · unfold holdsB
    rw [len, hsum, hcnt]
    simp
theorem Lv.trip {n : Int} {l : List Int} {m1 m2 : Option Int} {d0 d1 : Int} (h : Lv n l m1 d0 d1 m2) : tripL n l.sum l.sum (cntL l : Int) (cntL l : Int) m1 = [[(cntL l : Int), l.sum, l.sum]] ∧ (posL n l.sum l.sum (cntL l : Int) (cntL l : Int) m1).length ≠ 0 := by
  have hp := fit_pos h.ne h.pos h.o1 h.h1
  obtain ⟨_, _, c3, c4, _⟩ := h.cnt
  obtain ⟨f1, f2, f3, _⟩ := cnt_facts l h.pos
  refine ⟨?_, hp⟩
  have hk : possK n (cntL l : Int) (cntL l : Int) = 1 := by
    unfold possK
    by_cases hn : n < (cntL l : Int)
    · omega
    · rw [if_neg hn]; omega
  unfold posL at hp
  unfold tripL posL
  rw [hk] at hp ⊢
  have hr : List.range 1 = [0] := rfl
  rw [hr] at hp ⊢
  have e0 : (cntL l : Int) + ((0 : Nat) : Int) = (cntL l : Int) := by omega
  have hlg : decide ((lgM l.sum l.sum ((cntL l : Int) + ((0 : Nat) : Int)) m1).1 ≤ (lgM l.sum l.sum ((cntL l : Int) + ((0 : Nat) : Int)) m1).2) = true := by
    cases hh : decide ((lgM l.sum l.sum ((cntL l : Int) + ((0 : Nat) : Int)) m1).1 ≤ (lgM l.sum l.sum ((cntL l : Int) + ((0 : Nat) : Int)) m1).2) with
    | true => rfl
    | false => rw [List.filter_cons, hh] at hp; exact absurd rfl hp
  rw [List.filter_cons, hlg, if_pos rfl, List.filter_nil, List.map_cons, List.map_nil]
  have hle := of_decide_eq_true hlg
  unfold lgR
  rw [e0] at hle ⊢
  have : (lgM l.sum l.sum (cntL l : Int) m1).1 = l.sum ∧ (lgM l.sum l.sum (cntL l : Int) m1).2 = l.sum := by
    unfold lgM at hle ⊢
    by_cases hc : (cntL l : Int) = 0
    · rw [if_pos hc]
      have := f2 (by omega)
      rw [this]; exact ⟨rfl, rfl⟩
    · rw [if_neg hc] at hle ⊢
      dsimp only at hle ⊢
      have hh : hiM l.sum (cntL l : Int) m1 ≤ l.sum := by
        cases m1 with
        | none => exact Int.le_refl _
        | some m =>
          show (if (cntL l : Int) * m < l.sum then (cntL l : Int) * m else l.sum) ≤ l.sum
          by_cases h6 : (cntL l : Int) * m < l.sum
          · rw [if_pos h6]; omega
          · rw [if_neg h6]; omega
      by_cases h5 : (cntL l : Int) > l.sum
      · omega
      · rw [if_neg h5] at hle ⊢
        exact ⟨rfl, by omega⟩
  rw [this.1, this.2]
end K20
namespace K20
open PySem PySem.Spec PyProof.Rows L2 Evl RZ Ev2 TA5 Ow
/-! what the law reads -/
section
variable {K : PySem.W.Frag} {σ : L2.St} {H : Hp} {ta tb te tl : TE} {tz : TS} {D : Ends} {C : Addr}
theorem q_par2 {i j : Nat} {P R : HP} (h1 : EvP ta σ H P) (h2 : EvP tb σ H R) (m : Mono P) (k : ∀ v w H1, Evl.Ex H H1 → P v H1 → R w H1 → tz D ((σ.set i (some v)).set j (some w)) H1) : tSeq (tPar i j (tCons ta (tCons tb tNil))) tz D σ H :=
  (eap_two h1 h2 m H (Ex.refl _) (fun vs H1 => ∃ v w, vs = [v, w] ∧ tz D ((σ.set i (some v)).set j (some w)) H1) fun vs H1 e1 ⟨x, y, hv, hx, hy⟩ => ⟨x, y, hv, k x y H1 e1 hx hy⟩ :)
end
def spLaw (K : PySem.W.Frag) : Sp := fun vs H Q _ => ∃ (a0 : Addr) (ns : List Int), vs = [.ref a0] ∧ SqL K H a0 (ns.map V.int) ∧ ns.length ≤ 63 ∧ ∀ H', Q (.bl true) H'
theorem dpAll_ints {K : PySem.W.Frag} {H : Hp} : ∀ ns : List Int, DpAll K H (ns.map V.int) (ns.map PyData.int)
  | [] => .nil
  | n :: ns => .cons (.int n) (dpAll_ints ns)
theorem shaped_ints (is : List Int) : SeqAt.shaped (.list (is.map PyData.int)) = true := sh_of (ints_lay is) (by show PyData.depthAll _ + 1 ≤ 64; have := ints_depth is; omega)
theorem for_enum {K : PySem.W.Frag} {a : Addr} {xs : List V} {g : TG} {tb : TS} {D : Ends} {σ : L2.St} {H : Hp} (Pv : Nat → L2.St → Hp → Prop) (h0 : Pv 0 σ H) (hl : ∀ i σ H, Pv i σ H → SqL K H a xs)
    (hs : ∀ (i : Nat) (x : V) (T : Addr) (σ : L2.St) (H : Hp), xs[i]? = some x → Pv i σ H → H T = none → g (.ref T) σ (upd H T (.tup [.int (i : Nat), x])) fun σ2 H2 => tb { D with nx := Pv (i + 1), ct := Pv (i + 1), bk := D.nx } σ2 H2) (hd : ∀ σ H, Pv xs.length σ H → D.nx σ H) :
    ∃ W : Nat → Nat → L2.St → Hp → Prop, (∃ m, W 0 m σ H) ∧ ∀ i m σ H, W i m σ H → ((Ite K a).stop i H ∧ D.nx σ H) ∨ ((Ite K a).go i H ∧ ∃ N : L2.St → Hp → Prop, (∀ σ' H', N σ' H' → ∃ m', m' < m ∧ W (i + 1) m' σ' H') ∧ ∀ v H', (Ite K a).yld i H v H' → g v σ H' fun σ2 H2 => tb { D with nx := N, ct := N, bk := D.nx } σ2 H2) := by
  refine ⟨fun i m σ H => m = xs.length - i ∧ i ≤ xs.length ∧ Pv i σ H, ⟨xs.length, rfl, Nat.zero_le _, h0⟩, ?_⟩
  rintro i m σ H ⟨rfl, hi, pv⟩
  have ql := hl i σ H pv
  by_cases hlt : i < xs.length
  · refine .inr ⟨⟨xs, xs[i], ql, List.getElem?_eq_getElem hlt⟩, Pv (i + 1), fun σ' H' p' => ⟨xs.length - (i + 1), by omega, rfl, hlt, p'⟩, fun v H' y => ?_⟩
    obtain ⟨T, x, rfl, hT, rfl, f1⟩ := y
    exact hs i x T σ H (f1 xs ql) pv hT
  · have e : i = xs.length := by omega
    subst e
    exact .inl ⟨⟨xs, ql, Nat.le_refl _⟩, hd σ H pv⟩
section
variable {K : PySem.W.Frag} {σ : L2.St} {H : Hp} {ta tb te tl : TE} {tz : TS} {D : Ends} {C CV CS CC : Addr} {s p : Addr} {xs : List Int}
theorem et_pr {a b : Int} (ha : EvP ta σ H (Pr a b)) (hb : EvP tb σ H (Pr a b)) : EvT (tTest (tOp (rNeD K) ta tb)) σ H false :=
  et_tst (evp_is (evp_neD (K := K) ha hb mono_pr (fun _ _ h => pr_dp h) (fun _ _ h => pr_dp h) rfl rfl) (by rw [SeqAt.eqv_refl _ rfl]; rfl))
theorem evp_inB {n r0 r1 d0 d1 : Int} {m : Option Int} {l : List Int} (ha : EvP ta σ H (Tu l)) (hb : EvP tb σ H (SprN C n r0 r1 d0 d1 m)) (h0 : ∀ x ∈ l, 0 ≤ x) (hne : l ≠ []) (hl : l.length ≤ 1000) : EvP (tOp (rOwnIn C (spIn C) E0 false) ta tb) σ H (Is (.bl (holdsB n r0 r1 d0 d1 m l))) :=
  evp_op ha hb mf_tu.mono fun x y H1 _ hx hy Q q => by
    obtain ⟨y1, z1, ⟨a, dx, rfl, h1⟩, hy1, hz1⟩ := id hy
    exact ⟨a, dx, _, rfl, h1, _, x, n, r0, r1, d0, d1, m, l, rfl, hy, hx, h0, hne, hl, fun v H2 e2 hv => ⟨_, hv, q _ H2 e2 rfl⟩⟩
theorem kind_spr {n r0 r1 d0 d1 : Int} {m : Option Int} {v : V} (h : SprN C n r0 r1 d0 d1 m v H) : KindOf K H v (.ref C) := by
  obtain ⟨y, z, ⟨a, dx, rfl, ha⟩, _⟩ := h
  exact .ins ha
theorem evp_pR {n r0 r1 d0 d1 : Int} {m : Option Int} (h : EvP te σ H (SprN C n r0 r1 d0 d1 m)) : EvP (tProp C (spProp C fun _ y _ _ => y) [] E0 te) σ H (Pr r0 r1) := fun H1 e Q q => h H1 e _ fun v H2 e2 hv => by
  obtain ⟨y, z, ⟨a, dx, rfl, ha⟩, hy, hz⟩ := id hv
  exact ⟨a, dx, _, rfl, ha, .ref a, .int n, y, z, OI m, rfl, ⟨a, dx, rfl, ha⟩, fun H3 e3 => q y H3 (e2.trans e3) (mono_pr _ _ _ e3 hy)⟩
theorem evp_pD {n r0 r1 d0 d1 : Int} {m : Option Int} (h : EvP te σ H (SprN C n r0 r1 d0 d1 m)) : EvP (tProp C (spProp C fun _ _ z _ => z) [] E0 te) σ H (Pr d0 d1) := fun H1 e Q q => h H1 e _ fun v H2 e2 hv => by
  obtain ⟨y, z, ⟨a, dx, rfl, ha⟩, hy, hz⟩ := id hv
  exact ⟨a, dx, _, rfl, ha, .ref a, .int n, y, z, OI m, rfl, ⟨a, dx, rfl, ha⟩, fun H3 e3 => q z H3 (e2.trans e3) (mono_pr _ _ _ e3 hz)⟩
theorem evp_pM {n r0 r1 d0 d1 : Int} {m : Option Int} (h : EvP te σ H (SprN C n r0 r1 d0 d1 m)) : EvP (tProp C (spProp C fun _ _ _ w => w) [] E0 te) σ H (Is (OI m)) := fun H1 e Q q => h H1 e _ fun v H2 e2 hv => by
  obtain ⟨y, z, ⟨a, dx, rfl, ha⟩, hy, hz⟩ := id hv
  exact ⟨a, dx, _, rfl, ha, .ref a, .int n, y, z, OI m, rfl, ⟨a, dx, rfl, ha⟩, fun H3 e3 => q (OI m) H3 (e2.trans e3) rfl⟩
theorem tu_of3 {n : Nat} {c : Int → Prop} {v : V} {H : Hp} (h : TupP n (fun _ => BI c) v H) : ∃ l : List Int, l.length = n ∧ (∀ x ∈ l, c x) ∧ Tu l v H := by
  obtain ⟨p, ys, h1, h2, h3, h4⟩ := h
  have e : (ys.map vI).map V.int = ys := by
    rw [List.map_map]
    have : ys.map (V.int ∘ vI) = ys.map id := List.map_congr_left fun y hy => by
      obtain ⟨i, hi, rfl⟩ := List.mem_iff_getElem.mp hy
      obtain ⟨j, hj, _⟩ := h4 i _ (List.getElem?_eq_getElem hi)
      show V.int (vI ys[i]) = ys[i]
      rw [hj]; rfl
    rw [this, List.map_id]
  refine ⟨ys.map vI, by simp [h3], fun x hx => ?_, p, h1, by rw [e]; exact h2⟩
  obtain ⟨y, hy, rfl⟩ := List.mem_map.mp hx
  obtain ⟨i, hi, rfl⟩ := List.mem_iff_getElem.mp hy
  obtain ⟨j, hj, h5⟩ := h4 i _ (List.getElem?_eq_getElem hi)
  rw [hj]; exact h5
theorem evp_cntI {l : List Int} {i : Nat} (h : EvP tl σ H (Tu l)) (hl : l.length ≤ 1000) (hi : i < σ.length) (hw : ∀ v, wipe (σ.set i (some v)) [i] = wipe σ [i]) (hwi : ∀ v, (wipe σ [i]).set i (some v) = σ.set i (some v)) :
    EvP (tCB (rLenQ K) (tCons (tLc (iTup K tl) (gName i) (tTest (tOp (rI0 fun i j => .bl (decide (i > j))) (tVar i) (tC (.int 0)))) (tVar i) [i]) tNil)) σ H (Is (.int (cntL l : Int))) :=
  evp_lenL (K := K) ((evp_lcF (vs := [i]) (g := gName i) (f := fun j => decide (l.getD j 0 > 0)) (n := l.length) (Pi := fun j => Is (.int (l.getD j 0))) (wx_tup (K := K) (h.imp fun v H1 _ h => tu_tup h) fun _ => mono_is) (by omega)
    (Sg := fun j σ2 _ => σ2 = σ.set i (some (.int (l.getD j 0)))) (fun j y H1 hj e1 hy => by rw [show y = _ from hy]; exact g_name (i := i) ⟨by rw [hwi]; exact hw _, hwi _⟩) (fun j σ2 H1 hj e1 hs2 => by subst hs2; exact et_tst (evp_I0 (g := fun i j => .bl (decide (i > j))) (evp_var (i := i) (v := .int (l.getD j 0)) (by simp [hi]) rfl mono_is) (evp_c (v := .int 0))))
    (fun j σ2 H1 hj e1 hs2 => by subst hs2; exact evp_var (i := i) (by simp [hi]) rfl mono_is) fun _ => mf_is).imp fun v H1 _ ⟨p, ys, h1, h2, h3⟩ => ⟨p, ys, h1, h2, by rw [Paired.len h3]; exact filter_range (fun x => decide (x > 0)) l⟩)
theorem evp_mk {E : L2.St → XK} {t1 t2 t3 t4 : TE} {n r0 r1 d0 d1 : Int} {m : Option Int} (h1 : EvP t1 σ H (Is (.int n))) (h2 : EvP t2 σ H (Pr r0 r1)) (h3 : EvP t3 σ H (Pr d0 d1)) (h4 : EvP t4 σ H (Is (OI m))) (hn : 1 ≤ n ∧ n ≤ 64) (h0 : 0 ≤ r0 ∧ 0 ≤ d0 ∧ d0 ≤ 1000) (hm : okM m) (hp : (posL n r0 r1 d0 d1 m).length ≠ 0) : EvP (tMakeS C (spMk C CV CS CC) [] E (tCons t1 (tCons t2 (tCons t3 (tCons t4 tNil))))) σ H (SprN C n r0 r1 d0 d1 m) := fun H1 e Q q =>
  ts_mkP (A := fun vs H' => ∃ y z, vs = [.int n, y, z, OI m] ∧ Pr r0 r1 y H' ∧ Pr d0 d1 z H') (fun H' e' Q q => h1 H' (e.trans e') _ fun u1 H3 e3 hu1 => h2 H3 ((e.trans e').trans e3) _ fun u2 H4 e4 hu2 => h3 H4 (((e.trans e').trans e3).trans e4) _ fun u3 H5 e5 hu3 => h4 H5 ((((e.trans e').trans e3).trans e4).trans e5) _ fun u4 H6 e6 hu4 => q _ H6 (((e3.trans e4).trans e5).trans e6) ⟨u2, u3, by rw [show u1 = _ from hu1, show u4 = _ from hu4], mono_pr _ _ _ (e5.trans e6) hu2, mono_pr _ _ _ e6 hu3⟩) fun vs H3 e3 ⟨y, z, hv, hy, hz⟩ a dx ha hdx hne' => by
    subst hv
    exact mk_ok hn h0 hm hp hy hz (fun v H6 e6 hv => q v H6 (e3.trans e6) hv) a dx ha hdx hne'
theorem gs_spr {H2 : Hp} {n r0 r1 d0 d1 : Int} {m : Option Int} {x : V} (g : Gs s H H2) (d : Dr s p xs H) (h : SprN C n r0 r1 d0 d1 m x H) : SprN C n r0 r1 d0 d1 m x H2 := by
  obtain ⟨y, z, ⟨a, dx, h1, h2⟩, hy, hz⟩ := h
  exact ⟨y, z, ⟨a, dx, h1, Gs.fx g d _ _ h2 (fun _ z => nomatch z)⟩, gs_pr g d hy, gs_pr g d hz⟩
/-- x == 0 or draw(..) == 0 -/
theorem evd_or0 {x : Int} (ha : ∀ H1, Gs s H H1 → Dr s p xs H1 → EvP ta σ H1 (Is (.int x))) (hb : EvD s p xs tb σ H (BI fun r => 0 ≤ r ∧ r < 2)) : EvD s p xs (tOrV (tOp rEq ta (tC (.int 0))) (tOp rEq tb (tC (.int 0)))) σ H (fun v _ => ∃ g : Bool, v = .bl g ∧ (g = false → x ≠ 0)) := fun H1 e d Q q =>
  (evp_eq (ha H1 e d) (evp_c (v := .int 0)) rfl) H1 (Ex.refl _) _ fun v H2 e2 hv => ⟨_, hv, by
    by_cases h0 : x = 0
    · subst h0
      rw [if_pos (by simp)]
      exact q _ H2 (Gs.of e2) (d.ex e2) ⟨true, rfl, fun z => nomatch z⟩
    · rw [if_neg (by simpa using h0)]
      exact opD (hb H2 (e.trans (Gs.of e2)) (d.ex e2) _ fun y H3 e3 d3 ⟨j, hy, _⟩ => (rv_eq (y := .int 0) (by rw [hy]; rfl)) H3 (Ex.refl _) Q fun H4 e4 => q _ H4 (((Gs.of e2).trans e3).trans (Gs.of e4)) (d3.ex e4) ⟨_, rfl, fun _ => h0⟩)⟩
/-- [None, x][draw(.., 2)] -/
theorem evd_most {x : Int} (ha : ∀ H1, Gs s H H1 → Dr s p xs H1 → EvP ta σ H1 (Is (.int x))) (hb : EvD s p xs tb σ H (BI fun r => 0 ≤ r ∧ r < 2)) : EvD s p xs (tOp (rIxL K) (tLst (tCons (tC .non) (tCons ta tNil))) tb) σ H (fun v _ => ∃ m, v = OI m ∧ (m = none ∨ m = some x)) := fun H1 e d Q q =>
  (ha H1 e d) H1 (Ex.refl _) _ fun v H2 e2 hv => ⟨by show 2 ≤ sizeLine; decide, fun a ha' => by
    have hv' : v = .int x := hv
    subst hv'
    have e3 : Evl.Ex H2 (upd H2 a (.lst [.non, .int x])) := Ex.new ha'
    have l3 : (upd H2 a (.lst [.non, .int x])) a = some (.lst [.non, .int x]) := upd_same
    have d3 := (d.ex e2).ex e3
    have ne : a ≠ s := fun z => by
      obtain ⟨k, hk⟩ := d3.at_
      rw [← z, l3] at hk; cases hk
    exact hb _ ((e.trans (Gs.of e2)).trans (Gs.of e3)) d3 _ fun y H4 g4 d4 ⟨j, hy, hj⟩ => by
      have l4 := g4 _ _ ne l3
      have hj2 : j = 0 ∨ j = 1 := by omega
      rcases hj2 with rfl | rfl
      · exact ⟨a, _, 0, .non, rfl, hy, sq_of l4, atI_nat (j := 0) rfl, q _ H4 (((Gs.of e2).trans (Gs.of e3)).trans g4) d4 ⟨none, rfl, .inl rfl⟩⟩
      · exact ⟨a, _, 1, .int x, rfl, hy, sq_of l4, atI_nat (j := 1) rfl, q _ H4 (((Gs.of e2).trans (Gs.of e3)).trans g4) d4 ⟨some x, rfl, .inr rfl⟩⟩⟩
/-- heights with one changed -/
theorem evp_chg {a b : List Int} {x : Int} {g : Bool} {v5 : V} (h5 : σ[5]? = some (some v5)) (h12 : σ[12]? = some (some (.int (a.length : Int)))) (h13 : σ[13]? = some (some (.bl g))) (ht : Tu (a ++ x :: b) v5 H) (hl : a.length + b.length ≤ 1000) :
    EvP (tOp (rCatA K) (tOp (rCatA K) (tSl (rSlA K) (tVar 5) tNoPart (tPart (tVar 12))) (tTup (tCons (tOp (rI0 fun i j => .int (i + j)) (tOp (rIxT K) (tVar 5) (tVar 12)) (tIf (tB (tVar 13)) (tC (.int 1)) (tUn (rU fun i => .int (-i)) (tC (.int 1))))) tNil))) (tSl (rSlA K) (tVar 5) (tPart (tOp (rI0 fun i j => .int (i + j)) (tVar 12) (tC (.int 1)))) tNoPart)) σ H (Tu (a ++ (x + sR g) :: b)) := by
  obtain ⟨p, rfl, hp⟩ := id ht
  have v12 : EvP (tVar 12) σ H (Is (.int (a.length : Int))) := evp_var h12 rfl mono_is
  have h0 : EvP (tVar 5) σ H (TupP (a ++ x :: b).length fun i => Is (.int ((a ++ x :: b).getD i 0))) := (evp_var h5 ht mf_tu.mono).imp fun v H1 _ h => tu_tup h
  have e1 : EvP (tSl (rSlA K) (tVar 5) tNoPart (tPart (tVar 12))) σ H (Tp (a.map V.int)) := (evp_slA (K := K) (lo := none) (hi := some (a.length : Int)) (ev_var (i := 5) h5) eo_none (eo_some v12.ev) hp).imp fun v H1 _ ⟨q, h1, h2⟩ => ⟨q, h1, by rw [h2, cutV_to]; simp⟩
  have e3 : EvP (tSl (rSlA K) (tVar 5) (tPart (tOp (rI0 fun i j => .int (i + j)) (tVar 12) (tC (.int 1)))) tNoPart) σ H (Tp (b.map V.int)) := (evp_slA (K := K) (lo := some ((a.length + 1 : Nat) : Int)) (hi := none) (ev_var (i := 5) h5) (eo_some (EvP.ev (evp_is (evp_I0 (g := fun i j => .int (i + j)) v12 (evp_c (v := .int 1))) (by push_cast; rfl)))) eo_none hp).imp fun v H1 _ ⟨q, h1, h2⟩ => ⟨q, h1, by rw [h2, cutV_from, List.map_append, List.map_cons, drop_mid]⟩
  have hs : EvP (tIf (tB (tVar 13)) (tC (.int 1)) (tUn (rU fun i => .int (-i)) (tC (.int 1)))) σ H (Is (.int (sR g))) := evp_if (b := g) (et_bl (evp_var h13 rfl mono_is)) (fun hg => by subst hg; exact evp_c (v := .int 1)) fun hg => by subst hg; exact evp_neg
  have e2 := evp_one (evp_is (evp_I0 (g := fun i j => .int (i + j)) (evp_is (evp_ixT (K := K) (i := a.length) h0 v12 (by simp) fun _ => mf_is) (y := .int x) (by simp)) hs) rfl)
  refine (evp_catA (K := K) (evp_catA (K := K) e1 e2 (by simp; omega)) e3 (by simp; omega)).imp fun v H2 _ ⟨q', h1, h2⟩ => ⟨q', h1, by rw [h2]; simp⟩
theorem evp_both {n r0 r1 d0 d1 e0 e1 : Int} {m m' : Option Int} {E : L2.St → XK} (hn : 1 ≤ n ∧ n ≤ 64) (h0 : 0 ≤ r0 ∧ 0 ≤ r1) (h1 : (0 ≤ d0 ∧ d0 ≤ 1000) ∧ 0 ≤ d1) (h2 : (0 ≤ e0 ∧ e0 ≤ 1000) ∧ 0 ≤ e1) (hm : okM m) (hm' : okM m') (hp : (posL n (mxI r0 r0) (mnI r1 r1) (mxI d0 e0) (mnI d1 e1) (loM m m')).length ≠ 0)
    (ha : EvP ta σ H (SprN C n r0 r1 d0 d1 m)) (hb : EvP tb σ H (SprN C n r0 r1 e0 e1 m')) : EvP (tOwnS K C "and" (spAnd K C CS CC) E ta tb) σ H (SprN C n r0 r1 (mxI d0 e0) (mnI d1 e1) (loM m m')) :=
  evp_op ha hb mono_sprN fun x y H1 _ hx hy Q q => by
    obtain ⟨y1, z1, ⟨a, dx, rfl, g1⟩, hy1, hz1⟩ := id hx
    refine ⟨a, dx, _, .ref C, rfl, g1, kind_spr hy, .inl rfl, _, y, n, r0, r1, d0, d1, m, rfl, hx, hn, ⟨h0, h1.1, h1.2⟩, hm, .inr (.inr ⟨r0, r1, e0, e1, m', hy, ⟨h0, h2.1, h2.2⟩, hm', fun hl => absurd hl hp, fun hl v H2 e2 hv => ?_⟩)⟩
    rw [(mx_self' r0).1, (mx_self' r1).2] at hv; exact q v H2 e2 hv
theorem evp_narT {n S c : Int} {m : Option Int} (hn : 1 ≤ n ∧ n ≤ 64) (hS : 0 ≤ S) (hc : 0 ≤ c ∧ c ≤ 1000) (hm : okM m) (ht : tripL n S S c c m = [[c, S, S]]) (hp : (posL n S S c c m).length ≠ 0) (h : EvP te σ H (SprN C n S S c c m)) : EvP (tMeth C "narrowed" (spNar C) [] E0 te tNil) σ H (SprN C n S S c c m) := fun H1 e Q q => h H1 e _ fun v H2 e2 hv => by
  obtain ⟨y, z, ⟨a, dx, rfl, ha⟩, hy, hz⟩ := id hv
  refine ⟨a, dx, _, rfl, ha, rfl, ?_⟩
  exact ⟨.ref a, n, S, S, c, c, m, rfl, hv, hn, ⟨hc.1, hc.2, by omega⟩, hm, by rw [ht]; simp, by rw [ht]; exact ⟨hS, hc.1, hc.2⟩, by rw [ht]; exact hp, fun w H3 e3 hw => q w H3 (e2.trans e3) (by rw [ht] at hw; exact hw)⟩
theorem evp_top {m1 M : Option Int} {l : List Int} (hM : m1 = none ↔ M = none) (h6 : EvP ta σ H (Is (OI M))) (hl : EvP tl σ H (Tu l)) (hne : l ≠ []) (h7 : EvP tb σ H (Is (OI m1))) : EvP (tOrV (tOp rNon ta (tC .non)) (tOp (rI0 fun i j => .bl (decide (i ≤ j))) (tCB (rMaxT K) (tCons tl tNil)) tb)) σ H (Is (.bl (topB (maxL l) m1))) := by
  cases M with
  | none =>
    rw [hM.mpr rfl] at *
    exact evp_is (evp_or (a := true) (b := true) (evp_is (evp_non h6) rfl) fun z => nomatch z) rfl
  | some u =>
    cases m1 with
    | none => cases hM.mp rfl
    | some a => exact evp_is (evp_or (a := false) (b := decide (maxL l ≤ a)) (evp_is (evp_non h6) rfl) fun _ => evp_I0 (g := fun i j => .bl (decide (i ≤ j))) (evp_maxT (K := K) hl hne) h7) (by rw [Bool.false_or]; rfl)
end
theorem Lv.start {n : Int} {l : List Int} {m : Option Int} (hn : 1 ≤ n ∧ n ≤ 6) (hl : (l.length : Int) = n) (h0 : ∀ x ∈ l, 0 ≤ x) (hm : m = none ∨ m = some (mxI 1 (maxL l))) : Lv n l m (cntL l : Int) (cntL l : Int) m := by
  have hne : l ≠ [] := fun z => by rw [z] at hl; simp at hl; omega
  have hk : okM m ∧ topP l m := by
    rcases hm with rfl | rfl
    · exact ⟨trivial, trivial⟩
    · refine ⟨?_, fun x hx => ?_⟩
      · show 1 ≤ mxI 1 (maxL l)
        unfold mxI
        by_cases h : maxL l > 1
        · rw [if_pos h]; omega
        · rw [if_neg h]; omega
      · have := (maxL_mem l hne).2 x hx
        unfold mxI
        by_cases h : maxL l > 1
        · rw [if_pos h]; omega
        · rw [if_neg h]; omega
  have hh : holdsB n l.sum l.sum (cntL l : Int) (cntL l : Int) m l = true := (holds_iff hne).mpr ⟨hl, ⟨by omega, by omega⟩, ⟨by omega, by omega⟩, hk.2⟩
  exact ⟨hl, hn, h0, hh, hh, hk.1, hk.1, by omega⟩
theorem mM_none {m : Option Int} {k : Int} : mM m k = none ↔ m = none := by cases m <;> simp [mM]
end K20
set_option maxHeartbeats 8100000
namespace K20
open PySem PySem.Spec PyProof.Rows L2 Evl RZ Ev2 TA5 Ow
/-! the law -/
abbrev s_law : Stmt := topS 29
abbrev N_law : List Str := ["_law_script", "_law_k", "_law_cell", "_law_state", "_law_size", "_law_heights", "_law_most", "_law_sharp", "_law_blunt", "_law_turn", "_law_rows", "_law_kinds", "_law_at", "_law_grows", "_law_known", "_law_flat", "_law_value", "_law_one"]
theorem sc_law : FnScope N_law ["_law_script"] (defScope s_law) := ⟨rfl, rfl, rfl, by decide +kernel, rfl, by decide +kernel, by decide +kernel⟩
section
variable {P : Program} {w : World} {K : PySem.W.Frag} {mg : Str → Option Value} {base : Heap} {tk : Tok} {k : Nat} {C fI CV iV CS iS CC iC : Addr}
theorem ok_law {fa f1 f2 f3 a1 a2 a3 a4 a5 q2 q3 q4 : Addr} {fd e1 e2 e3 b1 b2 b3 b4 b5 h2 h3 h4 d4 : FuncData} {g2 g3 g4 : Addr} {dvs : List V} (T : Txt mg tk) (SK : SpK K mg C fI)
    (D__law_draw : Df K mg "_law_draw" s_law_draw ["_law_state", "_law_many"] f1 e1) (G__law_draw : FnOk P w K mg base CX0 (k + 1) f1 e1 ["_law_state", "_law_many"] spDraw)
    (D__law_pool : Df K mg "_law_pool" s_law_pool ["_law_cell", "_law_salt", "_law_many"] f2 e2) (G__law_pool : FnOk P w K mg base CX0 (k + 2) f2 e2 ["_law_cell", "_law_salt", "_law_many"] spPool)
    (D_level : Df K mg "level" s_level ["rows", "different"] f3 e3) (G_level : FnOk P w K mg base CX0 (k + 4) f3 e3 ["rows", "different"] spLev)
    (M_init : FD K "__init__" "Spread.__init__" s_Spread_init ["self", "size", "rows", "different", "most"] dvs fI d4) (G_init : FnOk P w K mg base (L2.CX P w) (k + 6) fI d4 ["self", "size", "rows", "different", "most"] (spMk C CV CS CC))
    (W_grown : Meth K C "grown" a1) (G_grown : FnOk P w K mg base (L2.CX P w) (k + 10) a1 b1 ["self", "known"] (spGr C CS CC true)) (b_grown : Binds K b1 ["self", "known"] []) (c_grown : Binds K b1 ["self", "known"] [Value.none])
    (W_shrunk : Meth K C "shrunk" a2) (G_shrunk : FnOk P w K mg base (L2.CX P w) (k + 10) a2 b2 ["self", "last"] (spGr C CS CC false)) (b_shrunk : Binds K b2 ["self", "last"] []) (c_shrunk : Binds K b2 ["self", "last"] [Value.none])
    (G_in : FnOk P w K mg base CX0 (k + 4) a3 b3 ["self", "heights"] (spIn C)) (hs_in : PySem.W.findIn K (.ref C) "__contains__" = some (some (.ref a3))) (hf_in : PySem.W.isFn K (.ref a3) = true) (b_in : Binds K b3 ["self", "heights"] [])
    (M_nar : Meth K C "narrowed" a4) (G_nar : FnOk P w K mg base CX0 (k + 8) a4 b4 ["self"] (spNar C)) (b_nar : Binds K b4 ["self"] [])
    (G_and : FnOk P w K mg base (L2.CX P w) (k + 8) a5 b5 ["self", "other"] (spAnd K C CS CC)) (B_and : BinOk K C a5 "and") (b_and : Binds K b5 ["self", "other"] [])
    (P_rows : Pf K C "rows" "Spread.rows" s_Spread_rows q2 g2 h2) (G_rows : FnOk P w K mg base CX0 (k + 1) g2 h2 ["self"] (spProp C fun _ y _ _ => y))
    (P_different : Pf K C "different" "Spread.different" s_Spread_different q3 g3 h3) (G_different : FnOk P w K mg base CX0 (k + 1) g3 h3 ["self"] (spProp C fun _ _ z _ => z))
    (P_most : Pf K C "most" "Spread.most" s_Spread_most q4 g4 h4) (G_most : FnOk P w K mg base CX0 (k + 1) g4 h4 ["self"] (spProp C fun _ _ _ w => w))
    (D : Df K mg "law" s_law ["_law_script"] fa fd) : FnOk P w K mg base CX0 (k + 12) fa fd ["_law_script"] (spLaw K) := by
  refine D.F.ok sc_law (fun vs H Q E hh => ?_) (fun cdv A outer s H vs Q E hr hh => ?_)
  · obtain ⟨a0, ns, rfl, _⟩ := hh
    rfl
  · obtain ⟨a0, ns, rfl, hS, hlen, q⟩ := hh
    have nd := sc_law.nd
    refine ⟨_, (pss_cons (ps_for PassesOwn.never rfl (pi_enum (by rfl) T.n_enumerate (pa_cons (pe_op op_cat (pe_slice (r := rSlL K) sl_list (pv 0) po_none (po_some pe_int)) (pe_op op_rep (pe_lst (pa_cons pe_int pa_nil)) (pe_callTy call_int1 (by rfl) T.n_int PyProof.Rows.boot_int (pa_cons (pe_cmpR (r := rEqD K) (op_eqD hr.units) (pv 0) (pe_lst pa_nil) (nomark _)) pa_nil)))) pa_nil)) (pg_tup rfl (pgs_cons (pg_name (i := 1) nd rfl (Or.inl rfl)) (pgs_cons (pg_name (i := 2) nd rfl (Or.inl rfl)) pgs_nil))) (pss_cons (ps_set (i := 3) nd rfl (Or.inr rfl) (pe_call G__law_pool (hr.mono (by omega)) (by rfl) D__law_pool.g D__law_pool.F.kp D__law_pool.b .nil pass0 (pa_cons (pv 2) (pa_cons (pe_op op_add pe_int (pv 1)) (pa_cons pe_int pa_nil))))) (pss_cons (ps_set (i := 4) nd rfl (Or.inl rfl) (pe_op op_add pe_int (pe_call G__law_draw (hr.mono (by omega)) (by rfl) D__law_draw.g D__law_draw.F.kp D__law_draw.b .nil pass0 (pa_cons (pv 3) (pa_cons pe_int pa_nil))))) (pss_cons (ps_set (i := 5) nd rfl (Or.inl rfl) (pe_callTy (r := rTupQ K) call_tuple_of (by rfl) T.n_tuple PyProof.Rows.boot_tuple (pa_cons (pe_lc (wi := iRng1 _) (g := gName 16) (own := [("_law_value", 16)]) (by rfl) nd (pi_range1 (by rfl) T.n_range (pa_cons (pv 4) pa_nil)) (blkOk_by (by kernel_rfl)) (fun _ _ _ _ _ => (pg_name (i := 16) nd rfl (Or.inl rfl))) (fun _ _ _ _ _ => pts_nil) (fun _ _ _ _ _ => (pe_call G__law_draw (hr.mono (by omega)) (by rfl) D__law_draw.g D__law_draw.F.kp D__law_draw.b .nil pass0 (pa_cons (pv 3) (pa_cons pe_int pa_nil))))) pa_nil))) (pss_cons (ps_par (i := 10) (j := 11) rfl nd rfl rfl (by decide) rfl rfl (pa_cons (pe_callB (r := rSumT K) (cr_sumT rfl) (by rfl) T.n_sum PyProof.Rows.boot_sum (pa_cons (pv 5) pa_nil)) (pa_cons (pe_callB (r := rLenQ K) call_len_seq (by rfl) T.n_len PySem.boot_len (pa_cons (pe_lc (wi := iTup K _) (g := gName 17) (own := [("_law_one", 17)]) (by rfl) nd (pi_tup (pv 5)) (blkOk_by (by kernel_rfl)) (fun _ _ _ _ _ => (pg_name (i := 17) nd rfl (Or.inl rfl))) (fun _ _ _ _ _ => (pts_one (pt_cmpR op_gt (pv 17) pe_int (nomark _)))) (fun _ _ _ _ _ => (pv 17))) pa_nil)) pa_nil)) rfl) (pss_cons (ps_set (i := 6) nd rfl (Or.inl rfl) (pe_ix (r := rIxL K) ix_list (pe_lst (pa_cons pe_non (pa_cons (pe_callB (call_max2 rfl) (by rfl) T.n_max PyProof.Rows.boot_max (pa_cons pe_int (pa_cons (pe_callB (r := rMaxT K) (cr_maxT rfl) (by rfl) T.n_max PyProof.Rows.boot_max (pa_cons (pv 5) pa_nil)) pa_nil))) pa_nil))) (pe_call G__law_draw (hr.mono (by omega)) (by rfl) D__law_draw.g D__law_draw.F.kp D__law_draw.b .nil pass0 (pa_cons (pv 3) (pa_cons pe_int pa_nil))) (fun _ _ => rfl))) (pss_cons (ps_set (i := 7) nd rfl (Or.inl rfl) (pe_makeS SK.mkc G_init (hr.mono (by omega)) (by rfl) SK.gC M_init.b .nil (fun σ => passAt (W := fun _ _ _ _ => False) takes0 σ) (pa_cons (pv 4) (pa_cons (pe_tup (pa_cons (pv 10) (pa_cons (pv 10) pa_nil))) (pa_cons (pe_tup (pa_cons (pv 11) (pa_cons (pv 11) pa_nil))) (pa_cons (pv 6) pa_nil)))))) (pss_cons (ps_set (i := 8) nd rfl (Or.inl rfl) (pe_makeS SK.mkc G_init (hr.mono (by omega)) (by rfl) SK.gC M_init.b .nil (fun σ => passAt (W := fun _ _ _ _ => False) takes0 σ) (pa_cons (pv 4) (pa_cons (pe_tup (pa_cons (pv 10) (pa_cons (pv 10) pa_nil))) (pa_cons (pe_tup (pa_cons (pv 11) (pa_cons (pv 11) pa_nil))) (pa_cons (pv 6) pa_nil)))))) (pss_one (ps_for PassesOwn.never rfl (pi_range1 (by rfl) T.n_range (pa_cons pe_int pa_nil)) (pg_name (i := 9) nd rfl (Or.inl rfl)) (pss_cons (ps_set (i := 12) nd rfl (Or.inl rfl) (pe_call G__law_draw (hr.mono (by omega)) (by rfl) D__law_draw.g D__law_draw.F.kp D__law_draw.b .nil pass0 (pa_cons (pv 3) (pa_cons (pv 4) pa_nil)))) (pss_cons (ps_set (i := 13) nd rfl (Or.inl rfl) (pe_or (pe_cmpR op_eq (pe_ix (r := rIxT K) ix_tup (pv 5) (pv 12) (fun _ _ => rfl)) pe_int (nomark _)) (pe_one (pe_cmpR op_eq (pe_call G__law_draw (hr.mono (by omega)) (by rfl) D__law_draw.g D__law_draw.F.kp D__law_draw.b .nil pass0 (pa_cons (pv 3) (pa_cons pe_int pa_nil))) pe_int (nomark _))))) (pss_cons (ps_set (i := 14) nd rfl (Or.inl rfl) (pe_ifExp (pt_val (pv 13)) (pe_cmpR op_gt (pe_ix (r := rIxT K) ix_tup (pv 5) (pv 12) (fun _ _ => rfl)) pe_int (nomark _)) (pe_cmpR op_eq (pe_ix (r := rIxT K) ix_tup (pv 5) (pv 12) (fun _ _ => rfl)) pe_int (nomark _)))) (pss_cons (ps_set (i := 7) nd rfl (Or.inl rfl) (pe_ifExp (pt_val (pv 13)) (pe_methE (pv 7) SK.cl W_grown G_grown (hr.mono (by omega)) b_grown .nil (fun σ => passAt (W := fun _ _ _ _ => False) takes0 σ) (pa_cons (pv 14) pa_nil)) (pe_methE (pv 7) SK.cl W_shrunk G_shrunk (hr.mono (by omega)) b_shrunk .nil (fun σ => passAt (W := fun _ _ _ _ => False) takes0 σ) (pa_cons (pv 14) pa_nil)))) (pss_cons (ps_set (i := 8) nd rfl (Or.inl rfl) (pe_ifExp (pt_val (pv 13)) (pe_methE0 (pv 8) SK.cl W_grown G_grown (hr.mono (by omega)) c_grown (show Vals [V.non] [Value.none] from .cons rfl .nil) (fun σ => passAt (W := fun _ _ _ _ => False) takes0 σ)) (pe_methE0 (pv 8) SK.cl W_shrunk G_shrunk (hr.mono (by omega)) c_shrunk (show Vals [V.non] [Value.none] from .cons rfl .nil) (fun σ => passAt (W := fun _ _ _ _ => False) takes0 σ)))) (pss_cons (ps_set (i := 5) nd rfl (Or.inl rfl) (pe_op (r := rCatA K) op_catA (pe_op (r := rCatA K) op_catA (pe_slice (r := rSlA K) sl_tupA (pv 5) po_none (po_some (pv 12))) (pe_tup (pa_cons (pe_op op_add (pe_ix (r := rIxT K) ix_tup (pv 5) (pv 12) (fun _ _ => rfl)) (pe_ifExp (pt_val (pv 13)) pe_int (pe_un un_neg pe_int))) pa_nil))) (pe_slice (r := rSlA K) sl_tupA (pv 5) (po_some (pe_op op_add (pv 12) pe_int)) po_none))) (pss_cons (ps_set (i := 11) nd rfl (Or.inl rfl) (pe_callB (r := rLenQ K) call_len_seq (by rfl) T.n_len PySem.boot_len (pa_cons (pe_lc (wi := iTup K _) (g := gName 17) (own := [("_law_one", 17)]) (by rfl) nd (pi_tup (pv 5)) (blkOk_by (by kernel_rfl)) (fun _ _ _ _ _ => (pg_name (i := 17) nd rfl (Or.inl rfl))) (fun _ _ _ _ _ => (pts_one (pt_cmpR op_gt (pv 17) pe_int (nomark _)))) (fun _ _ _ _ _ => (pv 17))) pa_nil))) (pss_cons (ps_if (PW.pt (pw_or (pt_cmpR (r := rOwnIn C (spIn C) E0 true) (op_ownNotIn G_in hs_in hf_in b_in (hr.mono (by omega)) pass0) (pv 5) (pv 7) (by rfl)) (pw_or (pt_cmpR (r := rOwnIn C (spIn C) E0 true) (op_ownNotIn G_in hs_in hf_in b_in (hr.mono (by omega)) pass0) (pv 5) (pv 8) (by rfl)) (pw_or1 (pt_cmpR (op_neD hr.units) (pe_prop (pv 7) SK.cl P_different.hp G_different (hr.mono (by omega)) P_different.b .nil pass0 rfl) (pe_tup (pa_cons (pv 11) (pa_cons (pv 11) pa_nil))) (nomark _)))))) (pss_one (ps_ret pe_bl)) pss_nil) (pss_cons (ps_if (PW.pt (pw_or (pt_cmpR (op_neD hr.units) (pe_prop (pv 7) SK.cl P_rows.hp G_rows (hr.mono (by omega)) P_rows.b .nil pass0 rfl) (pe_tup (pa_cons (pe_callB (r := rSumT K) (cr_sumT rfl) (by rfl) T.n_sum PyProof.Rows.boot_sum (pa_cons (pv 5) pa_nil)) (pa_cons (pe_callB (r := rSumT K) (cr_sumT rfl) (by rfl) T.n_sum PyProof.Rows.boot_sum (pa_cons (pv 5) pa_nil)) pa_nil))) (nomark _)) (pw_or1 (pt_cmpR (op_neD hr.units) (pe_prop (pv 8) SK.cl P_rows.hp G_rows (hr.mono (by omega)) P_rows.b .nil pass0 rfl) (pe_prop (pv 7) SK.cl P_rows.hp G_rows (hr.mono (by omega)) P_rows.b .nil pass0 rfl) (nomark _))))) (pss_one (ps_ret pe_bl)) pss_nil) (pss_cons (ps_if (pt_cmpR (op_neD hr.units) (pe_prop (show PE _ _ (tOwnS K C "and" (spAnd K C CS CC) (WE fun _ _ _ _ => False) (tVar 7) (tVar 8)) from pe_ownS (op := .BitAnd) G_and B_and b_and (hr.mono (by omega)) (fun σ => passAt (W := fun _ _ _ _ => False) takes0 σ) (pv 7) (pv 8)) SK.cl P_rows.hp G_rows (hr.mono (by omega)) P_rows.b .nil pass0 rfl) (pe_prop (pv 8) SK.cl P_rows.hp G_rows (hr.mono (by omega)) P_rows.b .nil pass0 rfl) (nomark _)) (pss_one (ps_ret pe_bl)) pss_nil) (pss_cons (ps_set (i := 15) nd rfl (Or.inl rfl) (pe_op (r := rCatA K) op_catA (pe_call G_level (hr.mono (by omega)) (by rfl) D_level.g D_level.F.kp D_level.b .nil pass0 (pa_cons (pe_callB (r := rSumT K) (cr_sumT rfl) (by rfl) T.n_sum PyProof.Rows.boot_sum (pa_cons (pv 5) pa_nil)) (pa_cons (pv 11) pa_nil))) (pe_op (r := rOr (rOr (rRepT K) (SetLi.rRep1 K)) (SetLi.rRep0 K)) (op_or (op_or op_repT SetLi.op_rep1) SetLi.op_rep0) (pe_tup (pa_cons pe_int pa_nil)) (pe_op op_sub (pv 4) (pv 11))))) (pss_cons (ps_if (pt_cmpR op_ne (pe_cmpR (r := rOwnIn C (spIn C) E0 false) (op_ownIn G_in hs_in hf_in b_in (hr.mono (by omega)) pass0) (pv 15) (pv 7) (by rfl)) (pe_or (pe_cmpR (r := rNon) op_isN (pv 6) pe_non (nomark _)) (pe_one (pe_cmpR op_le (pe_callB (r := rMaxT K) (cr_maxT rfl) (by rfl) T.n_max PyProof.Rows.boot_max (pa_cons (pv 15) pa_nil)) (pe_prop (pv 7) SK.cl P_most.hp G_most (hr.mono (by omega)) P_most.b .nil pass0 rfl) (nomark _)))) (nomark _)) (pss_one (ps_ret pe_bl)) pss_nil) (pss_one (ps_if (pt_cmpR (op_neD hr.units) (pe_prop (pe_meth0 (E := E0) (pv 7) SK.cl M_nar G_nar (hr.mono (by omega)) b_nar .nil pass0) SK.cl P_rows.hp G_rows (hr.mono (by omega)) P_rows.b .nil pass0 rfl) (pe_prop (pv 7) SK.cl P_rows.hp G_rows (hr.mono (by omega)) P_rows.b .nil pass0 rfl) (nomark _)) (pss_one (ps_ret pe_bl)) pss_nil)))))))))))))))))))))))) (pss_one (ps_ret pe_bl))), ?_⟩
    -- the list that is walked
    refine ⟨.ref a0, rfl, 6, rfl, a0, _, rfl, hS, fun p1 hp1 => ?_⟩
    have e1 : Evl.Ex H (upd H p1 (.lst (cutV (ns.map V.int) none (some 6)))) := Ex.new hp1
    have l1 : (upd H p1 (.lst (cutV (ns.map V.int) none (some 6)))) p1 = some (.lst (cutV (ns.map V.int) none (some 6))) := upd_same
    generalize upd H p1 (.lst (cutV (ns.map V.int) none (some 6))) = H1 at e1 l1
    refine ⟨by decide, fun p2 hp2 => ?_⟩
    have e2 : Evl.Ex H1 (upd H1 p2 (.lst [.int 7])) := Ex.new hp2
    have l2 : (upd H1 p2 (.lst [.int 7])) p2 = some (.lst [.int 7]) := upd_same
    generalize upd H1 p2 (.lst [.int 7]) = H2 at e2 l2
    refine ⟨.ref a0, rfl, by decide, fun p3 hp3 => ?_⟩
    have e3 : Evl.Ex H2 (upd H2 p3 (.lst [])) := Ex.new hp3
    have l3 : (upd H2 p3 (.lst [])) p3 = some (.lst []) := upd_same
    generalize upd H2 p3 (.lst []) = H3 at e3 l3
    refine ⟨.list (ns.map PyData.int), .list [], .lst (ex_l ((e1.trans e2).trans e3) hS) (dpAll_ints ns), .lst (sq_of l3) .nil, shaped_ints ns, rfl, ?_⟩
    generalize PyData.eqv (.list (ns.map PyData.int)) (.list []) = bb
    refine .inr ⟨bb, rfl, p2, _, [.int 7], rfl, rfl, e3 _ _ l2, by cases bb <;> decide, by cases bb <;> decide, by cases bb <;> decide, fun p4 hp4 => ?_⟩
    have l4 : (upd H3 p4 (.lst (List.replicate (Int.toNat (if bb = true then 1 else 0)) [V.int 7]).flatten)) p4 = some (.lst (List.replicate (Int.toNat (if bb = true then 1 else 0)) [V.int 7]).flatten) := upd_same
    have e4 : Evl.Ex H3 (upd H3 p4 (.lst (List.replicate (Int.toNat (if bb = true then 1 else 0)) [V.int 7]).flatten)) := Ex.new hp4
    have hz4 : ∀ x ∈ (List.replicate (Int.toNat (if bb = true then 1 else 0)) [V.int 7]).flatten, ∃ c : Int, x = .int c := fun x hx => by
      cases bb <;> simp at hx; exact ⟨7, hx⟩
    have hl4 : (List.replicate (Int.toNat (if bb = true then 1 else 0)) [V.int 7]).flatten.length ≤ 1 := by cases bb <;> decide
    generalize (List.replicate (Int.toNat (if bb = true then 1 else 0)) [V.int 7]).flatten = zs4 at l4 e4 hz4 hl4
    generalize upd H3 p4 (.lst zs4) = H4 at l4 e4
    have hz1 : ∀ x ∈ cutV (ns.map V.int) none (some 6), ∃ c : Int, x = .int c := fun x hx => by
      have := List.mem_of_mem_drop (List.mem_of_mem_take hx)
      obtain ⟨c, _, e⟩ := List.mem_map.mp this
      exact ⟨c, e.symm⟩
    have hl1 : (cutV (ns.map V.int) none (some 6)).length ≤ 63 := by
      unfold cutV
      simp only [List.length_take, List.length_drop, List.length_map]
      omega
    generalize cutV (ns.map V.int) none (some 6) = zs1 at hz1 hl1 l1
    refine ⟨p1, p4, zs1, zs4, rfl, rfl, ((e2.trans e3).trans e4) _ _ l1, l4, sz_of (by omega), fun p5 hp5 => ?_⟩
    have l5 : (upd H4 p5 (.lst (zs1 ++ zs4))) p5 = some (.lst (zs1 ++ zs4)) := upd_same
    have hz5 : ∀ x ∈ zs1 ++ zs4, ∃ c : Int, x = .int c := fun x hx => (List.mem_append.mp hx).elim (hz1 x) (hz4 x)
    have hl5 : (zs1 ++ zs4).length ≤ 64 := by rw [List.length_append]; omega
    generalize zs1 ++ zs4 = zs at l5 hz5 hl5
    generalize upd H4 p5 (.lst zs) = H5 at l5
    refine ⟨p5, zs, rfl, sq_of l5, ?_⟩
    refine for_enum (fun i σ H' => ∃ s1 s2 s3 s4 s5 s6 s7 s8 s9 s10 s11 s12 s13 s14 s15, σ = [some (.ref a0), s1, s2, s3, s4, s5, s6, s7, s8, s9, s10, s11, s12, s13, s14, s15, none, none] ∧ H' p5 = some (.lst zs)) ⟨_, _, _, _, _, _, _, _, _, _, _, _, _, _, _, rfl, l5⟩ (fun i σ H' ⟨_, _, _, _, _, _, _, _, _, _, _, _, _, _, _, _, hl⟩ => sq_of hl) (fun i x T σ H' hx ⟨s1, s2, s3, s4, s5, s6, s7, s8, s9, s10, s11, s12, s13, s14, s15, hs, hl⟩ hT => ?_) (fun σ H' _ => q H')
    obtain ⟨c, rfl⟩ := hz5 x (List.mem_of_getElem? hx)
    subst hs
    have hi : i < 64 := by have := (List.getElem?_eq_some_iff.mp hx).1; omega
    have hTl : (upd H' T (.tup [.int (i : Int), .int c])) p5 = some (.lst zs) := Ex.new hT _ _ hl
    have hTT : (upd H' T (.tup [.int (i : Int), .int c])) T = some (.tup [.int (i : Int), .int c]) := upd_same
    generalize upd H' T (.tup [.int (i : Int), .int c]) = H6 at hTl hTT
    refine ⟨T, _, rfl, st_of hTT, rfl, _, _, rfl, _, _, rfl, rfl, ?_⟩
    -- the state
    refine ⟨_, rfl, _, rfl, 8800, (i : Int), rfl, rfl, c, 8800 + (i : Int), 200, rfl, ⟨by omega, by omega⟩, by decide, fun s H7 e7 hs0 ⟨p, xs, d7⟩ => ?_⟩
    have hps : p5 ≠ s := fun z => by rw [← z, hTl] at hs0; cases hs0
    have l7 := e7 _ _ hTl
    clear hT hTT hx hl hTl hs0
    -- the size and the heights
    refine q_asgD (evd_b (g := fun i j => i + j) (i := 1) (c := fun r => 0 ≤ r ∧ r < 6) (e := fun n => 1 ≤ n ∧ n ≤ 6) (fun _ => evp_c) (evd_draw (M := 6) (i := 3) (H := H7) rfl (fun _ => evp_c) (by decide)) (fun j hj => by omega) H7 (Gs.refl _ _) d7 _ fun v4 H8 g8 d8 ⟨n', hv4, hn'⟩ => ?_)
    subst hv4
    obtain ⟨n, rfl⟩ : ∃ n : Nat, n' = (n : Int) := ⟨n'.toNat, by omega⟩
    have l8 := g8 _ _ hps l7
    refine q_asgD (evd_tuple (K := K) (n := n) (Pi := fun _ => BI fun x => 0 ≤ x ∧ x < 4) (H := H8) (evd_lc (j := 16) (vs := [16]) (fun H1 => eap_c (n := n) rfl) (by omega) (fun _ => rfl) (fun i hi => evd_draw (M := 4) (i := 3) rfl (fun _ => evp_c) (by decide)) fun _ => mf_bi) (fun _ => mf_bi) H8 (Gs.refl _ _) d8 _ fun v5 H9 g9 d9 hv5 => ?_)
    obtain ⟨l, hll, hl4, ht5⟩ := tu_of3 hv5
    have l9 := g9 _ _ hps l8
    clear l7 l8 g8 g9 d7 d8 hv5
    simp only [List.set_cons_zero, List.set_cons_succ]
    have hne : l ≠ [] := fun z => by rw [z] at hll; simp at hll; omega
    have h0 : ∀ x ∈ l, 0 ≤ x := fun x hx => (hl4 x hx).1
    -- their rows and kinds
    refine q_par2 (σ := [some (.ref a0), some (.int (i : Int)), some (.int c), some (.ref s), some (.int (n : Int)), some v5, s6, s7, s8, s9, s10, s11, s12, s13, s14, s15, none, none]) (P := Is (.int l.sum)) (R := Is (.int (cntL l : Int))) (evp_sumT (evp_var (i := 5) (v := v5) rfl ht5 mf_tu.mono)) (evp_cntI (K := K) (i := 17) (evp_var (i := 5) (v := v5) rfl ht5 mf_tu.mono) (by omega) (show 17 < 18 by decide) (fun _ => rfl) (fun _ => rfl)) mono_is fun v10 v11 H10 e10 h10 h11 => ?_
    have h10' : v10 = .int l.sum := h10
    have h11' : v11 = .int (cntL l : Int) := h11
    subst h10' h11'
    simp only [List.set_cons_zero, List.set_cons_succ]
    replace ht5 := mf_tu.mono _ _ _ e10 ht5
    replace d9 := d9.ex e10
    replace l9 := e10 _ _ l9
    clear e10
    -- most
    refine q_asgD (evd_most (K := K) (H := H10) (x := mxI 1 (maxL l)) (fun H1 g d => evp_max (evp_c (v := .int 1)) (evp_maxT (K := K) (evp_var (i := 5) (v := v5) rfl (gs_tu g d9 ht5) mf_tu.mono) hne)) (evd_draw (M := 2) (i := 3) rfl (fun _ => evp_c) (by decide)) H10 (Gs.refl _ _) d9 _ fun v6 H11 g11 d11 ⟨M, hv6, hM⟩ => ?_)
    subst hv6
    simp only [List.set_cons_zero, List.set_cons_succ]
    replace ht5 := gs_tu g11 d9 ht5
    have l11 := g11 _ _ hps l9
    clear g11 d9 l9
    have hL := Lv.start hn' (by omega) h0 hM
    obtain ⟨k1, k2, k3, k4, k5⟩ := hL.cnt
    have hn64 : 1 ≤ (n : Int) ∧ (n : Int) ≤ 64 := by omega
    have hS0 : 0 ≤ l.sum := by omega
    have mk : ∀ {σ' : L2.St} {H' : Hp}, σ'[4]? = some (some (.int (n : Int))) → σ'[6]? = some (some (OI M)) → σ'[10]? = some (some (.int l.sum)) → σ'[11]? = some (some (.int (cntL l : Int))) → EvP (tMakeS C (spMk C CV CS CC) [] (WE fun _ _ _ _ => False) (tCons (tVar 4) (tCons (tTup (tCons (tVar 10) (tCons (tVar 10) tNil))) (tCons (tTup (tCons (tVar 11) (tCons (tVar 11) tNil))) (tCons (tVar 6) tNil))))) σ' H' (SprN C n l.sum l.sum (cntL l : Int) (cntL l : Int) M) := fun q4 q6 q10 q11 =>
      evp_mk (evp_var q4 rfl mono_is) (evp_pr (evp_var q10 rfl mono_is) (evp_var q10 rfl mono_is)) (evp_pr (evp_var q11 rfl mono_is) (evp_var q11 rfl mono_is)) (evp_var q6 rfl mono_is) hn64 ⟨hS0, by omega, by omega⟩ hL.o1 (fit_pos hne h0 hL.o1 hL.h1)
    refine q_asgP (mk (σ' := [some (.ref a0), some (.int (i : Int)), some (.int c), some (.ref s), some (.int (n : Int)), some v5, some (OI M), s7, s8, s9, some (.int l.sum), some (.int (cntL l : Int)), s12, s13, s14, s15, none, none]) rfl rfl rfl rfl) fun v7 H12 e12 h7 => ?_
    simp only [List.set_cons_zero, List.set_cons_succ]
    refine q_asgP (mk (σ' := [some (.ref a0), some (.int (i : Int)), some (.int c), some (.ref s), some (.int (n : Int)), some v5, some (OI M), some v7, s8, s9, some (.int l.sum), some (.int (cntL l : Int)), s12, s13, s14, s15, none, none]) rfl rfl rfl rfl) fun v8 H13 e13 h8 => ?_
    simp only [List.set_cons_zero, List.set_cons_succ]
    have e13' := e12.trans e13
    -- the turns
    refine s_forR1 (n := 20) (ea_cons ev_c ea_nil) (by decide) (fun j σ H' => ∃ (l : List Int) (m1 m2 : Option Int) (d0 d1 : Int) (v5 v7 v8 : V) (s9 s10 s11 s12 s13 s14 s15 : Option V), σ = [some (.ref a0), some (.int (i : Int)), some (.int c), some (.ref s), some (.int (n : Int)), some v5, some (OI M), some v7, some v8, s9, s10, s11, s12, s13, s14, s15, none, none] ∧ Dr s p xs H' ∧ H' p5 = some (.lst zs) ∧ Tu l v5 H' ∧ SprN C n l.sum l.sum (cntL l : Int) (cntL l : Int) m1 v7 H' ∧ SprN C n l.sum l.sum d0 d1 m2 v8 H' ∧ Lv n l m1 d0 d1 m2 ∧ (m1 = none ↔ M = none))
      (fun H14 e14 => ⟨l, M, M, _, _, v5, v7, v8, _, _, _, _, _, _, _, rfl, d11.ex (e13'.trans e14), (e13'.trans e14) _ _ l11, mf_tu.mono _ _ _ (e13'.trans e14) ht5, mono_sprN _ _ _ (e13.trans e14) h7, mono_sprN _ _ _ e14 h8, hL, Iff.rfl⟩)
      (fun j σ H' hj ⟨l, m1, m2, d0, d1, v5, v7, v8, s9, s10, s11, s12, s13, s14, s15, hs, d, hl, ht, h7, h8, hL, hM⟩ => ?_) (fun σ H' ⟨l, m1, m2, d0, d1, v5, v7, v8, s9, s10, s11, s12, s13, s14, s15, hs, d, hl, ht, h7, h8, hL, hM⟩ => ⟨_, _, _, _, _, _, _, _, _, _, _, _, _, _, _, hs, hl⟩)
    subst hs
    refine q_asgD (evd_draw (M := (n : Int)) (i := 3) (H := H') rfl (fun _ => evp_var (i := 4) rfl rfl mono_is) hn'.1 H' (Gs.refl _ _) d _ fun v12 H1 g1 d1' ⟨at', hv12, hat⟩ => ?_)
    subst hv12
    obtain ⟨kat, rfl⟩ : ∃ kat : Nat, at' = (kat : Int) := ⟨at'.toNat, by omega⟩
    have hln := hL.len
    obtain ⟨a, x, b, rfl, rfl, -⟩ := split_at (l := l) (i := kat) (x := .int (l.getD kat 0)) (by
      have hk : kat < l.length := by omega
      rw [List.getElem?_map, List.getElem?_eq_getElem hk, List.getD_eq_getElem?_getD, List.getElem?_eq_getElem hk]; rfl)
    have ab : a.length + b.length ≤ 1000 := by simp at hln; omega
    replace ht := gs_tu g1 d ht
    replace h7 := gs_spr g1 d h7
    replace h8 := gs_spr g1 d h8
    have hl1 := g1 _ _ hps hl
    clear g1 d hl
    simp only [List.set_cons_zero, List.set_cons_succ]
    have at5 : ∀ {σ' : L2.St} {H2 : Hp}, σ'[5]? = some (some v5) → σ'[12]? = some (some (.int (a.length : Int))) → Tu (a ++ x :: b) v5 H2 → EvP (tOp (rIxT K) (tVar 5) (tVar 12)) σ' H2 (Is (.int x)) := fun q5 q12 h => evp_is (evp_ixT (K := K) (i := a.length) ((evp_var q5 h mf_tu.mono).imp fun v H1 _ h => tu_tup h) (evp_var q12 rfl mono_is) (by simp) fun _ => mf_is) (by simp)
    refine q_asgD (evd_or0 (H := H1) (x := x) (fun H2 g dd => at5 rfl rfl (gs_tu g d1' ht)) (evd_draw (M := 2) (i := 3) rfl (fun _ => evp_c) (by decide)) H1 (Gs.refl _ _) d1' _ fun v13 H2 g2 d2 ⟨g, hv13, hg0⟩ => ?_)
    subst hv13
    replace ht := gs_tu g2 d1' ht
    replace h7 := gs_spr g2 d1' h7
    replace h8 := gs_spr g2 d1' h8
    have hl2 := g2 _ _ hps hl1
    clear g2 d1' hl1
    simp only [List.set_cons_zero, List.set_cons_succ]
    have hx0 := hL.pos x (by simp)
    have hg : g = false → x > 0 := fun z => by have := hg0 z; omega
    obtain ⟨w1, w2, hL', q1, q2, q3, q4⟩ := hL.step g hg
    obtain ⟨c1, c2, c3, c4, c5⟩ := hL.cnt
    have v13 : ∀ {σ' : L2.St} {H' : Hp}, σ'[13]? = some (some (.bl g)) → EvT (tB (tVar 13)) σ' H' g := fun h => et_bl (evp_var h rfl mono_is)
    -- what is known
    refine q_asgP (P := Is (KV (knw g x))) (evp_if (v13 rfl) (fun z => by subst z; exact evp_I0 (g := fun i j => .bl (decide (i > j))) (at5 rfl rfl ht) (evp_c (v := .int 0))) fun z => by subst z; exact evp_is (evp_eq (at5 rfl rfl ht) (evp_c (v := .int 1)) rfl) (by show V.bl _ = V.bl (decide (x = 1)); simp)) fun v14 H3 e3 h14 => ?_
    have h14' : v14 = KV (knw g x) := h14
    subst h14'
    simp only [List.set_cons_zero, List.set_cons_succ]
    have kv : ∀ {σ' : L2.St} {H' : Hp}, σ'[14]? = some (some (KV (knw g x))) → EvP (tVar 14) σ' H' (Is (KV (knw g x))) := fun h => evp_var h rfl mono_is
    -- grown or shrunk
    refine q_asgP (P := SprG C g (knw g x) n (a ++ x :: b).sum (a ++ x :: b).sum (cntL (a ++ x :: b) : Int) (cntL (a ++ x :: b) : Int) m1) (evp_if (v13 rfl) (fun z => by subst z; exact evp_mv (g := true) (kn := knw true x) (evp_var rfl (mono_sprN _ _ _ e3 h7) mono_sprN) (eap_1 (kv rfl)) (fun _ _ _ _ => rfl) hn64 ⟨by omega, by omega⟩ hL.o1 w1) fun z => by subst z; exact evp_mv (g := false) (kn := knw false x) (evp_var rfl (mono_sprN _ _ _ e3 h7) mono_sprN) (eap_1 (kv rfl)) (fun _ _ _ _ => rfl) hn64 ⟨by omega, by omega⟩ hL.o1 w1) fun v7' H4 e4 h7' => ?_
    simp only [List.set_cons_zero, List.set_cons_succ]
    refine q_asgP (P := SprG C g none n (a ++ x :: b).sum (a ++ x :: b).sum d0 d1 m2) (evp_if (v13 rfl) (fun z => by subst z; exact evp_mv (g := true) (kn := none) (evp_var rfl (mono_sprN _ _ _ (e3.trans e4) h8) mono_sprN) (eap_n rfl) (fun _ _ _ _ => rfl) hn64 ⟨by omega, by omega⟩ hL.o2 w2) fun z => by subst z; exact evp_mv (g := false) (kn := none) (evp_var rfl (mono_sprN _ _ _ (e3.trans e4) h8) mono_sprN) (eap_n rfl) (fun _ _ _ _ => rfl) hn64 ⟨by omega, by omega⟩ hL.o2 w2) fun v8' H5 e5 h8' => ?_
    simp only [List.set_cons_zero, List.set_cons_succ]
    unfold SprG at h7' h8'
    rw [q1, q2, q3, q4] at h7'
    rw [q1, q2] at h8'
    have e5' := (e3.trans e4).trans e5
    -- the heights
    refine q_asgP (P := Tu (a ++ (x + sR g) :: b)) (evp_chg (K := K) (v5 := v5) rfl rfl rfl (mf_tu.mono _ _ _ e5' ht) ab) fun v5' H6 e6 ht' => ?_
    simp only [List.set_cons_zero, List.set_cons_succ]
    replace h7' := mono_sprN _ _ _ (e5.trans e6) h7'
    replace h8' := mono_sprN _ _ _ e6 h8'
    have d6 := d2.ex (e5'.trans e6)
    have hl6 := (e5'.trans e6) _ _ hl2
    clear h7 h8 ht w1 w2 q1 q2 q3 q4 c1 c2 c3 c4 c5 hL d2 hl2 e3 e4 e5 e5' e6 hln hg0
    have hM' : mM m1 (mr g (knw g x)) = none ↔ M = none := mM_none.trans hM
    generalize a ++ (x + sR g) :: b = l at *
    generalize mM m1 (mr g (knw g x)) = m1 at *
    generalize mM m2 (mr g none) = m2 at *
    generalize mxI 0 (d0 + dl g none) = d0 at *
    generalize d1 + dh g none = d1 at *
    have hl6' := hL'.len
    have hne := hL'.ne
    obtain ⟨c1, c2, c3, c4, c5⟩ := hL'.cnt
    have z0 := hL'.z
    have hS0 : 0 ≤ l.sum := by omega
    have v5e : ∀ {σ' : L2.St} {H' : Hp}, σ'[5]? = some (some v5') → Evl.Ex H6 H' → EvP (tVar 5) σ' H' (Tu l) := fun h e => evp_var h (mf_tu.mono _ _ _ e ht') mf_tu.mono
    have v7e : ∀ {σ' : L2.St} {H' : Hp}, σ'[7]? = some (some v7') → Evl.Ex H6 H' → EvP (tVar 7) σ' H' (SprN C n l.sum l.sum (cntL l : Int) (cntL l : Int) m1) := fun h e => evp_var h (mono_sprN _ _ _ e h7') mono_sprN
    have v8e : ∀ {σ' : L2.St} {H' : Hp}, σ'[8]? = some (some v8') → Evl.Ex H6 H' → EvP (tVar 8) σ' H' (SprN C n l.sum l.sum d0 d1 m2) := fun h e => evp_var h (mono_sprN _ _ _ e h8') mono_sprN
    have sum : ∀ {σ' : L2.St} {H' : Hp}, σ'[5]? = some (some v5') → Evl.Ex H6 H' → EvP (tCB (rSumT K) (tCons (tVar 5) tNil)) σ' H' (Is (.int l.sum)) := fun h e => evp_sumT (v5e h e)
    -- the kinds
    refine q_asgP (evp_cntI (K := K) (i := 17) (l := l) (v5e rfl (Ex.refl _)) (by omega) (show 17 < 18 by decide) (fun _ => rfl) (fun _ => rfl)) fun v11 H7 e7 h11 => ?_
    have h11' : v11 = .int (cntL l : Int) := h11
    subst h11'
    simp only [List.set_cons_zero, List.set_cons_succ]
    have kd : ∀ {σ' : L2.St} {H' : Hp}, σ'[11]? = some (some (.int (cntL l : Int))) → EvP (tVar 11) σ' H' (Is (.int (cntL l : Int))) := fun h => evp_var h rfl mono_is
    refine q_when (b := false) (et_is (et_or (a := false) (b := false) (et_notin (v5e rfl e7) (v7e rfl e7) hL'.pos hne (by omega) hL'.h1) fun _ => et_is (et_or (a := false) (b := false) (et_notin (v5e rfl e7) (v8e rfl e7) hL'.pos hne (by omega) hL'.h2) fun _ => et_pr (evp_pD (v7e rfl e7)) (evp_pr (kd rfl) (kd rfl))) rfl) rfl) (fun z => nomatch z) fun _ H8 e8' => ?_
    have e8 := e7.trans e8'
    refine q_when (b := false) (et_is (et_or (a := false) (b := false) (et_pr (evp_pR (v7e rfl e8)) (evp_pr (sum rfl e8) (sum rfl e8))) fun _ => et_pr (evp_pR (v8e rfl e8)) (evp_pR (v7e rfl e8))) rfl) (fun z => nomatch z) fun _ H9 e9' => ?_
    have e9 := e8.trans e9'
    refine q_when (b := false) (et_pr (evp_pR (evp_both hn64 ⟨hS0, hS0⟩ ⟨⟨by omega, by omega⟩, by omega⟩ ⟨⟨z0, by omega⟩, by omega⟩ hL'.o1 hL'.o2 hL'.and (v7e rfl e9) (v8e rfl e9))) (evp_pR (v8e rfl e9))) (fun z => nomatch z) fun _ H10 e10' => ?_
    have e10 := e9.trans e10'
    obtain ⟨f1, f2, f3, f4⟩ := hL'.flat
    -- level heights
    refine q_asgP (P := Tu (flatL n l.sum (cntL l : Int))) (evp_catI (K := K) (xs := levL l.sum (cntL l : Int)) (ys := List.replicate ((n : Int) - (cntL l : Int)).toNat 0) (evp_call (E := E0) (sp := spLev) (eap_two (P := Is (.int l.sum)) (R := Is (.int (cntL l : Int))) (sum rfl e10) (kd rfl) mono_is) fun vs H1 ⟨x, y, hv, hx, hy⟩ Q q E => ⟨l.sum, (cntL l : Int), by rw [hv, show x = _ from hx, show y = _ from hy], hS0, by omega, by omega, c5, q⟩) (evp_repI (K := K) (evp_c (v := .int 0)) (evp_I0 (g := fun i j => .int (i - j)) (evp_var (i := 4) rfl rfl mono_is) (kd rfl)) (by omega)) (by
      have : (flatL n l.sum (cntL l : Int)).length ≤ 1000 := by omega
      unfold flatL at this
      rw [List.length_append] at this; omega)) fun v15 H11 e11' h15 => ?_
    simp only [List.set_cons_zero, List.set_cons_succ]
    have e11 := e10.trans e11'
    have v15e : ∀ {σ' : L2.St} {H' : Hp}, σ'[15]? = some (some v15) → Evl.Ex H11 H' → EvP (tVar 15) σ' H' (Tu (flatL n l.sum (cntL l : Int))) := fun h e => evp_var h (mf_tu.mono _ _ _ e h15) mf_tu.mono
    refine q_when (b := false) (et_tst (evp_is (evp_ne (x := .bl (topB (maxL (flatL n l.sum (cntL l : Int))) m1)) (y := .bl (topB (maxL (flatL n l.sum (cntL l : Int))) m1)) (evp_is (evp_inB (v15e rfl (Ex.refl _)) (v7e rfl e11) f2 f3 (by omega)) (by rw [f4])) (evp_top hM' (evp_var (i := 6) rfl rfl mono_is) (v15e rfl (Ex.refl _)) f3 (evp_pM (v7e rfl e11))) rfl) (by simp))) (fun z => nomatch z) fun _ H12 e12' => ?_
    have e12 := e11.trans e12'
    exact s_when (b := false) (et_pr (evp_pR (evp_narT hn64 hS0 ⟨by omega, by omega⟩ hL'.o1 hL'.trip.1 hL'.trip.2 (v7e rfl e12))) (evp_pR (v7e rfl e12))) (fun z => nomatch z) fun _ H13 e13' => ⟨l, m1, m2, d0, d1, v5', v7', v8', _, _, _, _, _, _, _, rfl, d6.ex (e12.trans e13'), (e12.trans e13') _ _ hl6, mf_tu.mono _ _ _ (e12.trans e13') ht', mono_sprN _ _ _ (e12.trans e13') h7', mono_sprN _ _ _ (e12.trans e13') h8', hL', hM'⟩
end
end K20
namespace K20
open PySem PySem.Spec PyProof.Rows L2 Evl RZ Ev2 TA5 Ow
theorem all_mk {l : PySem.W.OpenLaw} {w : World} {K : PySem.W.Frag} {h : Heap} {mg : Str → Option Value} {fa : Addr} (X : K.In h) (G : h.Ns mainGlobals mg) (hfa : mg "law" = some (.ref fa))
    {CT : Addr}
    {tk : Tok}
    {f_is_whole : Addr} {od_is_whole an_is_whole : Option Addr} {sl_is_whole : Array (Option Value)} {oc_is_whole kV_is_whole dc_is_whole pm_is_whole cd_is_whole ct_is_whole : Value}
    {f_is_count : Addr} {od_is_count an_is_count : Option Addr} {sl_is_count : Array (Option Value)} {oc_is_count kV_is_count dc_is_count pm_is_count cd_is_count ct_is_count : Value}
    {f_is_limits : Addr} {od_is_limits an_is_limits : Option Addr} {sl_is_limits : Array (Option Value)} {oc_is_limits kV_is_limits dc_is_limits pm_is_limits cd_is_limits ct_is_limits : Value}
    {f_is_most : Addr} {od_is_most an_is_most : Option Addr} {sl_is_most : Array (Option Value)} {oc_is_most kV_is_most dc_is_most pm_is_most cd_is_most ct_is_most : Value}
    {f_is_possible : Addr} {od_is_possible an_is_possible : Option Addr} {sl_is_possible : Array (Option Value)} {oc_is_possible kV_is_possible dc_is_possible pm_is_possible cd_is_possible ct_is_possible : Value}
    {f_least_greatest : Addr} {od_least_greatest an_least_greatest : Option Addr} {sl_least_greatest : Array (Option Value)} {oc_least_greatest kV_least_greatest dc_least_greatest pm_least_greatest cd_least_greatest ct_least_greatest : Value}
    {f_possible_pairs : Addr} {od_possible_pairs an_possible_pairs : Option Addr} {sl_possible_pairs : Array (Option Value)} {oc_possible_pairs kV_possible_pairs dc_possible_pairs pm_possible_pairs cd_possible_pairs ct_possible_pairs : Value}
    {f_level_heights : Addr} {od_level_heights an_level_heights : Option Addr} {sl_level_heights : Array (Option Value)} {oc_level_heights kV_level_heights dc_level_heights pm_level_heights cd_level_heights ct_level_heights : Value}
    {f_check_pair : Addr} {od_check_pair an_check_pair : Option Addr} {sl_check_pair : Array (Option Value)} {oc_check_pair kV_check_pair dc_check_pair pm_check_pair cd_check_pair ct_check_pair : Value}
    {f_level : Addr} {od_level an_level : Option Addr} {sl_level : Array (Option Value)} {oc_level kV_level dc_level pm_level cd_level ct_level : Value}
    {f_is_heights : Addr} {od_is_heights an_is_heights : Option Addr} {sl_is_heights : Array (Option Value)} {oc_is_heights kV_is_heights dc_is_heights pm_is_heights cd_is_heights ct_is_heights : Value}
    {f_is_within : Addr} {od_is_within an_is_within : Option Addr} {sl_is_within : Array (Option Value)} {oc_is_within kV_is_within dc_is_within pm_is_within cd_is_within ct_is_within : Value}
    {f_common_limits : Addr} {od_common_limits an_common_limits : Option Addr} {sl_common_limits : Array (Option Value)} {oc_common_limits kV_common_limits dc_common_limits pm_common_limits cd_common_limits ct_common_limits : Value}
    {f_lesser_most : Addr} {od_lesser_most an_lesser_most : Option Addr} {sl_lesser_most : Array (Option Value)} {oc_lesser_most kV_lesser_most dc_lesser_most pm_lesser_most cd_lesser_most ct_lesser_most : Value}
    {f_moved : Addr} {od_moved an_moved : Option Addr} {sl_moved : Array (Option Value)} {oc_moved kV_moved dc_moved pm_moved cd_moved ct_moved : Value}
    {f_law_numbers : Addr} {od_law_numbers an_law_numbers : Option Addr} {sl_law_numbers : Array (Option Value)} {oc_law_numbers kV_law_numbers dc_law_numbers pm_law_numbers cd_law_numbers ct_law_numbers : Value}
    {f_law_draw : Addr} {od_law_draw an_law_draw : Option Addr} {sl_law_draw : Array (Option Value)} {oc_law_draw kV_law_draw dc_law_draw pm_law_draw cd_law_draw ct_law_draw : Value}
    {f_law_pool : Addr} {od_law_pool an_law_pool : Option Addr} {sl_law_pool : Array (Option Value)} {oc_law_pool kV_law_pool dc_law_pool pm_law_pool cd_law_pool ct_law_pool : Value}
    {f_law : Addr} {od_law an_law : Option Addr} {sl_law : Array (Option Value)} {oc_law kV_law dc_law pm_law cd_law ct_law : Value}
    {f_m_contains : Addr} {od_m_contains an_m_contains : Option Addr} {sl_m_contains : Array (Option Value)} {oc_m_contains kV_m_contains dc_m_contains pm_m_contains cd_m_contains ct_m_contains : Value}
    {f_m_pairs : Addr} {od_m_pairs an_m_pairs : Option Addr} {sl_m_pairs : Array (Option Value)} {oc_m_pairs kV_m_pairs dc_m_pairs pm_m_pairs cd_m_pairs ct_m_pairs : Value}
    {f_m_nar : Addr} {od_m_nar an_m_nar : Option Addr} {sl_m_nar : Array (Option Value)} {oc_m_nar kV_m_nar dc_m_nar pm_m_nar cd_m_nar ct_m_nar : Value}
    {f_m_and : Addr} {od_m_and an_m_and : Option Addr} {sl_m_and : Array (Option Value)} {oc_m_and kV_m_and dc_m_and pm_m_and cd_m_and ct_m_and : Value}
    {f_m_changed : Addr} {od_m_changed an_m_changed : Option Addr} {sl_m_changed : Array (Option Value)} {oc_m_changed kV_m_changed dc_m_changed pm_m_changed cd_m_changed ct_m_changed : Value}
    {TDgrown : Addr} {ocTgrown : Value} {odTgrown : Option Addr} {nTgrown : Nat} {slTgrown : Array (Option Value)}
    {f_m_grown : Addr} {od_m_grown an_m_grown : Option Addr} {sl_m_grown : Array (Option Value)} {oc_m_grown kV_m_grown dc_m_grown pm_m_grown cd_m_grown ct_m_grown : Value}
    {TDshrunk : Addr} {ocTshrunk : Value} {odTshrunk : Option Addr} {nTshrunk : Nat} {slTshrunk : Array (Option Value)}
    {f_m_shrunk : Addr} {od_m_shrunk an_m_shrunk : Option Addr} {sl_m_shrunk : Array (Option Value)} {oc_m_shrunk kV_m_shrunk dc_m_shrunk pm_m_shrunk cd_m_shrunk ct_m_shrunk : Value}
    {f_p_rows : Addr} {od_p_rows an_p_rows : Option Addr} {sl_p_rows : Array (Option Value)} {oc_p_rows kV_p_rows dc_p_rows pm_p_rows cd_p_rows ct_p_rows : Value}
    {p_p_rows : Addr} {r_p_rows : List Value}
    {f_p_different : Addr} {od_p_different an_p_different : Option Addr} {sl_p_different : Array (Option Value)} {oc_p_different kV_p_different dc_p_different pm_p_different cd_p_different ct_p_different : Value}
    {p_p_different : Addr} {r_p_different : List Value}
    {f_p_most : Addr} {od_p_most an_p_most : Option Addr} {sl_p_most : Array (Option Value)} {oc_p_most kV_p_most dc_p_most pm_p_most cd_p_most ct_p_most : Value}
    {p_p_most : Addr} {r_p_most : List Value}
    {TD : Addr} {ocT : Value} {odT : Option Addr} {nT : Nat} {slT : Array (Option Value)}
    {f_ini : Addr} {od_ini an_ini : Option Addr} {sl_ini : Array (Option Value)} {oc_ini kV_ini dc_ini pm_ini cd_ini ct_ini : Value}
    {CS NS iS : Addr} {nmS qS : Str} {bsS subS : List Value} {abS : Bool} {snS : List Str} {colS : Option Bool} {ddS : Option Addr} {k0S k1S k2S k3S k5S : Option Value} {ocS dcS pmS cdS ctS : Value} {odS anS : Option Addr} {slS : Array (Option Value)} {p1S p2S q1S q2S q3S q4S : Pos} {SE : Addr}
    {CV NV iV : Addr} {nmV qV : Str} {bsV subV : List Value} {abV : Bool} {snV : List Str} {colV : Option Bool} {ddV : Option Addr} {k0V k1V k2V k3V k5V : Option Value} {ocV dcV pmV cdV ctV : Value} {odV anV : Option Addr} {slV : Array (Option Value)} {p1V p2V q1V q2V q3V q4V : Pos}
    {CC NC iC : Addr} {nmC qC : Str} {bsC subC : List Value} {abC : Bool} {snC : List Str} {colC : Option Bool} {ddC : Option Addr} {k0C k1C k2C k3C k5C : Option Value} {ocC dcC pmC cdC ctC : Value} {odC anC : Option Addr} {slC : Array (Option Value)} {p1C p2C q1C q2C q3C q4C : Pos}
    (aT : PySem.W.nsIn K mainGlobals "Spread" = some (some (.ref CT)))
    (z_isinstance : PySem.W.nsIn K mainGlobals "isinstance" = some none)
    (z_int : PySem.W.nsIn K mainGlobals "int" = some none)
    (z_bool : PySem.W.nsIn K mainGlobals "bool" = some none)
    (z_tuple : PySem.W.nsIn K mainGlobals "tuple" = some none)
    (z_len : PySem.W.nsIn K mainGlobals "len" = some none)
    (z_range : PySem.W.nsIn K mainGlobals "range" = some none)
    (z_enumerate : PySem.W.nsIn K mainGlobals "enumerate" = some none)
    (z_max : PySem.W.nsIn K mainGlobals "max" = some none)
    (z_min : PySem.W.nsIn K mainGlobals "min" = some none)
    (z_sum : PySem.W.nsIn K mainGlobals "sum" = some none)
    (z_all : PySem.W.nsIn K mainGlobals "all" = some none)
    (z_zip : PySem.W.nsIn K mainGlobals "zip" = some none)
    (z_list : PySem.W.nsIn K mainGlobals "list" = some none)
    (z_divmod : PySem.W.nsIn K mainGlobals "divmod" = some none)
    (z_MH : PySem.W.nsIn K mainGlobals "MOST_HEIGHTS" = some (some (.int 64 tk)))
    (a_is_whole : PySem.W.nsIn K mainGlobals "is_whole" = some (some (.ref f_is_whole)))
    (l_is_whole : K.lookup f_is_whole = some ⟨oc_is_whole, od_is_whole, .func (PySem.W.fnOf "is_whole" "is_whole" (defArgs s_is_whole) (defBody s_is_whole) (defScope s_is_whole) .none kV_is_whole dc_is_whole pm_is_whole an_is_whole cd_is_whole ct_is_whole), sl_is_whole⟩)
    (c_is_whole : PySem.W.codeIn K cd_is_whole "is_whole" = true)
    (k_is_whole : PySem.W.keepIn K (.ref f_is_whole) = true)
    (a_is_count : PySem.W.nsIn K mainGlobals "is_count" = some (some (.ref f_is_count)))
    (l_is_count : K.lookup f_is_count = some ⟨oc_is_count, od_is_count, .func (PySem.W.fnOf "is_count" "is_count" (defArgs s_is_count) (defBody s_is_count) (defScope s_is_count) .none kV_is_count dc_is_count pm_is_count an_is_count cd_is_count ct_is_count), sl_is_count⟩)
    (c_is_count : PySem.W.codeIn K cd_is_count "is_count" = true)
    (k_is_count : PySem.W.keepIn K (.ref f_is_count) = true)
    (a_is_limits : PySem.W.nsIn K mainGlobals "is_limits" = some (some (.ref f_is_limits)))
    (l_is_limits : K.lookup f_is_limits = some ⟨oc_is_limits, od_is_limits, .func (PySem.W.fnOf "is_limits" "is_limits" (defArgs s_is_limits) (defBody s_is_limits) (defScope s_is_limits) .none kV_is_limits dc_is_limits pm_is_limits an_is_limits cd_is_limits ct_is_limits), sl_is_limits⟩)
    (c_is_limits : PySem.W.codeIn K cd_is_limits "is_limits" = true)
    (k_is_limits : PySem.W.keepIn K (.ref f_is_limits) = true)
    (a_is_most : PySem.W.nsIn K mainGlobals "is_most" = some (some (.ref f_is_most)))
    (l_is_most : K.lookup f_is_most = some ⟨oc_is_most, od_is_most, .func (PySem.W.fnOf "is_most" "is_most" (defArgs s_is_most) (defBody s_is_most) (defScope s_is_most) .none kV_is_most dc_is_most pm_is_most an_is_most cd_is_most ct_is_most), sl_is_most⟩)
    (c_is_most : PySem.W.codeIn K cd_is_most "is_most" = true)
    (k_is_most : PySem.W.keepIn K (.ref f_is_most) = true)
    (a_is_possible : PySem.W.nsIn K mainGlobals "is_possible" = some (some (.ref f_is_possible)))
    (l_is_possible : K.lookup f_is_possible = some ⟨oc_is_possible, od_is_possible, .func (PySem.W.fnOf "is_possible" "is_possible" (defArgs s_is_possible) (defBody s_is_possible) (defScope s_is_possible) .none kV_is_possible dc_is_possible pm_is_possible an_is_possible cd_is_possible ct_is_possible), sl_is_possible⟩)
    (c_is_possible : PySem.W.codeIn K cd_is_possible "is_possible" = true)
    (k_is_possible : PySem.W.keepIn K (.ref f_is_possible) = true)
    (a_least_greatest : PySem.W.nsIn K mainGlobals "least_greatest" = some (some (.ref f_least_greatest)))
    (l_least_greatest : K.lookup f_least_greatest = some ⟨oc_least_greatest, od_least_greatest, .func (PySem.W.fnOf "least_greatest" "least_greatest" (defArgs s_least_greatest) (defBody s_least_greatest) (defScope s_least_greatest) .none kV_least_greatest dc_least_greatest pm_least_greatest an_least_greatest cd_least_greatest ct_least_greatest), sl_least_greatest⟩)
    (c_least_greatest : PySem.W.codeIn K cd_least_greatest "least_greatest" = true)
    (k_least_greatest : PySem.W.keepIn K (.ref f_least_greatest) = true)
    (a_possible_pairs : PySem.W.nsIn K mainGlobals "possible_pairs" = some (some (.ref f_possible_pairs)))
    (l_possible_pairs : K.lookup f_possible_pairs = some ⟨oc_possible_pairs, od_possible_pairs, .func (PySem.W.fnOf "possible_pairs" "possible_pairs" (defArgs s_possible_pairs) (defBody s_possible_pairs) (defScope s_possible_pairs) .none kV_possible_pairs dc_possible_pairs pm_possible_pairs an_possible_pairs cd_possible_pairs ct_possible_pairs), sl_possible_pairs⟩)
    (c_possible_pairs : PySem.W.codeIn K cd_possible_pairs "possible_pairs" = true)
    (k_possible_pairs : PySem.W.keepIn K (.ref f_possible_pairs) = true)
    (a_level_heights : PySem.W.nsIn K mainGlobals "level_heights" = some (some (.ref f_level_heights)))
    (l_level_heights : K.lookup f_level_heights = some ⟨oc_level_heights, od_level_heights, .func (PySem.W.fnOf "level_heights" "level_heights" (defArgs s_level_heights) (defBody s_level_heights) (defScope s_level_heights) .none kV_level_heights dc_level_heights pm_level_heights an_level_heights cd_level_heights ct_level_heights), sl_level_heights⟩)
    (c_level_heights : PySem.W.codeIn K cd_level_heights "level_heights" = true)
    (k_level_heights : PySem.W.keepIn K (.ref f_level_heights) = true)
    (a_check_pair : PySem.W.nsIn K mainGlobals "check_pair" = some (some (.ref f_check_pair)))
    (l_check_pair : K.lookup f_check_pair = some ⟨oc_check_pair, od_check_pair, .func (PySem.W.fnOf "check_pair" "check_pair" (defArgs s_check_pair) (defBody s_check_pair) (defScope s_check_pair) .none kV_check_pair dc_check_pair pm_check_pair an_check_pair cd_check_pair ct_check_pair), sl_check_pair⟩)
    (c_check_pair : PySem.W.codeIn K cd_check_pair "check_pair" = true)
    (k_check_pair : PySem.W.keepIn K (.ref f_check_pair) = true)
    (a_level : PySem.W.nsIn K mainGlobals "level" = some (some (.ref f_level)))
    (l_level : K.lookup f_level = some ⟨oc_level, od_level, .func (PySem.W.fnOf "level" "level" (defArgs s_level) (defBody s_level) (defScope s_level) .none kV_level dc_level pm_level an_level cd_level ct_level), sl_level⟩)
    (c_level : PySem.W.codeIn K cd_level "level" = true)
    (k_level : PySem.W.keepIn K (.ref f_level) = true)
    (a_is_heights : PySem.W.nsIn K mainGlobals "is_heights" = some (some (.ref f_is_heights)))
    (l_is_heights : K.lookup f_is_heights = some ⟨oc_is_heights, od_is_heights, .func (PySem.W.fnOf "is_heights" "is_heights" (defArgs s_is_heights) (defBody s_is_heights) (defScope s_is_heights) .none kV_is_heights dc_is_heights pm_is_heights an_is_heights cd_is_heights ct_is_heights), sl_is_heights⟩)
    (c_is_heights : PySem.W.codeIn K cd_is_heights "is_heights" = true)
    (k_is_heights : PySem.W.keepIn K (.ref f_is_heights) = true)
    (a_is_within : PySem.W.nsIn K mainGlobals "is_within" = some (some (.ref f_is_within)))
    (l_is_within : K.lookup f_is_within = some ⟨oc_is_within, od_is_within, .func (PySem.W.fnOf "is_within" "is_within" (defArgs s_is_within) (defBody s_is_within) (defScope s_is_within) .none kV_is_within dc_is_within pm_is_within an_is_within cd_is_within ct_is_within), sl_is_within⟩)
    (c_is_within : PySem.W.codeIn K cd_is_within "is_within" = true)
    (k_is_within : PySem.W.keepIn K (.ref f_is_within) = true)
    (a_common_limits : PySem.W.nsIn K mainGlobals "common_limits" = some (some (.ref f_common_limits)))
    (l_common_limits : K.lookup f_common_limits = some ⟨oc_common_limits, od_common_limits, .func (PySem.W.fnOf "common_limits" "common_limits" (defArgs s_common_limits) (defBody s_common_limits) (defScope s_common_limits) .none kV_common_limits dc_common_limits pm_common_limits an_common_limits cd_common_limits ct_common_limits), sl_common_limits⟩)
    (c_common_limits : PySem.W.codeIn K cd_common_limits "common_limits" = true)
    (k_common_limits : PySem.W.keepIn K (.ref f_common_limits) = true)
    (a_lesser_most : PySem.W.nsIn K mainGlobals "lesser_most" = some (some (.ref f_lesser_most)))
    (l_lesser_most : K.lookup f_lesser_most = some ⟨oc_lesser_most, od_lesser_most, .func (PySem.W.fnOf "lesser_most" "lesser_most" (defArgs s_lesser_most) (defBody s_lesser_most) (defScope s_lesser_most) .none kV_lesser_most dc_lesser_most pm_lesser_most an_lesser_most cd_lesser_most ct_lesser_most), sl_lesser_most⟩)
    (c_lesser_most : PySem.W.codeIn K cd_lesser_most "lesser_most" = true)
    (k_lesser_most : PySem.W.keepIn K (.ref f_lesser_most) = true)
    (a_moved : PySem.W.nsIn K mainGlobals "moved" = some (some (.ref f_moved)))
    (l_moved : K.lookup f_moved = some ⟨oc_moved, od_moved, .func (PySem.W.fnOf "moved" "moved" (defArgs s_moved) (defBody s_moved) (defScope s_moved) .none kV_moved dc_moved pm_moved an_moved cd_moved ct_moved), sl_moved⟩)
    (c_moved : PySem.W.codeIn K cd_moved "moved" = true)
    (k_moved : PySem.W.keepIn K (.ref f_moved) = true)
    (a_law_numbers : PySem.W.nsIn K mainGlobals "_law_numbers" = some (some (.ref f_law_numbers)))
    (l_law_numbers : K.lookup f_law_numbers = some ⟨oc_law_numbers, od_law_numbers, .func (PySem.W.fnOf "_law_numbers" "_law_numbers" (defArgs s_law_numbers) (defBody s_law_numbers) (defScope s_law_numbers) .none kV_law_numbers dc_law_numbers pm_law_numbers an_law_numbers cd_law_numbers ct_law_numbers), sl_law_numbers⟩)
    (c_law_numbers : PySem.W.codeIn K cd_law_numbers "_law_numbers" = true)
    (k_law_numbers : PySem.W.keepIn K (.ref f_law_numbers) = true)
    (a_law_draw : PySem.W.nsIn K mainGlobals "_law_draw" = some (some (.ref f_law_draw)))
    (l_law_draw : K.lookup f_law_draw = some ⟨oc_law_draw, od_law_draw, .func (PySem.W.fnOf "_law_draw" "_law_draw" (defArgs s_law_draw) (defBody s_law_draw) (defScope s_law_draw) .none kV_law_draw dc_law_draw pm_law_draw an_law_draw cd_law_draw ct_law_draw), sl_law_draw⟩)
    (c_law_draw : PySem.W.codeIn K cd_law_draw "_law_draw" = true)
    (k_law_draw : PySem.W.keepIn K (.ref f_law_draw) = true)
    (a_law_pool : PySem.W.nsIn K mainGlobals "_law_pool" = some (some (.ref f_law_pool)))
    (l_law_pool : K.lookup f_law_pool = some ⟨oc_law_pool, od_law_pool, .func (PySem.W.fnOf "_law_pool" "_law_pool" (defArgs s_law_pool) (defBody s_law_pool) (defScope s_law_pool) .none kV_law_pool dc_law_pool pm_law_pool an_law_pool cd_law_pool ct_law_pool), sl_law_pool⟩)
    (c_law_pool : PySem.W.codeIn K cd_law_pool "_law_pool" = true)
    (k_law_pool : PySem.W.keepIn K (.ref f_law_pool) = true)
    (a_law : PySem.W.nsIn K mainGlobals "law" = some (some (.ref f_law)))
    (l_law : K.lookup f_law = some ⟨oc_law, od_law, .func (PySem.W.fnOf "law" "law" (defArgs s_law) (defBody s_law) (defScope s_law) .none kV_law dc_law pm_law an_law cd_law ct_law), sl_law⟩)
    (c_law : PySem.W.codeIn K cd_law "law" = true)
    (k_law : PySem.W.keepIn K (.ref f_law) = true)
    (a_m_contains : PySem.W.findIn K (.ref CT) "__contains__" = some (some (.ref f_m_contains)))
    (l_m_contains : K.lookup f_m_contains = some ⟨oc_m_contains, od_m_contains, .func (PySem.W.fnOf "__contains__" "Spread.__contains__" (defArgs s_Spread_contains) (defBody s_Spread_contains) (defScope s_Spread_contains) .none kV_m_contains dc_m_contains pm_m_contains an_m_contains cd_m_contains ct_m_contains), sl_m_contains⟩)
    (c_m_contains : PySem.W.codeIn K cd_m_contains "Spread.__contains__" = true)
    (k_m_contains : PySem.W.keepIn K (.ref f_m_contains) = true)
    (i_m_contains : PySem.W.isFn K (.ref f_m_contains) = true)
    (a_m_pairs : PySem.W.findIn K (.ref CT) "pairs" = some (some (.ref f_m_pairs)))
    (l_m_pairs : K.lookup f_m_pairs = some ⟨oc_m_pairs, od_m_pairs, .func (PySem.W.fnOf "pairs" "Spread.pairs" (defArgs s_Spread_pairs) (defBody s_Spread_pairs) (defScope s_Spread_pairs) .none kV_m_pairs dc_m_pairs pm_m_pairs an_m_pairs cd_m_pairs ct_m_pairs), sl_m_pairs⟩)
    (c_m_pairs : PySem.W.codeIn K cd_m_pairs "Spread.pairs" = true)
    (k_m_pairs : PySem.W.keepIn K (.ref f_m_pairs) = true)
    (i_m_pairs : PySem.W.isFn K (.ref f_m_pairs) = true)
    (a_m_nar : PySem.W.findIn K (.ref CT) "narrowed" = some (some (.ref f_m_nar)))
    (l_m_nar : K.lookup f_m_nar = some ⟨oc_m_nar, od_m_nar, .func (PySem.W.fnOf "narrowed" "Spread.narrowed" (defArgs s_Spread_narrowed) (defBody s_Spread_narrowed) (defScope s_Spread_narrowed) .none kV_m_nar dc_m_nar pm_m_nar an_m_nar cd_m_nar ct_m_nar), sl_m_nar⟩)
    (c_m_nar : PySem.W.codeIn K cd_m_nar "Spread.narrowed" = true)
    (k_m_nar : PySem.W.keepIn K (.ref f_m_nar) = true)
    (i_m_nar : PySem.W.isFn K (.ref f_m_nar) = true)
    (a_m_and : PySem.W.findIn K (.ref CT) "__and__" = some (some (.ref f_m_and)))
    (l_m_and : K.lookup f_m_and = some ⟨oc_m_and, od_m_and, .func (PySem.W.fnOf "__and__" "Spread.__and__" (defArgs s_Spread_and) (defBody s_Spread_and) (defScope s_Spread_and) .none kV_m_and dc_m_and pm_m_and an_m_and cd_m_and ct_m_and), sl_m_and⟩)
    (c_m_and : PySem.W.codeIn K cd_m_and "Spread.__and__" = true)
    (k_m_and : PySem.W.keepIn K (.ref f_m_and) = true)
    (i_m_and : PySem.W.isFn K (.ref f_m_and) = true)
    (a_m_changed : PySem.W.findIn K (.ref CT) "_changed" = some (some (.ref f_m_changed)))
    (l_m_changed : K.lookup f_m_changed = some ⟨oc_m_changed, od_m_changed, .func (PySem.W.fnOf "_changed" "Spread._changed" (defArgs s_Spread_changed) (defBody s_Spread_changed) (defScope s_Spread_changed) .none kV_m_changed dc_m_changed pm_m_changed an_m_changed cd_m_changed ct_m_changed), sl_m_changed⟩)
    (c_m_changed : PySem.W.codeIn K cd_m_changed "Spread._changed" = true)
    (k_m_changed : PySem.W.keepIn K (.ref f_m_changed) = true)
    (i_m_changed : PySem.W.isFn K (.ref f_m_changed) = true)
    (a_m_grown : PySem.W.findIn K (.ref CT) "grown" = some (some (.ref f_m_grown)))
    (l_m_grown : K.lookup f_m_grown = some ⟨oc_m_grown, od_m_grown, .func (PySem.W.fnOf "grown" "Spread.grown" (defArgs s_Spread_grown) (defBody s_Spread_grown) (defScope s_Spread_grown) (.ref TDgrown) kV_m_grown dc_m_grown pm_m_grown an_m_grown cd_m_grown ct_m_grown), sl_m_grown⟩)
    (lT_m_grown : K.lookup TDgrown = some ⟨ocTgrown, odTgrown, .seq #[.none] nTgrown, slTgrown⟩)
    (c_m_grown : PySem.W.codeIn K cd_m_grown "Spread.grown" = true)
    (k_m_grown : PySem.W.keepIn K (.ref f_m_grown) = true)
    (i_m_grown : PySem.W.isFn K (.ref f_m_grown) = true)
    (a_m_shrunk : PySem.W.findIn K (.ref CT) "shrunk" = some (some (.ref f_m_shrunk)))
    (l_m_shrunk : K.lookup f_m_shrunk = some ⟨oc_m_shrunk, od_m_shrunk, .func (PySem.W.fnOf "shrunk" "Spread.shrunk" (defArgs s_Spread_shrunk) (defBody s_Spread_shrunk) (defScope s_Spread_shrunk) (.ref TDshrunk) kV_m_shrunk dc_m_shrunk pm_m_shrunk an_m_shrunk cd_m_shrunk ct_m_shrunk), sl_m_shrunk⟩)
    (lT_m_shrunk : K.lookup TDshrunk = some ⟨ocTshrunk, odTshrunk, .seq #[.none] nTshrunk, slTshrunk⟩)
    (c_m_shrunk : PySem.W.codeIn K cd_m_shrunk "Spread.shrunk" = true)
    (k_m_shrunk : PySem.W.keepIn K (.ref f_m_shrunk) = true)
    (i_m_shrunk : PySem.W.isFn K (.ref f_m_shrunk) = true)
    (a_p_rows : PySem.W.findIn K (.ref CT) "rows" = some (some (.ref p_p_rows)))
    (r1_p_rows : PySem.W.recIn K p_p_rows "property" = some (.ref f_p_rows :: r_p_rows))
    (g_p_rows : PySem.W.specialIn K (.ref p_p_rows) "__get__" = some (some (.builtin "property.__get__")))
    (t_p_rows : PySem.W.takesIn K (.ref p_p_rows) = some true)
    (l_p_rows : K.lookup f_p_rows = some ⟨oc_p_rows, od_p_rows, .func (PySem.W.fnOf "rows" "Spread.rows" (defArgs s_Spread_rows) (defBody s_Spread_rows) (defScope s_Spread_rows) .none kV_p_rows dc_p_rows pm_p_rows an_p_rows cd_p_rows ct_p_rows), sl_p_rows⟩)
    (c_p_rows : PySem.W.codeIn K cd_p_rows "Spread.rows" = true)
    (k_p_rows : PySem.W.keepIn K (.ref f_p_rows) = true)
    (a_p_different : PySem.W.findIn K (.ref CT) "different" = some (some (.ref p_p_different)))
    (r1_p_different : PySem.W.recIn K p_p_different "property" = some (.ref f_p_different :: r_p_different))
    (g_p_different : PySem.W.specialIn K (.ref p_p_different) "__get__" = some (some (.builtin "property.__get__")))
    (t_p_different : PySem.W.takesIn K (.ref p_p_different) = some true)
    (l_p_different : K.lookup f_p_different = some ⟨oc_p_different, od_p_different, .func (PySem.W.fnOf "different" "Spread.different" (defArgs s_Spread_different) (defBody s_Spread_different) (defScope s_Spread_different) .none kV_p_different dc_p_different pm_p_different an_p_different cd_p_different ct_p_different), sl_p_different⟩)
    (c_p_different : PySem.W.codeIn K cd_p_different "Spread.different" = true)
    (k_p_different : PySem.W.keepIn K (.ref f_p_different) = true)
    (a_p_most : PySem.W.findIn K (.ref CT) "most" = some (some (.ref p_p_most)))
    (r1_p_most : PySem.W.recIn K p_p_most "property" = some (.ref f_p_most :: r_p_most))
    (g_p_most : PySem.W.specialIn K (.ref p_p_most) "__get__" = some (some (.builtin "property.__get__")))
    (t_p_most : PySem.W.takesIn K (.ref p_p_most) = some true)
    (l_p_most : K.lookup f_p_most = some ⟨oc_p_most, od_p_most, .func (PySem.W.fnOf "most" "Spread.most" (defArgs s_Spread_most) (defBody s_Spread_most) (defScope s_Spread_most) .none kV_p_most dc_p_most pm_p_most an_p_most cd_p_most ct_p_most), sl_p_most⟩)
    (c_p_most : PySem.W.codeIn K cd_p_most "Spread.most" = true)
    (k_p_most : PySem.W.keepIn K (.ref f_p_most) = true)
    (a_ini : PySem.W.findIn K (.ref CT) "__init__" = some (some (.ref f_ini)))
    (l_ini : K.lookup f_ini = some ⟨oc_ini, od_ini, .func (PySem.W.fnOf "__init__" "Spread.__init__" (defArgs s_Spread_init) (defBody s_Spread_init) (defScope s_Spread_init) (.ref TD) kV_ini dc_ini pm_ini an_ini cd_ini ct_ini), sl_ini⟩)
    (l_TD : K.lookup TD = some ⟨ocT, odT, .seq #[.none] nT, slT⟩)
    (c_ini : PySem.W.codeIn K cd_ini "Spread.__init__" = true)
    (k_ini : PySem.W.keepIn K (.ref f_ini) = true)
    (i_ini : PySem.W.isFn K (.ref f_ini) = true)
    (pgT : PySem.W.plainGet K CT Str.empty = true)
    (hdT : PySem.W.hasDictIn K CT = true)
    (poT : PySem.W.plainOver K CT = true)
    (saT : PySem.W.findIn K (.ref CT) "__setattr__" = some (some (.builtin "object.__setattr__")))
    (mkT : PySem.W.makesIn K CT = true)
    (kcT : PySem.W.keepIn K (.ref CT) = true)
    (nf0 : PySem.W.findIn K (.ref CT) "_size" = some none)
    (nf1 : PySem.W.findIn K (.ref CT) "_rows" = some none)
    (nf2 : PySem.W.findIn K (.ref CT) "_different" = some none)
    (nf3 : PySem.W.findIn K (.ref CT) "_most" = some none)
    (haT : PySem.W.findIn K (.ref CT) "__class__" = some (some (.builtin "object.__class__")))
    (hn : PySem.W.specialIn K (.builtin "object.__class__") "__get__" = some (some (.builtin "getset_descriptor.__get__")))
    (htk : PySem.W.takesIn K (.builtin "object.__class__") = some true)
    (hmT : PySem.W.mroIn K CT (.type "object") = some true)
    (tyT : PySem.W.typeIn K (.ref CT) = some (.type "type"))
    (a_CS : PySem.W.nsIn K mainGlobals "InvalidSpread" = some (some (.ref CS)))
    (x_CS : K.lookup CS = some (excClassObj nmS qS CS NS bsS [.ref SE, .type "Exception", .type "BaseException", .type "object"] true snS subS abS colS ddS k0S k1S k2S k3S k5S "Exception.__new__"))
    (sa_CS : PySem.W.findIn K (.ref CS) "__setattr__" = some (some (.builtin "object.__setattr__")))
    (ga_CS : PySem.W.findIn K (.ref CS) "__getattribute__" = some (some (.builtin "BaseException.__getattribute__")))
    (gg_CS : PySem.W.findIn K (.ref CS) "__getattr__" = some none)
    (no_CS : PySem.W.findIn K (.ref CS) "value" = some none)
    (ic_CS : PySem.W.findIn K (.ref CS) "__init__" = some (some (.ref iS)))
    (tc_CS : PySem.W.typeIn K (.ref iS) = some (.type "function"))
    (kc_CS : PySem.W.keepIn K (.ref CS) = true)
    (ex_CS : PySem.W.subIn K (.ref CS) (.type "BaseException") = some true)
    (ty_CS : PySem.W.typeIn K (.ref CS) = some (.type "type"))
    (hd_CS : PySem.W.hasDictIn K CS = true)
    (te_CS : PySem.W.subIn K (.ref CS) (.ref CS) = some true)
    (l_CS : K.lookup iS = some ⟨ocS, odS, .func (PySem.W.fnOf "__init__" "InvalidSpread.__init__" (PySem.ErrV.iA p1S p2S) (PySem.ErrV.iB q1S q2S q3S q4S) PySem.ErrV.iS .none .none dcS pmS anS cdS ctS), slS⟩)
    (c_CS : PySem.W.codeIn K cdS "InvalidSpread.__init__" = true)
    (a_CV : PySem.W.nsIn K mainGlobals "InvalidNumber" = some (some (.ref CV)))
    (x_CV : K.lookup CV = some (excClassObj nmV qV CV NV bsV [.type "ValueError", .type "Exception", .type "BaseException", .type "object"] true snV subV abV colV ddV k0V k1V k2V k3V k5V "ValueError.__new__"))
    (sa_CV : PySem.W.findIn K (.ref CV) "__setattr__" = some (some (.builtin "object.__setattr__")))
    (ga_CV : PySem.W.findIn K (.ref CV) "__getattribute__" = some (some (.builtin "BaseException.__getattribute__")))
    (gg_CV : PySem.W.findIn K (.ref CV) "__getattr__" = some none)
    (no_CV : PySem.W.findIn K (.ref CV) "value" = some none)
    (ic_CV : PySem.W.findIn K (.ref CV) "__init__" = some (some (.ref iV)))
    (tc_CV : PySem.W.typeIn K (.ref iV) = some (.type "function"))
    (kc_CV : PySem.W.keepIn K (.ref CV) = true)
    (ex_CV : PySem.W.subIn K (.ref CV) (.type "BaseException") = some true)
    (ty_CV : PySem.W.typeIn K (.ref CV) = some (.type "type"))
    (hd_CV : PySem.W.hasDictIn K CV = true)
    (te_CV : PySem.W.subIn K (.ref CV) (.ref CV) = some true)
    (l_CV : K.lookup iV = some ⟨ocV, odV, .func (PySem.W.fnOf "__init__" "InvalidNumber.__init__" (PySem.ErrV.iA p1V p2V) (PySem.ErrV.iB q1V q2V q3V q4V) PySem.ErrV.iS .none .none dcV pmV anV cdV ctV), slV⟩)
    (c_CV : PySem.W.codeIn K cdV "InvalidNumber.__init__" = true)
    (a_CC : PySem.W.nsIn K mainGlobals "Contradictory" = some (some (.ref CC)))
    (x_CC : K.lookup CC = some (excClassObj nmC qC CC NC bsC [.type "RuntimeError", .type "Exception", .type "BaseException", .type "object"] true snC subC abC colC ddC k0C k1C k2C k3C k5C "RuntimeError.__new__"))
    (sa_CC : PySem.W.findIn K (.ref CC) "__setattr__" = some (some (.builtin "object.__setattr__")))
    (ga_CC : PySem.W.findIn K (.ref CC) "__getattribute__" = some (some (.builtin "BaseException.__getattribute__")))
    (gg_CC : PySem.W.findIn K (.ref CC) "__getattr__" = some none)
    (no_CC : PySem.W.findIn K (.ref CC) "part" = some none)
    (ic_CC : PySem.W.findIn K (.ref CC) "__init__" = some (some (.ref iC)))
    (tc_CC : PySem.W.typeIn K (.ref iC) = some (.type "function"))
    (kc_CC : PySem.W.keepIn K (.ref CC) = true)
    (ex_CC : PySem.W.subIn K (.ref CC) (.type "BaseException") = some true)
    (ty_CC : PySem.W.typeIn K (.ref CC) = some (.type "type"))
    (hd_CC : PySem.W.hasDictIn K CC = true)
    (te_CC : PySem.W.subIn K (.ref CC) (.ref CC) = some true)
    (l_CC : K.lookup iC = some ⟨ocC, odC, .func (PySem.W.fnOf "__init__" "Contradictory.__init__" (PySem.ErrC.iA p1C p2C) (PySem.ErrC.iB q1C q2C q3C q4C) PySem.ErrC.iS .none .none dcC pmC anC cdC ctC), slC⟩)
    (c_CC : PySem.W.codeIn K cdC "Contradictory.__init__" = true)
    (fst : PySem.W.selfFirst K CT = true)
    (rnd : PySem.W.findIn K (.ref CT) "__rand__" = some none) :
    ∃ fd : FuncData, (∀ (s : Shared) (v : Value), BindsTo s fd ⟨[v], []⟩ [("_law_script", v)]) ∧ ∀ base : Heap, K.In base → base.Ns mainGlobals mg → FnOk l.prog w K mg base CX0 12 fa fd ["_law_script"] (spLaw K) := by
  have e := hfa.symm.trans (PySem.W.mg_of X G a_law)
  cases e
  have F_is_whole := fun_mk (st := s_is_whole) l_is_whole c_is_whole k_is_whole
  have b_is_whole := F_is_whole.binds (ps := ["value"]) fun _ _ _ _ _ _ us hl => match us, hl with | [_], _ => rfl
  have D_is_whole : Df K mg "is_whole" s_is_whole ["value"] _ _ := ⟨F_is_whole, b_is_whole, PySem.W.mg_of X G a_is_whole⟩
  have F_is_count := fun_mk (st := s_is_count) l_is_count c_is_count k_is_count
  have b_is_count := F_is_count.binds (ps := ["value"]) fun _ _ _ _ _ _ us hl => match us, hl with | [_], _ => rfl
  have D_is_count : Df K mg "is_count" s_is_count ["value"] _ _ := ⟨F_is_count, b_is_count, PySem.W.mg_of X G a_is_count⟩
  have F_is_limits := fun_mk (st := s_is_limits) l_is_limits c_is_limits k_is_limits
  have b_is_limits := F_is_limits.binds (ps := ["value"]) fun _ _ _ _ _ _ us hl => match us, hl with | [_], _ => rfl
  have D_is_limits : Df K mg "is_limits" s_is_limits ["value"] _ _ := ⟨F_is_limits, b_is_limits, PySem.W.mg_of X G a_is_limits⟩
  have F_is_most := fun_mk (st := s_is_most) l_is_most c_is_most k_is_most
  have b_is_most := F_is_most.binds (ps := ["value"]) fun _ _ _ _ _ _ us hl => match us, hl with | [_], _ => rfl
  have D_is_most : Df K mg "is_most" s_is_most ["value"] _ _ := ⟨F_is_most, b_is_most, PySem.W.mg_of X G a_is_most⟩
  have F_is_possible := fun_mk (st := s_is_possible) l_is_possible c_is_possible k_is_possible
  have b_is_possible := F_is_possible.binds (ps := ["rows", "different", "most"]) fun _ _ _ _ _ _ us hl => match us, hl with | [_, _, _], _ => rfl
  have D_is_possible : Df K mg "is_possible" s_is_possible ["rows", "different", "most"] _ _ := ⟨F_is_possible, b_is_possible, PySem.W.mg_of X G a_is_possible⟩
  have F_least_greatest := fun_mk (st := s_least_greatest) l_least_greatest c_least_greatest k_least_greatest
  have b_least_greatest := F_least_greatest.binds (ps := ["rows", "different", "most"]) fun _ _ _ _ _ _ us hl => match us, hl with | [_, _, _], _ => rfl
  have D_least_greatest : Df K mg "least_greatest" s_least_greatest ["rows", "different", "most"] _ _ := ⟨F_least_greatest, b_least_greatest, PySem.W.mg_of X G a_least_greatest⟩
  have F_possible_pairs := fun_mk (st := s_possible_pairs) l_possible_pairs c_possible_pairs k_possible_pairs
  have b_possible_pairs := F_possible_pairs.binds (ps := ["size", "rows", "different", "most"]) fun _ _ _ _ _ _ us hl => match us, hl with | [_, _, _, _], _ => rfl
  have D_possible_pairs : Df K mg "possible_pairs" s_possible_pairs ["size", "rows", "different", "most"] _ _ := ⟨F_possible_pairs, b_possible_pairs, PySem.W.mg_of X G a_possible_pairs⟩
  have F_level_heights := fun_mk (st := s_level_heights) l_level_heights c_level_heights k_level_heights
  have b_level_heights := F_level_heights.binds (ps := ["rows", "different"]) fun _ _ _ _ _ _ us hl => match us, hl with | [_, _], _ => rfl
  have D_level_heights : Df K mg "level_heights" s_level_heights ["rows", "different"] _ _ := ⟨F_level_heights, b_level_heights, PySem.W.mg_of X G a_level_heights⟩
  have F_check_pair := fun_mk (st := s_check_pair) l_check_pair c_check_pair k_check_pair
  have b_check_pair := F_check_pair.binds (ps := ["rows", "different"]) fun _ _ _ _ _ _ us hl => match us, hl with | [_, _], _ => rfl
  have D_check_pair : Df K mg "check_pair" s_check_pair ["rows", "different"] _ _ := ⟨F_check_pair, b_check_pair, PySem.W.mg_of X G a_check_pair⟩
  have F_level := fun_mk (st := s_level) l_level c_level k_level
  have b_level := F_level.binds (ps := ["rows", "different"]) fun _ _ _ _ _ _ us hl => match us, hl with | [_, _], _ => rfl
  have D_level : Df K mg "level" s_level ["rows", "different"] _ _ := ⟨F_level, b_level, PySem.W.mg_of X G a_level⟩
  have F_is_heights := fun_mk (st := s_is_heights) l_is_heights c_is_heights k_is_heights
  have b_is_heights := F_is_heights.binds (ps := ["size", "value"]) fun _ _ _ _ _ _ us hl => match us, hl with | [_, _], _ => rfl
  have D_is_heights : Df K mg "is_heights" s_is_heights ["size", "value"] _ _ := ⟨F_is_heights, b_is_heights, PySem.W.mg_of X G a_is_heights⟩
  have F_is_within := fun_mk (st := s_is_within) l_is_within c_is_within k_is_within
  have b_is_within := F_is_within.binds (ps := ["limits", "number"]) fun _ _ _ _ _ _ us hl => match us, hl with | [_, _], _ => rfl
  have D_is_within : Df K mg "is_within" s_is_within ["limits", "number"] _ _ := ⟨F_is_within, b_is_within, PySem.W.mg_of X G a_is_within⟩
  have F_common_limits := fun_mk (st := s_common_limits) l_common_limits c_common_limits k_common_limits
  have b_common_limits := F_common_limits.binds (ps := ["limits", "other"]) fun _ _ _ _ _ _ us hl => match us, hl with | [_, _], _ => rfl
  have D_common_limits : Df K mg "common_limits" s_common_limits ["limits", "other"] _ _ := ⟨F_common_limits, b_common_limits, PySem.W.mg_of X G a_common_limits⟩
  have F_lesser_most := fun_mk (st := s_lesser_most) l_lesser_most c_lesser_most k_lesser_most
  have b_lesser_most := F_lesser_most.binds (ps := ["most", "other"]) fun _ _ _ _ _ _ us hl => match us, hl with | [_, _], _ => rfl
  have D_lesser_most : Df K mg "lesser_most" s_lesser_most ["most", "other"] _ _ := ⟨F_lesser_most, b_lesser_most, PySem.W.mg_of X G a_lesser_most⟩
  have F_moved := fun_mk (st := s_moved) l_moved c_moved k_moved
  have b_moved := F_moved.binds (ps := ["limits", "steps"]) fun _ _ _ _ _ _ us hl => match us, hl with | [_, _], _ => rfl
  have D_moved : Df K mg "moved" s_moved ["limits", "steps"] _ _ := ⟨F_moved, b_moved, PySem.W.mg_of X G a_moved⟩
  have F_law_numbers := fun_mk (st := s_law_numbers) l_law_numbers c_law_numbers k_law_numbers
  have b_law_numbers := F_law_numbers.binds (ps := ["_law_cell", "_law_salt", "_law_sizes"]) fun _ _ _ _ _ _ us hl => match us, hl with | [_, _, _], _ => rfl
  have D_law_numbers : Df K mg "_law_numbers" s_law_numbers ["_law_cell", "_law_salt", "_law_sizes"] _ _ := ⟨F_law_numbers, b_law_numbers, PySem.W.mg_of X G a_law_numbers⟩
  have F_law_draw := fun_mk (st := s_law_draw) l_law_draw c_law_draw k_law_draw
  have b_law_draw := F_law_draw.binds (ps := ["_law_state", "_law_many"]) fun _ _ _ _ _ _ us hl => match us, hl with | [_, _], _ => rfl
  have D_law_draw : Df K mg "_law_draw" s_law_draw ["_law_state", "_law_many"] _ _ := ⟨F_law_draw, b_law_draw, PySem.W.mg_of X G a_law_draw⟩
  have F_law_pool := fun_mk (st := s_law_pool) l_law_pool c_law_pool k_law_pool
  have b_law_pool := F_law_pool.binds (ps := ["_law_cell", "_law_salt", "_law_many"]) fun _ _ _ _ _ _ us hl => match us, hl with | [_, _, _], _ => rfl
  have D_law_pool : Df K mg "_law_pool" s_law_pool ["_law_cell", "_law_salt", "_law_many"] _ _ := ⟨F_law_pool, b_law_pool, PySem.W.mg_of X G a_law_pool⟩
  have F_law := fun_mk (st := s_law) l_law c_law k_law
  have b_law := F_law.binds (ps := ["_law_script"]) fun _ _ _ _ _ _ us hl => match us, hl with | [_], _ => rfl
  have F_m_contains := fun_mk (st := s_Spread_contains) l_m_contains c_m_contains k_m_contains
  have b_m_contains := F_m_contains.binds (ps := ["self", "heights"]) fun _ _ _ _ _ _ us hl => match us, hl with | [_, _], _ => rfl
  have F_m_pairs := fun_mk (st := s_Spread_pairs) l_m_pairs c_m_pairs k_m_pairs
  have b_m_pairs := F_m_pairs.binds (ps := ["self"]) fun _ _ _ _ _ _ us hl => match us, hl with | [_], _ => rfl
  have F_m_nar := fun_mk (st := s_Spread_narrowed) l_m_nar c_m_nar k_m_nar
  have b_m_nar := F_m_nar.binds (ps := ["self"]) fun _ _ _ _ _ _ us hl => match us, hl with | [_], _ => rfl
  have F_m_and := fun_mk (st := s_Spread_and) l_m_and c_m_and k_m_and
  have b_m_and := F_m_and.binds (ps := ["self", "other"]) fun _ _ _ _ _ _ us hl => match us, hl with | [_, _], _ => rfl
  have F_m_changed := fun_mk (st := s_Spread_changed) l_m_changed c_m_changed k_m_changed
  have b_m_changed := F_m_changed.binds (ps := ["self", "row_steps", "different_steps", "more"]) fun _ _ _ _ _ _ us hl => match us, hl with | [_, _, _, _], _ => rfl
  have FD_grown : FunD K "grown" "Spread.grown" (defArgs s_Spread_grown) (defBody s_Spread_grown) (defScope s_Spread_grown) [.non] [] f_m_grown _ := ⟨⟨_, _, _, _, _, _, _, _, _, _, rfl, l_m_grown, c_m_grown, .inr ⟨by simp, TDgrown, _, [.none], _, rfl, lT_m_grown, rfl, .cons rfl .nil⟩, .inl rfl⟩, k_m_grown⟩
  obtain ⟨ds1_grown, hv1_grown, b_grown⟩ := FD_grown.binds1 (ps := ["self", "known"]) 2 1 (by simp) rfl (fun T kV doc pm an cdv ct us its hus hits => match us, its, hus, hits with | [_, _], [_], _, _ => ⟨_, rfl, rfl⟩)
  have hv1' : Vals [] ds1_grown := hv1_grown
  cases hv1'
  obtain ⟨ds0_grown, hv0_grown, c_grown⟩ := FD_grown.binds1 (ps := ["self", "known"]) 1 0 (by simp) rfl (fun T kV doc pm an cdv ct us its hus hits => match us, its, hus, hits with | [_], [_], _, _ => ⟨_, rfl, rfl⟩)
  have e0_grown : ds0_grown = [Value.none] := by
    have hv0' : Vals [V.non] ds0_grown := hv0_grown
    cases hv0' with
    | cons h1 t => cases t; cases (show _ = Value.none from h1); rfl
  rw [e0_grown] at c_grown
  have W_grown : Meth K CT "grown" f_m_grown := ⟨a_m_grown, i_m_grown, k_m_grown⟩
  have FD_shrunk : FunD K "shrunk" "Spread.shrunk" (defArgs s_Spread_shrunk) (defBody s_Spread_shrunk) (defScope s_Spread_shrunk) [.non] [] f_m_shrunk _ := ⟨⟨_, _, _, _, _, _, _, _, _, _, rfl, l_m_shrunk, c_m_shrunk, .inr ⟨by simp, TDshrunk, _, [.none], _, rfl, lT_m_shrunk, rfl, .cons rfl .nil⟩, .inl rfl⟩, k_m_shrunk⟩
  obtain ⟨ds1_shrunk, hv1_shrunk, b_shrunk⟩ := FD_shrunk.binds1 (ps := ["self", "last"]) 2 1 (by simp) rfl (fun T kV doc pm an cdv ct us its hus hits => match us, its, hus, hits with | [_, _], [_], _, _ => ⟨_, rfl, rfl⟩)
  have hv1' : Vals [] ds1_shrunk := hv1_shrunk
  cases hv1'
  obtain ⟨ds0_shrunk, hv0_shrunk, c_shrunk⟩ := FD_shrunk.binds1 (ps := ["self", "last"]) 1 0 (by simp) rfl (fun T kV doc pm an cdv ct us its hus hits => match us, its, hus, hits with | [_], [_], _, _ => ⟨_, rfl, rfl⟩)
  have e0_shrunk : ds0_shrunk = [Value.none] := by
    have hv0' : Vals [V.non] ds0_shrunk := hv0_shrunk
    cases hv0' with
    | cons h1 t => cases t; cases (show _ = Value.none from h1); rfl
  rw [e0_shrunk] at c_shrunk
  have W_shrunk : Meth K CT "shrunk" f_m_shrunk := ⟨a_m_shrunk, i_m_shrunk, k_m_shrunk⟩
  have W_changed : Meth K CT "_changed" f_m_changed := ⟨a_m_changed, i_m_changed, k_m_changed⟩
  have F_p_rows := fun_mk (st := s_Spread_rows) l_p_rows c_p_rows k_p_rows
  have b_p_rows := F_p_rows.binds (ps := ["self"]) fun _ _ _ _ _ _ us hl => match us, hl with | [_], _ => rfl
  have P_rows : Pf K CT "rows" "Spread.rows" s_Spread_rows _ _ _ := ⟨F_p_rows, b_p_rows, ⟨a_p_rows, g_p_rows, t_p_rows, ⟨_, r1_p_rows⟩⟩⟩
  have F_p_different := fun_mk (st := s_Spread_different) l_p_different c_p_different k_p_different
  have b_p_different := F_p_different.binds (ps := ["self"]) fun _ _ _ _ _ _ us hl => match us, hl with | [_], _ => rfl
  have P_different : Pf K CT "different" "Spread.different" s_Spread_different _ _ _ := ⟨F_p_different, b_p_different, ⟨a_p_different, g_p_different, t_p_different, ⟨_, r1_p_different⟩⟩⟩
  have F_p_most := fun_mk (st := s_Spread_most) l_p_most c_p_most k_p_most
  have b_p_most := F_p_most.binds (ps := ["self"]) fun _ _ _ _ _ _ us hl => match us, hl with | [_], _ => rfl
  have P_most : Pf K CT "most" "Spread.most" s_Spread_most _ _ _ := ⟨F_p_most, b_p_most, ⟨a_p_most, g_p_most, t_p_most, ⟨_, r1_p_most⟩⟩⟩
  have FI : FunD K "__init__" "Spread.__init__" (defArgs s_Spread_init) (defBody s_Spread_init) (defScope s_Spread_init) [.non] [] f_ini _ := ⟨⟨_, _, _, _, _, _, _, _, _, _, rfl, l_ini, c_ini, .inr ⟨by simp, TD, _, [.none], _, rfl, l_TD, rfl, .cons rfl .nil⟩, .inl rfl⟩, k_ini⟩
  obtain ⟨dsI, hvI, bI⟩ := FI.binds1 (ps := ["self", "size", "rows", "different", "most"]) 5 1 (by simp) rfl (fun T kV doc pm an cdv ct us its hus hits => match us, its, hus, hits with | [_, _, _, _, _], [_], _, _ => ⟨_, rfl, rfl⟩)
  have hvI' : Vals [] dsI := hvI
  cases hvI'
  obtain ⟨ds3, hv3, b3⟩ := FI.binds1 (ps := ["self", "size", "rows", "different", "most"]) 4 0 (by simp) rfl (fun T kV doc pm an cdv ct us its hus hits => match us, its, hus, hits with | [_, _, _, _], [_], _, _ => ⟨_, rfl, rfl⟩)
  have e3 : ds3 = [Value.none] := by
    have hv3' : Vals [V.non] ds3 := hv3
    cases hv3' with
    | cons h1 t => cases t; cases (show _ = Value.none from h1); rfl
  rw [e3] at b3
  have M_init : FD K "__init__" "Spread.__init__" s_Spread_init ["self", "size", "rows", "different", "most"] [.non] f_ini _ := ⟨FI, bI⟩
  have SK : SpK K mg CT f_ini := { cl := ⟨pgT, hdT, poT, saT⟩, n1 := nf0, n2 := nf1, n3 := nf2, n4 := nf3, gC := PySem.W.mg_of X G aT, mkc := ⟨mkT, a_ini, i_ini, kcT⟩, ha := haT, hn := hn, htk := htk, hm := hmT }
  have ES : PySem.ErrV.ErrTxt K mg "InvalidSpread" "InvalidSpread.__init__" CS iS := { gC := PySem.W.mg_of X G a_CS, cls := ⟨_, _, _, _, _, _, _, _, _, _, _, _, _, _, _, _, x_CS, tail_ex⟩, sa := sa_CS, ga := ga_CS, gg := gg_CS, noN := no_CS, iC := ic_CS, tC := tc_CS, kC := kc_CS, exC := ex_CS, tyC := ty_CS, hdC := hd_CS, te := PySem.W.exm_ref ex_CS hd_CS ty_CS te_CS, fn := ⟨_, _, _, _, _, _, _, _, _, _, _, _, _, _, l_CS, c_CS⟩ }
  have EV : PySem.ErrV.ErrTxt K mg "InvalidNumber" "InvalidNumber.__init__" CV iV := { gC := PySem.W.mg_of X G a_CV, cls := ⟨_, _, _, _, _, _, _, _, _, _, _, _, _, _, _, _, x_CV, tail_ve⟩, sa := sa_CV, ga := ga_CV, gg := gg_CV, noN := no_CV, iC := ic_CV, tC := tc_CV, kC := kc_CV, exC := ex_CV, tyC := ty_CV, hdC := hd_CV, te := PySem.W.exm_ref ex_CV hd_CV ty_CV te_CV, fn := ⟨_, _, _, _, _, _, _, _, _, _, _, _, _, _, l_CV, c_CV⟩ }
  have EC : PySem.ErrC.ErrTxt K mg "Contradictory" "Contradictory.__init__" CC iC := { gC := PySem.W.mg_of X G a_CC, cls := ⟨_, _, _, _, _, _, _, _, _, _, _, _, _, _, _, _, x_CC, tail_rt⟩, sa := sa_CC, ga := ga_CC, gg := gg_CC, noN := no_CC, iC := ic_CC, tC := tc_CC, kC := kc_CC, exC := ex_CC, tyC := ty_CC, hdC := hd_CC, te := PySem.W.exm_ref ex_CC hd_CC ty_CC te_CC, fn := ⟨_, _, _, _, _, _, _, _, _, _, _, _, _, _, l_CC, c_CC⟩ }
  have T : Txt mg tk := { n_isinstance := PySem.W.mg_none_of X G z_isinstance, n_int := PySem.W.mg_none_of X G z_int, n_bool := PySem.W.mg_none_of X G z_bool, n_tuple := PySem.W.mg_none_of X G z_tuple, n_len := PySem.W.mg_none_of X G z_len, n_range := PySem.W.mg_none_of X G z_range, n_enumerate := PySem.W.mg_none_of X G z_enumerate, n_max := PySem.W.mg_none_of X G z_max, n_min := PySem.W.mg_none_of X G z_min, n_sum := PySem.W.mg_none_of X G z_sum, n_all := PySem.W.mg_none_of X G z_all, n_zip := PySem.W.mg_none_of X G z_zip, n_list := PySem.W.mg_none_of X G z_list, c_MOST_HEIGHTS := PySem.W.mg_of X G z_MH }
  refine ⟨PySem.W.fnOf "law" "law" (defArgs s_law) (defBody s_law) (defScope s_law) .none kV_law dc_law pm_law an_law cd_law ct_law, fun s v => .of_eq rfl, fun base _ _ => ?_⟩
  have G1 := ok_whole (P := l.prog) (w := w) (base := base) (k := 0) T D_is_whole
  have G2 := ok_count (k := 0) D_is_whole G1 T D_is_count
  have G3 := ok_limits (k := 0) D_is_count G2 T D_is_limits
  have G4 := ok_most (k := 0) D_is_whole G1 T D_is_most
  have G5 := ok_lg (P := l.prog) (w := w) (base := base) (k := 0) T D_least_greatest
  have G6 := ok_pairs (k := 0) D_least_greatest G5 T D_possible_pairs
  have G7 := ok_init (k := 0) EV ES EC SK T D_is_whole G1 D_is_limits G3 D_is_most G4 D_possible_pairs G6 FI
  have H1 := ok_hts (k := 0) D_is_count G2 T D_is_heights
  have H2 := ok_within (P := l.prog) (w := w) (base := base) (k := 0) D_is_within
  have H3 := ok_moved (P := l.prog) (w := w) (base := base) (k := 0) T D_moved
  have H4 := ok_common (P := l.prog) (w := w) (base := base) (k := 0) T D_common_limits
  have H5 := ok_less (P := l.prog) (w := w) (base := base) (k := 0) T D_lesser_most
  have H6 := ok_poss (P := l.prog) (w := w) (base := base) (k := 0) D_is_possible
  have H7 := ok_chk (k := 0) D_is_count G2 T D_check_pair
  have H8 := ok_lev_h (P := l.prog) (w := w) (base := base) (k := 0) (PySem.W.mg_none_of X G z_divmod) D_level_heights
  have H9 := ok_lev (k := 0) D_check_pair H7 D_is_possible H6 D_level_heights H8 D_level
  have G6b := ok_pairs2 (k := 0) D_least_greatest G5 T D_possible_pairs
  have G8 := gok_pairs (k := 0) SK D_possible_pairs G6b F_m_pairs
  have M1 := ok_in (k := 0) SK T D_is_heights H1 D_is_within H2 F_m_contains
  have M2 := ok_changed (k := 0) EC SK T D_moved H3 D_possible_pairs G6 M_init G7 F_m_changed
  have M3 := ok_grown (k := 0) ES SK W_changed M2 b_m_changed FD_grown
  have M4 := ok_shrunk (k := 0) ES SK W_changed M2 b_m_changed FD_shrunk
  have M5 := ok_nar (k := 0) SK T ⟨a_m_pairs, i_m_pairs, k_m_pairs⟩ G8 b_m_pairs M_init G7 F_m_nar
  have M6 := ok_and (k := 0) (f4 := f_ini) ES EC SK T D_common_limits H4 D_lesser_most H5 D_possible_pairs G6 M_init G7 F_m_and
  have BA : BinOk K CT f_m_and "and" := { own := fst, fd := a_m_and, fn := i_m_and, rv := rnd }
  have p1 := ok_rows (P := l.prog) (w := w) (base := base) (k := 0) SK P_rows
  have p2 := ok_different (P := l.prog) (w := w) (base := base) (k := 0) SK P_different
  have p3 := ok_mostp (P := l.prog) (w := w) (base := base) (k := 0) SK P_most
  have g1 := ok_num (P := l.prog) (w := w) (base := base) (k := 0) T D_law_numbers
  have g2 := ok_draw (P := l.prog) (w := w) (base := base) (k := 0) T D_law_draw
  have g3 := ok_pool (k := 0) D_law_numbers g1 T D_law_pool
  exact ok_law (k := 0) T SK D_law_draw g2 D_law_pool g3 D_level H9 M_init G7 W_grown M3 b_grown c_grown W_shrunk M4 b_shrunk c_shrunk M1 a_m_contains i_m_contains b_m_contains ⟨a_m_nar, i_m_nar, k_m_nar⟩ M5 b_m_nar M6 BA b_m_and P_rows p1 P_different p2 P_most p3 ⟨F_law, b_law, hfa⟩
theorem walk {l : PySem.W.OpenLaw} {q : Program} {loose : List Str} {XP : (Str → Option Value) → Heap → Prop} {YP : World → Heap → Prop} {d : DefRec} {K : Params → PySem.W.Frag} (hn : l.most = some 63) (hdf : d.params.defaults = [])
    (hY : ∀ (w : World) (h : Heap), YP w h → (K w.params).In h)
    (F : ∀ (w : World) (mg : Str → Option Value) (fa : Addr) (h : Heap), (K w.params).In h → h.Ns mainGlobals mg → mg d.name = some (.ref fa) →
      ∃ fd : FuncData, (∀ (s : Shared) (u : Value), BindsTo s fd ⟨[u], []⟩ [("_law_script", u)]) ∧ ∀ base : Heap, (K w.params).In base → base.Ns mainGlobals mg → FnOk l.prog w (K w.params) mg base CX0 12 fa fd ["_law_script"] (spLaw (K w.params))) :
    PySem.W.WalkO q loose XP YP l.row.toRowW d [] (fun f vs => PySem.call f vs) :=
  L2.walk_ofK (n := 63) (k := 12) (x := "_law_script") (CX := CX0) (sp := spLaw) hn (by decide) hdf ⟨rfl, by decide, by decide⟩ hY F (fun K H a ns hl _ hS => ⟨a, ns, rfl, hS, hl, fun _ => rfl⟩) fun _ _ _ _ z => z
end K20
open PySem PySem.W PyProof.Rows
set_option maxRecDepth 100000 in
set_option maxHeartbeats 0 in
theorem PySem.Challenge.cw_surecounts_k88_whole_lives_of_buckets_holds : PySem.Challenge.rw_surecounts_k88_whole_lives_of_buckets.Holds := by
  w_on; o_law; k_head; (case hw => w_witness2)
  k_fill
  refine K20.walk (l := PySem.Challenge.rw_surecounts_k88_whole_lives_of_buckets) rfl rfl (fun w h Y => PySem.W.kIn_of Y) ?F
  case F =>
    intro w mg fa h KX G hmg
    refine' K20.all_mk KX G hmg ?aT ?z_isinstance ?z_int ?z_bool ?z_tuple ?z_len ?z_range ?z_enumerate ?z_max ?z_min ?z_sum ?z_all ?z_zip ?z_list ?z_divmod ?z_MH ?a_is_whole ?l_is_whole ?c_is_whole ?k_is_whole ?a_is_count ?l_is_count ?c_is_count ?k_is_count ?a_is_limits ?l_is_limits ?c_is_limits ?k_is_limits ?a_is_most ?l_is_most ?c_is_most ?k_is_most ?a_is_possible ?l_is_possible ?c_is_possible ?k_is_possible ?a_least_greatest ?l_least_greatest ?c_least_greatest ?k_least_greatest ?a_possible_pairs ?l_possible_pairs ?c_possible_pairs ?k_possible_pairs ?a_level_heights ?l_level_heights ?c_level_heights ?k_level_heights ?a_check_pair ?l_check_pair ?c_check_pair ?k_check_pair ?a_level ?l_level ?c_level ?k_level ?a_is_heights ?l_is_heights ?c_is_heights ?k_is_heights ?a_is_within ?l_is_within ?c_is_within ?k_is_within ?a_common_limits ?l_common_limits ?c_common_limits ?k_common_limits ?a_lesser_most ?l_lesser_most ?c_lesser_most ?k_lesser_most ?a_moved ?l_moved ?c_moved ?k_moved ?a_law_numbers ?l_law_numbers ?c_law_numbers ?k_law_numbers ?a_law_draw ?l_law_draw ?c_law_draw ?k_law_draw ?a_law_pool ?l_law_pool ?c_law_pool ?k_law_pool ?a_law ?l_law ?c_law ?k_law ?a_m_contains ?l_m_contains ?c_m_contains ?k_m_contains ?i_m_contains ?a_m_pairs ?l_m_pairs ?c_m_pairs ?k_m_pairs ?i_m_pairs ?a_m_nar ?l_m_nar ?c_m_nar ?k_m_nar ?i_m_nar ?a_m_and ?l_m_and ?c_m_and ?k_m_and ?i_m_and ?a_m_changed ?l_m_changed ?c_m_changed ?k_m_changed ?i_m_changed ?a_m_grown ?l_m_grown ?lT_m_grown ?c_m_grown ?k_m_grown ?i_m_grown ?a_m_shrunk ?l_m_shrunk ?lT_m_shrunk ?c_m_shrunk ?k_m_shrunk ?i_m_shrunk ?a_p_rows ?r1_p_rows ?g_p_rows ?t_p_rows ?l_p_rows ?c_p_rows ?k_p_rows ?a_p_different ?r1_p_different ?g_p_different ?t_p_different ?l_p_different ?c_p_different ?k_p_different ?a_p_most ?r1_p_most ?g_p_most ?t_p_most ?l_p_most ?c_p_most ?k_p_most ?a_ini ?l_ini ?l_TD ?c_ini ?k_ini ?i_ini ?pgT ?hdT ?poT ?saT ?mkT ?kcT ?nf0 ?nf1 ?nf2 ?nf3 ?haT ?hn ?htk ?hmT ?tyT ?a_CS ?x_CS ?sa_CS ?ga_CS ?gg_CS ?no_CS ?ic_CS ?tc_CS ?kc_CS ?ex_CS ?ty_CS ?hd_CS ?te_CS ?l_CS ?c_CS ?a_CV ?x_CV ?sa_CV ?ga_CV ?gg_CV ?no_CV ?ic_CV ?tc_CV ?kc_CV ?ex_CV ?ty_CV ?hd_CV ?te_CV ?l_CV ?c_CV ?a_CC ?x_CC ?sa_CC ?ga_CC ?gg_CC ?no_CC ?ic_CC ?tc_CC ?kc_CC ?ex_CC ?ty_CC ?hd_CC ?te_CC ?l_CC ?c_CC ?fst ?rnd
    (case aT => k_is)
    (case z_isinstance => k_is)
    (case z_int => k_is)
    (case z_bool => k_is)
    (case z_tuple => k_is)
    (case z_len => k_is)
    (case z_range => k_is)
    (case z_enumerate => k_is)
    (case z_max => k_is)
    (case z_min => k_is)
    (case z_sum => k_is)
    (case z_all => k_is)
    (case z_zip => k_is)
    (case z_list => k_is)
    (case z_divmod => k_is)
    (case z_MH => k_is)
    (case a_is_whole => k_is)
    (case l_is_whole => k_is)
    (case c_is_whole => k_is)
    (case k_is_whole => k_is)
    (case a_is_count => k_is)
    (case l_is_count => k_is)
    (case c_is_count => k_is)
    (case k_is_count => k_is)
    (case a_is_limits => k_is)
    (case l_is_limits => k_is)
    (case c_is_limits => k_is)
    (case k_is_limits => k_is)
    (case a_is_most => k_is)
    (case l_is_most => k_is)
    (case c_is_most => k_is)
    (case k_is_most => k_is)
    (case a_is_possible => k_is)
    (case l_is_possible => k_is)
    (case c_is_possible => k_is)
    (case k_is_possible => k_is)
    (case a_least_greatest => k_is)
    (case l_least_greatest => k_is)
    (case c_least_greatest => k_is)
    (case k_least_greatest => k_is)
    (case a_possible_pairs => k_is)
    (case l_possible_pairs => k_is)
    (case c_possible_pairs => k_is)
    (case k_possible_pairs => k_is)
    (case a_level_heights => k_is)
    (case l_level_heights => k_is)
    (case c_level_heights => k_is)
    (case k_level_heights => k_is)
    (case a_check_pair => k_is)
    (case l_check_pair => k_is)
    (case c_check_pair => k_is)
    (case k_check_pair => k_is)
    (case a_level => k_is)
    (case l_level => k_is)
    (case c_level => k_is)
    (case k_level => k_is)
    (case a_is_heights => k_is)
    (case l_is_heights => k_is)
    (case c_is_heights => k_is)
    (case k_is_heights => k_is)
    (case a_is_within => k_is)
    (case l_is_within => k_is)
    (case c_is_within => k_is)
    (case k_is_within => k_is)
    (case a_common_limits => k_is)
    (case l_common_limits => k_is)
    (case c_common_limits => k_is)
    (case k_common_limits => k_is)
    (case a_lesser_most => k_is)
    (case l_lesser_most => k_is)
    (case c_lesser_most => k_is)
    (case k_lesser_most => k_is)
    (case a_moved => k_is)
    (case l_moved => k_is)
    (case c_moved => k_is)
    (case k_moved => k_is)
    (case a_law_numbers => k_is)
    (case l_law_numbers => k_is)
    (case c_law_numbers => k_is)
    (case k_law_numbers => k_is)
    (case a_law_draw => k_is)
    (case l_law_draw => k_is)
    (case c_law_draw => k_is)
    (case k_law_draw => k_is)
    (case a_law_pool => k_is)
    (case l_law_pool => k_is)
    (case c_law_pool => k_is)
    (case k_law_pool => k_is)
    (case a_law => k_is)
    (case l_law => k_is)
    (case c_law => k_is)
    (case k_law => k_is)
    (case a_m_contains => k_is)
    (case l_m_contains => k_is)
    (case c_m_contains => k_is)
    (case k_m_contains => k_is)
    (case i_m_contains => k_is)
    (case a_m_pairs => k_is)
    (case l_m_pairs => k_is)
    (case c_m_pairs => k_is)
    (case k_m_pairs => k_is)
    (case i_m_pairs => k_is)
    (case a_m_nar => k_is)
    (case l_m_nar => k_is)
    (case c_m_nar => k_is)
    (case k_m_nar => k_is)
    (case i_m_nar => k_is)
    (case a_m_and => k_is)
    (case l_m_and => k_is)
    (case c_m_and => k_is)
    (case k_m_and => k_is)
    (case i_m_and => k_is)
    (case a_m_changed => k_is)
    (case l_m_changed => k_is)
    (case c_m_changed => k_is)
    (case k_m_changed => k_is)
    (case i_m_changed => k_is)
    (case a_m_grown => k_is)
    (case l_m_grown => k_is)
    (case lT_m_grown => k_is)
    (case c_m_grown => k_is)
    (case k_m_grown => k_is)
    (case i_m_grown => k_is)
    (case a_m_shrunk => k_is)
    (case l_m_shrunk => k_is)
    (case lT_m_shrunk => k_is)
    (case c_m_shrunk => k_is)
    (case k_m_shrunk => k_is)
    (case i_m_shrunk => k_is)
    (case a_p_rows => k_is)
    (case r1_p_rows => k_is)
    (case g_p_rows => k_is)
    (case t_p_rows => k_is)
    (case l_p_rows => k_is)
    (case c_p_rows => k_is)
    (case k_p_rows => k_is)
    (case a_p_different => k_is)
    (case r1_p_different => k_is)
    (case g_p_different => k_is)
    (case t_p_different => k_is)
    (case l_p_different => k_is)
    (case c_p_different => k_is)
    (case k_p_different => k_is)
    (case a_p_most => k_is)
    (case r1_p_most => k_is)
    (case g_p_most => k_is)
    (case t_p_most => k_is)
    (case l_p_most => k_is)
    (case c_p_most => k_is)
    (case k_p_most => k_is)
    (case a_ini => k_is)
    (case l_ini => k_is)
    (case l_TD => k_is)
    (case c_ini => k_is)
    (case k_ini => k_is)
    (case i_ini => k_is)
    (case pgT => k_is)
    (case hdT => k_is)
    (case poT => k_is)
    (case saT => k_is)
    (case mkT => k_is)
    (case kcT => k_is)
    (case nf0 => k_is)
    (case nf1 => k_is)
    (case nf2 => k_is)
    (case nf3 => k_is)
    (case haT => k_is)
    (case hn => k_is)
    (case htk => k_is)
    (case hmT => k_is)
    (case tyT => k_is)
    (case a_CS => k_is)
    (case x_CS => k_is)
    (case sa_CS => k_is)
    (case ga_CS => k_is)
    (case gg_CS => k_is)
    (case no_CS => k_is)
    (case ic_CS => k_is)
    (case tc_CS => k_is)
    (case kc_CS => k_is)
    (case ex_CS => k_is)
    (case ty_CS => k_is)
    (case hd_CS => k_is)
    (case te_CS => k_is)
    (case l_CS => k_is)
    (case c_CS => k_is)
    (case a_CV => k_is)
    (case x_CV => k_is)
    (case sa_CV => k_is)
    (case ga_CV => k_is)
    (case gg_CV => k_is)
    (case no_CV => k_is)
    (case ic_CV => k_is)
    (case tc_CV => k_is)
    (case kc_CV => k_is)
    (case ex_CV => k_is)
    (case ty_CV => k_is)
    (case hd_CV => k_is)
    (case te_CV => k_is)
    (case l_CV => k_is)
    (case c_CV => k_is)
    (case a_CC => k_is)
    (case x_CC => k_is)
    (case sa_CC => k_is)
    (case ga_CC => k_is)
    (case gg_CC => k_is)
    (case no_CC => k_is)
    (case ic_CC => k_is)
    (case tc_CC => k_is)
    (case kc_CC => k_is)
    (case ex_CC => k_is)
    (case ty_CC => k_is)
    (case hd_CC => k_is)
    (case te_CC => k_is)
    (case l_CC => k_is)
    (case c_CC => k_is)
    (case fst => k_is)
    (case rnd => k_is)
