import PyProof.Rows.All
import Wide.All
import OpenK.AllK
import Wide.FinOn
import PyProof.EqAt
import PyProof.EqKinds
import PyProof.TupleCall
import PySem.Challenge.RW_surecounts_k25_questions
import HandS.ForMost
import HandS.Exc
import HandS.ExcOwn
import HandS.TryOnly
import HandS.WordsExc
import HandS.Zip
import HandS.Conv
import HandS.IsInst
import HandS.Deep
import HandS.TupAny
import HandS.Strs
import HandS.SetFor
import HandS.Evl
import HandS.Style
import HandS.ExcIs
import KE.GoesEnum
import KE.GoesMore
import HandS.CallSlots
import HandS.GenBody
import HandS.GenYield
import PyProof.ForAny
import HandS.Property
import HandS.Star
import HandS.ClsMeth
import HandS.CallLocal
import PyProof.InstNe
import KE.KOpsOwn
import HandS.OwnEq
import PyProof.NeKinds
import HandS.GenList
import HandS.TupMul
set_option Elab.async false
set_option linter.all false
set_option maxRecDepth 100000
set_option maxHeartbeats 2100000
/-! several clauses «except X as n», one after the other -/
namespace TA5
open PySem L2 PySem.Spec PyProof.Rows
abbrev TSx := Addr → Value → Option Addr → TS
def wAll (K : PySem.W.Frag) (Wout : WX) (D : Ends) : List (Value × Nat × TSx) → WX
  | [] => Wout
  | (c, i, ts) :: r => fun cls d σ H => ∃ b, PySem.W.exmOne K cls c = some b ∧
    (b = true → ∀ a, H a = none → ts a cls d { nx := fun σ' H' => D.nx (σ'.set i none) H', rt := D.rt, bk := fun σ' H' => D.bk (σ'.set i none) H', ct := fun σ' H' => D.ct (σ'.set i none) H' } (σ.set i (some (.ref a))) H) ∧ (b = false → wAll K Wout D r cls d σ H)
inductive Hds (X : Cx) : List ExceptHandler → List (Value × Nat × TSx) → Prop
  | nil : Hds X [] []
  | cons {x n : Str} {i : Nat} {c : Value} {ts : TSx} {b₀ : Stmt} {suite : List Stmt} {np pos' : Pos} {hds : List ExceptHandler} {l : List (Value × Nat × TSx)} (hi : X.N[i]? = some n) (hln : X.env.kindOf n = some .local) (hc : Names X x c)
      (hsu : ∀ (a : Addr) (oe : Obj) (cls : Value) (d : Option Addr) (pn : List (Addr × Obj)), Zc cls d oe → (∃ vs, oe.data = .fields vs) → PSs (X.suite a ((a, oe) :: pn)) (b₀ :: suite) (ts a cls d)) (r : Hds X hds l) :
      Hds X (.ExceptHandler (some (.Name x np)) (some n) (b₀ :: suite) pos' :: hds) ((c, i, ts) :: l)
section
variable {X : Cx} {body : List Stmt} {h₀ : ExceptHandler} {hds : List ExceptHandler} {l : List (Value × Nat × TSx)} {pos : Pos} {tb : WX → TS} {Wout : WX}
theorem ps_try_all (hs : X.stack = X.env :: X.outer) (hf : X.env.frame = some X.env.locals) (hN : X.N.Nodup) (tk : Takes X Wout)
    (hb : ∀ (W : WX) (pn : List (Addr × Obj)) (xe : Value → Shared → Prop), Takes (X.tr pn xe) W → PassesOwn (model X.prog X.w) X.A X.env xe → PSs (X.tr pn xe) body (tb W))
    (hh : Hds X (h₀ :: hds) l) : PS X (.Try body (h₀ :: hds) [] [] pos) (fun D σ H => tb (wAll X.K Wout D l) D σ H) := by
  refine ⟨fun pins s σ H D I h => ?_⟩
  have ok := I.ok; have hfr : X.A.frames = some (X.env :: X.outer) := by rw [I.ok.frames, hs]
  refine wpAny_Try_except ?_
  refine wpAny_mono ((hb (wAll X.K Wout D l) (X.pn ++ pins) (fun e s₁ => wpAny (model X.prog X.w) X.A (noteFrame e X.env) (fun _ s₂ => wpAny (model X.prog X.w) X.A (setFlight e none) (fun _ s₃ =>
    wpAny (model X.prog X.w) X.A (handleBy e X.env (h₀ :: hds)) (SP X pins D) X.xe s₃) X.xe s₂) X.xe s₁) (fun u s' xx => ?_) PassesOwn.looking).run [] s σ H D (I.toTry _) h) (fun f s1 hsp => ?_) (fun e s1 he => he)
  · obtain ⟨a, B, sI, pins', σ', H', cls, d, rfl, J', nb, up, sky, na, os, ag, w⟩ := xx
    have J : Inv X pins σ' H' sI := J'.ofTry ok; have sky' : Sky B (X.env :: X.outer) a (Zc cls d) X.env.locals s'.heap := by rw [← hs]; exact sky
    show wpAny (model X.prog X.w) X.A (noteFrame (.ref a) X.env) _ _ _
    refine Sky.land Zc.steady hfr hf sky' fun h3 fl3 up3 => ?_
    have J3 : Inv X pins σ' H' { s' with heap := h3 } := J.landed nb fl3.1 (up.trans up3) os ag; obtain ⟨oe3, vs3, he3, hz3, hd3⟩ := fl3.there
    have notFr : ∀ {hq : Heap} {oq : Obj} {vq : Array Value}, hq.FunFrames B (X.env :: X.outer) → hq.get? a = some oq → oq.data = .fields vq → a ∉ frs (X.env :: X.outer) := fun {hq oq vq} ff e dd hm => by
      obtain ⟨_, o', e', hnf⟩ := ff.mem hm; rw [e] at e'; cases e'
      exact hnf _ dd
    have nfr := notFr fl3.2.2.1 he3 hd3
    have nL : a ≠ X.env.locals := fun z => nfr (List.mem_filterMap.mpr ⟨X.env, List.mem_cons_self, by rw [hf, z]⟩); have nF : a ∉ X.fs := fun hm => by
      obtain ⟨e, he, q⟩ := List.mem_filterMap.mp hm; exact nfr (List.mem_filterMap.mpr ⟨e, List.mem_cons_of_mem _ he, q⟩)
    have S3 := J3.suite he3 hd3 na nL nF
    have go : ∀ {hds' : List ExceptHandler} {l' : List (Value × Nat × TSx)}, Hds X hds' l' → wAll X.K Wout D l' cls d σ' H' → wpAny (model X.prog X.w) X.A (handleBy (.ref a) X.env hds') (SP X pins D) X.xe { s' with heap := h3 } := by
      intro hds' l' hk
      induction hk with
      | nil =>
        intro w
        refine wpAny_handleBy_nil ?_
        obtain ⟨k1, k2, k3, oe, vs, T, oT, ts', he, hz, hd, h1, hr⟩ := id fl3
        unfold PySem.passOn
        refine wpAny_bind (wpAny_field he hd h1 ?_); rw [if_neg (show ¬ ((Value.ref T == Value.none) = true) from by simp)]
        have fin : wpAny (model X.prog X.w) X.A (setFlight (.ref a) X.env.frame) (fun _ s4 => wpAny (model X.prog X.w) X.A (throw (.ref a) : Sem Flow) (SP X pins D) X.xe s4) X.xe { s' with heap := h3 } := by
          rw [hf]
          refine HandSPX.setFlight_upZ fl3 fun h4 hh4 up4 => wpAny_throw (tk _ _ ?_)
          exact ⟨a, B, sI, pins, σ', H', cls, d, rfl, J, nb, (up.trans up3).trans up4, .inr (.inr (by rw [hs]; exact hh4)), na, os, ag, w⟩
        first
          | exact wpAny_bind (wpAny_pure (wpAny_bind fin))
          | exact wpAny_bind fin
      | @cons x n i c ts b₀ suite np pos' hds2 l2 hi hln hc hsu r ih =>
        intro w
        obtain ⟨b, hb1, hyes, hno⟩ := w
        refine wpAny_handleBy_cons (codeAny_handlers_test ?_) (by intro q; cases q)
        have LT : PySem.W.Looks (model X.prog X.w) h3 (typeOf (.ref a)) cls := fun A Q E s k q => wpAny_typeOf_ref (k _ _ he3) (by rw [hz3.1]; exact q)
        have LM := PySem.W.exm_one (M := model X.prog X.w) (J3.kIn) LT hb1
        have test : ∀ {Q : Value → Shared → Prop} {E : Value → Shared → Prop}, Q c { s' with heap := h3 } → wpAny (model X.prog X.w) (X.A.mark (some (.ref a))) (eval (.Name x np) X.env) Q E { s' with heap := h3 } := fun {Q E} q => by
          obtain ⟨hg, hdbg, hm | ⟨hm, hv, hnn⟩⟩ := hc
          · exact ld_glob (X := X.suite a ((a, oe3) :: (X.pn ++ pins))) S3 hg hm q hdbg
          · exact ld_blt (X := X.suite a ((a, oe3) :: (X.pn ++ pins))) S3 hg hm hv q hnn hdbg
        refine test (LM.here ?_)
        cases b with
        | true =>
          refine codeAny_handlers_suite_as ?_
          refine HandSPX.lands_againZ fl3 fun h4 fl4 up4 => ?_
          have J4 : Inv X pins σ' H' { s' with heap := h4 } := J.landed nb fl4.1 ((up.trans up3).trans up4) os ag
          obtain ⟨oe4, vs4, he4, hz4, hd4⟩ := fl4.there
          have S4 := J4.suite he4 hd4 na nL nF
          refine store_ok (X := X.suite a ((a, oe4) :: (X.pn ++ pins))) (v := .ref a) S4 hN hi (.inl hln) rfl (fun s5 S5 => ?_) (.inr hln)
          refine wpAny_mono ((hsu a oe4 cls d (X.pn ++ pins) hz4 ⟨_, hd4⟩).run [] s5 _ H' _ S5 (hyes rfl a na)) (fun f s6 hsp => ?_) (fun _ _ z => False.elim z)
          have end_ : ∀ {σ6 : L2.St} {H6 : Hp} {Q : Shared → Prop}, Inv (X.suite a ((a, oe4) :: (X.pn ++ pins))) [] σ6 H6 s6 → (∀ s7, Inv X pins (σ6.set i none) H6 s7 → Q s7) →
              wpAny (model X.prog X.w) X.A (do bindName X.env n .none; unbindBehindTheSuite X.env n pos') (fun _ s7 => Q s7) X.xe s6 := fun {σ6 H6 Q} S6 hq => gone_ok (S6.unsuite ok) hN hi hln hq
          cases f with
          | next => obtain ⟨σ6, H6, S6, q6⟩ := hsp; exact end_ S6 fun s7 J7 => ⟨_, _, J7, q6⟩
          | brk => obtain ⟨σ6, H6, S6, q6⟩ := hsp; exact end_ S6 fun s7 J7 => ⟨_, _, J7, q6⟩
          | cont => obtain ⟨σ6, H6, S6, q6⟩ := hsp; exact end_ S6 fun s7 J7 => ⟨_, _, J7, q6⟩
          | ret u => obtain ⟨v6, σ6, H6, S6, r6, q6⟩ := hsp; exact end_ S6 fun s7 J7 => ⟨_, _, _, J7, r6, q6⟩
        | false =>
          show wpAny _ X.A (handleBy (.ref a) X.env hds2) _ _ _
          exact ih (hno rfl)
    exact go hh w
  · cases f with
    | next => obtain ⟨σ', H', J', q⟩ := hsp; exact wpAny_execs_nil ⟨σ', H', J'.ofTry ok, q⟩
    | brk => obtain ⟨σ', H', J', q⟩ := hsp; exact ⟨σ', H', J'.ofTry ok, q⟩
    | cont => obtain ⟨σ', H', J', q⟩ := hsp; exact ⟨σ', H', J'.ofTry ok, q⟩
    | ret u => obtain ⟨v, σ', H', J', r, q⟩ := hsp; exact ⟨v, σ', H', J'.ofTry ok, r, q⟩
end
end TA5

namespace PySem
open Builtin
/-- a class's chain behind itself: own classes, then a base's -/
structure Tail (bm : List Value) (newId : String) : Prop where
  base : ∃ B initId tail, ExcBaseFacts B newId initId tail ∧ ∀ X : String, bm.contains (.type X) = tail.contains (.type X)
  pass : ∀ self C, refuseLoop self "__setattr__" (.ref C :: bm) = pure ()
  obj : bm.contains (.type "object") = true
end PySem
namespace TA5
open PySem PySem.W PySem.Calls PyProof.Rows PySem.HandSPX PySem.Builtin PySem.Builtin.ObjectAttr
theorem tail_ve : Tail [.type "ValueError", .type "Exception", .type "BaseException", .type "object"] "ValueError.__new__" := ⟨⟨_, _, _, PySem.F.excBase_ValueError, fun _ => rfl⟩, fun self C => by rw [refuseLoop_ref]; exact PySem.F.store_ValueError.passes self, rfl⟩
theorem tail_ex {S : Addr} : Tail [.ref S, .type "Exception", .type "BaseException", .type "object"] "Exception.__new__" := ⟨⟨_, _, _, PySem.F.excBase_Exception, fun X => by rw [List.contains_cons]; rfl⟩, fun self C => by rw [refuseLoop_ref, refuseLoop_ref]; exact PySem.F.store_Exception.passes self, rfl⟩
theorem one_size (v : Value) : [v].length ≤ sizeLine := by
  rw [sizeLine_eq]
  exact (by decide : 1 ≤ 16777216)
theorem ldC {M : Model} {s : Shared} {name : Str} {scope : Scope} {L a : Addr} {cd : Value} {m : Str → Option Value} {x : Str} {pos : Pos} {v : Value} {Q : Value → Shared → Prop} {A : Around} {E : Value → Shared → Prop} (hn : s.heap.Ns L m) (hv : m x = some v) (h : Q v s)
    (hk : scope.kind = .function := by rfl) (hl : (envOfC name scope L a cd).kindOf x = some .local := by rfl) (hd : (x == ("__debug__" : Str)) = false := by decide) :
    wpAny M A (eval (.Name x pos) (envOfC name scope L a cd)) Q E s := wpAny_Name (wpAny_loadName_local hk hl hn hv h) hd
section
variable {prog : Program} {w : World} {A : Around} {R : Result → Shared → Prop} {hp : Heap} {g : Array GenState} {d : Drawn} {t : Nat} {os : OsState}
theorem exc_osaT {K : W.Frag} {name : Str} {tk : Tok} {v : Value} {x C : Addr} {fv : Array Value} {cd : ClassData} {bm : List Value}
    (X : K.In hp) (hx : hp.get? x = some { cls := .ref C, data := .fields fv }) (hcd : W.clsIn K C = some cd) (hps : ∀ self C, refuseLoop self "__setattr__" (.ref C :: bm) = pure ()) (hobj : bm.contains (.type "object") = true) (hmro : cd.mro = .ref C :: bm) (ha : W.findIn K (.ref C) name = some none)
    (hq : ∀ h' tk' dx, (∀ b o, b ≠ x → hp.get? b = some o → h'.get? b = some o) → hp.objs.size ≤ dx → dx ≠ x → h'.get? x = some { cls := .ref C, dict := some dx, data := .fields fv } →
      h'.Ns1 dx (fun y => if y = name then some v else none) → R (.ok (.ret .none)) ⟨h', g, d, tk', os⟩) (hh : cd.hasDict = true := by rfl) :
    codeAny (model prog w) A (.call (.builtin "object.__setattr__") ⟨[.ref x, .str name tk, v], []⟩) R ⟨hp, g, d, t, os⟩ := by
  have I : W.InstAt hp x { cls := .ref C, data := .fields fv } C none := ⟨hx, rfl, rfl, trivial⟩
  have SF := F.store_object
  have ne : cd.mro.isEmpty = false := by rw [hmro] <;> rfl
  have hob : cd.mro.contains (.type "object") = true := by rw [hmro, List.contains_cons, hobj, Bool.or_true]
  have hxs : x ≠ hp.objs.size := Nat.ne_of_lt (Heap.lt_size hx)
  have sub : W.Looks (model prog w) hp (isInstance (.ref x) (.type "object")) true := I.type.andThen (W.looks_mroIn X (by unfold W.mroIn; rw [hcd, Option.bind_some, if_neg (by rw [ne]; decide), hob]))
  refine codeAny_call_builtin SF.slot.plain SF.entry (@W.check_slot (model prog w) _ _ ⟨hp, g, d, t, os⟩ "object.__setattr__" "object" "__setattr__" (.ref x) [.str name tk, v] [] _ SF.kind SF.split sub (SF.args (.ref x) (.str name tk) v) ?_)
  have hmr : W.Looks (model prog w) hp (mroOf (.ref C)) cd.mro := (W.looks_clsIn X hcd).andThen .now
  have L3 : W.Looks (model prog w) hp (storeTaker? none) none := .now
  have hcls : W.Looks (model prog w) hp (classData C) cd := W.looks_clsIn X hcd
  rw [W.osa_eq, refuse_eq]
  refine wpAny_bind (wpAny_bind (I.type.at (wpAny_bind (hmr.at ?_))))
  rw [hmro, hps]
  refine wpAny_pure (wpAny_bind (I.type.at (wpAny_bind ((W.looks_findIn X ha).at (wpAny_bind (L3.at ?_))))))
  show wpAny _ _ (storeInOwnDict (.ref x) (.ref C) (.str name tk) name v false) _ _ _
  clear hmro ne hob hmr sub
  obtain ⟨nm, bs, mro, ns, qn, hd, sn, sb, ab, col, del⟩ := cd
  dsimp only at hh
  subst hh
  unfold storeInOwnDict ownDictForStores
  repeat (first | with_reducible refine store_in_new ?_ ?_ | with_reducible refine wpAny_loadPart_at hx ?_ | with_reducible refine hcls.at ?_ | wp_step)
  · exact ⟨_, #[], _, (Heap.get?_update_ne _ _ _ _ hxs.symm).trans (Heap.get?_push_at rfl rfl), rfl, fun e he => absurd he (by simp), fun _ => rfl⟩
  · intro h' tk' hn' hs
    have hx₁ : (hp.push { cls := .type "dict", data := .dict #[] }).get? x = some { cls := .ref C, data := .fields fv } := Heap.get?_push_of_some _ hx
    refine hq h' tk' hp.objs.size (fun b o hb ho => ?_) (Nat.le_refl _) hxs.symm ?_ hn'
    · exact (hs.2 b (Nat.ne_of_lt (Heap.lt_size ho))).trans ((Heap.get?_update_ne _ _ _ _ hb).trans (Heap.get?_push_of_some _ ho))
    · exact (hs.2 x hxs).trans (Heap.get?_update_self _ hx₁ rfl)
end
end TA5

namespace PySem
namespace ErrP
open PySem.W PySem.Calls PyProof.Rows PySem.HandSPX
def iA (p1 p2 : Pos) : Arguments := { posonlyargs := [], args := [{ arg := "self", annotation := none, pos := p1 }, { arg := "place", annotation := none, pos := p2 }], vararg := none, kwonlyargs := [], kw_defaults := [], kwarg := none, defaults := [] }
def iB (q1 q2 q3 q4 : Pos) : List Stmt := [.Assign [.Attribute (.Name "self" q1) "place" q2] (.Name "place" q3) q4]
def iS : Scope := { kind := .function, names := [(PySem.Str.ofString "self", .local), (PySem.Str.ofString "place", .local)], isGenerator := false, isCoroutine := false, more := [] }
/-- what the written part says of the error class x, at C, and of its __init__, at fI -/
structure ErrTxt (K : Frag) (mg : Str → Option Value) (x q : Str) (C fI : Addr) : Prop where
  gC : mg x = some (.ref C)
  cls : ∃ nm qq N bs bm sn sub ab col dd k0 k1 k2 k3 k5 newId, K.lookup C = some (excClassObj nm qq C N bs bm true sn sub ab col dd k0 k1 k2 k3 k5 newId) ∧ Tail bm newId
  sa : findIn K (.ref C) "__setattr__" = some (some (.builtin "object.__setattr__"))
  ga : findIn K (.ref C) "__getattribute__" = some (some (.builtin "BaseException.__getattribute__"))
  gg : findIn K (.ref C) "__getattr__" = some none
  noN : findIn K (.ref C) "place" = some none
  iC : findIn K (.ref C) "__init__" = some (some (.ref fI))
  tC : typeIn K (.ref fI) = some (.type "function")
  kC : keepIn K (.ref C) = true
  exC : subIn K (.ref C) (.type "BaseException") = some true
  tyC : typeIn K (.ref C) = some (.type "type")
  hdC : hasDictIn K C = true
  te : exmOne K (.ref C) (.ref C) = some true
  fn : ∃ (oc : Value) (od : Option Addr) (doc pm : Value) (an : Option Addr) (cdv ct : Value) (osl : Array (Option Value)) (p1 p2 q1 q2 q3 q4 : Pos),
    K.lookup fI = some ⟨oc, od, .func (fnOf "__init__" q (iA p1 p2) (iB q1 q2 q3 q4) iS .none .none doc pm an cdv ct), osl⟩ ∧ codeIn K cdv q = true
structure InitEnd (h h' : Heap) (x C dx t1 : Addr) (v : Value) : Prop where
  keep : ∀ b o, b ≠ x → h.get? b = some o → h'.get? b = some o
  obj : h'.get? x = some { cls := .ref C, dict := some dx, data := .fields #[.ref t1, .none, .none, .none, .bool false, .none] }
  dbig : h.objs.size ≤ dx
  dne : dx ≠ x
  ns : h'.Ns1 dx (fun y => if y = "place" then some v else none)
structure OwnMade (h h' : Heap) (e C d : Addr) (v : Value) : Prop where
  keep : ∀ b o, h.get? b = some o → h'.get? b = some o
  new : h.objs.size ≤ e
  obj : ∃ oe vs, h'.get? e = some oe ∧ oe.cls = .ref C ∧ oe.dict = some d ∧ oe.data = .fields vs ∧ vs[1]? = some .none
  dbig : h.objs.size ≤ d
  dne : d ≠ e
  ns : h'.Ns1 d (fun y => if y = "place" then some v else none)
section
variable {prog : Program} {w : World} {A : Around} {E : Value → Shared → Prop} {R : Result → Shared → Prop} {s : Shared} {K : Frag} {mg : Str → Option Value} {C fI : Addr} {xn q : Str}
theorem err_init (T : ErrTxt K mg xn q C fI) {x t0 : Addr} {v : Value} (X : K.In s.heap) (hlim : s.heap.NoLimit) (hx : s.heap.get? x = some (excO C t0)) (hnx : K.lookup x = none) (hroom : A.depth < recursionLimit)
    (hq : ∀ h' tk dx, InitEnd s.heap h' x C dx t0 v → R (.ok (.ret .none)) { s with heap := h', toks := tk }) :
    codeAny (model prog w) A (.call (.ref fI) ⟨[.ref x, v], []⟩) R s := by
  obtain ⟨oc, od, doc, pm, an, cdv, ct, osl, p1, p2, q1, q2, q3, q4, ho, hcd⟩ := T.fn
  obtain ⟨nm, qq, N, bs, bm, sn, sub, ab, col, dd, k0, k1, k2, k3, k5, newId, hC, hbm⟩ := T.cls
  have hcl : clsIn K C = some { name := nm, bases := bs, mro := .ref C :: bm, ns := N, qualname := qq, hasDict := true, slotNames := sn, subclasses := sub, abstract := ab, collection := col, hasDel := false } := by unfold clsIn; rw [hC] <;> rfl
  refine Att.call_fn (binds := [("self", .ref x), ("place", v)]) X hlim ho hcd hroom (BindsTo.of_eq (by first | rfl | with_unfolding_all rfl)) (by first | rfl | decide | with_unfolding_all rfl) (fun s₁ IC => ?_) rfl rfl rfl
  obtain ⟨h₁, tk₁, rfl⟩ := IC.toInCall.same
  have k : ∀ b o, s.heap.get? b = some o → h₁.get? b = some o := IC.toInCall.keep
  have hn := IC.toInCall.ns
  have hxL : s.heap.objs.size ≠ x := Nat.ne_of_gt (Heap.lt_size hx)
  have X₁ : K.In h₁ := X.keeps k
  have hx₁ := k _ _ hx
  show wpAny _ _ (execs _ _) _ _ _
  refine wpAny_execs_cons (plainObj_wpAny_Assign_Attribute ?_)
  refine TA5.ldC (v := v) hn (by first | rfl | with_unfolding_all rfl | kernel_rfl) (TA5.ldC (v := .ref x) hn (by first | rfl | with_unfolding_all rfl | kernel_rfl) ?_)
  refine set_plain X₁ (ox := excO C t0) (od := none) ⟨hx₁, rfl, rfl, trivial⟩ T.sa ?_
  refine TA5.exc_osaT X₁ hx₁ hcl hbm.pass hbm.obj rfl T.noN (fun h₃ tk₃ dx k₃ dn dne hx₃ hn₃ => ?_)
  show wpAny _ _ (execs _ _) _ _ _
  have z : s.heap.objs.size < h₁.objs.size := hn.lt
  exact wpAny_execs_nil (hq h₃ tk₃ dx ⟨fun b o hb e => k₃ b o hb (k b o e), hx₃, Nat.le_of_lt (Nat.lt_of_lt_of_le z dn), dne, hn₃⟩)
theorem err_made (T : ErrTxt K mg xn q C fI) {v : Value} (X : K.In s.heap) (hlim : s.heap.NoLimit) (hroom : A.depth + 1 < recursionLimit)
    (hq : ∀ h' tk e d, OwnMade s.heap h' e C d v → R (.ok (.ret (.ref e))) { s with heap := h', toks := tk }) :
    codeAny (model prog w) A (.call (.ref C) ⟨[v], []⟩) R s := by
  obtain ⟨nm, qq, N, bs, bm, sn, sub, ab, col, dd, k0, k1, k2, k3, k5, newId, hC, hbm⟩ := T.cls
  obtain ⟨B, initId, tail, F, hT⟩ := hbm.base
  obtain ⟨hp, g, dr, tk, os⟩ := s
  have k : ∀ b o, hp.get? b = some o → ((hp.push (kdv_tup [v])).push (excO C hp.objs.size)).get? b = some o := fun b o e => Heap.get?_push_of_some _ (Heap.get?_push_of_some _ e)
  have hget : ((hp.push (kdv_tup [v])).push (excO C hp.objs.size)).get? (hp.objs.size + 1) = some (excO C hp.objs.size) := by heap_get
  have hnx : K.lookup (hp.objs.size + 1) = none := by
    cases e : K.lookup (hp.objs.size + 1) with
    | none => rfl
    | some o =>
      have z : hp.get? (hp.objs.size + 1) = some o := X _ _ e
      exact absurd (Nat.lt_of_succ_lt (Heap.lt_size z)) (Nat.lt_irrefl _)
  refine call_own F hT (X _ _ hC) (looks_findIn X T.iC) (fun self => bind_fn X self T.tC) (TA5.one_size v) ?_
  refine err_init (s := ⟨(hp.push (kdv_tup [v])).push (excO C hp.objs.size), g, dr, tk, os⟩) T (X.keeps k) (hlim.keeps k) hget hnx ?_ fun h' tk' dx ⟨k', hx, dn, dne, hns⟩ => ?_
  · show A.depth + 1 < recursionLimit
    exact hroom
  · have old : ∀ b o, hp.get? b = some o → h'.get? b = some o := fun b o e => k' b o (Nat.ne_of_lt (Nat.lt_succ_of_lt (Heap.lt_size e))) (k b o e)
    have z : hp.objs.size + 1 + 1 ≤ dx := by
      first
        | (simpa only [Heap.size_push] using dn)
        | exact dn
        | (have q := dn; rw [Heap.size_push, Heap.size_push] at q; exact q)
    exact ⟨rfl, hq h' tk' (hp.objs.size + 1) dx ⟨old, Nat.le_succ _, ⟨_, _, hx, rfl, rfl, rfl, rfl⟩, Nat.le_trans (Nat.le_trans (Nat.le_succ _) (Nat.le_succ _)) z, dne, hns⟩⟩
end
end ErrP
end PySem
namespace ErrPL
open PySem L2 PySem.Spec PyProof.Rows
theorem relO_err {v : V} {v' : Value} (r : RelV v v') (f : Str) : RelO (List.lookup f [(("place" : Str), v)]) (if f = "place" then some v' else none) := by
  by_cases hw : f = "place"
  · subst hw
    rw [if_pos rfl]
    have q : List.lookup ("place" : Str) [(("place" : Str), v)] = some v := by simp [List.lookup]
    rw [q]
    exact r
  · rw [if_neg hw]
    have qw : (f == ("place" : Str)) = false := by simpa using hw
    have q2 : List.lookup f [(("place" : Str), v)] = none := by simp [List.lookup, qw]
    rw [q2]
    trivial
section
variable {X : Cx} {C fI : Addr} {xn q : Str}
def tMkErr (C : Addr) (ta : TA) : L2.St → Hp → XK → Prop := fun σ H Q => ta σ H fun vs H1 => ∃ v, vs = [v] ∧ ∀ d, H1 d = none → Q (.ref C) (some d) (upd H1 d (.xd [(("place" : Str), v)]))
theorem pmk_err {a : Expr} {ta : TA} {p pos : Pos} {k : Nat} (T : PySem.ErrP.ErrTxt X.K X.mg xn q C fI) (hr : Room k X.A) (ha : PA X [a] ta) (hg : Gl X xn := by rfl) (hdb : (xn == ("__debug__" : Str)) = false := by decide)
    (he : starEach (a :: []) X.env = (false, eval a X.env) :: starEach [] X.env := by rfl) (hpl : (backTo pos (starEach [] X.env)).any (·.1) = false := by rfl) :
    PMk X (.Call (.Name xn p) [a] [] pos) (tMkErr C ta) := by
  intro pins s σ H Q I h
  refine wpAny_Call_Name_kw (ld_glob I hg T.gC ?_ hdb)
  refine PySem.W.callWith_K (h₀ := X.base) I.ok.mod.kin T.kC (thn (ha.run pos pins s σ H _ I h) fun us s1 hh => ?_) he hpl
  obtain ⟨vs, H1, I1, r1, v, ev, q1⟩ := hh
  subst ev
  refine ⟨I1.kIn, ?_⟩
  cases r1 with
  | cons rv rn =>
    rename_i v' us'
    cases rn
    show wpAny _ _ (call (.ref C) [v']) _ _ _
    have hlim := I1.nolimit
    obtain ⟨hp, g, dr, tk, os⟩ := s1
    refine wpAny_call (PySem.ErrP.err_made T I1.kIn hlim (by have := hr.dp; omega) fun h' tk' e d M => ?_)
    show MkP X pins σ Q (.ref e) ⟨h', g, dr, tk', os⟩
    obtain ⟨oe, fv, hoe, hc, hd, hdat, h1⟩ := M.obj
    have hns := M.ns
    obtain ⟨G', g1, g2⟩ := restrict h' fun b => decide (b ≠ e)
    have gk : ∀ b, b ≠ e → G'.get? b = h'.get? b := fun b hb => g1 b (decide_eq_true hb)
    have ge : G'.get? e = none := g2 e (by simp)
    have old : ∀ b o, hp.get? b = some o → G'.get? b = some o := fun b o q => (gk b (Nat.ne_of_lt (Nat.lt_of_lt_of_le (Heap.lt_size q) M.new))).trans (M.keep b o q)
    have ob : ObjOk X.prog X.w (upd H1 d (.xd [(("place" : Str), v)])) G' d (.xd [(("place" : Str), v)]) :=
      ⟨_, hns.at (fun o q => (gk d M.dne).trans q), fun f => relO_err rv f⟩
    have J : Inv X pins σ (upd H1 d (.xd [(("place" : Str), v)])) ⟨G', g, dr, tk', os⟩ := I1.laid (t' := tk') old M.dbig ob
    refine ⟨e, oe, fv, ⟨G', g, dr, tk', os⟩, _, .ref C, some d, rfl, J, fun b o q => ?_, ge, hoe, ⟨hc, hd⟩, hdat, h1, ?_, rfl, I1.bare, raises_own T.exC T.tyC, q1 d (I1.hok.fresh M.dbig)⟩
    · by_cases hb : b = e
      · have q' : G'.get? b = some o := q
        rw [hb, ge] at q'; cases q'
      · exact (gk b hb).symm.trans q
    · rw [upd_ne (Ne.symm M.dne)]
      exact I1.hok.fresh M.new
def tRaiseErr (C : Addr) (W : WX) (ta : TA) : TS := fun _ σ H => tMkErr C ta σ H fun cls d H' => W cls d σ H'
theorem ps_raiseErr {a : Expr} {ta : TA} {W : WX} {p pos pos2 : Pos} {k : Nat} (hc : X.calm = true) (T : PySem.ErrP.ErrTxt X.K X.mg xn q C fI) (hr : Room k X.A) (tk : Takes X W) (ha : PA X [a] ta) (hg : Gl X xn := by rfl) (hdb : (xn == ("__debug__" : Str)) = false := by decide)
    (he : starEach (a :: []) X.env = (false, eval a X.env) :: starEach [] X.env := by rfl) (hpl : (backTo pos (starEach [] X.env)).any (·.1) = false := by rfl) :
    PS X (.Raise (some (.Call (.Name xn p) [a] [] pos)) none pos2) (tRaiseErr C W ta) := ps_raise hc tk (pmk_err T hr ha hg hdb he hpl)
def tFldErr (C : Addr) (a : Addr) (cls : Value) (d : Option Addr) (te : TE) : TE := fun σ H Q => te σ H fun x H1 => x = .ref a ∧ cls = .ref C ∧ ∃ (dd : Addr) (v : V), d = some dd ∧ H1 dd = some (.xd [(("place" : Str), v)]) ∧ Q v H1
theorem pe_fldErr {a : Addr} {oe : Obj} {cls : Value} {d : Option Addr} {pn : List (Addr × Obj)} {e : Expr} {te : TE} {pos : Pos} (T : PySem.ErrP.ErrTxt X.K X.mg xn q C fI) (hz : Zc cls d oe) (hf : ∃ vs, oe.data = .fields vs) (he : PE (X.suite a ((a, oe) :: pn)) e te)
    (hb : attributeBase e "place" X.env (eval e X.env) = eval e X.env := by rfl) :
    PE (X.suite a ((a, oe) :: pn)) (.Attribute e "place" pos) (tFldErr C a cls d te) := by
  refine ⟨fun pins s σ H Q I h => ?_⟩
  refine attr_of hb (thn (he.run pins s σ H _ I h) fun u s1 hh => ?_)
  obtain ⟨x, H1, I1, rx, ex, ec, dd, v, ed, ea, q⟩ := hh
  subst ex
  obtain rfl : u = Value.ref a := rx
  subst ec
  subst ed
  obtain ⟨ha, _⟩ := I1.pin (a, oe) (List.mem_append_left _ List.mem_cons_self)
  obtain ⟨vs, hd⟩ := hf
  have hx : ObjOk X.prog X.w H1 s1.heap dd (.xd [(("place" : Str), v)]) := I1.hok dd _ ea
  obtain ⟨mA, hns, hr⟩ := hx
  obtain ⟨od, ho, hl⟩ := lookIn_ns hns
  have l : List.lookup ("place" : Str) [(("place" : Str), v)] = some v := by simp [List.lookup]
  obtain ⟨u, hu, ru⟩ := RelO.some_of (v := v) (o := mA "place") (by rw [← l]; exact hr "place")
  have J : PySem.W.InstAt s1.heap a oe C (some od) := ⟨ha, hz.1, by unfold PySem.W.notCls; rw [hd] <;> rfl, by rw [hz.2]; exact ho⟩
  exact HandSPX.exc_get I1.kIn J T.ga T.gg T.exC (PySem.W.findObj_own T.hdC T.noN rfl (by rw [hl, hu])) (handed_of ru) ⟨v, H1, I1.tok _, ru, q⟩
end
end ErrPL

namespace PySem
namespace ErrV
open PySem.W PySem.Calls PyProof.Rows PySem.HandSPX
def iA (p1 p2 : Pos) : Arguments := { posonlyargs := [], args := [{ arg := "self", annotation := none, pos := p1 }, { arg := "value", annotation := none, pos := p2 }], vararg := none, kwonlyargs := [], kw_defaults := [], kwarg := none, defaults := [] }
def iB (q1 q2 q3 q4 : Pos) : List Stmt := [.Assign [.Attribute (.Name "self" q1) "value" q2] (.Name "value" q3) q4]
def iS : Scope := { kind := .function, names := [(PySem.Str.ofString "self", .local), (PySem.Str.ofString "value", .local)], isGenerator := false, isCoroutine := false, more := [] }
/-- what the written part says of the error class x, at C, and of its __init__, at fI -/
structure ErrTxt (K : Frag) (mg : Str → Option Value) (x q : Str) (C fI : Addr) : Prop where
  gC : mg x = some (.ref C)
  cls : ∃ nm qq N bs bm sn sub ab col dd k0 k1 k2 k3 k5 newId, K.lookup C = some (excClassObj nm qq C N bs bm true sn sub ab col dd k0 k1 k2 k3 k5 newId) ∧ Tail bm newId
  sa : findIn K (.ref C) "__setattr__" = some (some (.builtin "object.__setattr__"))
  ga : findIn K (.ref C) "__getattribute__" = some (some (.builtin "BaseException.__getattribute__"))
  gg : findIn K (.ref C) "__getattr__" = some none
  noN : findIn K (.ref C) "value" = some none
  iC : findIn K (.ref C) "__init__" = some (some (.ref fI))
  tC : typeIn K (.ref fI) = some (.type "function")
  kC : keepIn K (.ref C) = true
  exC : subIn K (.ref C) (.type "BaseException") = some true
  tyC : typeIn K (.ref C) = some (.type "type")
  hdC : hasDictIn K C = true
  te : exmOne K (.ref C) (.ref C) = some true
  fn : ∃ (oc : Value) (od : Option Addr) (doc pm : Value) (an : Option Addr) (cdv ct : Value) (osl : Array (Option Value)) (p1 p2 q1 q2 q3 q4 : Pos),
    K.lookup fI = some ⟨oc, od, .func (fnOf "__init__" q (iA p1 p2) (iB q1 q2 q3 q4) iS .none .none doc pm an cdv ct), osl⟩ ∧ codeIn K cdv q = true
structure InitEnd (h h' : Heap) (x C dx t1 : Addr) (v : Value) : Prop where
  keep : ∀ b o, b ≠ x → h.get? b = some o → h'.get? b = some o
  obj : h'.get? x = some { cls := .ref C, dict := some dx, data := .fields #[.ref t1, .none, .none, .none, .bool false, .none] }
  dbig : h.objs.size ≤ dx
  dne : dx ≠ x
  ns : h'.Ns1 dx (fun y => if y = "value" then some v else none)
structure OwnMade (h h' : Heap) (e C d : Addr) (v : Value) : Prop where
  keep : ∀ b o, h.get? b = some o → h'.get? b = some o
  new : h.objs.size ≤ e
  obj : ∃ oe vs, h'.get? e = some oe ∧ oe.cls = .ref C ∧ oe.dict = some d ∧ oe.data = .fields vs ∧ vs[1]? = some .none
  dbig : h.objs.size ≤ d
  dne : d ≠ e
  ns : h'.Ns1 d (fun y => if y = "value" then some v else none)
section
variable {prog : Program} {w : World} {A : Around} {E : Value → Shared → Prop} {R : Result → Shared → Prop} {s : Shared} {K : Frag} {mg : Str → Option Value} {C fI : Addr} {xn q : Str}
theorem err_init (T : ErrTxt K mg xn q C fI) {x t0 : Addr} {v : Value} (X : K.In s.heap) (hlim : s.heap.NoLimit) (hx : s.heap.get? x = some (excO C t0)) (hnx : K.lookup x = none) (hroom : A.depth < recursionLimit)
    (hq : ∀ h' tk dx, InitEnd s.heap h' x C dx t0 v → R (.ok (.ret .none)) { s with heap := h', toks := tk }) :
    codeAny (model prog w) A (.call (.ref fI) ⟨[.ref x, v], []⟩) R s := by
  obtain ⟨oc, od, doc, pm, an, cdv, ct, osl, p1, p2, q1, q2, q3, q4, ho, hcd⟩ := T.fn
  obtain ⟨nm, qq, N, bs, bm, sn, sub, ab, col, dd, k0, k1, k2, k3, k5, newId, hC, hbm⟩ := T.cls
  have hcl : clsIn K C = some { name := nm, bases := bs, mro := .ref C :: bm, ns := N, qualname := qq, hasDict := true, slotNames := sn, subclasses := sub, abstract := ab, collection := col, hasDel := false } := by unfold clsIn; rw [hC] <;> rfl
  refine Att.call_fn (binds := [("self", .ref x), ("value", v)]) X hlim ho hcd hroom (BindsTo.of_eq (by first | rfl | with_unfolding_all rfl)) (by first | rfl | decide | with_unfolding_all rfl) (fun s₁ IC => ?_) rfl rfl rfl
  obtain ⟨h₁, tk₁, rfl⟩ := IC.toInCall.same
  have k : ∀ b o, s.heap.get? b = some o → h₁.get? b = some o := IC.toInCall.keep
  have hn := IC.toInCall.ns
  have hxL : s.heap.objs.size ≠ x := Nat.ne_of_gt (Heap.lt_size hx)
  have X₁ : K.In h₁ := X.keeps k
  have hx₁ := k _ _ hx
  show wpAny _ _ (execs _ _) _ _ _
  refine wpAny_execs_cons (plainObj_wpAny_Assign_Attribute ?_)
  refine TA5.ldC (v := v) hn (by first | rfl | with_unfolding_all rfl | kernel_rfl) (TA5.ldC (v := .ref x) hn (by first | rfl | with_unfolding_all rfl | kernel_rfl) ?_)
  refine set_plain X₁ (ox := excO C t0) (od := none) ⟨hx₁, rfl, rfl, trivial⟩ T.sa ?_
  refine TA5.exc_osaT X₁ hx₁ hcl hbm.pass hbm.obj rfl T.noN (fun h₃ tk₃ dx k₃ dn dne hx₃ hn₃ => ?_)
  show wpAny _ _ (execs _ _) _ _ _
  have z : s.heap.objs.size < h₁.objs.size := hn.lt
  exact wpAny_execs_nil (hq h₃ tk₃ dx ⟨fun b o hb e => k₃ b o hb (k b o e), hx₃, Nat.le_of_lt (Nat.lt_of_lt_of_le z dn), dne, hn₃⟩)
theorem err_made (T : ErrTxt K mg xn q C fI) {v : Value} (X : K.In s.heap) (hlim : s.heap.NoLimit) (hroom : A.depth + 1 < recursionLimit)
    (hq : ∀ h' tk e d, OwnMade s.heap h' e C d v → R (.ok (.ret (.ref e))) { s with heap := h', toks := tk }) :
    codeAny (model prog w) A (.call (.ref C) ⟨[v], []⟩) R s := by
  obtain ⟨nm, qq, N, bs, bm, sn, sub, ab, col, dd, k0, k1, k2, k3, k5, newId, hC, hbm⟩ := T.cls
  obtain ⟨B, initId, tail, F, hT⟩ := hbm.base
  obtain ⟨hp, g, dr, tk, os⟩ := s
  have k : ∀ b o, hp.get? b = some o → ((hp.push (kdv_tup [v])).push (excO C hp.objs.size)).get? b = some o := fun b o e => Heap.get?_push_of_some _ (Heap.get?_push_of_some _ e)
  have hget : ((hp.push (kdv_tup [v])).push (excO C hp.objs.size)).get? (hp.objs.size + 1) = some (excO C hp.objs.size) := by heap_get
  have hnx : K.lookup (hp.objs.size + 1) = none := by
    cases e : K.lookup (hp.objs.size + 1) with
    | none => rfl
    | some o =>
      have z : hp.get? (hp.objs.size + 1) = some o := X _ _ e
      exact absurd (Nat.lt_of_succ_lt (Heap.lt_size z)) (Nat.lt_irrefl _)
  refine call_own F hT (X _ _ hC) (looks_findIn X T.iC) (fun self => bind_fn X self T.tC) (TA5.one_size v) ?_
  refine err_init (s := ⟨(hp.push (kdv_tup [v])).push (excO C hp.objs.size), g, dr, tk, os⟩) T (X.keeps k) (hlim.keeps k) hget hnx ?_ fun h' tk' dx ⟨k', hx, dn, dne, hns⟩ => ?_
  · show A.depth + 1 < recursionLimit
    exact hroom
  · have old : ∀ b o, hp.get? b = some o → h'.get? b = some o := fun b o e => k' b o (Nat.ne_of_lt (Nat.lt_succ_of_lt (Heap.lt_size e))) (k b o e)
    have z : hp.objs.size + 1 + 1 ≤ dx := by
      first
        | (simpa only [Heap.size_push] using dn)
        | exact dn
        | (have q := dn; rw [Heap.size_push, Heap.size_push] at q; exact q)
    exact ⟨rfl, hq h' tk' (hp.objs.size + 1) dx ⟨old, Nat.le_succ _, ⟨_, _, hx, rfl, rfl, rfl, rfl⟩, Nat.le_trans (Nat.le_trans (Nat.le_succ _) (Nat.le_succ _)) z, dne, hns⟩⟩
end
end ErrV
end PySem
namespace ErrVL
open PySem L2 PySem.Spec PyProof.Rows
theorem relO_err {v : V} {v' : Value} (r : RelV v v') (f : Str) : RelO (List.lookup f [(("value" : Str), v)]) (if f = "value" then some v' else none) := by
  by_cases hw : f = "value"
  · subst hw
    rw [if_pos rfl]
    have q : List.lookup ("value" : Str) [(("value" : Str), v)] = some v := by simp [List.lookup]
    rw [q]
    exact r
  · rw [if_neg hw]
    have qw : (f == ("value" : Str)) = false := by simpa using hw
    have q2 : List.lookup f [(("value" : Str), v)] = none := by simp [List.lookup, qw]
    rw [q2]
    trivial
section
variable {X : Cx} {C fI : Addr} {xn q : Str}
def tMkErr (C : Addr) (ta : TA) : L2.St → Hp → XK → Prop := fun σ H Q => ta σ H fun vs H1 => ∃ v, vs = [v] ∧ ∀ d, H1 d = none → Q (.ref C) (some d) (upd H1 d (.xd [(("value" : Str), v)]))
theorem pmk_err {a : Expr} {ta : TA} {p pos : Pos} {k : Nat} (T : PySem.ErrV.ErrTxt X.K X.mg xn q C fI) (hr : Room k X.A) (ha : PA X [a] ta) (hg : Gl X xn := by rfl) (hdb : (xn == ("__debug__" : Str)) = false := by decide)
    (he : starEach (a :: []) X.env = (false, eval a X.env) :: starEach [] X.env := by rfl) (hpl : (backTo pos (starEach [] X.env)).any (·.1) = false := by rfl) :
    PMk X (.Call (.Name xn p) [a] [] pos) (tMkErr C ta) := by
  intro pins s σ H Q I h
  refine wpAny_Call_Name_kw (ld_glob I hg T.gC ?_ hdb)
  refine PySem.W.callWith_K (h₀ := X.base) I.ok.mod.kin T.kC (thn (ha.run pos pins s σ H _ I h) fun us s1 hh => ?_) he hpl
  obtain ⟨vs, H1, I1, r1, v, ev, q1⟩ := hh
  subst ev
  refine ⟨I1.kIn, ?_⟩
  cases r1 with
  | cons rv rn =>
    rename_i v' us'
    cases rn
    show wpAny _ _ (call (.ref C) [v']) _ _ _
    have hlim := I1.nolimit
    obtain ⟨hp, g, dr, tk, os⟩ := s1
    refine wpAny_call (PySem.ErrV.err_made T I1.kIn hlim (by have := hr.dp; omega) fun h' tk' e d M => ?_)
    show MkP X pins σ Q (.ref e) ⟨h', g, dr, tk', os⟩
    obtain ⟨oe, fv, hoe, hc, hd, hdat, h1⟩ := M.obj
    have hns := M.ns
    obtain ⟨G', g1, g2⟩ := restrict h' fun b => decide (b ≠ e)
    have gk : ∀ b, b ≠ e → G'.get? b = h'.get? b := fun b hb => g1 b (decide_eq_true hb)
    have ge : G'.get? e = none := g2 e (by simp)
    have old : ∀ b o, hp.get? b = some o → G'.get? b = some o := fun b o q => (gk b (Nat.ne_of_lt (Nat.lt_of_lt_of_le (Heap.lt_size q) M.new))).trans (M.keep b o q)
    have ob : ObjOk X.prog X.w (upd H1 d (.xd [(("value" : Str), v)])) G' d (.xd [(("value" : Str), v)]) :=
      ⟨_, hns.at (fun o q => (gk d M.dne).trans q), fun f => relO_err rv f⟩
    have J : Inv X pins σ (upd H1 d (.xd [(("value" : Str), v)])) ⟨G', g, dr, tk', os⟩ := I1.laid (t' := tk') old M.dbig ob
    refine ⟨e, oe, fv, ⟨G', g, dr, tk', os⟩, _, .ref C, some d, rfl, J, fun b o q => ?_, ge, hoe, ⟨hc, hd⟩, hdat, h1, ?_, rfl, I1.bare, raises_own T.exC T.tyC, q1 d (I1.hok.fresh M.dbig)⟩
    · by_cases hb : b = e
      · have q' : G'.get? b = some o := q
        rw [hb, ge] at q'; cases q'
      · exact (gk b hb).symm.trans q
    · rw [upd_ne (Ne.symm M.dne)]
      exact I1.hok.fresh M.new
def tRaiseErr (C : Addr) (W : WX) (ta : TA) : TS := fun _ σ H => tMkErr C ta σ H fun cls d H' => W cls d σ H'
theorem ps_raiseErr {a : Expr} {ta : TA} {W : WX} {p pos pos2 : Pos} {k : Nat} (hc : X.calm = true) (T : PySem.ErrV.ErrTxt X.K X.mg xn q C fI) (hr : Room k X.A) (tk : Takes X W) (ha : PA X [a] ta) (hg : Gl X xn := by rfl) (hdb : (xn == ("__debug__" : Str)) = false := by decide)
    (he : starEach (a :: []) X.env = (false, eval a X.env) :: starEach [] X.env := by rfl) (hpl : (backTo pos (starEach [] X.env)).any (·.1) = false := by rfl) :
    PS X (.Raise (some (.Call (.Name xn p) [a] [] pos)) none pos2) (tRaiseErr C W ta) := ps_raise hc tk (pmk_err T hr ha hg hdb he hpl)
def tFldErr (C : Addr) (a : Addr) (cls : Value) (d : Option Addr) (te : TE) : TE := fun σ H Q => te σ H fun x H1 => x = .ref a ∧ cls = .ref C ∧ ∃ (dd : Addr) (v : V), d = some dd ∧ H1 dd = some (.xd [(("value" : Str), v)]) ∧ Q v H1
theorem pe_fldErr {a : Addr} {oe : Obj} {cls : Value} {d : Option Addr} {pn : List (Addr × Obj)} {e : Expr} {te : TE} {pos : Pos} (T : PySem.ErrV.ErrTxt X.K X.mg xn q C fI) (hz : Zc cls d oe) (hf : ∃ vs, oe.data = .fields vs) (he : PE (X.suite a ((a, oe) :: pn)) e te)
    (hb : attributeBase e "value" X.env (eval e X.env) = eval e X.env := by rfl) :
    PE (X.suite a ((a, oe) :: pn)) (.Attribute e "value" pos) (tFldErr C a cls d te) := by
  refine ⟨fun pins s σ H Q I h => ?_⟩
  refine attr_of hb (thn (he.run pins s σ H _ I h) fun u s1 hh => ?_)
  obtain ⟨x, H1, I1, rx, ex, ec, dd, v, ed, ea, q⟩ := hh
  subst ex
  obtain rfl : u = Value.ref a := rx
  subst ec
  subst ed
  obtain ⟨ha, _⟩ := I1.pin (a, oe) (List.mem_append_left _ List.mem_cons_self)
  obtain ⟨vs, hd⟩ := hf
  have hx : ObjOk X.prog X.w H1 s1.heap dd (.xd [(("value" : Str), v)]) := I1.hok dd _ ea
  obtain ⟨mA, hns, hr⟩ := hx
  obtain ⟨od, ho, hl⟩ := lookIn_ns hns
  have l : List.lookup ("value" : Str) [(("value" : Str), v)] = some v := by simp [List.lookup]
  obtain ⟨u, hu, ru⟩ := RelO.some_of (v := v) (o := mA "value") (by rw [← l]; exact hr "value")
  have J : PySem.W.InstAt s1.heap a oe C (some od) := ⟨ha, hz.1, by unfold PySem.W.notCls; rw [hd] <;> rfl, by rw [hz.2]; exact ho⟩
  exact HandSPX.exc_get I1.kIn J T.ga T.gg T.exC (PySem.W.findObj_own T.hdC T.noN rfl (by rw [hl, hu])) (handed_of ru) ⟨v, H1, I1.tok _, ru, q⟩
end
end ErrVL
namespace TA5
open PySem L2 PySem.Spec PyProof.Rows
section
variable {X : Cx}
/-- set(t), t a tuple of ints -/
def rSetTI (K : PySem.W.Frag) (w : World) : List V → Hp → VK → Prop := fun xs H Q => ∃ (p : Addr) (ns : List Int), xs = [.ref p] ∧ SqT K H p (ns.map V.int) ∧ ns.length ≤ 1000 ∧ ∀ (a : Addr) (c : Nat), H a = none → c ≤ ns.length → Q (.ref a) (upd H a (SetO w a (fun j => decide (j ∈ ns)) c))
theorem cr_setTI (hc : X.calm = true) : CallR X (.type "set") (rSetTI X.K X.w) := by
  intro pins s σ H xs us Q I r h
  obtain ⟨p, ns, e, hq, hl, q⟩ := h
  subst e
  cases r with
  | cons r rr =>
    cases rr
    cases r
    obtain ⟨its, rv, pt, hz⟩ := I.tuple hq
    have hi : IntsAre its.toArray.toList ns := ints_of_vals rv
    refine call_set_tupI ns (I.ok.hd hc) (show s.heap.IsTuple p its.toArray from pt) hi (by unfold scanBound; omega) fun h' tk c R1 hcn k => ?_
    have fr : H s.heap.objs.size = none := I.hok.fresh (Nat.le_refl _)
    exact ⟨.ref s.heap.objs.size, _, I.laid (t' := tk) k (Nat.le_refl _) (setO_new R1), rfl, q _ c fr hcn⟩
end
end TA5
namespace Ev2
open PySem PySem.Spec PyProof.Rows L2 Evl RZ

abbrev HP := V → Hp → Prop
def Mono (P : HP) : Prop := ∀ v H H', Evl.Ex H H' → P v H → P v H'
/-- what never changes is kept: all but lists -/
def Fx (H H' : Hp) : Prop := ∀ a o, H a = some o → (∀ xs, o ≠ .lst xs) → H' a = some o
theorem Fx.of {H H' : Hp} (e : Evl.Ex H H') : Fx H H' := fun a o h _ => e a o h
theorem Fx.refl (H : Hp) : Fx H H := fun _ _ h _ => h
theorem Fx.trans {H H1 H2 : Hp} (a : Fx H H1) (b : Fx H1 H2) : Fx H H2 := fun x o h n => b x o (a x o h n) n
theorem Fx.lst {H : Hp} {D : Addr} {xs ys : List V} (h : H D = some (.lst xs)) : Fx H (upd H D (.lst ys)) := fun a o e n => by
  by_cases ha : a = D
  · subst ha; rw [h] at e; cases e; exact absurd rfl (n xs)
  · rw [upd_ne ha]; exact e
def MonoF (P : HP) : Prop := ∀ v H H', Fx H H' → P v H → P v H'
theorem MonoF.mono {P : HP} (m : MonoF P) : Mono P := fun v H H' e p => m v H H' (Fx.of e) p
def EvP (te : TE) (σ : L2.St) (H : Hp) (P : HP) : Prop := ∀ H1, Evl.Ex H H1 → ∀ Q : VK, (∀ v H2, Evl.Ex H1 H2 → P v H2 → Q v H2) → te σ H1 Q
def EvAP (ta : TA) (σ : L2.St) (H : Hp) (P : List V → Hp → Prop) : Prop := ∀ H1, Evl.Ex H H1 → ∀ Q : List V → Hp → Prop, (∀ v H2, Evl.Ex H1 H2 → P v H2 → Q v H2) → ta σ H1 Q
def EvTP (tt : TT) (σ : L2.St) (H : Hp) (b : Bool) : Prop := EvT tt σ H b
def RP (r : R2) (x y : V) (H : Hp) (P : HP) : Prop := ∀ Q : VK, (∀ v H2, Evl.Ex H H2 → P v H2 → Q v H2) → r x y H Q
/-- a list just made whose items are so -/
def LstP (n : Nat) (P : Nat → HP) : HP := fun v H => ∃ p ys, v = .ref p ∧ H p = some (.lst ys) ∧ ys.length = n ∧ ∀ i y, ys[i]? = some y → P i y H
def TupP (n : Nat) (P : Nat → HP) : HP := fun v H => ∃ p ys, v = .ref p ∧ H p = some (.tup ys) ∧ ys.length = n ∧ ∀ i y, ys[i]? = some y → P i y H
def Is (x : V) : HP := fun v _ => v = x
theorem mono_is {x : V} : Mono (Is x) := fun _ _ _ _ h => h
theorem mono_lst {n : Nat} {P : Nat → HP} (m : ∀ i, Mono (P i)) : Mono (LstP n P) := fun v H H' e ⟨p, ys, h1, h2, h3, h4⟩ => ⟨p, ys, h1, e _ _ h2, h3, fun i y hy => m i _ _ _ e (h4 i y hy)⟩
theorem mono_tup {n : Nat} {P : Nat → HP} (m : ∀ i, Mono (P i)) : Mono (TupP n P) := fun v H H' e ⟨p, ys, h1, h2, h3, h4⟩ => ⟨p, ys, h1, e _ _ h2, h3, fun i y hy => m i _ _ _ e (h4 i y hy)⟩
section
variable {K : PySem.W.Frag} {σ : L2.St} {H H' : Hp} {ta tb te : TE} {P R S : HP} {r : R2} {v : V}
theorem EvP.mono (h : EvP te σ H P) (e : Evl.Ex H H') : EvP te σ H' P := fun H1 a Q q => h H1 (e.trans a) Q q
theorem EvP.imp (h : EvP te σ H P) (k : ∀ v H1, Evl.Ex H H1 → P v H1 → R v H1) : EvP te σ H R := fun H1 a Q q => h H1 a Q fun v H2 e p => q v H2 e (k v H2 (a.trans e) p)
theorem evp_of (h : Ev te σ H v) : EvP te σ H (Is v) := fun H1 a Q q => h H1 a Q fun H2 e => q v H2 e rfl
theorem EvP.ev (h : EvP te σ H (Is v)) : Ev te σ H v := fun H1 a Q q => h H1 a Q fun x H2 e p => by rw [show x = v from p]; exact q H2 e
theorem evp_var {i : Nat} (h : σ[i]? = some (some v)) (p : P v H) (m : Mono P) : EvP (tVar i) σ H P := fun H1 e Q q => ⟨v, h, q v H1 (Ex.refl H1) (m _ _ _ e p)⟩
theorem evp_op (ha : EvP ta σ H P) (hb : EvP tb σ H R) (m : Mono P) (hr : ∀ x y H1, Evl.Ex H H1 → P x H1 → R y H1 → RP r x y H1 S) : EvP (tOp r ta tb) σ H S := fun H1 e Q q =>
  ha H1 e _ fun x H2 e2 p => hb H2 (e.trans e2) _ fun y H3 e3 p' => hr x y H3 ((e.trans e2).trans e3) (m _ _ _ e3 p) p' Q fun z H4 e4 s => q z H4 ((e2.trans e3).trans e4) s
theorem evp_un {u : V → Hp → VK → Prop} (ha : EvP ta σ H P) (hr : ∀ x H1, Evl.Ex H H1 → P x H1 → ∀ Q : VK, (∀ v H2, Evl.Ex H1 H2 → S v H2 → Q v H2) → u x H1 Q) : EvP (tUn u ta) σ H S := fun H1 e Q q =>
  ha H1 e _ fun x H2 e2 p => hr x H2 (e.trans e2) p Q fun z H4 e4 s => q z H4 (e2.trans e4) s
theorem eap_nil : EvAP tNil σ H (fun vs _ => vs = []) := fun H1 e Q q => q [] H1 (Ex.refl H1) rfl
theorem eap_one (h : EvP te σ H P) : EvAP (tCons te tNil) σ H (fun vs H1 => ∃ x, vs = [x] ∧ P x H1) := fun H1 e Q q => h H1 e _ fun x H2 e2 p => q [x] H2 e2 ⟨x, rfl, p⟩
theorem eap_two (h : EvP te σ H P) (h2 : EvP ta σ H R) (m : Mono P) : EvAP (tCons te (tCons ta tNil)) σ H (fun vs H1 => ∃ x y, vs = [x, y] ∧ P x H1 ∧ R y H1) := fun H1 e Q q =>
  h H1 e _ fun x H2 e2 p => h2 H2 (e.trans e2) _ fun y H3 e3 p' => q [x, y] H3 (e2.trans e3) ⟨x, y, rfl, m _ _ _ e3 p, p'⟩
theorem eap_three {tc : TE} (h : EvP te σ H P) (h2 : EvP ta σ H R) (h3 : EvP tc σ H S) (m : Mono P) (m2 : Mono R) : EvAP (tCons te (tCons ta (tCons tc tNil))) σ H (fun vs H1 => ∃ x y z, vs = [x, y, z] ∧ P x H1 ∧ R y H1 ∧ S z H1) := fun H1 e Q q =>
  h H1 e _ fun x H2 e2 p => h2 H2 (e.trans e2) _ fun y H3 e3 p' => h3 H3 ((e.trans e2).trans e3) _ fun z H4 e4 p'' => q [x, y, z] H4 ((e2.trans e3).trans e4) ⟨x, y, z, rfl, m _ _ _ (e3.trans e4) p, m2 _ _ _ e4 p', p''⟩
/-- a def's promise, of such arguments -/
def SpP (sp : Sp) (A : List V → Hp → Prop) (S : HP) : Prop := ∀ vs H1, A vs H1 → ∀ Q : VK, (∀ v H2, Evl.Ex H1 H2 → S v H2 → Q v H2) → ∀ E : XK, sp vs H1 Q E
theorem evp_call {sp : Sp} {E : XK} {ta : TA} {A : List V → Hp → Prop} (h : EvAP ta σ H A) (hs : SpP sp A S) : EvP (tCall sp [] E ta) σ H S := fun H1 e Q q =>
  h H1 e _ fun vs H2 e2 a => by
    have z := hs vs H2 a Q (fun v H3 e3 s => q v H3 (e2.trans e3) s) E
    show sp (vs ++ []) H2 Q E
    rw [List.append_nil]
    exact z
theorem evp_cb {rr : List V → Hp → VK → Prop} {ta : TA} {A : List V → Hp → Prop} (h : EvAP ta σ H A) (hs : ∀ vs H1, A vs H1 → ∀ Q : VK, (∀ v H2, Evl.Ex H1 H2 → S v H2 → Q v H2) → rr vs H1 Q) : EvP (tCB rr ta) σ H S := fun H1 e Q q =>
  h H1 e _ fun vs H2 e2 a => hs vs H2 a Q fun v H3 e3 s => q v H3 (e2.trans e3) s
theorem eu_tupP {ta : TA} {A : List V → Hp → Prop} (h : EvAP ta σ H A) (hl : ∀ vs H1, A vs H1 → vs.length ≤ 100000) (m : ∀ vs H1 H2, Evl.Ex H1 H2 → A vs H1 → A vs H2) : EvP (tTup ta) σ H (fun v H1 => ∃ p vs, v = .ref p ∧ H1 p = some (.tup vs) ∧ A vs H1) := fun H1 e Q q =>
  h H1 e _ fun vs H2 e2 a => ⟨sz_of (hl vs H2 a), fun p hp => q _ _ (e2.trans (Ex.new hp)) ⟨p, vs, rfl, upd_same, m _ _ _ (Ex.new hp) a⟩⟩
/-- tuple(a new list) -/
theorem evp_tuple {n : Nat} {Pi : Nat → HP} (h : EvP te σ H (LstP n Pi)) (m : ∀ i, Mono (Pi i)) :
    EvP (tCB (fun xs H Q => ∃ p ys, xs = [.ref p] ∧ ((SqL K H p ys ∧ ∀ l, H l = none → Q (.ref l) (upd H l (.tup ys))) ∨ (SqT K H p ys ∧ Q (.ref p) H))) (tCons te tNil)) σ H (TupP n Pi) := fun H1 e Q q =>
  h H1 e _ fun v H2 e2 ⟨p, ys, hv, hp, hl, hi⟩ => by
    subst hv
    exact ⟨p, ys, rfl, .inl ⟨sq_of hp, fun l hl' => q _ _ (e2.trans (Ex.new hl')) ⟨l, ys, rfl, upd_same, hl, fun i y hy => m i _ _ _ (Ex.new hl') (hi i y hy)⟩⟩⟩

/-! ### what is walked -/
structure Turns (J : It) (n : Nat) (Pre : Hp → Prop) (item : Nat → V → Hp → Prop) : Prop where
  mono : ∀ H H', Fx H H' → Pre H → Pre H'
  go : ∀ i H, i < n → Pre H → J.go i H
  stop : ∀ H, Pre H → J.stop n H
  yld : ∀ i H x H', i < n → Pre H → J.yld i H x H' → Evl.Ex H H' ∧ item i x H'
def WiP (wi : TI) (σ : L2.St) (H : Hp) (n : Nat) (item : Nat → V → Hp → Prop) : Prop := ∀ H1, Evl.Ex H H1 → ∀ R : It → Hp → Prop, (∀ J H2 Pre, Evl.Ex H1 H2 → Turns J n Pre item → Pre H2 → R J H2) → wi σ H1 R
theorem wi_tup {tl : TE} {n : Nat} {Pi : Nat → HP} (h : EvP tl σ H (TupP n Pi)) (m : ∀ i, MonoF (Pi i)) : WiP (iTup K tl) σ H n (fun i x H => Pi i x H) := fun H1 e R k =>
  h H1 e _ fun v H2 e2 ⟨p, ys, hv, hp, hl, hi⟩ => by
    subst hv
    refine ⟨p, rfl, ⟨ys, st_of hp⟩, k _ H2 (fun H => H p = some (.tup ys) ∧ ∀ i y, ys[i]? = some y → Pi i y H) e2 ?_ ⟨hp, hi⟩⟩
    refine ⟨fun H H' e ⟨a, b⟩ => ⟨e _ _ a (fun _ z => nomatch z), fun i y hy => m i _ _ _ e (b i y hy)⟩, fun i H hlt ⟨a, _⟩ => ?_, fun H ⟨a, _⟩ => ?_, fun i H x H' hlt ⟨a, b⟩ y => ?_⟩
    · exact ⟨ys, _, st_of a, List.getElem?_eq_getElem (by omega)⟩
    · exact ⟨ys, st_of a, by omega⟩
    · obtain ⟨rfl, f⟩ := y
      have hx : ys[i]? = some x := by first | exact f ys (st_of a) | (obtain ⟨zs, z1, z2⟩ := f; exact z2)
      exact ⟨Ex.refl _, b i x hx⟩
theorem wi_rng {ta : TA} {n : Nat} (h : EvAP ta σ H (fun vs _ => vs = [.int (n : Int)])) (hn : n ≤ 100000) : WiP (iRng1 ta) σ H n (fun i x _ => x = .int (i : Int)) := fun H1 e R k =>
  h H1 e _ fun vs H2 e2 hv => by
    subst hv
    refine ⟨(n : Int), rfl, by omega, by omega, ?_⟩
    refine k _ H2 (fun _ => True) e2 ⟨fun _ _ _ _ => trivial, fun i H hlt _ => ?_, fun H _ => ?_, fun i H x H' hlt _ y => ?_⟩ trivial
    · show i < (n : Int).toNat
      simpa using hlt
    · show (n : Int).toNat ≤ n
      simp
    · obtain ⟨rfl, rfl⟩ := y
      exact ⟨Ex.refl _, by rw [Int.zero_add]⟩
theorem wi_zip {tl tr : TE} {n : Nat} {Pi Ri : Nat → HP} (h : EvP tl σ H (TupP n Pi)) (h2 : EvP tr σ H (TupP n Ri)) (m : ∀ i, MonoF (Pi i)) (m2 : ∀ i, MonoF (Ri i)) :
    WiP (iZipA K (tCons tl (tCons tr tNil))) σ H n (fun i x H => ∃ T u v, x = .ref T ∧ H T = some (.tup [u, v]) ∧ Pi i u H ∧ Ri i v H) := fun H1 e R k =>
  h H1 e _ fun v H2 e2 ⟨p, ys, hv, hp, hl, hi⟩ => h2 H2 (e.trans e2) _ fun v' H3 e3 ⟨q, zs, hv', hq, hl', hi'⟩ => by
    subst hv
    subst hv'
    refine ⟨p, q, ys, zs, rfl, .inr ⟨st_of (e3 _ _ hp), st_of hq, ?_⟩⟩
    refine k _ H3 (fun H => H p = some (.tup ys) ∧ H q = some (.tup zs) ∧ (∀ i y, ys[i]? = some y → Pi i y H) ∧ ∀ i y, zs[i]? = some y → Ri i y H) (e2.trans e3) ?_ ⟨e3 _ _ hp, hq, fun i y hy => (m i).mono _ _ _ e3 (hi i y hy), hi'⟩
    refine ⟨fun H H' e ⟨a, b, c, d⟩ => ⟨e _ _ a (fun _ z => nomatch z), e _ _ b (fun _ z => nomatch z), fun i y hy => m i _ _ _ e (c i y hy), fun i y hy => m2 i _ _ _ e (d i y hy)⟩, fun i H hlt ⟨a, b, _, _⟩ => ?_, fun H ⟨a, b, _, _⟩ => ?_, fun i H x H' hlt ⟨a, b, c, d⟩ y => ?_⟩
    · exact ⟨ys, zs, _, _, st_of a, st_of b, List.getElem?_eq_getElem (by omega), List.getElem?_eq_getElem (by omega)⟩
    · exact ⟨ys, zs, st_of a, st_of b, .inl (by omega)⟩
    · obtain ⟨T, u, w, rfl, hT, rfl, f1, f2⟩ := y
      have ex := Ex.new (o := .tup [u, w]) hT
      exact ⟨ex, T, u, w, rfl, upd_same, (m i).mono _ _ _ ex (c i u (f1 ys (st_of a))), (m2 i).mono _ _ _ ex (d i w (f2 zs (st_of b)))⟩
/-- targets -/
def GP (g : TG) (x : V) (σ0 : L2.St) (H : Hp) (S : L2.St → Hp → Prop) : Prop := ∀ Q : L2.St → Hp → Prop, (∀ σ2, S σ2 H → Q σ2 H) → g x σ0 H Q
theorem g_pair {x : V} {T : Addr} {u w : V} {σ0 : L2.St} {i j : Nat} (hx : x = .ref T) (h : H T = some (.tup [u, w])) : GP (gTup K 2 (gCons (gName i) (gCons (gName j) gNil))) x σ0 H (fun σ2 _ => σ2 = (σ0.set i (some u)).set j (some w)) := fun Q q =>
  ⟨T, [u, w], hx, st_of h, rfl, u, [w], rfl, w, [], rfl, rfl, q _ rfl⟩
/-- a comprehension without tests -/
theorem evp_lc {wi : TI} {g : TG} {vs : List Nat} {n : Nat} {item : Nat → V → Hp → Prop} {Sg : Nat → L2.St → Hp → Prop} {Pi : Nat → HP} (hw : WiP wi σ H n item) (hn : n ≤ 40000)
    (hg : ∀ i x H1, i < n → Evl.Ex H H1 → item i x H1 → GP g x (wipe σ vs) H1 (fun σ2 H2 => wipe σ2 vs = wipe σ vs ∧ Sg i σ2 H2)) (he : ∀ i σ2 H1, i < n → Evl.Ex H H1 → Sg i σ2 H1 → EvP te σ2 H1 (Pi i)) (m : ∀ i, MonoF (Pi i)) :
    EvP (tLc wi g tYes te vs) σ H (LstP n Pi) := fun H1 e Q q => hw H1 e _ fun J H2 Pre e2 T pre => fun D hD => by
  refine ⟨fun i k H3 => k = n - i ∧ i ≤ n ∧ H2 D = none ∧ Evl.Ex H2 H3 ∧ ∃ ys, H3 D = some (.lst ys) ∧ ys.length = i ∧ ∀ j y, ys[j]? = some y → Pi j y H3, ⟨n, by simp, Nat.zero_le _, hD, Ex.new hD, [], upd_same, rfl, fun j y hy => by simp at hy⟩, ?_⟩
  rintro i k H3 ⟨rfl, hi, hD', ex, ys, hys, hl, hP⟩
  have pre3 := T.mono _ _ (Fx.of ex) pre
  by_cases hlt : i < n
  · refine .inr ⟨T.go i H3 hlt pre3, fun H4 => H2 D = none ∧ Evl.Ex H2 H4 ∧ ∃ ys, H4 D = some (.lst ys) ∧ ys.length = i + 1 ∧ ∀ j y, ys[j]? = some y → Pi j y H4, fun H4 ⟨a, b, c⟩ => ⟨n - (i + 1), by omega, rfl, by omega, a, b, c⟩, fun x H4 y => ?_⟩
    obtain ⟨e4, it⟩ := T.yld i H3 x H4 hlt pre3 y
    refine hg i x H4 hlt (((e.trans e2).trans ex).trans e4) it _ fun σ2 ⟨hw2, hs⟩ => ⟨hw2, ?_⟩
    unfold tYes
    dsimp only
    rw [if_pos rfl]
    refine he i σ2 H4 hlt (((e.trans e2).trans ex).trans e4) hs H4 (Ex.refl _) _ fun z H5 e5 hz => ?_
    have hys5 := e5 _ _ (e4 _ _ hys)
    have ex5 : Evl.Ex H2 (upd H5 D (.lst (ys ++ [z]))) := Ex.mut ((ex.trans e4).trans e5) hD'
    refine ⟨ys, hys5, sz_lt (by omega), hD', ex5, ys ++ [z], upd_same, by simp [hl], fun j y hy => ?_⟩
    have key : Pi j y H5 := by
      by_cases hj : j < ys.length
      · rw [List.getElem?_append_left hj] at hy
        exact (m j).mono _ _ _ (e4.trans e5) (hP j y hy)
      · rw [List.getElem?_append_right (by omega)] at hy
        have : j - ys.length = 0 := by
          rcases Nat.eq_zero_or_pos (j - ys.length) with z0 | z0
          · exact z0
          · rw [List.getElem?_eq_none (by simp; omega)] at hy; cases hy
        rw [this] at hy
        have ej : j = i := by omega
        have ey : z = y := by simpa using hy
        rw [ej, ← ey]
        exact hz
    exact m j _ _ _ (Fx.lst hys5) key
  · have hinn : i = n := by omega
    subst hinn
    exact .inl ⟨T.stop H3 pre3, q _ H3 (e2.trans ex) ⟨D, ys, rfl, hys, hl, hP⟩⟩
end
end Ev2
namespace Ev2
open PySem PySem.Spec PyProof.Rows L2 Evl RZ
/-- a state to draw from: the list at s holds the pool's list (at p) and a place -/
structure Dr (s p : Addr) (xs : List Int) (H : Hp) : Prop where
  ne : p ≠ s
  at_ : ∃ k : Nat, H s = some (.lst [.ref p, .int (k : Int)])
  pool : H p = some (.lst (xs.map V.int))
/-- all but the state is kept -/
def Gs (s : Addr) (H H' : Hp) : Prop := ∀ a o, a ≠ s → H a = some o → H' a = some o
theorem Gs.refl (s : Addr) (H : Hp) : Gs s H H := fun _ _ _ h => h
theorem Gs.trans {s : Addr} {H H1 H2 : Hp} (a : Gs s H H1) (b : Gs s H1 H2) : Gs s H H2 := fun x o n h => b x o n (a x o n h)
theorem Gs.of {s : Addr} {H H' : Hp} (e : Evl.Ex H H') : Gs s H H' := fun a o _ h => e a o h
theorem Dr.ex {s p : Addr} {xs : List Int} {H H' : Hp} (d : Dr s p xs H) (e : Evl.Ex H H') : Dr s p xs H' := ⟨d.ne, let ⟨k, h⟩ := d.at_; ⟨k, e _ _ h⟩, e _ _ d.pool⟩
theorem Gs.fx {s p : Addr} {xs : List Int} {H H' : Hp} (g : Gs s H H') (d : Dr s p xs H) : Fx H H' := fun a o h n => by
  by_cases ha : a = s
  · subst ha
    obtain ⟨k, hk⟩ := d.at_
    rw [hk] at h; cases h; exact absurd rfl (n _)
  · exact g a o ha h
def EvD (s p : Addr) (xs : List Int) (te : TE) (σ : L2.St) (H : Hp) (P : HP) : Prop := ∀ H1, Gs s H H1 → Dr s p xs H1 → ∀ Q : VK, (∀ v H2, Gs s H1 H2 → Dr s p xs H2 → P v H2 → Q v H2) → te σ H1 Q
section
variable {K : PySem.W.Frag} {σ : L2.St} {H H' : Hp} {ta tb te : TE} {P R S : HP} {r : R2} {v : V} {s p : Addr} {xs : List Int}
theorem EvD.imp (h : EvD s p xs te σ H P) (k : ∀ v H1, P v H1 → R v H1) : EvD s p xs te σ H R := fun H1 a d Q q => h H1 a d Q fun v H2 e d2 p => q v H2 e d2 (k v H2 p)
/-- a comprehension over range(n) whose items draw -/
theorem evd_lc {tn : TA} {vs : List Nat} {n j : Nat} {Pi : Nat → HP} (hw : ∀ H1, EvAP tn σ H1 (fun vs _ => vs = [.int (n : Int)])) (hn : n ≤ 40000) (hz : ∀ x, wipe ((wipe σ vs).set j (some x)) vs = wipe σ vs)
    (he : ∀ (i : Nat), i < n → EvD s p xs te ((wipe σ vs).set j (some (.int (i : Int)))) H (Pi i)) (m : ∀ i, MonoF (Pi i)) :
    EvD s p xs (tLc (iRng1 tn) (gName j) tYes te vs) σ H (LstP n Pi) := fun H1 e d Q q => hw H1 H1 (Ex.refl _) _ fun vs' H2 e2 hv => by
  subst hv
  refine ⟨(n : Int), rfl, by omega, by omega, fun D hD => ?_⟩
  have d2 := d.ex e2
  have hDs : D ≠ s := fun z => by obtain ⟨k, hk⟩ := d2.at_; rw [z, hk] at hD; cases hD
  have hDp : D ≠ p := fun z => by have := d2.pool; rw [← z, hD] at this; cases this
  refine ⟨fun i k H3 => k = n - i ∧ i ≤ n ∧ Gs s H2 H3 ∧ Dr s p xs H3 ∧ ∃ ys, H3 D = some (.lst ys) ∧ ys.length = i ∧ ∀ j y, ys[j]? = some y → Pi j y H3, ⟨n, by simp, Nat.zero_le _, Gs.of (Ex.new hD), d2.ex (Ex.new hD), [], upd_same, rfl, fun j y hy => by simp at hy⟩, ?_⟩
  rintro i k H3 ⟨rfl, hi, ex, d3, ys, hys, hl, hP⟩
  by_cases hlt : i < n
  · refine .inr ⟨by show i < (n : Int).toNat; simpa using hlt, fun H4 => Gs s H2 H4 ∧ Dr s p xs H4 ∧ ∃ ys, H4 D = some (.lst ys) ∧ ys.length = i + 1 ∧ ∀ j y, ys[j]? = some y → Pi j y H4, fun H4 ⟨a, b, c⟩ => ⟨n - (i + 1), by omega, rfl, by omega, a, b, c⟩, fun x H4 y => ?_⟩
    obtain ⟨rfl, rfl⟩ := y
    refine ⟨hz _, ?_⟩
    unfold tYes
    dsimp only
    rw [if_pos rfl]
    rw [Int.zero_add]
    refine he i hlt H4 ((e.trans (Gs.of e2)).trans ex) d3 _ fun z H5 e5 d5 hz => ?_
    have hys5 := e5 _ _ hDs hys
    refine ⟨ys, hys5, sz_lt (by omega), ?_, ?_, ys ++ [z], upd_same, by simp [hl], fun j y hy => ?_⟩
    · intro a o ha h
      have hna : a ≠ D := fun q => by rw [q, hD] at h; cases h
      rw [upd_ne hna]
      exact e5 _ _ ha (ex _ _ ha h)
    · refine ⟨d5.ne, ?_, ?_⟩
      · obtain ⟨k, hk⟩ := d5.at_
        exact ⟨k, by rw [upd_ne hDs.symm]; exact hk⟩
      · rw [upd_ne hDp.symm]; exact d5.pool
    · have key : Pi j y H5 := by
        by_cases hj : j < ys.length
        · rw [List.getElem?_append_left hj] at hy
          exact m j _ _ _ (Gs.fx e5 d3) (hP j y hy)
        · rw [List.getElem?_append_right (by omega)] at hy
          have : j - ys.length = 0 := by
            rcases Nat.eq_zero_or_pos (j - ys.length) with z0 | z0
            · exact z0
            · rw [List.getElem?_eq_none (by simp; omega)] at hy; cases hy
          rw [this] at hy
          have ej : j = i := by omega
          have ey : z = y := by simpa using hy
          rw [ej, ← ey]
          exact hz
      exact m j _ _ _ (Fx.lst hys5) key
  · have hinn : i = n := by omega
    subst hinn
    exact .inl ⟨by show (i : Int).toNat ≤ i; simp, q _ H3 ((Gs.of e2).trans ex) d3 ⟨D, ys, rfl, hys, hl, hP⟩⟩
theorem evd_tuple {n : Nat} {Pi : Nat → HP} (h : EvD s p xs te σ H (LstP n Pi)) (m : ∀ i, MonoF (Pi i)) :
    EvD s p xs (tCB (fun xs H Q => ∃ p ys, xs = [.ref p] ∧ ((SqL K H p ys ∧ ∀ l, H l = none → Q (.ref l) (upd H l (.tup ys))) ∨ (SqT K H p ys ∧ Q (.ref p) H))) (tCons te tNil)) σ H (TupP n Pi) := fun H1 e d Q q =>
  h H1 e d _ fun v H2 e2 d2 ⟨p, ys, hv, hp, hl, hi⟩ => by
    subst hv
    exact ⟨p, ys, rfl, .inl ⟨sq_of hp, fun l hl' => q _ _ (e2.trans (Gs.of (Ex.new hl'))) (d2.ex (Ex.new hl')) ⟨l, ys, rfl, upd_same, hl, fun i y hy => (m i).mono _ _ _ (Ex.new hl') (hi i y hy)⟩⟩⟩
/-- a pure reading, in a state -/
theorem evd_of (h : ∀ H1, Gs s H H1 → Dr s p xs H1 → EvP te σ H1 P) : EvD s p xs te σ H P := fun H1 e d Q q => h H1 e d H1 (Ex.refl _) Q fun v H2 e2 p => q v H2 (Gs.of e2) (d.ex e2) p

/-! ### two fors: the ints of all, one after the other -/
def acc2 (f : Nat → Nat → V) (m : Nat → Nat) : Nat → List V
  | 0 => []
  | i + 1 => acc2 f m i ++ (List.range (m i)).map (f i)
theorem evp_lc2 {wi wi1 : TI} {g g1 : TG} {vs vs1 : List Nat} {n : Nat} {mm : Nat → Nat} {item : Nat → V → Hp → Prop} {item1 : Nat → Nat → V → Hp → Prop} {Sg : Nat → L2.St → Hp → Prop} {Sg1 : Nat → Nat → L2.St → Hp → Prop} {f : Nat → Nat → V}
    (hw : WiP wi σ H n item) (hn : n ≤ 100) (hmm : ∀ i, mm i ≤ 100)
    (hg : ∀ i x H1, i < n → Evl.Ex H H1 → item i x H1 → GP g x (wipe σ vs) H1 (fun σ2 H2 => wipe σ2 vs = wipe σ vs ∧ Sg i σ2 H2))
    (hw1 : ∀ i σ2 H1, i < n → Evl.Ex H H1 → Sg i σ2 H1 → WiP wi1 σ2 H1 (mm i) (item1 i))
    (hg1 : ∀ i j σ2 x H1 H2, i < n → j < mm i → Evl.Ex H H1 → Sg i σ2 H1 → Fx H1 H2 → item1 i j x H2 → GP g1 x (wipe σ2 vs1) H2 (fun σ3 H3 => wipe σ3 vs1 = wipe σ2 vs1 ∧ Sg1 i j σ3 H3))
    (he : ∀ i j σ3 H1, i < n → j < mm i → Evl.Ex H H1 → Sg1 i j σ3 H1 → Ev te σ3 H1 (f i j)) :
    EvP (tLc2 wi g tYes wi1 g1 tYes te vs vs1) σ H (fun v H1 => ∃ p, v = .ref p ∧ H1 p = some (.lst (acc2 f mm n))) := fun H1 e Q q => hw H1 e _ fun J H2 Pre e2 T pre => fun D hD => by
  have hlen : ∀ i, i ≤ n → (acc2 f mm i).length ≤ 100 * i := by
    intro i
    induction i with
    | zero => intro _; simp [acc2]
    | succ i ih => intro h; have := ih (by omega); have := hmm i; simp [acc2]; omega
  refine ⟨fun i k H3 => k = n - i ∧ i ≤ n ∧ Evl.Ex H2 H3 ∧ H3 D = some (.lst (acc2 f mm i)), ⟨n, by simp, Nat.zero_le _, Ex.new hD, upd_same⟩, ?_⟩
  rintro i k H3 ⟨rfl, hi, ex, hys⟩
  have pre3 := T.mono _ _ (Fx.of ex) pre
  by_cases hlt : i < n
  · refine .inr ⟨T.go i H3 hlt pre3, fun H4 => Evl.Ex H2 H4 ∧ H4 D = some (.lst (acc2 f mm (i + 1))), fun H4 ⟨a, b⟩ => ⟨n - (i + 1), by omega, rfl, by omega, a, b⟩, fun x H4 y => ?_⟩
    obtain ⟨e4, it⟩ := T.yld i H3 x H4 hlt pre3 y
    have exH4 := ((e.trans e2).trans ex).trans e4
    refine hg i x H4 hlt exH4 it _ fun σ2 ⟨hw2, hs⟩ => ⟨hw2, ?_⟩
    unfold tYes
    dsimp only
    rw [if_pos rfl]
    refine hw1 i σ2 H4 hlt exH4 hs H4 (Ex.refl _) _ fun J1 H5 Pre1 e5 T1 pre1 => ?_
    have hys5 := e5 _ _ (e4 _ _ hys)
    refine ⟨fun j k H6 => k = mm i - j ∧ j ≤ mm i ∧ Evl.Ex H2 H6 ∧ Fx H5 H6 ∧ H6 D = some (.lst (acc2 f mm i ++ (List.range j).map (f i))), ⟨mm i, by simp, Nat.zero_le _, (ex.trans e4).trans e5, Fx.refl _, by simpa using hys5⟩, ?_⟩
    rintro j k H6 ⟨rfl, hj, ex6, fx6, hys6⟩
    have pre6 := T1.mono _ _ fx6 pre1
    by_cases hlt1 : j < mm i
    · refine .inr ⟨T1.go j H6 hlt1 pre6, fun H7 => Evl.Ex H2 H7 ∧ Fx H5 H7 ∧ H7 D = some (.lst (acc2 f mm i ++ (List.range (j + 1)).map (f i))), fun H7 ⟨a, b, c⟩ => ⟨mm i - (j + 1), by omega, rfl, by omega, a, b, c⟩, fun x1 H7 y1 => ?_⟩
      obtain ⟨e7, it1⟩ := T1.yld j H6 x1 H7 hlt1 pre6 y1
      have ex7 : Evl.Ex H H7 := (e.trans e2).trans (ex6.trans e7)
      refine hg1 i j σ2 x1 H4 H7 hlt hlt1 exH4 hs ((Fx.of e5).trans (fx6.trans (Fx.of e7))) it1 _ fun σ3 ⟨hw3, hs3⟩ => ⟨hw3, ?_⟩
      rw [if_pos rfl]
      refine he i j σ3 H7 hlt hlt1 ex7 hs3 H7 (Ex.refl _) _ fun H8 e8 => ?_
      have hys8 := e8 _ _ (e7 _ _ hys6)
      have hl8 := hlen i (by omega)
      have hmi := hmm i
      refine ⟨_, hys8, sz_lt (by simp; omega), Ex.mut ((ex6.trans e7).trans e8) hD, (fx6.trans (Fx.of (e7.trans e8))).trans (Fx.lst hys8), ?_⟩
      rw [upd_same, List.range_succ, List.map_append, List.append_assoc]
      rfl
    · have hjm : j = mm i := by omega
      subst hjm
      exact .inl ⟨T1.stop H6 pre6, ex6, hys6⟩
  · have hinn : i = n := by omega
    subst hinn
    exact .inl ⟨T.stop H3 pre3, q _ H3 (e2.trans ex) ⟨D, rfl, hys⟩⟩
end
end Ev2
set_option maxHeartbeats 4100000
namespace K20
open PySem PySem.Spec PyProof.Rows L2 Evl RZ Ev2 TA5
abbrev rLenQ (K : PySem.W.Frag) : List V → Hp → VK → Prop := fun xs H Q => ∃ p ys, xs = [.ref p] ∧ (SqL K H p ys ∨ SqT K H p ys) ∧ Q (.int ys.length) H
abbrev rTupQ (K : PySem.W.Frag) : List V → Hp → VK → Prop := fun xs H Q => ∃ p ys, xs = [.ref p] ∧ ((SqL K H p ys ∧ ∀ l, H l = none → Q (.ref l) (upd H l (.tup ys))) ∨ (SqT K H p ys ∧ Q (.ref p) H))
def topS (i : Nat) : Stmt := PySem.Challenge.pw_surecounts_k25_questions.main.body.getD i (.Pass ⟨0, 0, 0, 0⟩)
/-- what the top has written of the built-in names and of the one number -/
structure Txt (mg : Str → Option Value) (tk : Tok) : Prop where
  n_isinstance : mg "isinstance" = none
  n_int : mg "int" = none
  n_bool : mg "bool" = none
  n_tuple : mg "tuple" = none
  n_len : mg "len" = none
  n_all : mg "all" = none
  n_zip : mg "zip" = none
  n_range : mg "range" = none
  n_enumerate : mg "enumerate" = none
  n_max : mg "max" = none
  n_str : mg "str" = none
  n_list : mg "list" = none
  n_sorted : mg "sorted" = none
  n_set : mg "set" = none
  c_MOST_VALUES : mg "MOST_VALUES" = some (.int 8 tk)
structure Df (K : PySem.W.Frag) (mg : Str → Option Value) (x : Str) (st : Stmt) (ps : List Str) (f : Addr) (fd : FuncData) : Prop where
  F : Fun K x x st f fd
  b : Binds K fd ps []
  g : mg x = some (.ref f)
/-- a grid: m rows of n ints, by place -/
def Grid (m n : Nat) (f : Nat → Nat → Int) : HP := TupP m fun i => TupP n fun j => Is (.int (f i j))
theorem mf_is {x : V} : MonoF (Is x) := fun _ _ _ _ h => h
theorem mf_tup {n : Nat} {P : Nat → HP} (m : ∀ i, MonoF (P i)) : MonoF (TupP n P) := fun v H H' e ⟨p, ys, h1, h2, h3, h4⟩ => ⟨p, ys, h1, e _ _ h2 (fun _ z => nomatch z), h3, fun i y hy => m i _ _ _ e (h4 i y hy)⟩
theorem mf_row {n : Nat} {f : Nat → Int} : MonoF (TupP n fun j => Is (.int (f j))) := mf_tup fun _ => mf_is
theorem mf_grid {m n : Nat} {f : Nat → Nat → Int} : MonoF (Grid m n f) := mf_tup fun _ => mf_row
def Tr : HP := Is (.bl true)
section
variable {K : PySem.W.Frag} {σ : L2.St} {H : Hp} {ta tb te : TE} {P : HP}
theorem tup_get {n : Nat} {Pi : Nat → HP} {v : V} {i : Nat} (h : TupP n Pi v H) (hi : i < n) : ∃ p ys y, v = .ref p ∧ H p = some (.tup ys) ∧ ys.length = n ∧ ys[i]? = some y ∧ Pi i y H := by
  obtain ⟨p, ys, h1, h2, h3, h4⟩ := h
  exact ⟨p, ys, _, h1, h2, h3, List.getElem?_eq_getElem (by omega), h4 i _ (List.getElem?_eq_getElem (by omega))⟩
/-- a list whose items are known is known -/
theorem lst_is {n : Nat} {w : Nat → V} {v : V} (h : LstP n (fun i => Is (w i)) v H) : ∃ p, v = .ref p ∧ H p = some (.lst ((List.range n).map w)) := by
  obtain ⟨p, ys, h1, h2, h3, h4⟩ := h
  refine ⟨p, h1, ?_⟩
  rw [h2]
  have : ys = (List.range n).map w := by
    apply List.ext_getElem?
    intro i
    by_cases hi : i < n
    · rw [List.getElem?_map, List.getElem?_range hi, List.getElem?_eq_getElem (by omega)]
      exact congrArg some (h4 i _ (List.getElem?_eq_getElem (by omega)))
    · rw [List.getElem?_eq_none (by omega), List.getElem?_eq_none (by simp; omega)]
  rw [this]
theorem evp_all {n : Nat} (h : EvP te σ H (LstP n (fun _ => Tr))) : EvP (tCB (rAll K) (tCons te tNil)) σ H Tr := fun H1 e Q q => h H1 e _ fun v H2 e2 p => by
  obtain ⟨l, rfl, hl⟩ := lst_is p
  refine ⟨l, (List.range n).map (fun _ => true), rfl, ?_, ?_⟩
  · rw [List.map_map]; exact sq_of hl
  · have : ((List.range n).map (fun _ => true)).all id = true := by simp
    rw [this]
    exact q _ H2 e2 rfl
theorem evp_isi {t u : Value} {c : V} {b : Bool} (h : EvP te σ H P) (ht : ∀ x H1, P x H1 → TyX K H1 x t) (hc : ClsV c u) (e : PySem.W.kitOne K t u = some b) : EvP (tCB (rIsi K) (tCons te (tCons (tC c) tNil))) σ H (Is (.bl b)) := fun H1 e1 Q q =>
  h H1 e1 _ fun x H2 e2 p => ⟨x, c, t, u, b, rfl, hc, ht x H2 p, e, q _ H2 e2 rfl⟩
theorem evp_len {n : Nat} {Pi : Nat → HP} (h : EvP te σ H (TupP n Pi)) : EvP (tCB (rLenQ K) (tCons te tNil)) σ H (Is (.int (n : Int))) := fun H1 e Q q =>
  h H1 e _ fun v H2 e2 ⟨p, ys, h1, h2, h3, h4⟩ => ⟨p, ys, by rw [h1], .inr (st_of h2), by rw [h3]; exact q _ H2 e2 rfl⟩
theorem evp_c {v : V} : EvP (tC v) σ H (Is v) := evp_of ev_c
theorem evp_ixT {n : Nat} {Pi : Nat → HP} {i : Nat} (ha : EvP ta σ H (TupP n Pi)) (hb : EvP tb σ H (Is (.int (i : Int)))) (hi : i < n) (m : ∀ i, MonoF (Pi i)) : EvP (tOp (rIxT K) ta tb) σ H (Pi i) := fun H1 e Q q =>
  ha H1 e _ fun v H2 e2 h => hb H2 (e.trans e2) _ fun y H3 e3 hy => by
    obtain ⟨p, ys, z, rfl, hp, hl, hz, hpz⟩ := tup_get h hi
    exact ⟨p, ys, _, z, rfl, hy, st_of (e3 _ _ hp), atI_nat hz, q z H3 (e2.trans e3) ((m i).mono _ _ _ e3 hpz)⟩
/-- two ints, one operation -/
theorem evp_I0 {g : Int → Int → V} {i j : Int} (ha : EvP ta σ H (Is (.int i))) (hb : EvP tb σ H (Is (.int j))) : EvP (tOp (rI0 g) ta tb) σ H (Is (g i j)) := evp_of (ev_op ha.ev hb.ev rv_I0)
theorem evp_I {C : Int → Int → Prop} {g : Int → Int → V} {i j : Int} (ha : EvP ta σ H (Is (.int i))) (hb : EvP tb σ H (Is (.int j))) (hc : C i j) : EvP (tOp (rI C g) ta tb) σ H (Is (g i j)) := evp_of (ev_op ha.ev hb.ev (rv_I hc))
theorem evp_eq {x y : V} (ha : EvP ta σ H (Is x)) (hb : EvP tb σ H (Is y)) (hs : scal x y = true) : EvP (tOp rEq ta tb) σ H (Is (.bl (decide (x = y)))) := evp_of (ev_op ha.ev hb.ev (rv_eq hs))
theorem evp_ne {x y : V} (ha : EvP ta σ H (Is x)) (hb : EvP tb σ H (Is y)) (hs : scal x y = true) : EvP (tOp rNe ta tb) σ H (Is (.bl (!decide (x = y)))) := evp_of (ev_op ha.ev hb.ev (rv_ne hs))
theorem evp_is {x y : V} (h : EvP te σ H (Is x)) (e : x = y) : EvP te σ H (Is y) := e ▸ h
theorem evp_chain {g g' : Int → Int → V} {i j k : Int} {b b' : Bool} {tc : TE} (ha : EvP ta σ H (Is (.int i))) (hb : EvP tb σ H (Is (.int j))) (hc : EvP tc σ H (Is (.int k))) (h1 : g i j = .bl b) (h2 : g' j k = .bl b') :
    EvP (tChain (rI0 g) (rI0 g') ta tb tc) σ H (Is (.bl (b && b'))) := fun H1 e Q q =>
  ha.ev H1 e _ fun H2 e2 => hb.ev H2 (e.trans e2) _ fun H3 e3 => ⟨i, j, rfl, rfl, b, h1, by
    cases b with
    | true =>
      refine iteT ?_
      exact hc.ev H3 ((e.trans e2).trans e3) _ fun H4 e4 => ⟨j, k, rfl, rfl, by rw [h2]; exact q _ H4 ((e2.trans e3).trans e4) rfl⟩
    | false => exact iteF (q _ H3 (e2.trans e3) rfl)⟩
theorem evp_and {a b : Bool} (h1 : EvP ta σ H (Is (.bl a))) (h2 : a = true → EvP tb σ H (Is (.bl b))) : EvP (tAndV ta tb) σ H (Is (.bl (a && b))) := evp_of (ev_andV h1.ev fun h => (h2 h).ev)
theorem evp_or {a b : Bool} (h1 : EvP ta σ H (Is (.bl a))) (h2 : a = false → EvP tb σ H (Is (.bl b))) : EvP (tOrV ta tb) σ H (Is (.bl (a || b))) := evp_of (ev_orV h1.ev fun h => (h2 h).ev)
theorem evp_not {a : Bool} (h1 : EvP ta σ H (Is (.bl a))) : EvP (tNotV ta) σ H (Is (.bl (!a))) := evp_of (ev_notV h1.ev)
theorem et_bl {b : Bool} (h : EvP te σ H (Is (.bl b))) : EvT (tB te) σ H b := et_B h.ev
theorem et_tst {b : Bool} (h : EvP te σ H (Is (.bl b))) : EvT (tTest te) σ H b := et_test h.ev
theorem evp_gl {m n : Nat} {f : Nat → Nat → Int} {i : Nat} {v : V} (h : σ[i]? = some (some v)) (p : Grid m n f v H) : EvP (tVar i) σ H (Grid m n f) := evp_var h p mf_grid.mono
end
theorem g_name {i : Nat} {x : V} {σ0 : L2.St} {H : Hp} {S : L2.St → Hp → Prop} (h : S (σ0.set i (some x)) H) : GP (gName i) x σ0 H S := fun Q q => q _ h
theorem scs (N ps : List Str) (sc : Scope) (h : sc.kind = .function ∧ sc.isCoroutine = false ∧ sc.isGenerator = false) (h1 : (decide N.Nodup) = true) (h2 : N.take ps.length = ps) (h3 : (ps.all fun x => sc.names.lookup x == some .local || sc.names.lookup x == some .cell) = true) (h4 : (sc.names.all fun y => y.2 != .free) = true) : FnScope N ps sc := by
  refine ⟨h.1, h.2.1, h.2.2, of_decide_eq_true h1, h2, fun x hx => ?_, fun y hy e => ?_⟩
  · have := List.all_eq_true.mp h3 x hx
    simpa using this
  · have := List.all_eq_true.mp h4 y hy
    rw [e] at this
    simp at this
end K20
namespace K20
open PySem PySem.Spec PyProof.Rows L2 Evl RZ Ev2 TA5
abbrev s_law_numbers : Stmt := topS 42
abbrev N_law_numbers : List Str := ["_law_cell", "_law_salt", "_law_sizes", "_law_whole", "_law_left", "_law_result", "_law_k", "_law_one"]
theorem sc_law_numbers : FnScope N_law_numbers ["_law_cell", "_law_salt", "_law_sizes"] (defScope s_law_numbers) := ⟨rfl, rfl, rfl, by decide +kernel, rfl, by decide +kernel, by decide +kernel⟩
abbrev s_law_draw : Stmt := topS 43
abbrev N_law_draw : List Str := ["_law_state", "_law_many", "_law_at"]
theorem sc_law_draw : FnScope N_law_draw ["_law_state", "_law_many"] (defScope s_law_draw) := ⟨rfl, rfl, rfl, by decide +kernel, rfl, by decide +kernel, by decide +kernel⟩
abbrev s_law_pool : Stmt := topS 44
abbrev N_law_pool : List Str := ["_law_cell", "_law_salt", "_law_many"]
theorem sc_law_pool : FnScope N_law_pool ["_law_cell", "_law_salt", "_law_many"] (defScope s_law_pool) := ⟨rfl, rfl, rfl, by decide +kernel, rfl, by decide +kernel, by decide +kernel⟩
/-- an int with c -/
def BI (c : Int → Prop) : HP := fun v _ => ∃ i, v = .int i ∧ c i
theorem mf_bi {c : Int → Prop} : MonoF (BI c) := fun _ _ _ _ h => h
section
variable {K : PySem.W.Frag} {σ : L2.St} {H : Hp} {ta tb te : TE} {P : HP} {tz : TS} {D : Ends}
theorem q_asgP {i : Nat} (h : EvP te σ H P) (k : ∀ v H1, Evl.Ex H H1 → P v H1 → tz D (σ.set i (some v)) H1) : tSeq (tAsg te (gName i)) tz D σ H := h H (Ex.refl H) _ fun v H1 e p => k v H1 e p
theorem q_appP {l : Addr} {xs : List V} (hl : H l = some (.lst xs)) (ha : Ev ta σ H (.ref l)) (h : EvP te σ H P) (hz : xs.length < 100000) (k : ∀ v H1, Evl.Ex H H1 → P v H1 → tz D σ (upd H1 l (.lst (xs ++ [v])))) :
    tSeq (tDrop (tBM K "list" rAppend ta (tCons te tNil))) tz D σ H := ha H (Ex.refl H) _ fun H1 e1 =>
  ⟨Or.inl ⟨rfl, xs, sq_of (e1 l _ hl)⟩, h H1 e1 _ fun v H2 e2 p => ⟨l, xs, v, rfl, rfl, e2 l _ (e1 l _ hl), sz_lt hz, k v H2 (e1.trans e2) p⟩⟩
theorem s_appP {l : Addr} {xs : List V} (hl : H l = some (.lst xs)) (ha : Ev ta σ H (.ref l)) (h : EvP te σ H P) (hz : xs.length < 100000) (k : ∀ v H1, Evl.Ex H H1 → P v H1 → D.nx σ (upd H1 l (.lst (xs ++ [v])))) :
    tDrop (tBM K "list" rAppend ta (tCons te tNil)) D σ H := ha H (Ex.refl H) _ fun H1 e1 =>
  ⟨Or.inl ⟨rfl, xs, sq_of (e1 l _ hl)⟩, h H1 e1 _ fun v H2 e2 p => ⟨l, xs, v, rfl, rfl, e2 l _ (e1 l _ hl), sz_lt hz, k v H2 (e1.trans e2) p⟩⟩
theorem evp_bI {C : Int → Int → Prop} {g : Int → Int → Int} {c d e : Int → Prop} (ha : EvP ta σ H (BI c)) (hb : EvP tb σ H (BI d)) (h : ∀ i j, c i → d j → C i j ∧ e (g i j)) : EvP (tOp (rI C fun i j => .int (g i j)) ta tb) σ H (BI e) :=
  evp_op ha hb mf_bi.mono fun x y H1 _ ⟨i, hx, hc⟩ ⟨j, hy, hd⟩ Q q => ⟨i, j, hx, hy, (h i j hc hd).1, q _ H1 (Ex.refl H1) ⟨_, rfl, (h i j hc hd).2⟩⟩
theorem evp_b0 {g : Int → Int → Int} {c d e : Int → Prop} (ha : EvP ta σ H (BI c)) (hb : EvP tb σ H (BI d)) (h : ∀ i j, c i → d j → e (g i j)) : EvP (tOp (rI0 fun i j => .int (g i j)) ta tb) σ H (BI e) :=
  evp_op ha hb mf_bi.mono fun x y H1 _ ⟨i, hx, hc⟩ ⟨j, hy, hd⟩ Q q => ⟨i, j, hx, hy, q _ H1 (Ex.refl H1) ⟨_, rfl, h i j hc hd⟩⟩
theorem evp_bi {i : Int} {c : Int → Prop} (h : EvP te σ H (Is (.int i))) (hc : c i) : EvP te σ H (BI c) := h.imp fun v H1 _ p => ⟨i, p, hc⟩
theorem evp_bv {n : Nat} {i : Int} {c : Int → Prop} (h : σ[n]? = some (some (.int i))) (hc : c i) : EvP (tVar n) σ H (BI c) := evp_bi (evp_var h rfl mono_is) hc
theorem evp_bc {i : Int} {c : Int → Prop} (hc : c i) : EvP (tC (.int i)) σ H (BI c) := evp_bi evp_c hc
theorem evp_ixL {p : Addr} {xs : List V} {i : Nat} {v : V} (ha : EvP ta σ H (Is (.ref p))) (hp : SqL K H p xs) (hb : EvP tb σ H (Is (.int (i : Int)))) (hv : xs[i]? = some v) : EvP (tOp (rIxL K) ta tb) σ H (Is v) := evp_of (ev_op ha.ev hb.ev (rv_ixL hp (atI_nat hv)))
end
section
variable {P : Program} {w : World} {K : PySem.W.Frag} {mg : Str → Option Value} {base : Heap} {tk : Tok} {k : Nat}
def spNum : Sp := fun vs H Q _ => ∃ (c s : Int) (a : Addr) (zs : List Int), vs = [.int c, .int s, .ref a] ∧ H a = some (.lst (zs.map V.int)) ∧ (∀ z ∈ zs, 1 ≤ z ∧ z ≤ 1000) ∧ zs.length ≤ 1000 ∧ (0 ≤ s ∧ s ≤ 100000) ∧
  ∀ (p : Addr) (xs : List Int) (H2 : Hp), Evl.Ex H H2 → H p = none → H2 p = some (.lst (xs.map V.int)) → Q (.ref p) H2
theorem fm {a b : Int} (h : 0 < b) : b ≠ 0 ∧ (0 ≤ a.fmod b ∧ a.fmod b < b) := ⟨by omega, Int.fmod_nonneg_of_pos a h, Int.fmod_lt_of_pos a h⟩
theorem ok_num {fa : Addr} {fd : FuncData} (T : Txt mg tk) (D : Df K mg "_law_numbers" s_law_numbers ["_law_cell", "_law_salt", "_law_sizes"] fa fd) :
    FnOk P w K mg base CX0 (k + 1) fa fd ["_law_cell", "_law_salt", "_law_sizes"] spNum := by
  refine D.F.ok sc_law_numbers (fun vs H Q E h => ?_) (fun cdv A outer s H vs Q E hr h => ?_)
  · obtain ⟨c, s, a, zs, rfl, _⟩ := h
    rfl
  · obtain ⟨c, t, a, zs, rfl, ha, hz, hzl, ht, q⟩ := h
    have nd := sc_law_numbers.nd
    refine ⟨_, (pss_cons (ps_set (i := 3) nd rfl (Or.inl rfl) (pe_callB (call_max2 rfl) (by rfl) T.n_max PyProof.Rows.boot_max (pa_cons (pv 0) (pa_cons (pe_op op_sub (pe_un un_neg pe_int) (pv 0)) pa_nil)))) (pss_cons (ps_set (i := 4) nd rfl (Or.inl rfl) (pv 3)) (pss_cons (ps_set (i := 5) nd rfl (Or.inl rfl) (pe_lst pa_nil)) (pss_cons (ps_for PassesOwn.never rfl (pi_range1 (by rfl) T.n_range (pa_cons (pe_callB (r := rLenQ K) call_len_seq (by rfl) T.n_len PySem.boot_len (pa_cons (pv 2) pa_nil)) pa_nil)) (pg_name (i := 6) nd rfl (Or.inl rfl)) (pss_one (ps_if (PW.pt (pw_and (pt_cmpR op_ge (pv 3) (pe_op op_pow pe_int pe_int) (nomark _)) (pw_and1 (pt_cmpR op_gt (pv 4) pe_int (nomark _))))) (pss_cons (ps_expr (pe_bm PySem.F.plainAttrs_list PySem.F.slot_list_append PySem.F.type_list_append mt_append (pv 5) (pa_cons (pe_op op_modN (pv 4) (pe_ix (r := rIxL K) ix_list (pv 2) (pv 6) (fun _ _ => rfl))) pa_nil))) (pss_one (ps_set (i := 4) nd rfl (Or.inl rfl) (pe_op op_fdivN (pv 4) (pe_ix (r := rIxL K) ix_list (pv 2) (pv 6) (fun _ _ => rfl)))))) (pss_cons (ps_set (i := 7) nd rfl (Or.inl rfl) (pe_op op_modN (pe_op op_pow (pe_op op_add (pe_op op_add (pe_op op_modN (pv 3) pe_int) (pe_op op_mul pe_int (pv 1))) pe_int) pe_int) pe_int)) (pss_cons (ps_set (i := 7) nd rfl (Or.inl rfl) (pe_op op_modN (pe_op op_mul (pe_op op_add (pv 7) (pe_op op_mul pe_int (pe_op op_add (pv 6) pe_int))) (pe_op op_add (pv 6) pe_int)) pe_int)) (pss_cons (ps_set (i := 7) nd rfl (Or.inl rfl) (pe_op op_modN (pe_op op_mul (pe_op op_modN (pe_op op_pow (pv 7) pe_int) pe_int) pe_int) pe_int)) (pss_one (ps_expr (pe_bm PySem.F.plainAttrs_list PySem.F.slot_list_append PySem.F.type_list_append mt_append (pv 5) (pa_cons (pe_op op_modN (pe_op op_fdivN (pv 7) pe_int) (pe_ix (r := rIxL K) ix_list (pv 2) (pv 6) (fun _ _ => rfl))) pa_nil)))))))))) (pss_one (ps_ret (pv 5))))))), ?_⟩
    refine q_asgP (P := BI fun _ => True) (fun H1 e1 Q q => ?_) fun v1 H1 e1 ⟨W, hW, _⟩ => ?_
    · exact ⟨_, rfl, 1, rfl, _, rfl, -1, c, rfl, rfl, c, _, rfl, q _ H1 (Ex.refl _) ⟨_, rfl, trivial⟩⟩
    subst hW
    refine q_asgP (P := Is (.int W)) (evp_var rfl rfl mono_is) fun v2 H2 e2 hv2 => ?_
    subst hv2
    refine q_asgL (el_lst ea_nil (by decide)) fun p H3 hp e3 h3 => ?_
    have hpH : H p = none := fresh_back (e1.trans e2) hp
    have ex3 : Evl.Ex H H3 := (e1.trans e2).trans e3
    have key : ∀ (i : Nat) (σ' : L2.St) (H' : Hp), True := fun _ _ _ => trivial
    refine q_forR1 (n := (zs.length : Int)) (ea_cons (EvP.ev (te := tCB (rLenQ K) (tCons (tVar 2) tNil)) fun H4 e4 Q q => ⟨_, rfl, a, _, rfl, .inl (sq_of ((ex3.trans e4) _ _ ha)), by rw [List.length_map]; exact q _ H4 (Ex.refl _) rfl⟩) ea_nil) (by omega)
      (fun i σ' H' => ∃ (L : Int) (xs : List Int) (k1 k2 : Option V), σ' = [some (.int c), some (.int t), some (.ref a), some (.int W), some (.int L), some (.ref p), k1, k2] ∧ xs.length = i ∧ Evl.Ex H H' ∧ H' p = some (.lst (xs.map V.int)))
      (fun H4 e4 => ⟨W, [], none, none, rfl, rfl, ex3.trans e4, e4 _ _ h3⟩) (fun i σ' H' hi ⟨L, xs, k1, k2, hs, hl, ex', hp'⟩ => ?_) (fun σ' H' ⟨L, xs, k1, k2, hs, hl, ex', hp'⟩ => ?_)
    · subst hs
      have hzi : (zs.map V.int)[i]? = some (.int (zs[i]'(by omega))) := by rw [List.getElem?_map, List.getElem?_eq_getElem (by omega)]; rfl
      have hzb := hz (zs[i]'(by omega)) (List.getElem_mem _)
      generalize zs[i]'(by omega) = z at hzi hzb
      have step : ∀ (σ2 : L2.St) (H5 : Hp) (e : Evl.Ex H' H5), σ2[2]? = some (some (.ref a)) → σ2[6]? = some (some (.int (i : Int))) → EvP (tOp (rIxL K) (tVar 2) (tVar 6)) σ2 H5 (BI fun x => 1 ≤ x ∧ x ≤ 1000) := fun σ2 H5 e h2 h6 =>
        evp_bi (evp_ixL (evp_var h2 rfl mono_is) (sq_of ((ex'.trans e) _ _ ha)) (evp_var h6 rfl mono_is) hzi) hzb
      have fin : ∀ (v : V) (H5 : Hp) (L' : Int) (k2' : Option V), Evl.Ex H' H5 → (∃ x, v = .int x ∧ True) → (fun i σ' H' => ∃ (L : Int) (xs : List Int) (k1 k2 : Option V), σ' = [some (.int c), some (.int t), some (.ref a), some (.int W), some (.int L), some (.ref p), k1, k2] ∧ xs.length = i ∧ Evl.Ex H H' ∧ H' p = some (.lst (xs.map V.int))) (i + 1)
          [some (.int c), some (.int t), some (.ref a), some (.int W), some (.int L'), some (.ref p), some (.int (i : Int)), k2'] (upd H5 p (.lst (xs.map V.int ++ [v]))) := fun v H5 L' k2' e ⟨x, hx, _⟩ => by
        subst hx
        refine ⟨L', xs ++ [x], some (.int (i : Int)), k2', rfl, by simp [hl], Ex.mut (ex'.trans e) hpH, ?_⟩
        rw [upd_same, List.map_append]; rfl
      have hW : EvP (tVar 3) [some (.int c), some (.int t), some (.ref a), some (.int W), some (.int L), some (.ref p), some (.int (i : Int)), k2] H' (Is (.int W)) := evp_var rfl rfl mono_is
      have hpw : EvP (tOp (rI CPow fun i j => .int (i ^ j.toNat)) (tC (.int 10)) (tC (.int 18))) [some (.int c), some (.int t), some (.ref a), some (.int W), some (.int L), some (.ref p), some (.int (i : Int)), k2] H' (Is (.int (10 ^ (18 : Int).toNat))) := evp_I evp_c evp_c ⟨by decide, by decide, by decide⟩
      refine s_if (et_and (et_tst (evp_I0 (g := fun i j => .bl (decide (j ≤ i))) hW hpw)) fun _ => et_tst (evp_I0 (g := fun i j => .bl (decide (j < i))) (evp_var (v := .int L) rfl rfl mono_is) evp_c)) (fun _ H5 e5 => ?_) (fun _ H5 e5 => ?_)
      · refine q_appP (P := BI fun _ => True) (e5 _ _ hp') (ev_var rfl) (evp_bI (c := fun _ => True) (e := fun _ => True) (evp_bv rfl trivial) (step _ H5 e5 rfl rfl) fun i j _ hj => ⟨by omega, trivial⟩) (by simp; omega) fun v H6 e6 hv => ?_
        have st6 : EvP (tOp (rIxL K) (tVar 2) (tVar 6)) [some (.int c), some (.int t), some (.ref a), some (.int W), some (.int L), some (.ref p), some (.int (i : Int)), k2] (upd H6 p (.lst (xs.map V.int ++ [v]))) (BI fun x => 1 ≤ x ∧ x ≤ 1000) :=
          evp_bi (evp_ixL (evp_var rfl rfl mono_is) (sq_of ((Ex.mut ((ex'.trans e5).trans e6) hpH) _ _ ha)) (evp_var rfl rfl mono_is) hzi) hzb
        have hdv := evp_bI (C := CDivN) (g := fun i j => i.fdiv j) (c := fun _ => True) (e := fun _ => True) (evp_bv (n := 4) (i := L) rfl trivial) st6 fun i j _ hj => ⟨⟨by omega, by omega⟩, trivial⟩
        refine hdv _ (Ex.refl _) _ fun v7 H7 e7 ⟨x7, hx7, _⟩ => ?_
        subst hx7
        obtain ⟨x, hx, _⟩ := hv
        subst hx
        refine ⟨x7, xs ++ [x], some (.int (i : Int)), k2, rfl, by simp [hl], (Ex.mut ((ex'.trans e5).trans e6) hpH).trans e7, ?_⟩
        rw [e7 _ _ upd_same, List.map_append]; rfl
      · have hone : ∀ (k2' : Option V) (H6 : Hp), EvP (tVar 3) [some (.int c), some (.int t), some (.ref a), some (.int W), some (.int L), some (.ref p), some (.int (i : Int)), k2'] H6 (BI fun _ => True) := fun k2' H6 => evp_bv rfl trivial
        refine q_asgP (P := BI fun x => 0 ≤ x ∧ x < 2147483647) (evp_bI (c := fun _ => True) (d := fun x => x = 2147483647) (evp_bI (c := fun x => 0 ≤ x ∧ x < 10 ^ 18) (d := fun x => x = 3) (e := fun _ => True) (evp_b0 (c := fun x => 0 ≤ x ∧ x < 10 ^ 17) (d := fun x => x = 1) (evp_b0 (c := fun x => 0 ≤ x ∧ x < 2147483629) (d := fun x => 0 ≤ x ∧ x ≤ 791900000)
          (evp_bI (d := fun x => x = 2147483629) (hone k2 H5) (evp_bc rfl) fun i j _ hj => by subst hj; exact fm (by decide)) (evp_bI (c := fun x => x = 7919) (d := fun x => x = t) (evp_bc rfl) (evp_bv rfl rfl) fun i j hi hj => by subst hi; subst hj; exact ⟨.inl ⟨by decide, by decide⟩, by omega⟩)
          fun i j hi hj => by omega) (evp_bc rfl) fun i j hi hj => by omega) (evp_bc rfl) fun i j hi hj => ⟨⟨by omega, by omega, by omega⟩, trivial⟩) (evp_bc rfl) fun i j _ hj => by subst hj; exact fm (by decide)) fun v6 H6 e6 ⟨x6, hx6, hb6⟩ => ?_
        subst hx6
        refine q_asgP (P := BI fun x => 0 ≤ x ∧ x < 2147483629) (evp_bI (c := fun _ => True) (d := fun x => x = 2147483629) (evp_bI (c := fun _ => True) (d := fun x => 0 ≤ x ∧ x ≤ 2000) (e := fun _ => True) (evp_b0 (c := fun _ => True) (d := fun _ => True) (e := fun _ => True) (evp_bv rfl trivial)
          (evp_bI (c := fun x => x = 104729) (d := fun _ => True) (evp_bc rfl) (evp_b0 (c := fun _ => True) (d := fun _ => True) (evp_bv rfl trivial) (evp_bc trivial) fun _ _ _ _ => trivial) fun i j hi hj => by subst hi; exact ⟨.inl ⟨by decide, by decide⟩, trivial⟩) fun _ _ _ _ => trivial)
          (evp_b0 (c := fun x => x = (i : Int)) (d := fun x => x = 3) (evp_bv rfl rfl) (evp_bc rfl) fun i j hi hj => by omega) fun i j _ hj => ⟨.inr ⟨by omega, by omega⟩, trivial⟩) (evp_bc rfl) fun i j _ hj => by subst hj; exact fm (by decide)) fun v7 H7 e7 ⟨x7, hx7, hb7⟩ => ?_
        subst hx7
        refine q_asgP (P := BI fun x => 0 ≤ x ∧ x < 2147483629) (evp_bI (c := fun _ => True) (d := fun x => x = 2147483629) (evp_bI (c := fun x => 0 ≤ x ∧ x < 2147483647) (d := fun x => x = 48271) (e := fun _ => True) (evp_bI (c := fun _ => True) (d := fun x => x = 2147483647) (evp_bI (c := fun x => 0 ≤ x ∧ x < 2147483629) (d := fun x => x = 5) (e := fun _ => True)
          (evp_bv rfl hb7) (evp_bc rfl) fun i j hi hj => ⟨⟨by omega, by omega, by omega⟩, trivial⟩) (evp_bc rfl) fun i j _ hj => by subst hj; exact fm (by decide)) (evp_bc rfl) fun i j hi hj => ⟨.inl ⟨by omega, by omega⟩, trivial⟩) (evp_bc rfl) fun i j _ hj => by subst hj; exact fm (by decide)) fun v8 H8 e8 ⟨x8, hx8, hb8⟩ => ?_
        subst hx8
        refine s_appP (P := BI fun _ => True) (((e5.trans e6).trans (e7.trans e8)) _ _ hp') (ev_var rfl) (evp_bI (c := fun _ => True) (evp_bI (C := CDivN) (g := fun i j => i.fdiv j) (c := fun _ => True) (d := fun x => x = 16) (e := fun _ => True) (evp_bv rfl trivial) (evp_bc rfl) fun i j _ hj => by subst hj; exact ⟨⟨by decide, by decide⟩, trivial⟩)
          (step _ H8 ((e5.trans e6).trans (e7.trans e8)) rfl rfl) fun i j _ hj => ⟨by omega, trivial⟩) (by simp; omega) fun v9 H9 e9 hv9 => ?_
        exact fin v9 H9 L _ (((e5.trans e6).trans (e7.trans e8)).trans e9) hv9
    · subst hs
      exact ⟨_, rfl, q p xs H' ex' hpH hp'⟩
end
section
variable {P : Program} {w : World} {K : PySem.W.Frag} {mg : Str → Option Value} {base : Heap} {tk : Tok} {k : Nat}
theorem evp_if {σ : L2.St} {H : Hp} {t : TT} {ta tb : TE} {b : Bool} {P : HP} (h : EvT t σ H b) (h1 : b = true → EvP ta σ H P) (h2 : b = false → EvP tb σ H P) : EvP (tIf t ta tb) σ H P := fun H1 e Q q => h H1 e _ fun H2 e2 => by
  cases b with
  | true => exact iteT (h1 rfl H2 (e.trans e2) _ fun v H3 e3 p => q v H3 (e2.trans e3) p)
  | false => exact iteF (h2 rfl H2 (e.trans e2) _ fun v H3 e3 p => q v H3 (e2.trans e3) p)
abbrev rInt1 : List V → Hp → VK → Prop := fun xs H Q => (∃ i, xs = [.int i] ∧ Q (.int i) H) ∨ ∃ k, xs = [.bl k] ∧ Q (.int (if k = true then 1 else 0)) H
theorem evp_int1 {σ : L2.St} {H : Hp} {te : TE} {i : Int} (h : EvP te σ H (Is (.int i))) : EvP (tCB rInt1 (tCons te tNil)) σ H (Is (.int i)) := evp_cb (eap_one h) fun vs H1 ⟨x, e, hx⟩ Q q => .inl ⟨i, by rw [e, show x = .int i from hx], q _ H1 (Ex.refl _) rfl⟩
def spDraw : Sp := fun vs H Q _ => ∃ (s p : Addr) (xs : List Int) (m : Int), vs = [.ref s, .int m] ∧ Dr s p xs H ∧ 1 ≤ m ∧ ∀ v H2, Gs s H H2 → Dr s p xs H2 → BI (fun r => 0 ≤ r ∧ r < m) v H2 → Q v H2
theorem ok_draw {fa : Addr} {fd : FuncData} (T : Txt mg tk) (D : Df K mg "_law_draw" s_law_draw ["_law_state", "_law_many"] fa fd) :
    FnOk P w K mg base CX0 (k + 1) fa fd ["_law_state", "_law_many"] spDraw := by
  refine D.F.ok sc_law_draw (fun vs H Q E h => ?_) (fun cdv A outer s H vs Q E hr h => ?_)
  · obtain ⟨s, p, xs, m, rfl, _⟩ := h
    rfl
  · obtain ⟨s, p, xs, m, rfl, d, hm, q⟩ := h
    have nd := sc_law_draw.nd
    refine ⟨_, (pss_cons (ps_set (i := 2) nd rfl (Or.inl rfl) (pe_ix (r := rIxL K) ix_list (pv 0) pe_int (fun _ _ => rfl))) (pss_cons (ps_asg (pe_op op_add (pv 2) pe_int) (pg_sub (pv 0) pe_int set_list)) (pss_one (ps_ret (pe_ifExp (pt_cmpR op_lt (pv 2) (pe_callB (r := rLenQ K) call_len_seq (by rfl) T.n_len PySem.boot_len (pa_cons (pe_ix (r := rIxL K) ix_list (pv 0) pe_int (fun _ _ => rfl)) pa_nil)) (nomark _)) (pe_op op_modN (pe_callTy call_int1 (by rfl) T.n_int PyProof.Rows.boot_int (pa_cons (pe_ix (r := rIxL K) ix_list (pe_ix (r := rIxL K) ix_list (pv 0) pe_int (fun _ _ => rfl)) (pv 2) (fun _ _ => rfl)) pa_nil)) (pv 1)) pe_int))))), ?_⟩
    obtain ⟨n, hn⟩ := d.at_
    refine q_asgP (evp_ixL (i := 1) (v := .int (n : Int)) (evp_var rfl rfl mono_is) (sq_of hn) evp_c rfl) fun v1 H1 e1 hv1 => ?_
    subst hv1
    refine q_setL (j := 1) (e1 _ _ hn) (EvP.ev (evp_I0 (g := fun i j => .int (i + j)) (evp_var (v := .int (n : Int)) rfl rfl mono_is) evp_c)) (ev_var rfl) ev_c (by simp) fun H2 e2 => ?_
    have d2 := d.ex (e1.trans e2)
    have hset : ([V.ref p, .int (n : Int)].set 1 (.int ((n : Int) + 1))) = [V.ref p, .int ((n + 1 : Nat) : Int)] := rfl
    rw [hset]
    have d3 : Dr s p xs (upd H2 s (.lst [V.ref p, .int ((n + 1 : Nat) : Int)])) := ⟨d.ne, ⟨n + 1, upd_same⟩, by rw [upd_ne d.ne]; exact d2.pool⟩
    have g3 : Gs s H (upd H2 s (.lst [V.ref p, .int ((n + 1 : Nat) : Int)])) := fun a o ha h => by rw [upd_ne ha]; exact (e1.trans e2) _ _ h
    generalize upd H2 s (.lst [V.ref p, .int ((n + 1 : Nat) : Int)]) = H3 at d3 g3
    obtain ⟨n3, hn3⟩ := d3.at_
    have hp : EvP (tOp (rIxL K) (tVar 0) (tC (.int 0))) [some (.ref s), some (.int m), some (.int (n : Int))] H3 (fun v H => v = .ref p ∧ H p = some (.lst (xs.map V.int))) :=
      (evp_ixL (i := 0) (v := .ref p) (evp_var rfl rfl mono_is) (sq_of hn3) evp_c rfl).imp fun v H4 e4 hv => ⟨hv, e4 _ _ d3.pool⟩
    have hlen : EvP (tCB (rLenQ K) (tCons (tOp (rIxL K) (tVar 0) (tC (.int 0))) tNil)) [some (.ref s), some (.int m), some (.int (n : Int))] H3 (Is (.int (xs.length : Int))) := evp_cb (eap_one hp) fun vs H4 ⟨x, e, hx, hpl⟩ Q q =>
      ⟨p, _, by rw [e, hx], .inl (sq_of hpl), by rw [List.length_map]; exact q _ H4 (Ex.refl _) rfl⟩
    have hat : EvP (tVar 2) [some (.ref s), some (.int m), some (.int (n : Int))] H3 (Is (.int (n : Int))) := evp_var rfl rfl mono_is
    refine evp_if (b := decide ((n : Int) < (xs.length : Int))) (P := BI fun r => 0 ≤ r ∧ r < m) (et_tst (evp_I0 (g := fun i j => .bl (decide (i < j))) hat hlen)) (fun hb => ?_) (fun _ => evp_bc (by omega)) H3 (Ex.refl H3) _ fun v H4 e4 hv => q v H4 (g3.trans (Gs.of e4)) (d3.ex e4) hv
    have hlt : n < xs.length := by have := of_decide_eq_true hb; omega
    have hx : (xs.map V.int)[n]? = some (.int xs[n]) := by rw [List.getElem?_map, List.getElem?_eq_getElem hlt]; rfl
    refine evp_bI (c := fun _ => True) (d := fun x => x = m) (evp_bi (evp_int1 (i := xs[n]) (evp_op hp hat (fun v H H' e h => ⟨h.1, e _ _ h.2⟩) fun x y H4 e4 ⟨h1, h2⟩ hy Q q => ⟨p, _, (n : Int), _, h1, hy, sq_of h2, atI_nat hx, q _ H4 (Ex.refl _) rfl⟩)) trivial) (evp_bv rfl rfl) fun i j _ hj => by subst hj; exact fm (by omega)
def spPool : Sp := fun vs H Q _ => ∃ (c s m : Int), vs = [.int c, .int s, .int m] ∧ (0 ≤ s ∧ s ≤ 100000) ∧ (0 ≤ m ∧ m ≤ 1000) ∧ ∀ (a : Addr) (H2 : Hp), Evl.Ex H H2 → H a = none → (∃ p xs, Dr a p xs H2) → Q (.ref a) H2
theorem rep_flat (m : Nat) : (List.replicate m [V.int 420]).flatten = (List.replicate m (420 : Int)).map V.int := by
  induction m with
  | zero => rfl
  | succ m ih => rw [List.replicate_succ, List.flatten_cons, ih]; rfl
theorem ok_pool {fa f1 : Addr} {fd fd1 : FuncData} (D__law_numbers : Df K mg "_law_numbers" s_law_numbers ["_law_cell", "_law_salt", "_law_sizes"] f1 fd1) (G__law_numbers : FnOk P w K mg base CX0 (k + 1) f1 fd1 ["_law_cell", "_law_salt", "_law_sizes"] spNum) (T : Txt mg tk)
    (D : Df K mg "_law_pool" s_law_pool ["_law_cell", "_law_salt", "_law_many"] fa fd) : FnOk P w K mg base CX0 (k + 2) fa fd ["_law_cell", "_law_salt", "_law_many"] spPool := by
  refine D.F.ok sc_law_pool (fun vs H Q E h => ?_) (fun cdv A outer s H vs Q E hr h => ?_)
  · obtain ⟨c, s, m, rfl, _⟩ := h
    rfl
  · obtain ⟨c, t, m, rfl, ht, ⟨hm0, hm1⟩, q⟩ := h
    have nd := sc_law_pool.nd
    refine ⟨_, (pss_one (ps_ret (pe_lst (pa_cons (pe_call G__law_numbers (hr.mono (by omega)) (by rfl) D__law_numbers.g D__law_numbers.F.kp D__law_numbers.b .nil pass0 (pa_cons (pv 0) (pa_cons (pv 1) (pa_cons (pe_op op_rep (pe_lst (pa_cons pe_int pa_nil)) (pv 2)) pa_nil)))) (pa_cons pe_int pa_nil))))), ?_⟩
    refine ⟨_, rfl, _, rfl, by decide, fun l hl => ⟨_, rfl, l, m, [.int 420], rfl, rfl, upd_same, by omega, by omega, sz_of (by simp; omega), fun b hb => ?_⟩⟩
    rw [rep_flat]
    have e1 : Evl.Ex H (upd H l (.lst [.int 420])) := Ex.new hl
    have e2 : Evl.Ex H (upd (upd H l (.lst [.int 420])) b (.lst ((List.replicate m.toNat (420 : Int)).map V.int))) := e1.trans (Ex.new hb)
    refine ⟨c, t, b, List.replicate m.toNat 420, rfl, upd_same, fun z hz => by rw [(List.mem_replicate.mp hz).2]; decide, by simp; omega, ht, fun p xs H2 e3 hp hxs => ?_⟩
    refine ⟨by show 2 ≤ sizeLine; decide, fun a ha => ?_⟩
    have e4 := e2.trans e3
    refine q a _ (e4.trans (Ex.new ha)) (fresh_back e4 ha) ⟨p, xs, fun z => ?_, ⟨0, upd_same⟩, ?_⟩
    · rw [← z, hxs] at ha; cases ha
    · rw [upd_ne (fun z => by rw [← z, hxs] at ha; cases ha)]; exact hxs
end
end K20
namespace K20
open PySem PySem.Spec PyProof.Rows L2 Evl RZ Ev2 TA5
abbrev s_is_whole : Stmt := topS 10
abbrev N_is_whole : List Str := ["value"]
theorem sc_is_whole : FnScope N_is_whole ["value"] (defScope s_is_whole) := ⟨rfl, rfl, rfl, by decide +kernel, rfl, by decide +kernel, by decide +kernel⟩
abbrev s_is_below : Stmt := topS 12
abbrev N_is_below : List Str := ["size", "value"]
theorem sc_is_below : FnScope N_is_below ["size", "value"] (defScope s_is_below) := ⟨rfl, rfl, rfl, by decide +kernel, rfl, by decide +kernel, by decide +kernel⟩
abbrev s_is_ascending : Stmt := topS 13
abbrev N_is_ascending : List Str := ["size", "value", "low", "high", "entry"]
theorem sc_is_ascending : FnScope N_is_ascending ["size", "value"] (defScope s_is_ascending) := ⟨rfl, rfl, rfl, by decide +kernel, rfl, by decide +kernel, by decide +kernel⟩
abbrev s_is_size : Stmt := topS 14
abbrev N_is_size : List Str := ["value"]
theorem sc_is_size : FnScope N_is_size ["value"] (defScope s_is_size) := ⟨rfl, rfl, rfl, by decide +kernel, rfl, by decide +kernel, by decide +kernel⟩
abbrev s_check_sizes : Stmt := topS 15
abbrev N_check_sizes : List Str := ["left", "right", "size"]
theorem sc_check_sizes : FnScope N_check_sizes ["left", "right"] (defScope s_check_sizes) := ⟨rfl, rfl, rfl, by decide +kernel, rfl, by decide +kernel, by decide +kernel⟩
abbrev s_is_values : Stmt := topS 31
abbrev N_is_values : List Str := ["size", "value"]
theorem sc_is_values : FnScope N_is_values ["size", "value"] (defScope s_is_values) := ⟨rfl, rfl, rfl, by decide +kernel, rfl, by decide +kernel, by decide +kernel⟩
abbrev s_has_where_form : Stmt := topS 32
abbrev N_has_where_form : List Str := ["left", "right", "value"]
theorem sc_has_where_form : FnScope N_has_where_form ["left", "right", "value"] (defScope s_has_where_form) := ⟨rfl, rfl, rfl, by decide +kernel, rfl, by decide +kernel, by decide +kernel⟩
abbrev s_is_where : Stmt := topS 33
abbrev N_is_where : List Str := ["left", "right", "value"]
theorem sc_is_where : FnScope N_is_where ["left", "right", "value"] (defScope s_is_where) := ⟨rfl, rfl, rfl, by decide +kernel, rfl, by decide +kernel, by decide +kernel⟩
abbrev s_covers : Stmt := topS 34
abbrev N_covers : List Str := ["where", "left", "right"]
theorem sc_covers : FnScope N_covers ["where", "left", "right"] (defScope s_covers) := ⟨rfl, rfl, rfl, by decide +kernel, rfl, by decide +kernel, by decide +kernel⟩
abbrev s_cells : Stmt := topS 36
abbrev N_cells : List Str := ["left", "right", "where", "a", "b"]
theorem sc_cells : FnScope N_cells ["left", "right", "where"] (defScope s_cells) := ⟨rfl, rfl, rfl, by decide +kernel, rfl, by decide +kernel, by decide +kernel⟩

/-! ### data: flat things, tuples and lists of them, a tuple of these -/
def fl : V → PyData → Prop
  | .non, d => d = .none
  | .bl b, d => d = .bool b
  | .int i, d => d = .int i
  | .str x, d => d = .str x
  | _, _ => False
inductive It (H : Hp) : V → PyData → Prop
  | flat {v : V} {d : PyData} (h : fl v d) : It H v d
  | tup {a : Addr} {xs : List V} {ds : List PyData} (h : H a = some (.tup xs)) (p : Paired fl xs ds) : It H (.ref a) (.tuple ds)
  | lst {a : Addr} {xs : List V} {ds : List PyData} (h : H a = some (.lst xs)) (p : Paired fl xs ds) : It H (.ref a) (.list ds)
def Va (ds : List PyData) : HP := fun v H => ∃ a xs, v = .ref a ∧ H a = some (.tup xs) ∧ Paired (It H) xs ds
theorem fl_flat {v : V} {d : PyData} (h : fl v d) : flatV v = true := by
  cases v <;> first | rfl | exact h.elim
theorem fls_flat : ∀ {xs : List V} {ds : List PyData}, Paired fl xs ds → xs.all flatV = true
  | _, _, .nil => rfl
  | _, _, .cons h t => by rw [List.all_cons, fl_flat h, fls_flat t]; rfl
/-- tuples and lists of flat things are kept -/
def Kx (H H' : Hp) : Prop := ∀ a o, H a = some o → ((∃ xs, o = .tup xs) ∨ (∃ xs, o = .lst xs ∧ xs.all flatV = true)) → H' a = some o
theorem Kx.of {H H' : Hp} (e : Evl.Ex H H') : Kx H H' := fun a o h _ => e a o h
theorem Kx.gs {s p : Addr} {xs : List Int} {H H' : Hp} (g : Gs s H H') (d : Dr s p xs H) : Kx H H' := fun a o h k => by
  by_cases ha : a = s
  · subst ha
    obtain ⟨n, hn⟩ := d.at_
    rw [hn] at h
    cases h
    rcases k with ⟨xs, e⟩ | ⟨xs, e, f⟩
    · cases e
    · cases e; cases f
  · exact g a o ha h
theorem It.mono {H H' : Hp} (k : Kx H H') {v : V} {d : PyData} (h : It H v d) : It H' v d := by
  cases h with
  | flat h => exact .flat h
  | tup h p => exact .tup (k _ _ h (.inl ⟨_, rfl⟩)) p
  | lst h p => exact .lst (k _ _ h (.inr ⟨_, rfl, fls_flat p⟩)) p
theorem its_mono {H H' : Hp} (k : Kx H H') : ∀ {xs : List V} {ds : List PyData}, Paired (It H) xs ds → Paired (It H') xs ds
  | _, _, .nil => .nil
  | _, _, .cons h t => .cons (h.mono k) (its_mono k t)
theorem Va.kx {H H' : Hp} (k : Kx H H') {ds : List PyData} {v : V} (h : Va ds v H) : Va ds v H' := by
  obtain ⟨a, xs, e, ha, p⟩ := h
  exact ⟨a, xs, e, k _ _ ha (.inl ⟨_, rfl⟩), its_mono k p⟩
theorem mono_va {ds : List PyData} : Mono (Va ds) := fun _ _ _ e h => Va.kx (Kx.of e) h
theorem mono_it {d : PyData} : Mono (fun v H => It H v d) := fun _ _ _ e h => h.mono (Kx.of e)
theorem Paired.len {α β : Type} {R : α → β → Prop} : ∀ {xs : List α} {ys : List β}, Paired R xs ys → xs.length = ys.length
  | _, _, .nil => rfl
  | _, _, .cons _ t => by simp [Paired.len t]
theorem Paired.at {α β : Type} {R : α → β → Prop} : ∀ {xs : List α} {ys : List β} {i : Nat} {x : α}, Paired R xs ys → xs[i]? = some x → ∃ y, ys[i]? = some y ∧ R x y
  | _, _, i, x, .nil, h => by simp at h
  | _, _, 0, x, .cons h t, e => by simp at e; subst e; exact ⟨_, rfl, h⟩
  | _, _, i + 1, x, .cons h t, e => by obtain ⟨y, h1, h2⟩ := Paired.at t (i := i) (by simpa using e); exact ⟨y, by simpa using h1, h2⟩
/-! ### the mirrors -/
def isI : PyData → Bool
  | .int _ => true
  | _ => false
def isB (n : Int) : PyData → Bool
  | .int i => decide (0 ≤ i) && decide (i < n)
  | _ => false
def isSz : PyData → Bool
  | .int i => decide (1 ≤ i) && decide (i ≤ 8)
  | _ => false
def dI : PyData → Int
  | .int i => i
  | _ => 0
def ascI : List Int → Bool
  | a :: b :: r => decide (a < b) && ascI (b :: r)
  | _ => true
def isVs (n : Int) : PyData → Bool
  | .tuple ds => !ds.isEmpty && (ds.all (isB n) && ascI (ds.map dI))
  | _ => false
def form (l r : Int) : List PyData → Bool
  | .str w :: rest =>
    if w = "all" then decide (rest.length + 1 = 1)
    else if w = "left" then decide (rest.length + 1 = 2) && isVs l (rest.getD 0 .none)
    else if w = "right" then decide (rest.length + 1 = 2) && isVs r (rest.getD 0 .none)
    else decide (w = "cell") && (decide (rest.length + 1 = 3) && (isB l (rest.getD 0 .none) && isB r (rest.getD 1 .none)))
  | _ => false
theorem ascI_range : ∀ ns : List Int, (List.range (ns.length - 1)).all (fun i => decide (ns.getD i 0 < ns.getD (i + 1) 0)) = ascI ns
  | [] => rfl
  | [_] => rfl
  | a :: b :: r => by
    have ih := ascI_range (b :: r)
    have e : (a :: b :: r).length - 1 = ((b :: r).length - 1) + 1 := by simp
    rw [e, List.range_succ_eq_map, List.all_cons, List.all_map]
    show (decide (a < b) && (List.range ((b :: r).length - 1)).all (fun i => decide ((b :: r).getD i 0 < (b :: r).getD (i + 1) 0))) = ascI (a :: b :: r)
    rw [ih]
    rfl
theorem all_range {α : Type} (f : α → Bool) (d : α) : ∀ ds : List α, (List.range ds.length).all (fun i => f (ds.getD i d)) = ds.all f
  | [] => rfl
  | x :: ds => by
    rw [List.length_cons, List.range_succ_eq_map, List.all_cons, List.all_map, List.all_cons]
    have ih := all_range f d ds
    rw [← ih]
    rfl
section
variable {K : PySem.W.Frag} {σ : L2.St} {H : Hp} {ta tb te : TE} {P : HP}
theorem evp_allB {n : Nat} {b : Nat → Bool} (h : EvP te σ H (LstP n (fun i => Is (.bl (b i))))) : EvP (tCB (rAll K) (tCons te tNil)) σ H (Is (.bl ((List.range n).all b))) := fun H1 e Q q => h H1 e _ fun v H2 e2 p => by
  obtain ⟨l, rfl, hl⟩ := lst_is p
  refine ⟨l, (List.range n).map b, rfl, ?_, ?_⟩
  · rw [List.map_map]; exact sq_of hl
  · rw [List.all_map]
    exact q _ H2 e2 rfl
/-- zip of a tuple and a shorter one -/
theorem wi_zipL {tl tr : TE} {n m : Nat} {Pi Ri : Nat → HP} (h : EvP tl σ H (TupP m Pi)) (h2 : EvP tr σ H (TupP n Ri)) (hnm : n ≤ m) (m1 : ∀ i, MonoF (Pi i)) (m2 : ∀ i, MonoF (Ri i)) :
    WiP (iZipA K (tCons tl (tCons tr tNil))) σ H n (fun i x H => ∃ T u v, x = .ref T ∧ H T = some (.tup [u, v]) ∧ Pi i u H ∧ Ri i v H) := fun H1 e R k =>
  h H1 e _ fun v H2 e2 ⟨p, ys, hv, hp, hl, hi⟩ => h2 H2 (e.trans e2) _ fun v' H3 e3 ⟨q, zs, hv', hq, hl', hi'⟩ => by
    subst hv
    subst hv'
    refine ⟨p, q, ys, zs, rfl, .inr ⟨st_of (e3 _ _ hp), st_of hq, ?_⟩⟩
    refine k _ H3 (fun H => H p = some (.tup ys) ∧ H q = some (.tup zs) ∧ (∀ i y, ys[i]? = some y → Pi i y H) ∧ ∀ i y, zs[i]? = some y → Ri i y H) (e2.trans e3) ?_ ⟨e3 _ _ hp, hq, fun i y hy => (m1 i).mono _ _ _ e3 (hi i y hy), hi'⟩
    refine ⟨fun H H' e ⟨a, b, c, d⟩ => ⟨e _ _ a (fun _ z => nomatch z), e _ _ b (fun _ z => nomatch z), fun i y hy => m1 i _ _ _ e (c i y hy), fun i y hy => m2 i _ _ _ e (d i y hy)⟩, fun i H hlt ⟨a, b, _, _⟩ => ?_, fun H ⟨a, b, _, _⟩ => ?_, fun i H x H' hlt ⟨a, b, c, d⟩ y => ?_⟩
    · exact ⟨ys, zs, _, _, st_of a, st_of b, List.getElem?_eq_getElem (by omega), List.getElem?_eq_getElem (by omega)⟩
    · exact ⟨ys, zs, st_of a, st_of b, .inr (by omega)⟩
    · obtain ⟨T, u, w, rfl, hT, rfl, f1, f2⟩ := y
      have ex := Ex.new (o := .tup [u, w]) hT
      exact ⟨ex, T, u, w, rfl, upd_same, (m1 i).mono _ _ _ ex (c i u (f1 ys (st_of a))), (m2 i).mono _ _ _ ex (d i w (f2 zs (st_of b)))⟩
theorem g_pair' {x : V} {T : Addr} {u w : V} {σ0 : L2.St} {i j : Nat} {S : L2.St → Hp → Prop} (hx : x = .ref T) (h : H T = some (.tup [u, w])) (hS : S ((σ0.set i (some u)).set j (some w)) H) : GP (gTup K 2 (gCons (gName i) (gCons (gName j) gNil))) x σ0 H S := fun Q q =>
  ⟨T, [u, w], hx, st_of h, rfl, u, [w], rfl, w, [], rfl, rfl, q _ hS⟩
/-- types -/
def tyD : PyData → String
  | .none => "NoneType" | .bool _ => "bool" | .int _ => "int" | .str _ => "str" | .tuple _ => "tuple" | .list _ => "list" | _ => "dict"
theorem ty_it {v : V} {d : PyData} (h : It H v d) : TyX K H v (.type (tyD d)) := by
  cases h with
  | flat h => cases v <;> first | exact h.elim | (cases h; exact .base (by constructor))
  | tup h p => exact .base (.tup h)
  | lst h p => exact .base (.lst h)
theorem evp_isiD {T : String} {d : PyData} {b : Bool} (h : EvP te σ H (fun v H => It H v d)) (e : kitB (tyD d) T = some b) : EvP (tCB (rIsi K) (tCons te (tCons (tC (.ty T)) tNil))) σ H (Is (.bl b)) :=
  evp_isi h (fun x H1 p => ty_it p) (.ty T) (kit_ty e)
end
theorem kit_int (d : PyData) : kitB (tyD d) "int" = some (match d with | .bool _ => true | .int _ => true | _ => false) := by
  cases d with
  | none => exact (show kitB "NoneType" "int" = some false by decide +kernel)
  | bool _ => exact (show kitB "bool" "int" = some true by decide +kernel)
  | int _ => exact (show kitB "int" "int" = some true by decide +kernel)
  | str _ => exact (show kitB "str" "int" = some false by decide +kernel)
  | list _ => exact (show kitB "list" "int" = some false by decide +kernel)
  | tuple _ => exact (show kitB "tuple" "int" = some false by decide +kernel)
  | dict _ => exact (show kitB "dict" "int" = some false by decide +kernel)
theorem kit_bool (d : PyData) : kitB (tyD d) "bool" = some (match d with | .bool _ => true | _ => false) := by
  cases d with
  | none => exact (show kitB "NoneType" "bool" = some false by decide +kernel)
  | bool _ => exact (show kitB "bool" "bool" = some true by decide +kernel)
  | int _ => exact (show kitB "int" "bool" = some false by decide +kernel)
  | str _ => exact (show kitB "str" "bool" = some false by decide +kernel)
  | list _ => exact (show kitB "list" "bool" = some false by decide +kernel)
  | tuple _ => exact (show kitB "tuple" "bool" = some false by decide +kernel)
  | dict _ => exact (show kitB "dict" "bool" = some false by decide +kernel)
theorem kit_str (d : PyData) : kitB (tyD d) "str" = some (match d with | .str _ => true | _ => false) := by
  cases d with
  | none => exact (show kitB "NoneType" "str" = some false by decide +kernel)
  | bool _ => exact (show kitB "bool" "str" = some false by decide +kernel)
  | int _ => exact (show kitB "int" "str" = some false by decide +kernel)
  | str _ => exact (show kitB "str" "str" = some true by decide +kernel)
  | list _ => exact (show kitB "list" "str" = some false by decide +kernel)
  | tuple _ => exact (show kitB "tuple" "str" = some false by decide +kernel)
  | dict _ => exact (show kitB "dict" "str" = some false by decide +kernel)
theorem kit_tup (d : PyData) : kitB (tyD d) "tuple" = some (match d with | .tuple _ => true | _ => false) := by
  cases d with
  | none => exact (show kitB "NoneType" "tuple" = some false by decide +kernel)
  | bool _ => exact (show kitB "bool" "tuple" = some false by decide +kernel)
  | int _ => exact (show kitB "int" "tuple" = some false by decide +kernel)
  | str _ => exact (show kitB "str" "tuple" = some false by decide +kernel)
  | list _ => exact (show kitB "list" "tuple" = some false by decide +kernel)
  | tuple _ => exact (show kitB "tuple" "tuple" = some true by decide +kernel)
  | dict _ => exact (show kitB "dict" "tuple" = some false by decide +kernel)
section
variable {P : Program} {w : World} {K : PySem.W.Frag} {mg : Str → Option Value} {base : Heap} {tk : Tok} {k : Nat}
def spWhole : Sp := fun vs H Q _ => ∃ (x : V) (d : PyData), vs = [x] ∧ It H x d ∧ ∀ v H2, Evl.Ex H H2 → v = .bl (isI d) → Q v H2
theorem ok_whole {f : Addr} {fd : FuncData} (T : Txt mg tk) (D : Df K mg "is_whole" s_is_whole ["value"] f fd) : FnOk P w K mg base CX0 (k + 1) f fd ["value"] spWhole := by
  refine D.F.ok sc_is_whole (fun vs H Q E h => ?_) (fun cdv A outer s H vs Q E hr h => ?_)
  · obtain ⟨x, d, rfl, _⟩ := h
    rfl
  · obtain ⟨x, d, rfl, hx, q⟩ := h
    refine ⟨_, (pss_one (ps_ret (pe_and (pe_callB (r := rIsi K) call_isi (by rfl) T.n_isinstance PyProof.Rows.boot_isinstance (pa_cons (pv 0) (pa_cons (pe_bltn (v := .ty "int") (by rfl) T.n_int PyProof.Rows.boot_int rfl) pa_nil))) (pe_one (pe_not (pe_callB (r := rIsi K) call_isi (by rfl) T.n_isinstance PyProof.Rows.boot_isinstance (pa_cons (pv 0) (pa_cons (pe_bltn (v := .ty "bool") (by rfl) T.n_bool PyProof.Rows.boot_bool rfl) pa_nil)))))))), ?_⟩
    have h0 : EvP (tVar 0) (start N_is_whole [x]) H (fun v H => It H v d) := evp_var rfl hx mono_it
    refine evp_is (evp_and (evp_isiD (K := K) h0 (kit_int d)) fun _ => evp_not (evp_isiD (K := K) h0 (kit_bool d))) ?_ H (Ex.refl H) _ q
    cases d <;> rfl
def spBelow : Sp := fun vs H Q _ => ∃ (n : Int) (x : V) (d : PyData), vs = [.int n, x] ∧ It H x d ∧ ∀ v H2, Evl.Ex H H2 → v = .bl (isB n d) → Q v H2
def spSize : Sp := fun vs H Q _ => ∃ (x : V) (d : PyData), vs = [x] ∧ It H x d ∧ ∀ v H2, Evl.Ex H H2 → v = .bl (isSz d) → Q v H2
theorem it_int {H : Hp} {x : V} {d : PyData} (h : It H x d) (hi : isI d = true) : ∃ i, x = .int i ∧ d = .int i := by
  cases h with
  | flat h => cases x <;> first | exact h.elim | (cases h; first | exact ⟨_, rfl, rfl⟩ | cases hi)
  | tup h p => cases hi
  | lst h p => cases hi
theorem ok_below {f f1 : Addr} {fd fd1 : FuncData} (D_is_whole : Df K mg "is_whole" s_is_whole ["value"] f1 fd1) (G_is_whole : FnOk P w K mg base CX0 (k + 1) f1 fd1 ["value"] spWhole) (T : Txt mg tk) (D : Df K mg "is_below" s_is_below ["size", "value"] f fd) :
    FnOk P w K mg base CX0 (k + 2) f fd ["size", "value"] spBelow := by
  refine D.F.ok sc_is_below (fun vs H Q E h => ?_) (fun cdv A outer s H vs Q E hr h => ?_)
  · obtain ⟨n, x, d, rfl, _⟩ := h
    rfl
  · obtain ⟨n, x, d, rfl, hx, q⟩ := h
    refine ⟨_, (pss_one (ps_ret (pe_and (pe_call G_is_whole (hr.mono (by omega)) (by rfl) D_is_whole.g D_is_whole.F.kp D_is_whole.b .nil pass0 (pa_cons (pv 1) pa_nil)) (pe_one (pe_chain op_le op_lt pe_int (pv 1) (pv 0)))))), ?_⟩
    have h1 : EvP (tVar 1) (start N_is_below [.int n, x]) H (fun v H => It H v d) := evp_var rfl hx mono_it
    refine evp_is (evp_and (a := isI d) (b := isB n d) (evp_call (sp := spWhole) (S := Is (.bl (isI d))) (eap_one h1) fun vs H1 ⟨y, e, hy⟩ Q q E => ⟨y, d, e, hy, q⟩) fun hi => ?_) ?_ H (Ex.refl H) _ q
    · obtain ⟨i, rfl, rfl⟩ := it_int hx hi
      exact evp_chain (g := fun i j => .bl (decide (i ≤ j))) (g' := fun i j => .bl (decide (i < j))) (evp_c (v := .int 0)) (evp_var (v := .int i) rfl rfl mono_is) (evp_var (v := .int n) rfl rfl mono_is) rfl rfl
    · cases d <;> rfl
theorem ok_size {f f1 : Addr} {fd fd1 : FuncData} (D_is_whole : Df K mg "is_whole" s_is_whole ["value"] f1 fd1) (G_is_whole : FnOk P w K mg base CX0 (k + 1) f1 fd1 ["value"] spWhole) (T : Txt mg tk) (D : Df K mg "is_size" s_is_size ["value"] f fd) :
    FnOk P w K mg base CX0 (k + 2) f fd ["value"] spSize := by
  refine D.F.ok sc_is_size (fun vs H Q E h => ?_) (fun cdv A outer s H vs Q E hr h => ?_)
  · obtain ⟨x, d, rfl, _⟩ := h
    rfl
  · obtain ⟨x, d, rfl, hx, q⟩ := h
    refine ⟨_, (pss_one (ps_ret (pe_and (pe_call G_is_whole (hr.mono (by omega)) (by rfl) D_is_whole.g D_is_whole.F.kp D_is_whole.b .nil pass0 (pa_cons (pv 0) pa_nil)) (pe_one (pe_chain op_le op_le pe_int (pv 0) (pe_glob (v := .int 8) rfl T.c_MOST_VALUES ⟨_, rfl⟩)))))), ?_⟩
    have h1 : EvP (tVar 0) (start N_is_size [x]) H (fun v H => It H v d) := evp_var rfl hx mono_it
    refine evp_is (evp_and (a := isI d) (b := isSz d) (evp_call (sp := spWhole) (S := Is (.bl (isI d))) (eap_one h1) fun vs H1 ⟨y, e, hy⟩ Q q E => ⟨y, d, e, hy, q⟩) fun hi => ?_) ?_ H (Ex.refl H) _ q
    · obtain ⟨i, rfl, rfl⟩ := it_int hx hi
      exact evp_chain (g := fun i j => .bl (decide (i ≤ j))) (g' := fun i j => .bl (decide (i ≤ j))) (evp_c (v := .int 1)) (evp_var (v := .int i) rfl rfl mono_is) (evp_c (v := .int 8)) rfl rfl
    · cases d <;> rfl
end
end K20
namespace K20
open PySem PySem.Spec PyProof.Rows L2 Evl RZ Ev2 TA5

def Rz (fn : Str) (C : Addr) (x : V) (H : Hp) (E : XK) : Prop := ∀ (d : Addr) (H2 : Hp), Evl.Ex H H2 → H2 d = some (.xd [(fn, x)]) → E (.ref C) (some d) H2
abbrev EVT (K : PySem.W.Frag) (mg : Str → Option Value) (C f : Addr) : Prop := PySem.ErrV.ErrTxt K mg "InvalidNumber" "InvalidNumber.__init__" C f
abbrev EPT (K : PySem.W.Frag) (mg : Str → Option Value) (C f : Addr) : Prop := PySem.ErrP.ErrTxt K mg "InvalidFact" "InvalidFact.__init__" C f
section
variable {P : Program} {w : World} {K : PySem.W.Frag} {mg : Str → Option Value} {base : Heap} {tk : Tok} {k : Nat} {CV iV CP iP : Addr}
def spCheckSizes (C : Addr) : Sp := fun vs H Q E => ∃ (x y : V) (dx dy : PyData), vs = [x, y] ∧ It H x dx ∧ It H y dy ∧ (isSz dx = false → Rz "value" C x H E) ∧ (isSz dx = true → isSz dy = false → Rz "value" C y H E) ∧ (isSz dx = true → isSz dy = true → ∀ H2, Evl.Ex H H2 → Q .non H2)
theorem ok_check_sizes {f f1 : Addr} {fd fd1 : FuncData} (EV : EVT K mg CV iV) (D_is_size : Df K mg "is_size" s_is_size ["value"] f1 fd1) (G_is_size : FnOk P w K mg base CX0 (k + 2) f1 fd1 ["value"] spSize) (T : Txt mg tk) (D : Df K mg "check_sizes" s_check_sizes ["left", "right"] f fd) :
    FnOk P w K mg base (L2.CX P w) (k + 5) f fd ["left", "right"] (spCheckSizes CV) := by
  refine D.F.okX sc_check_sizes (fun vs H Q E h => ?_) (fun cdv A outer s H vs Q E hr h => ?_)
  · obtain ⟨x, y, dx, dy, rfl, _⟩ := h
    rfl
  · obtain ⟨x, y, dx, dy, rfl, hx, hy, k1, k2, k3⟩ := h
    have nd := sc_check_sizes.nd
    refine ⟨_, (pss_one (ps_for (passes_of rfl) rfl (pi_tup (pe_tup (pa_cons (pv 0) (pa_cons (pv 1) pa_nil)))) (pg_name (i := 2) nd rfl (Or.inl rfl)) (pss_one (ps_if (pt_not (pt_val (pe_call G_is_size (hr.mono (by omega)) (by rfl) D_is_size.g D_is_size.F.kp D_is_size.b .nil pass0 (pa_cons (pv 2) pa_nil)))) (pss_one (ErrVL.ps_raiseErr rfl EV hr (takes_of rfl rfl rfl rfl) (pa_cons (pv 2) pa_nil))) pss_nil)))), ?_⟩
    refine ⟨_, rfl, _, rfl, by show 2 ≤ sizeLine; decide, fun p hp => ⟨p, rfl, ⟨[x, y], st_of upd_same⟩, ?_⟩⟩
    have e0 : Evl.Ex H (upd H p (.tup [x, y])) := Ex.new hp
    refine for_tup (xs := [x, y]) (fun i σ' H' => ∃ s2, σ' = [some x, some y, s2] ∧ Evl.Ex H H' ∧ H' p = some (.tup [x, y]) ∧ (1 ≤ i → isSz dx = true) ∧ (2 ≤ i → isSz dy = true)) ⟨none, rfl, e0, upd_same, fun z => absurd z (by decide), fun z => absurd z (by decide)⟩ (fun i σ' H' _ ⟨_, _, _, h, _⟩ => st_of h) (fun i z σ' H' hz ⟨s2, hs, ex, hpt, h1, h2⟩ => ?_) (fun σ' H' ⟨s2, hs, ex, hpt, h1, h2⟩ => k3 (h1 (Nat.le_succ 1)) (h2 (Nat.le_refl 2)) H' ex)
    subst hs
    have turn : ∀ (dz : PyData), It H z dz → (isSz dz = false → Rz "value" CV z H E) → (isSz dz = true → (1 ≤ i + 1 → isSz dx = true) ∧ (2 ≤ i + 1 → isSz dy = true)) → _ := fun dz hz2 hbad hgood =>
      s_when (D := { nx := fun σ' H' => ∃ s2, σ' = [some x, some y, s2] ∧ Evl.Ex H H' ∧ H' p = some (.tup [x, y]) ∧ (1 ≤ i + 1 → isSz dx = true) ∧ (2 ≤ i + 1 → isSz dy = true), rt := Q, bk := fun _ H' => Q .non H', ct := fun σ' H' => ∃ s2, σ' = [some x, some y, s2] ∧ Evl.Ex H H' ∧ H' p = some (.tup [x, y]) ∧ (1 ≤ i + 1 → isSz dx = true) ∧ (2 ≤ i + 1 → isSz dy = true) }) (tu := ErrVL.tRaiseErr CV (fun cls d _ H => E cls d H) (tCons (tVar 2) tNil)) (σ := [some x, some y, some z]) (H := H') (b := !isSz dz)
        (et_not (et_bl (evp_call (sp := spSize) (E := E0) (S := Is (.bl (isSz dz))) (eap_one (evp_var (σ := [some x, some y, some z]) (i := 2) rfl (hz2.mono (Kx.of ex)) mono_it)) fun vs H1 ⟨y, e, hy⟩ Q q E => ⟨y, dz, e, hy, q⟩)))
        (fun hb H1 e1 => ⟨_, rfl, z, rfl, fun d hd => hbad (by simpa using hb) d _ ((ex.trans e1).trans (Ex.new hd)) upd_same⟩) (fun hb H1 e1 => ⟨some z, rfl, ex.trans e1, e1 _ _ hpt, hgood (by simpa using hb)⟩)
    match i, hz with
    | 0, hz => cases hz; exact turn dx hx k1 fun g => ⟨fun _ => g, fun z => absurd z (by decide)⟩
    | 1, hz => cases hz; exact turn dy hy (k2 (h1 (by decide))) fun g => ⟨fun _ => h1 (by decide), fun _ => g⟩
    | i + 2, hz => simp at hz
end
end K20
namespace K20
open PySem PySem.Spec PyProof.Rows L2 Evl RZ Ev2 TA5

section
variable {K : PySem.W.Frag} {σ : L2.St} {H : Hp} {ta tb te : TE} {P : HP}
theorem cutV_from {xs : List V} {k : Nat} : cutV xs (some (k : Int)) none = xs.drop k := by
  unfold cutV
  rw [HT.sIx_nat, HT.sIx_none]
  by_cases h : k ≤ xs.length
  · rw [Nat.min_eq_left h, List.take_of_length_le (by simp)]
  · rw [Nat.min_eq_right (by omega), List.drop_length, List.drop_of_length_le (by omega)]; simp
theorem cutV_to {xs : List V} {k : Nat} : cutV xs none (some (k : Int)) = xs.take k := by
  unfold cutV
  rw [HT.sIx_nat, HT.sIx_none, List.drop_zero, Nat.sub_zero]
  by_cases h : k ≤ xs.length
  · rw [Nat.min_eq_left h]
  · rw [Nat.min_eq_right (by omega), List.take_length, List.take_of_length_le (by omega)]
theorem evp_slA {tl th : TO} {a : Addr} {xs : List V} {lo hi : Option Int} (h : Ev te σ H (.ref a)) (h1 : EvO tl σ H lo) (h2 : EvO th σ H hi) (hs : H a = some (.tup xs)) :
    EvP (tSl (rSlA K) te tl th) σ H (fun v H1 => ∃ p, v = .ref p ∧ H1 p = some (.tup (cutV xs lo hi))) := fun H1 e Q q =>
  h H1 e _ fun H2 e2 => h1 H2 (e.trans e2) _ fun H3 e3 => h2 H3 ((e.trans e2).trans e3) _ fun H4 e4 => by
    have ex := ((e.trans e2).trans e3).trans e4
    refine ⟨a, xs, rfl, st_of (ex _ _ hs), fun ⟨w1, w2⟩ => ?_, fun _ p hp => q _ _ (((e2.trans e3).trans e4).trans (Ex.new hp)) ⟨p, rfl, upd_same⟩⟩
    refine q _ H4 ((e2.trans e3).trans e4) ⟨a, rfl, ?_⟩
    rw [ex _ _ hs]
    unfold cutV
    rw [w1, w2, List.drop_zero, Nat.sub_zero, List.take_length]
theorem fl_it {H : Hp} {v : V} {d : PyData} (h : fl v d) : It H v d := .flat h
theorem getD_some {ds : List PyData} {i : Nat} {d : PyData} (h : ds[i]? = some d) : ds.getD i .none = d := by rw [List.getD_eq_getElem?_getD, h]; rfl
theorem tup_fl {xs : List V} {ds : List PyData} {a : Addr} (p : Paired fl xs ds) (h : H a = some (.tup xs)) : TupP ds.length (fun i v _ => fl v (ds.getD i .none)) (.ref a) H :=
  ⟨a, xs, rfl, h, Paired.len p, fun i y hy => by
    obtain ⟨d, h1, h2⟩ := Paired.at p hy
    rw [getD_some h1]; exact h2⟩
theorem mf_fl {d : PyData} : MonoF (fun v _ => fl v d) := fun _ _ _ _ h => h
def isTup : PyData → Bool
  | .tuple _ => true
  | _ => false
def isStr : PyData → Bool
  | .str _ => true
  | _ => false
theorem kit_tup' (d : PyData) : kitB (tyD d) "tuple" = some (isTup d) := by rw [kit_tup]; cases d <;> rfl
theorem kit_str' (d : PyData) : kitB (tyD d) "str" = some (isStr d) := by rw [kit_str]; cases d <;> rfl
def SmallD : PyData → Bool
  | .tuple ds => decide (ds.length ≤ 50)
  | _ => true
theorem fl_int {v : V} {i : Int} (h : fl v (.int i)) : v = .int i := by
  cases v <;> first | exact h.elim | (cases h; try rfl)
theorem isB_int {n : Int} {d : PyData} (h : isB n d = true) : ∃ i, d = .int i ∧ 0 ≤ i ∧ i < n := by
  cases d <;> first | (cases h; done) | (refine ⟨_, rfl, ?_⟩; simpa [isB] using h)
end
section
variable {P : Program} {w : World} {K : PySem.W.Frag} {mg : Str → Option Value} {base : Heap} {tk : Tok} {k : Nat}
theorem sp_below_it {n : Int} {d : PyData} {H : Hp} : SpP spBelow (fun vs H1 => ∃ x y, vs = [x, y] ∧ Is (.int n) x H1 ∧ It H1 y d) (Is (.bl (isB n d))) := fun vs H1 ⟨x, y, e, hx, hy⟩ Q q E => ⟨n, y, d, by rw [e, show x = .int n from hx], hy, fun v H2 e2 p => q v H2 e2 p⟩
def isAsc (n : Int) : PyData → Bool
  | .tuple ds => ds.all (isB n) && ascI (ds.map dI)
  | _ => false
def spAsc : Sp := fun vs H Q _ => ∃ (n : Int) (x : V) (d : PyData), vs = [.int n, x] ∧ It H x d ∧ SmallD d = true ∧ ∀ v H2, Evl.Ex H H2 → v = .bl (isAsc n d) → Q v H2
theorem ok_asc {f f1 : Addr} {fd fd1 : FuncData} (D_is_below : Df K mg "is_below" s_is_below ["size", "value"] f1 fd1) (G_is_below : FnOk P w K mg base CX0 (k + 2) f1 fd1 ["size", "value"] spBelow) (T : Txt mg tk) (D : Df K mg "is_ascending" s_is_ascending ["size", "value"] f fd) :
    FnOk P w K mg base CX0 (k + 3) f fd ["size", "value"] spAsc := by
  refine D.F.ok sc_is_ascending (fun vs H Q E h => ?_) (fun cdv A outer s H vs Q E hr h => ?_)
  · obtain ⟨n, x, d, rfl, _⟩ := h
    rfl
  · obtain ⟨n, x, d, rfl, hx, hsm, q⟩ := h
    have nd := sc_is_ascending.nd
    refine ⟨_, (pss_cons (ps_if (PW.pt (pw_or (pt_not (pt_val (pe_callB (r := rIsi K) call_isi (by rfl) T.n_isinstance PyProof.Rows.boot_isinstance (pa_cons (pv 1) (pa_cons (pe_bltn (v := .ty "tuple") (by rfl) T.n_tuple PyProof.Rows.boot_tuple rfl) pa_nil))))) (pw_or1 (pt_not (pt_val (pe_callB (r := rAll K) (cr_all rfl) (by rfl) T.n_all PyProof.Rows.boot_all (pa_cons (pe_lc (wi := iTup K _) (g := gName 4) (own := [("entry", 4)]) (by rfl) nd (pi_tup (pv 1)) (blkOk_by (by kernel_rfl)) (fun _ _ _ _ _ => (pg_name (i := 4) nd rfl (Or.inl rfl))) (fun _ _ _ _ _ => pts_nil) (fun _ _ _ _ _ => (pe_call G_is_below (hr.mono (by omega)) (by rfl) D_is_below.g D_is_below.F.kp D_is_below.b .nil pass0 (pa_cons (pv 0) (pa_cons (pv 4) pa_nil))))) pa_nil))))))) (pss_one (ps_ret pe_bl)) pss_nil) (pss_one (ps_ret (pe_callB (r := rAll K) (cr_all rfl) (by rfl) T.n_all PyProof.Rows.boot_all (pa_cons (pe_lc (wi := iZipA K _) (g := gTup K 2 (gCons (gName 2) (gCons (gName 3) gNil))) (own := [("low", 2), ("high", 3)]) (by rfl) nd (pi_zipA (by rfl) T.n_zip (pa_cons (pv 1) (pa_cons (pe_slice (r := rSlA K) sl_tupA (pv 1) (po_some pe_int) po_none) pa_nil))) (blkOk_by (by kernel_rfl)) (fun _ _ _ _ _ => (pg_tup rfl (pgs_cons (pg_name (i := 2) nd rfl (Or.inl rfl)) (pgs_cons (pg_name (i := 3) nd rfl (Or.inl rfl)) pgs_nil)))) (fun _ _ _ _ _ => pts_nil) (fun _ _ _ _ _ => (pe_cmpR op_lt (pv 2) (pv 3) (nomark _)))) pa_nil))))), ?_⟩
    have h1 : EvP (tVar 1) (start N_is_ascending [.int n, x]) H (fun v H => It H v d) := evp_var rfl hx mono_it
    have h0 : ∀ {σ' : L2.St} {H' : Hp}, σ'[0]? = some (some (.int n)) → EvP (tVar 0) σ' H' (Is (.int n)) := fun h => evp_var h rfl mono_is
    have hno : isTup d = false → isAsc n d = false := fun e => by cases d <;> first | rfl | (cases e; done)
    by_cases ht : isTup d = true
    · obtain ⟨ds, rfl⟩ : ∃ ds, d = .tuple ds := by cases d <;> first | exact ⟨_, rfl⟩ | (cases ht; done)
      have hl : ds.length ≤ 50 := by simpa [SmallD] using hsm
      cases hx with
      | flat hx => cases x <;> first | exact hx.elim | (cases hx; done)
      | @tup a xs _ ha p =>
        have hT : ∀ {H' : Hp}, Evl.Ex H H' → EvP (tVar 1) (start N_is_ascending [.int n, .ref a]) H' (TupP ds.length (fun i v _ => fl v (ds.getD i .none))) := fun ex => evp_var rfl (tup_fl p (ex _ _ ha)) (mf_tup fun _ => mf_fl).mono
        have hall : EvP _ (start N_is_ascending [.int n, .ref a]) H (Is (.bl ((List.range ds.length).all fun i => isB n (ds.getD i .none)))) := evp_allB (K := K) (evp_lc (vs := [4]) (g := gName 4) (wi_tup (K := K) (hT (Ex.refl H)) fun _ => mf_fl) (by omega)
            (Sg := fun i σ2 _ => ∃ y, σ2 = [some (.int n), some (.ref a), none, none, some y] ∧ fl y (ds.getD i .none)) (fun i y H2 hi e2 hy => g_name (i := 4) ⟨rfl, y, rfl, hy⟩) (fun i σ2 H2 hi e2 ⟨y, hs, hy⟩ => by
              subst hs
              exact evp_call (E := E0) (eap_two (h0 rfl) (evp_var (v := y) (i := 4) rfl (fl_it hy) mono_it) mono_is) (sp_below_it (H := H2))) fun _ => mf_is)
        rw [all_range (isB n)] at hall
        refine s_when (b := !true || !ds.all (isB n)) (et_or (et_not (et_tst (evp_isiD (K := K) h1 (kit_tup' (.tuple ds))))) fun _ => et_not (et_tst hall)) (fun hb H1 e1 => ?_) (fun hb H1 e1 => ?_)
        · refine s_ret ev_c fun H2 e2 => q _ H2 (e1.trans e2) ?_
          have : ds.all (isB n) = false := by simpa using hb
          simp [isAsc, this]
        · have hgood : ds.all (isB n) = true := by simpa using hb
          have hat : ∀ i, i < ds.length → ds.getD i .none = .int ((ds.map dI).getD i 0) := fun i hi => by
            have hm : ds.getD i .none ∈ ds := by rw [List.getD_eq_getElem?_getD, List.getElem?_eq_getElem hi]; exact List.getElem_mem hi
            obtain ⟨j, hj, _⟩ := isB_int (List.all_eq_true.mp hgood _ hm)
            have e4 : (ds.map dI).getD i 0 = dI (ds.getD i .none) := by
              rw [List.getD_eq_getElem?_getD, List.getElem?_map, List.getElem?_eq_getElem hi, List.getD_eq_getElem?_getD, List.getElem?_eq_getElem hi]; rfl
            rw [e4, hj]; rfl
          have hlen := Paired.len p
          have hsl : EvP _ (start N_is_ascending [.int n, .ref a]) H1 (TupP (ds.length - 1) (fun i v _ => fl v (ds.getD (i + 1) .none))) := (evp_slA (K := K) (lo := some ((1 : Nat) : Int)) (hi := none) (evp_var (P := Is (.ref a)) (i := 1) rfl rfl mono_is).ev (eo_some evp_c.ev) eo_none (e1 _ _ ha)).imp fun v H3 e3 ⟨p', hv, hp'⟩ => by
            subst hv
            rw [cutV_from] at hp'
            refine ⟨p', _, rfl, hp', by rw [List.length_drop, hlen], fun i y hy => ?_⟩
            rw [List.getElem?_drop, Nat.add_comm] at hy
            obtain ⟨d, g1, g2⟩ := Paired.at p hy
            rw [getD_some g1]; exact g2
          have hz : EvP _ (start N_is_ascending [.int n, .ref a]) H1 (Is (.bl ((List.range (ds.length - 1)).all fun i => decide ((ds.map dI).getD i 0 < (ds.map dI).getD (i + 1) 0)))) := evp_allB (K := K) (evp_lc (vs := [2, 3]) (g := gTup K 2 (gCons (gName 2) (gCons (gName 3) gNil))) (wi_zipL (K := K) (hT e1) hsl (by omega) (fun _ => mf_fl) fun _ => mf_fl) (by omega)
            (Sg := fun i σ2 _ => ∃ y z, σ2 = [some (.int n), some (.ref a), some y, some z, none] ∧ fl y (ds.getD i .none) ∧ fl z (ds.getD (i + 1) .none)) (fun i t H3 hi e3 ⟨T', u, v, ht, hT', hu, hv⟩ => g_pair' (i := 2) (j := 3) ht hT' ⟨rfl, u, v, rfl, hu, hv⟩) (fun i σ2 H3 hi e3 ⟨y, z, hs, hy, hz⟩ => by
              subst hs
              rw [hat i (by omega)] at hy
              rw [hat (i + 1) (by omega)] at hz
              rw [fl_int hy, fl_int hz]
              exact evp_I0 (g := fun i j => .bl (decide (i < j))) (evp_var (i := 2) rfl rfl mono_is) (evp_var (i := 3) rfl rfl mono_is)) fun _ => mf_is)
          have e5 := ascI_range (ds.map dI)
          rw [List.length_map] at e5
          rw [e5] at hz
          refine s_ret hz.ev fun H3 e3 => q _ H3 (e1.trans e3) ?_
          simp [isAsc, hgood]
    · have hf : isTup d = false := by simpa using ht
      refine s_when (b := true) (et_is (et_or (b := true) (et_not (et_tst (evp_isiD (K := K) h1 (kit_tup' d)))) fun hc => ?_) ?_) (fun hb H1 e1 => s_ret ev_c fun H2 e2 => q _ H2 (e1.trans e2) (by rw [hno hf])) (fun hb => by cases hb)
      · rw [hf] at hc; cases hc
      · rw [hf]; rfl
theorem sp_asc_it {n : Int} {d : PyData} (hd : SmallD d = true) : SpP spAsc (fun vs H1 => ∃ x y, vs = [x, y] ∧ Is (.int n) x H1 ∧ It H1 y d) (Is (.bl (isAsc n d))) := fun vs H1 ⟨x, y, e, hx, hy⟩ Q q E => ⟨n, y, d, by rw [e, show x = .int n from hx], hy, hd, fun v H2 e2 p => q v H2 e2 p⟩
def spValues : Sp := fun vs H Q _ => ∃ (n : Int) (x : V) (d : PyData), vs = [.int n, x] ∧ It H x d ∧ SmallD d = true ∧ ∀ v H2, Evl.Ex H H2 → v = .bl (isVs n d) → Q v H2
theorem ok_values {f f1 : Addr} {fd fd1 : FuncData} (D_is_ascending : Df K mg "is_ascending" s_is_ascending ["size", "value"] f1 fd1) (G_is_ascending : FnOk P w K mg base CX0 (k + 3) f1 fd1 ["size", "value"] spAsc) (T : Txt mg tk) (D : Df K mg "is_values" s_is_values ["size", "value"] f fd) :
    FnOk P w K mg base CX0 (k + 4) f fd ["size", "value"] spValues := by
  refine D.F.ok sc_is_values (fun vs H Q E h => ?_) (fun cdv A outer s H vs Q E hr h => ?_)
  · obtain ⟨n, x, d, rfl, _⟩ := h
    rfl
  · obtain ⟨n, x, d, rfl, hx, hsm, q⟩ := h
    have nd := sc_is_values.nd
    refine ⟨_, (pss_one (ps_ret (pe_and (pe_call G_is_ascending (hr.mono (by omega)) (by rfl) D_is_ascending.g D_is_ascending.F.kp D_is_ascending.b .nil pass0 (pa_cons (pv 0) (pa_cons (pv 1) pa_nil))) (pe_one (pe_cmpR op_gt (pe_callB (r := rLenQ K) call_len_seq (by rfl) T.n_len PySem.boot_len (pa_cons (pv 1) pa_nil)) pe_int (nomark _)))))), ?_⟩
    have h1 : EvP (tVar 1) (start N_is_values [.int n, x]) H (fun v H => It H v d) := evp_var rfl hx mono_it
    have h0 : ∀ {σ' : L2.St} {H' : Hp}, σ'[0]? = some (some (.int n)) → EvP (tVar 0) σ' H' (Is (.int n)) := fun h => evp_var h rfl mono_is
    refine s_ret (evp_and (b := !(match d with | .tuple ds => ds.isEmpty | _ => true)) (evp_call (E := E0) (eap_two (h0 rfl) h1 mono_is) (sp_asc_it hsm)) fun ha => ?_).ev fun H2 e2 => q _ H2 e2 ?_
    · obtain ⟨ds, rfl⟩ : ∃ ds, d = .tuple ds := by cases d <;> first | exact ⟨_, rfl⟩ | (cases ha; done)
      cases hx with
      | flat hx => cases x <;> first | exact hx.elim | (cases hx; done)
      | @tup a xs _ hxa p =>
        have hT : EvP (tVar 1) (start N_is_values [.int n, .ref a]) H (TupP ds.length (fun i v _ => fl v (ds.getD i .none))) := evp_var rfl (tup_fl p hxa) (mf_tup fun _ => mf_fl).mono
        refine evp_is (evp_I0 (g := fun i j => .bl (decide (i > j))) (evp_len hT) (evp_c (v := .int 0))) ?_
        cases ds with
        | nil => rfl
        | cons d ds => simp
    · congr 1
      cases d <;> simp [isVs, isAsc, Bool.and_comm]
end
end K20
namespace K20
open PySem PySem.Spec PyProof.Rows L2 Evl RZ Ev2 TA5

section
variable {K : PySem.W.Frag} {σ : L2.St} {H : Hp} {ta tb te : TE} {P : HP}
theorem evp_ixM {n : Nat} {Pi : Nat → HP} {i : Nat} (ha : EvP ta σ H (TupP n Pi)) (hb : EvP tb σ H (Is (.int (i : Int)))) (hi : i < n) (m : ∀ i, Mono (Pi i)) : EvP (tOp (rIxT K) ta tb) σ H (Pi i) := fun H1 e Q q =>
  ha H1 e _ fun v H2 e2 h => hb H2 (e.trans e2) _ fun y H3 e3 hy => by
    obtain ⟨p, ys, z, rfl, hp, hl, hz, hpz⟩ := tup_get h hi
    exact ⟨p, ys, _, z, rfl, hy, st_of (e3 _ _ hp), atI_nat hz, q z H3 (e2.trans e3) ((m i) _ _ _ e3 hpz)⟩
theorem va_tup {ds : List PyData} {v : V} (h : Va ds v H) : TupP ds.length (fun i v H => It H v (ds.getD i .none)) v H := by
  obtain ⟨a, xs, rfl, ha, p⟩ := h
  exact ⟨a, xs, rfl, ha, Paired.len p, fun i y hy => by
    obtain ⟨d, h1, h2⟩ := Paired.at p hy
    rw [getD_some h1]; exact h2⟩
theorem va_ty {ds : List PyData} {v : V} (h : Va ds v H) : TyX K H v (.type "tuple") := by
  obtain ⟨a, xs, rfl, ha, p⟩ := h
  exact .base (.tup ha)
theorem it_str {x : V} {w : Str} (h : It H x (.str w)) : x = .str w := by
  cases h with
  | flat h => cases x <;> first | exact h.elim | (cases h; try rfl)
theorem evp_va {ds : List PyData} {i : Nat} {x : V} (hs : σ[i]? = some (some x)) (hx : Va ds x H) : EvP (tVar i) σ H (TupP ds.length (fun i v H => It H v (ds.getD i .none))) := evp_var hs (va_tup hx) (mono_tup fun _ => mono_it)
theorem evp_at {ds : List PyData} {i j : Nat} {x : V} (hs : σ[i]? = some (some x)) (hx : Va ds x H) (hj : j < ds.length) : EvP (tOp (rIxT K) (tVar i) (tC (.int (j : Int)))) σ H (fun v H => It H v (ds.getD j .none)) := evp_ixM (evp_va hs hx) evp_c hj fun _ => mono_it
theorem evp_word {w : Str} {rest : List PyData} {i : Nat} {x : V} (hs : σ[i]? = some (some x)) (hx : Va (.str w :: rest) x H) (u : Str) : EvP (tOp rEq (tOp (rIxT K) (tVar i) (tC (.int ((0 : Nat) : Int)))) (tC (.str u))) σ H (Is (.bl (decide (w = u)))) := by
  refine evp_is (evp_eq (x := .str w) (y := .str u) ((evp_at (K := K) hs hx (by simp)).imp fun v H1 _ p => it_str p) evp_c rfl) ?_
  simp
theorem evp_many {ds : List PyData} {i : Nat} {x : V} (hs : σ[i]? = some (some x)) (hx : Va ds x H) (k : Nat) : EvP (tOp rEq (tCB (rLenQ K) (tCons (tVar i) tNil)) (tC (.int (k : Int)))) σ H (Is (.bl (decide (ds.length = k)))) := by
  refine evp_is (evp_eq (evp_len (evp_va hs hx)) (evp_c (v := .int (k : Int))) rfl) ?_
  simp [Int.ofNat_inj]
def SmallV (ds : List PyData) : Prop := ∀ d ∈ ds, SmallD d = true
theorem SmallV.at {ds : List PyData} (h : SmallV ds) (i : Nat) : SmallD (ds.getD i .none) = true := by
  rw [List.getD_eq_getElem?_getD]
  cases e : ds[i]? with
  | none => rfl
  | some d => exact h d (List.mem_of_getElem? e)
end
section
variable {P : Program} {w : World} {K : PySem.W.Frag} {mg : Str → Option Value} {base : Heap} {tk : Tok} {k : Nat}
theorem sp_values_it {n : Int} {d : PyData} (hd : SmallD d = true) : SpP spValues (fun vs H1 => ∃ x y, vs = [x, y] ∧ Is (.int n) x H1 ∧ It H1 y d) (Is (.bl (isVs n d))) := fun vs H1 ⟨x, y, e, hx, hy⟩ Q q E => ⟨n, y, d, by rw [e, show x = .int n from hx], hy, hd, fun v H2 e2 p => q v H2 e2 p⟩
def spForm : Sp := fun vs H Q _ => ∃ (l r : Int) (x : V) (ds : List PyData), vs = [.int l, .int r, x] ∧ Va ds x H ∧ SmallV ds ∧ ∀ v H2, Evl.Ex H H2 → v = .bl (form l r ds) → Q v H2
theorem form_cons {l r : Int} {w : Str} {rest : List PyData} : form l r (.str w :: rest) = (if w = "all" then decide (rest.length + 1 = 1)
    else if w = "left" then decide (rest.length + 1 = 2) && isVs l (rest.getD 0 .none)
    else if w = "right" then decide (rest.length + 1 = 2) && isVs r (rest.getD 0 .none)
    else decide (w = "cell") && (decide (rest.length + 1 = 3) && (isB l (rest.getD 0 .none) && isB r (rest.getD 1 .none)))) := rfl
theorem form_no {l r : Int} {ds : List PyData} (h : ds = [] ∨ isStr (ds.getD 0 .none) = false) : form l r ds = false := by
  cases ds with
  | nil => rfl
  | cons d ds =>
    rcases h with h | h
    · cases h
    · cases d <;> first | rfl | (cases h; done)
theorem ok_form {f f1 f2 : Addr} {fd fd1 fd2 : FuncData} (D_is_below : Df K mg "is_below" s_is_below ["size", "value"] f1 fd1) (G_is_below : FnOk P w K mg base CX0 (k + 2) f1 fd1 ["size", "value"] spBelow)
    (D_is_values : Df K mg "is_values" s_is_values ["size", "value"] f2 fd2) (G_is_values : FnOk P w K mg base CX0 (k + 4) f2 fd2 ["size", "value"] spValues) (T : Txt mg tk) (D : Df K mg "has_where_form" s_has_where_form ["left", "right", "value"] f fd) :
    FnOk P w K mg base CX0 (k + 5) f fd ["left", "right", "value"] spForm := by
  refine D.F.ok sc_has_where_form (fun vs H Q E h => ?_) (fun cdv A outer s H vs Q E hr h => ?_)
  · obtain ⟨l, r, x, ds, rfl, _⟩ := h
    rfl
  · obtain ⟨l, r, x, ds, rfl, hx, hsm, q⟩ := h
    have nd := sc_has_where_form.nd
    refine ⟨_, (pss_cons (ps_if (PW.pt (pw_or (pt_not (pt_val (pe_callB (r := rIsi K) call_isi (by rfl) T.n_isinstance PyProof.Rows.boot_isinstance (pa_cons (pv 2) (pa_cons (pe_bltn (v := .ty "tuple") (by rfl) T.n_tuple PyProof.Rows.boot_tuple rfl) pa_nil))))) (pw_or (pt_cmpR op_eq (pe_callB (r := rLenQ K) call_len_seq (by rfl) T.n_len PySem.boot_len (pa_cons (pv 2) pa_nil)) pe_int (nomark _)) (pw_or1 (pt_not (pt_val (pe_callB (r := rIsi K) call_isi (by rfl) T.n_isinstance PyProof.Rows.boot_isinstance (pa_cons (pe_ix (r := rIxT K) ix_tup (pv 2) pe_int (fun _ _ => rfl)) (pa_cons (pe_bltn (v := .ty "str") (by rfl) T.n_str PyProof.Rows.boot_str rfl) pa_nil))))))))) (pss_one (ps_ret pe_bl)) pss_nil) (pss_cons (ps_if (pt_cmpR op_eq (pe_ix (r := rIxT K) ix_tup (pv 2) pe_int (fun _ _ => rfl)) pe_str (nomark _)) (pss_one (ps_ret (pe_cmpR op_eq (pe_callB (r := rLenQ K) call_len_seq (by rfl) T.n_len PySem.boot_len (pa_cons (pv 2) pa_nil)) pe_int (nomark _)))) pss_nil) (pss_cons (ps_if (pt_cmpR op_eq (pe_ix (r := rIxT K) ix_tup (pv 2) pe_int (fun _ _ => rfl)) pe_str (nomark _)) (pss_one (ps_ret (pe_and (pe_cmpR op_eq (pe_callB (r := rLenQ K) call_len_seq (by rfl) T.n_len PySem.boot_len (pa_cons (pv 2) pa_nil)) pe_int (nomark _)) (pe_one (pe_call G_is_values (hr.mono (by omega)) (by rfl) D_is_values.g D_is_values.F.kp D_is_values.b .nil pass0 (pa_cons (pv 0) (pa_cons (pe_ix (r := rIxT K) ix_tup (pv 2) pe_int (fun _ _ => rfl)) pa_nil))))))) pss_nil) (pss_cons (ps_if (pt_cmpR op_eq (pe_ix (r := rIxT K) ix_tup (pv 2) pe_int (fun _ _ => rfl)) pe_str (nomark _)) (pss_one (ps_ret (pe_and (pe_cmpR op_eq (pe_callB (r := rLenQ K) call_len_seq (by rfl) T.n_len PySem.boot_len (pa_cons (pv 2) pa_nil)) pe_int (nomark _)) (pe_one (pe_call G_is_values (hr.mono (by omega)) (by rfl) D_is_values.g D_is_values.F.kp D_is_values.b .nil pass0 (pa_cons (pv 1) (pa_cons (pe_ix (r := rIxT K) ix_tup (pv 2) pe_int (fun _ _ => rfl)) pa_nil))))))) pss_nil) (pss_one (ps_ret (pe_and (pe_cmpR op_eq (pe_ix (r := rIxT K) ix_tup (pv 2) pe_int (fun _ _ => rfl)) pe_str (nomark _)) (pe_and (pe_cmpR op_eq (pe_callB (r := rLenQ K) call_len_seq (by rfl) T.n_len PySem.boot_len (pa_cons (pv 2) pa_nil)) pe_int (nomark _)) (pe_and (pe_call G_is_below (hr.mono (by omega)) (by rfl) D_is_below.g D_is_below.F.kp D_is_below.b .nil pass0 (pa_cons (pv 0) (pa_cons (pe_ix (r := rIxT K) ix_tup (pv 2) pe_int (fun _ _ => rfl)) pa_nil))) (pe_one (pe_call G_is_below (hr.mono (by omega)) (by rfl) D_is_below.g D_is_below.F.kp D_is_below.b .nil pass0 (pa_cons (pv 1) (pa_cons (pe_ix (r := rIxT K) ix_tup (pv 2) pe_int (fun _ _ => rfl)) pa_nil))))))))))))), ?_⟩
    have hv : ∀ {H' : Hp}, Evl.Ex H H' → Va ds x H' := fun e => mono_va _ _ _ e hx
    have h0 : ∀ {H' : Hp}, EvP (tVar 0) (start N_has_where_form [.int l, .int r, x]) H' (Is (.int l)) := evp_var rfl rfl mono_is
    have h1 : ∀ {H' : Hp}, EvP (tVar 1) (start N_has_where_form [.int l, .int r, x]) H' (Is (.int r)) := evp_var rfl rfl mono_is
    refine s_when (b := !true || (decide (ds.length = 0) || !isStr (ds.getD 0 .none))) (et_or (et_not (et_tst (evp_isi (K := K) (evp_va rfl hx) (fun y H1 p => ?_) (.ty "tuple") (kit_ty (a := "tuple") (by decide +kernel))))) fun _ => et_or (et_bl (evp_many (K := K) (k := 0) rfl hx)) fun hb => et_not (et_tst (evp_isiD (K := K) (evp_at (K := K) (j := 0) rfl hx ?_) (kit_str' _)))) (fun hb H1 e1 => ?_) (fun hb H1 e1 => ?_)
    · obtain ⟨p', ys, rfl, h2, _⟩ := p
      exact .base (.tup h2)
    · have : ds.length ≠ 0 := by simpa using hb
      omega
    · refine s_ret ev_c fun H2 e2 => q _ H2 (e1.trans e2) ?_
      rw [form_no (by cases ds <;> first | exact .inl rfl | (refine .inr ?_; simpa using hb))]
    · obtain ⟨w', rest, rfl⟩ : ∃ w' rest, ds = .str w' :: rest := by
        cases ds with
        | nil => simp at hb
        | cons d ds => cases d <;> first | exact ⟨_, _, rfl⟩ | (simp [isStr] at hb; done)
      have hlen : (PyData.str w' :: rest).length = rest.length + 1 := rfl
      refine s_when (b := decide (w' = "all")) (et_bl (evp_word (K := K) rfl (hv e1) "all")) (fun hb1 H2 e2 => ?_) (fun hb1 H2 e2 => ?_)
      · refine s_ret (evp_many (K := K) (k := 1) rfl (hv (e1.trans e2))).ev fun H3 e3 => q _ H3 ((e1.trans e2).trans e3) ?_
        have : w' = "all" := of_decide_eq_true hb1
        rw [hlen, form_cons, if_pos this]
      have n1 : ¬ w' = "all" := of_decide_eq_false hb1
      refine s_when (b := decide (w' = "left")) (et_bl (evp_word (K := K) rfl (hv (e1.trans e2)) "left")) (fun hb2 H3 e3 => ?_) (fun hb2 H3 e3 => ?_)
      · have hv3 := hv ((e1.trans e2).trans e3)
        refine s_ret (evp_and (evp_many (K := K) (k := 2) rfl hv3) fun hc => evp_call (E := E0) (eap_two h0 (evp_at (K := K) (j := 1) rfl hv3 (by rw [of_decide_eq_true hc]; decide)) mono_is) (sp_values_it (hsm.at 1))).ev fun H4 e4 => q _ H4 (((e1.trans e2).trans e3).trans e4) ?_
        have : w' = "left" := of_decide_eq_true hb2
        rw [hlen, form_cons, if_neg n1, if_pos this]; rfl
      have n2 : ¬ w' = "left" := of_decide_eq_false hb2
      refine s_when (b := decide (w' = "right")) (et_bl (evp_word (K := K) rfl (hv ((e1.trans e2).trans e3)) "right")) (fun hb3 H4 e4 => ?_) (fun hb3 H4 e4 => ?_)
      · have hv4 := hv (((e1.trans e2).trans e3).trans e4)
        refine s_ret (evp_and (evp_many (K := K) (k := 2) rfl hv4) fun hc => evp_call (E := E0) (eap_two h1 (evp_at (K := K) (j := 1) rfl hv4 (by rw [of_decide_eq_true hc]; decide)) mono_is) (sp_values_it (hsm.at 1))).ev fun H5 e5 => q _ H5 ((((e1.trans e2).trans e3).trans e4).trans e5) ?_
        have : w' = "right" := of_decide_eq_true hb3
        rw [hlen, form_cons, if_neg n1, if_neg n2, if_pos this]; rfl
      have n3 : ¬ w' = "right" := of_decide_eq_false hb3
      have hv4 := hv (((e1.trans e2).trans e3).trans e4)
      refine s_ret (evp_and (evp_word (K := K) rfl hv4 "cell") fun _ => evp_and (evp_many (K := K) (k := 3) rfl hv4) fun hc => evp_and (evp_call (E := E0) (eap_two h0 (evp_at (K := K) (j := 1) rfl hv4 (by rw [of_decide_eq_true hc]; decide)) mono_is) (sp_below_it (H := H))) fun _ => evp_call (E := E0) (eap_two h1 (evp_at (K := K) (j := 2) rfl hv4 (by rw [of_decide_eq_true hc]; decide)) mono_is) (sp_below_it (H := H))).ev fun H5 e5 => q _ H5 ((((e1.trans e2).trans e3).trans e4).trans e5) ?_
      rw [hlen, form_cons, if_neg n1, if_neg n2, if_neg n3]; rfl
end
end K20
namespace K20
open PySem PySem.Spec PyProof.Rows L2 Evl RZ Ev2 TA5

section
variable {K : PySem.W.Frag} {σ : L2.St} {H : Hp} {ta tb te : TE} {P R : HP}
theorem fl_dp {v : V} {d : PyData} (h : fl v d) : Dp K H v d := by
  cases v <;> first | exact h.elim | (cases h; constructor)
theorem fls_dp : ∀ {xs : List V} {ds : List PyData}, Paired fl xs ds → DpAll K H xs ds
  | _, _, .nil => .nil
  | _, _, .cons h t => .cons (fl_dp h) (fls_dp t)
theorem it_dp {v : V} {d : PyData} (h : It H v d) : Dp K H v d := by
  cases h with
  | flat h => exact fl_dp h
  | tup h p => exact .tup (st_of h) (fls_dp p)
  | lst h p => exact .lst (sq_of h) (fls_dp p)
theorem its_dp : ∀ {xs : List V} {ds : List PyData}, Paired (It H) xs ds → DpAll K H xs ds
  | _, _, .nil => .nil
  | _, _, .cons h t => .cons (it_dp h) (its_dp t)
theorem va_dp {v : V} {ds : List PyData} (h : Va ds v H) : Dp K H v (.tuple ds) := by
  obtain ⟨a, xs, rfl, ha, p⟩ := h
  exact .tup (st_of ha) (its_dp p)
theorem evp_eqD {d e : PyData} (ha : EvP ta σ H P) (hb : EvP tb σ H R) (m : Mono P) (hp : ∀ v H1, P v H1 → Dp K H1 v d) (hr : ∀ v H1, R v H1 → Dp K H1 v e) (s1 : SeqAt.shaped d = true) (s2 : SeqAt.shaped e = true) : EvP (tOp (rEqD K) ta tb) σ H (Is (.bl (PyData.eqv d e))) :=
  evp_op ha hb m fun x y H1 _ px py Q q => ⟨d, e, hp _ _ px, hr _ _ py, s1, s2, q _ H1 (Ex.refl _) rfl⟩
theorem evp_neD {d e : PyData} (ha : EvP ta σ H P) (hb : EvP tb σ H R) (m : Mono P) (hp : ∀ v H1, P v H1 → Dp K H1 v d) (hr : ∀ v H1, R v H1 → Dp K H1 v e) (s1 : SeqAt.shaped d = true) (s2 : SeqAt.shaped e = true) : EvP (tOp (rNeD K) ta tb) σ H (Is (.bl (!PyData.eqv d e))) :=
  evp_op ha hb m fun x y H1 _ px py Q q => ⟨d, e, hp _ _ px, hr _ _ py, s1, s2, q _ H1 (Ex.refl _) rfl⟩
theorem it_fl_int {v : V} {i : Int} (h : It H v (.int i)) : fl v (.int i) := by
  cases h with
  | flat h => exact h
/-- a tuple of two ints -/
def Pr (i j : Int) : HP := fun v H => ∃ a, v = .ref a ∧ H a = some (.tup [.int i, .int j])
theorem mono_pr {i j : Int} : Mono (Pr i j) := fun _ _ _ e ⟨a, h1, h2⟩ => ⟨a, h1, e _ _ h2⟩
theorem mf_pr {i j : Int} : MonoF (Pr i j) := fun _ _ _ e ⟨a, h1, h2⟩ => ⟨a, h1, e _ _ h2 (fun _ z => nomatch z)⟩
theorem pr_dp {i j : Int} {v : V} (h : Pr i j v H) : Dp K H v (.tuple [.int i, .int j]) := by
  obtain ⟨a, rfl, h⟩ := h
  exact .tup (st_of h) (.cons (.int i) (.cons (.int j) .nil))
theorem evp_pr {i j : Int} (ha : EvP ta σ H (Is (.int i))) (hb : EvP tb σ H (Is (.int j))) : EvP (tTup (tCons ta (tCons tb tNil))) σ H (Pr i j) := fun H1 e Q q =>
  ha.ev H1 e _ fun H2 e2 => hb.ev H2 (e.trans e2) _ fun H3 e3 => ⟨sz_of (show 2 ≤ 100000 by decide), fun p hp => q _ _ ((e2.trans e3).trans (Ex.new hp)) ⟨p, rfl, upd_same⟩⟩
end
theorem sh_pr {i j : Int} : SeqAt.shaped (.tuple [.int i, .int j]) = true := rfl
theorem eqv_pr {i j a b : Int} : PyData.eqv (.tuple [.int i, .int j]) (.tuple [.int a, .int b]) = (decide (i = a) && decide (j = b)) := by
  show ((i == a) && ((j == b) && true)) = _
  rw [Bool.and_true]
  rfl
/-! ### which cells -/
def inTs (a : Int) : PyData → Bool
  | .tuple es => (es.map dI).any (fun i => i == a)
  | _ => false
def cov (a b : Int) : List PyData → Bool
  | .str w :: rest =>
    if w = "left" then inTs a (rest.getD 0 .none)
    else if w = "right" then inTs b (rest.getD 0 .none)
    else decide (w = "all") || (decide (dI (rest.getD 0 .none) = a) && decide (dI (rest.getD 1 .none) = b))
  | _ => false
theorem cov_cons {a b : Int} {w : Str} {rest : List PyData} : cov a b (.str w :: rest) = (if w = "left" then inTs a (rest.getD 0 .none)
    else if w = "right" then inTs b (rest.getD 0 .none)
    else decide (w = "all") || (decide (dI (rest.getD 0 .none) = a) && decide (dI (rest.getD 1 .none) = b))) := rfl
theorem inV_ints {n a : Int} : ∀ {xs : List V} {es : List PyData}, Paired fl xs es → es.all (isB n) = true → inV (.int a) xs = (es.map dI).any (fun i => i == a)
  | _, _, .nil, _ => rfl
  | x :: xs, d :: es, .cons h t, hb => by
    rw [List.all_cons, Bool.and_eq_true] at hb
    obtain ⟨i, rfl, _⟩ := isB_int hb.1
    have ih := inV_ints (a := a) t hb.2
    rw [fl_int h]
    show (eqV (.int i) (.int a) || inV (.int a) xs) = ((i == a) || (es.map dI).any _)
    rw [ih]
    rfl
section
variable {K : PySem.W.Frag} {σ : L2.St} {H : Hp} {ta tb te : TE}
theorem evp_inTs {n a : Int} {d : PyData} (ha : EvP ta σ H (Is (.int a))) (hb : EvP tb σ H (fun v H => It H v d)) (hg : isVs n d = true) : EvP (tOp (rIn K false) ta tb) σ H (Is (.bl (inTs a d))) :=
  evp_op ha hb mono_is fun x y H1 _ px py Q q => by
    cases d with
    | tuple es =>
      have hall : es.all (isB n) = true := by
        have : (!es.isEmpty && (es.all (isB n) && ascI (es.map dI))) = true := hg
        simp only [Bool.and_eq_true] at this
        exact this.2.1
      cases py with
      | flat h => cases y <;> first | exact h.elim | (cases h; done)
      | @tup t xs _ ht p =>
        rw [show x = .int a from px]
        refine ⟨t, xs, rfl, .inr (st_of ht), rfl, fls_flat p, q _ H1 (Ex.refl _) ?_⟩
        show V.bl (if false = true then _ else inV (.int a) xs) = _
        rw [if_neg (by decide), inV_ints p hall]
        rfl
    | _ => cases hg
end
section
variable {P : Program} {w : World} {K : PySem.W.Frag} {mg : Str → Option Value} {base : Heap} {tk : Tok} {k : Nat} {CV iV CP iP : Addr}
def spCovers : Sp := fun vs H Q _ => ∃ (l r a b : Int) (x : V) (ds : List PyData), vs = [x, .int a, .int b] ∧ Va ds x H ∧ form l r ds = true ∧ ∀ v H2, Evl.Ex H H2 → v = .bl (cov a b ds) → Q v H2
theorem ok_covers {f : Addr} {fd : FuncData} (D : Df K mg "covers" s_covers ["where", "left", "right"] f fd) :
    FnOk P w K mg base CX0 (k + 1) f fd ["where", "left", "right"] spCovers := by
  refine D.F.ok sc_covers (fun vs H Q E h => ?_) (fun cdv A outer s H vs Q E hr h => ?_)
  · obtain ⟨l, r, a, b, x, ds, rfl, _⟩ := h
    rfl
  · obtain ⟨l, r, a, b, x, ds, rfl, hx, hf, q⟩ := h
    have nd := sc_covers.nd
    refine ⟨_, (pss_cons (ps_if (pt_cmpR op_eq (pe_ix (r := rIxT K) ix_tup (pv 0) pe_int (fun _ _ => rfl)) pe_str (nomark _)) (pss_one (ps_ret (pe_cmpR (r := rIn K false) op_in_seq (pv 1) (pe_ix (r := rIxT K) ix_tup (pv 0) pe_int (fun _ _ => rfl)) (by rfl)))) pss_nil) (pss_cons (ps_if (pt_cmpR op_eq (pe_ix (r := rIxT K) ix_tup (pv 0) pe_int (fun _ _ => rfl)) pe_str (nomark _)) (pss_one (ps_ret (pe_cmpR (r := rIn K false) op_in_seq (pv 2) (pe_ix (r := rIxT K) ix_tup (pv 0) pe_int (fun _ _ => rfl)) (by rfl)))) pss_nil) (pss_one (ps_ret (pe_or (pe_cmpR op_eq (pe_ix (r := rIxT K) ix_tup (pv 0) pe_int (fun _ _ => rfl)) pe_str (nomark _)) (pe_one (pe_cmpR (op_eqD hr.units) (pe_slice (r := rSlA K) sl_tupA (pv 0) (po_some pe_int) po_none) (pe_tup (pa_cons (pv 1) (pa_cons (pv 2) pa_nil))) (nomark _)))))))), ?_⟩
    have hv : ∀ {H' : Hp}, Evl.Ex H H' → Va ds x H' := fun e => mono_va _ _ _ e hx
    have h1 : ∀ {H' : Hp}, EvP (tVar 1) (start N_covers [x, .int a, .int b]) H' (Is (.int a)) := evp_var rfl rfl mono_is
    have h2 : ∀ {H' : Hp}, EvP (tVar 2) (start N_covers [x, .int a, .int b]) H' (Is (.int b)) := evp_var rfl rfl mono_is
    obtain ⟨w', rest, rfl⟩ : ∃ w' rest, ds = .str w' :: rest := by
      cases ds with
      | nil => cases hf
      | cons d ds => cases d <;> first | exact ⟨_, _, rfl⟩ | (cases hf; done)
    have hlen : (PyData.str w' :: rest).length = rest.length + 1 := rfl
    rw [form_cons] at hf
    refine s_when (b := decide (w' = "left")) (et_bl (evp_word (K := K) rfl hx "left")) (fun hb1 H1 e1 => ?_) (fun hb1 H1 e1 => ?_)
    · have hw : w' = "left" := of_decide_eq_true hb1
      rw [if_neg (by rw [hw]; decide), if_pos hw, Bool.and_eq_true, decide_eq_true_eq] at hf
      refine s_ret (evp_inTs (K := K) (n := l) h1 (evp_at (K := K) (j := 1) rfl (hv e1) (by rw [hlen, hf.1]; decide)) hf.2).ev fun H2 e2 => q _ H2 (e1.trans e2) ?_
      rw [cov_cons, if_pos hw]; rfl
    have n1 : ¬ w' = "left" := of_decide_eq_false hb1
    refine s_when (b := decide (w' = "right")) (et_bl (evp_word (K := K) rfl (hv e1) "right")) (fun hb2 H2 e2 => ?_) (fun hb2 H2 e2 => ?_)
    · have hw : w' = "right" := of_decide_eq_true hb2
      rw [if_neg (by rw [hw]; decide), if_neg n1, if_pos hw, Bool.and_eq_true, decide_eq_true_eq] at hf
      refine s_ret (evp_inTs (K := K) (n := r) h2 (evp_at (K := K) (j := 1) rfl (hv (e1.trans e2)) (by rw [hlen, hf.1]; decide)) hf.2).ev fun H3 e3 => q _ H3 ((e1.trans e2).trans e3) ?_
      rw [cov_cons, if_neg n1, if_pos hw]; rfl
    have n2 : ¬ w' = "right" := of_decide_eq_false hb2
    have hv2 := hv (e1.trans e2)
    refine s_ret (evp_or (a := decide (w' = "all")) (b := decide (dI (rest.getD 0 .none) = a) && decide (dI (rest.getD 1 .none) = b)) (evp_word (K := K) rfl hv2 "all") fun hb3 => ?_).ev fun H3 e3 => q _ H3 ((e1.trans e2).trans e3) (by rw [cov_cons, if_neg n1, if_neg n2])
    have n3 : ¬ w' = "all" := of_decide_eq_false hb3
    rw [if_neg n3, if_neg n1, if_neg n2] at hf
    simp only [Bool.and_eq_true, decide_eq_true_eq] at hf
    obtain ⟨_, hl, hi, hj⟩ := hf
    obtain ⟨d0, d1, rfl⟩ : ∃ d0 d1, rest = [d0, d1] := by
      match rest, hl with
      | [d0, d1], _ => exact ⟨d0, d1, rfl⟩
    obtain ⟨i, rfl, _⟩ := isB_int (d := d0) hi
    obtain ⟨j, rfl, _⟩ := isB_int (d := d1) hj
    obtain ⟨t, xs, rfl, ht, p⟩ := hv2
    refine evp_is (evp_eqD (K := K) (P := Pr i j) (R := Pr a b) ((evp_slA (K := K) (lo := some ((1 : Nat) : Int)) (hi := none) (evp_var (P := Is (.ref t)) (i := 0) rfl rfl mono_is).ev (eo_some evp_c.ev) eo_none ht).imp fun v H4 _ ⟨p', hv, hp'⟩ => ?_) (evp_pr h1 h2) mono_pr (fun _ _ h => pr_dp h) (fun _ _ h => pr_dp h) sh_pr sh_pr) (by rw [eqv_pr]; rfl)
    rw [cutV_from] at hp'
    cases p with
    | cons g0 p => cases p with
      | cons g1 p => cases p with
        | cons g2 p =>
          cases p
          rw [show _ = V.int i from fl_int (it_fl_int g1), show _ = V.int j from fl_int (it_fl_int g2)] at hp'
          exact ⟨p', hv, hp'⟩
end
end K20
namespace K20
open PySem PySem.Spec PyProof.Rows L2 Evl RZ Ev2 TA5

theorem Paired.snoc {α β : Type} {R : α → β → Prop} : ∀ {xs : List α} {ys : List β} {x : α} {y : β}, Paired R xs ys → R x y → Paired R (xs ++ [x]) (ys ++ [y])
  | _, _, _, _, .nil, r => .cons r .nil
  | _, _, _, _, .cons h t, r => .cons h (Paired.snoc t r)
theorem Paired.impl {α β : Type} {R S : α → β → Prop} (k : ∀ x y, R x y → S x y) : ∀ {xs : List α} {ys : List β}, Paired R xs ys → Paired S xs ys
  | _, _, .nil => .nil
  | _, _, .cons h t => .cons (k _ _ h) (Paired.impl k t)
/-- a list of pairs of ints -/
def Cs (cs : List (Int × Int)) : HP := fun v H => ∃ p ys, v = .ref p ∧ H p = some (.lst ys) ∧ Paired (fun y c => Pr c.1 c.2 y H) ys cs
theorem cs_mono {cs : List (Int × Int)} : Mono (Cs cs) := fun _ _ _ e ⟨p, ys, h1, h2, h3⟩ => ⟨p, ys, h1, e _ _ h2, Paired.impl (fun _ _ h => mono_pr _ _ _ e h) h3⟩
def rowP (f : Nat → Bool) (i : Nat) (j : Nat) : List (Int × Int) := ((List.range j).filter f).map fun (b : Nat) => ((i : Int), (b : Int))
def accP (f : Nat → Nat → Bool) (m : Nat) : Nat → List (Int × Int)
  | 0 => []
  | i + 1 => accP f m i ++ rowP (f i) i m
theorem rowP_len {f : Nat → Bool} {i j : Nat} : (rowP f i j).length ≤ j := by
  unfold rowP
  rw [List.length_map]
  exact Nat.le_trans (List.length_filter_le _ _) (by simp)
theorem accP_len {f : Nat → Nat → Bool} {m : Nat} (hm : m ≤ 100) : ∀ i, (accP f m i).length ≤ 100 * i
  | 0 => by simp [accP]
  | i + 1 => by have := accP_len (f := f) hm i; have h2 := rowP_len (f := f i) (i := i) (j := m); simp only [accP, List.length_append]; omega
theorem rowP_yes {f : Nat → Bool} {i j : Nat} (h : f j = true) : rowP f i (j + 1) = rowP f i j ++ [((i : Int), (j : Int))] := by
  unfold rowP
  rw [List.range_succ, List.filter_append, List.map_append, List.filter_cons, if_pos h]
  rfl
theorem rowP_no {f : Nat → Bool} {i j : Nat} (h : f j = false) : rowP f i (j + 1) = rowP f i j := by
  unfold rowP
  rw [List.range_succ, List.filter_append, List.map_append, List.filter_cons, if_neg (by rw [h]; decide)]
  simp
section
variable {K : PySem.W.Frag} {σ : L2.St} {H : Hp} {ta tb te : TE} {tt : TT}
theorem evp_lc2c {wi wi1 : TI} {g g1 : TG} {vs vs1 : List Nat} {n m : Nat} {item : Nat → V → Hp → Prop} {item1 : Nat → Nat → V → Hp → Prop} {Sg : Nat → L2.St → Hp → Prop} {Sg1 : Nat → Nat → L2.St → Hp → Prop} {f : Nat → Nat → Bool}
    (hw : WiP wi σ H n item) (hn : n ≤ 100) (hm : m ≤ 100)
    (hg : ∀ i x H1, i < n → Evl.Ex H H1 → item i x H1 → GP g x (wipe σ vs) H1 (fun σ2 H2 => wipe σ2 vs = wipe σ vs ∧ Sg i σ2 H2))
    (hw1 : ∀ i σ2 H1, i < n → Evl.Ex H H1 → Sg i σ2 H1 → WiP wi1 σ2 H1 m (item1 i))
    (hg1 : ∀ i j σ2 x H1 H2, i < n → j < m → Evl.Ex H H1 → Sg i σ2 H1 → Fx H1 H2 → item1 i j x H2 → GP g1 x (wipe σ2 vs1) H2 (fun σ3 H3 => wipe σ3 vs1 = wipe σ2 vs1 ∧ Sg1 i j σ3 H3))
    (ht : ∀ i j σ3 H1, i < n → j < m → Evl.Ex H H1 → Sg1 i j σ3 H1 → EvT tt σ3 H1 (f i j))
    (he : ∀ i j σ3 H1, i < n → j < m → Evl.Ex H H1 → Sg1 i j σ3 H1 → EvP te σ3 H1 (Pr i j)) :
    EvP (tLc2 wi g tYes wi1 g1 tt te vs vs1) σ H (Cs (accP f m n)) := fun H1 e Q q => hw H1 e _ fun J H2 Pre e2 T pre => fun D hD => by
  refine ⟨fun i k H3 => k = n - i ∧ i ≤ n ∧ Evl.Ex H2 H3 ∧ ∃ ys, H3 D = some (.lst ys) ∧ Paired (fun y c => Pr c.1 c.2 y H3) ys (accP f m i), ⟨n, by simp, Nat.zero_le _, Ex.new hD, [], upd_same, .nil⟩, ?_⟩
  rintro i k H3 ⟨rfl, hi, ex, ys, hys, hP⟩
  have pre3 := T.mono _ _ (Fx.of ex) pre
  by_cases hlt : i < n
  · refine .inr ⟨T.go i H3 hlt pre3, fun H4 => Evl.Ex H2 H4 ∧ ∃ ys, H4 D = some (.lst ys) ∧ Paired (fun y c => Pr c.1 c.2 y H4) ys (accP f m (i + 1)), fun H4 ⟨a, b⟩ => ⟨n - (i + 1), by omega, rfl, by omega, a, b⟩, fun x H4 y => ?_⟩
    obtain ⟨e4, it⟩ := T.yld i H3 x H4 hlt pre3 y
    have exH4 := ((e.trans e2).trans ex).trans e4
    refine hg i x H4 hlt exH4 it _ fun σ2 ⟨hw2, hs⟩ => ⟨hw2, ?_⟩
    unfold tYes
    dsimp only
    rw [if_pos rfl]
    refine hw1 i σ2 H4 hlt exH4 hs H4 (Ex.refl _) _ fun J1 H5 Pre1 e5 T1 pre1 => ?_
    refine ⟨fun j k H6 => k = m - j ∧ j ≤ m ∧ Evl.Ex H2 H6 ∧ Fx H5 H6 ∧ ∃ ys, H6 D = some (.lst ys) ∧ Paired (fun y c => Pr c.1 c.2 y H6) ys (accP f m i ++ rowP (f i) i j), ⟨m, by simp, Nat.zero_le _, (ex.trans e4).trans e5, Fx.refl _, ys, e5 _ _ (e4 _ _ hys), ?_⟩, ?_⟩
    · show Paired _ ys (accP f m i ++ [])
      rw [List.append_nil]
      exact Paired.impl (fun _ _ h => mono_pr _ _ _ (e4.trans e5) h) hP
    rintro j k H6 ⟨rfl, hj, ex6, fx6, zs, hzs, hZ⟩
    have pre6 := T1.mono _ _ fx6 pre1
    by_cases hlt1 : j < m
    · refine .inr ⟨T1.go j H6 hlt1 pre6, fun H7 => Evl.Ex H2 H7 ∧ Fx H5 H7 ∧ ∃ ys, H7 D = some (.lst ys) ∧ Paired (fun y c => Pr c.1 c.2 y H7) ys (accP f m i ++ rowP (f i) i (j + 1)), fun H7 ⟨a, b, c⟩ => ⟨m - (j + 1), by omega, rfl, by omega, a, b, c⟩, fun x1 H7 y1 => ?_⟩
      obtain ⟨e7, it1⟩ := T1.yld j H6 x1 H7 hlt1 pre6 y1
      have ex7 : Evl.Ex H H7 := (e.trans e2).trans (ex6.trans e7)
      refine hg1 i j σ2 x1 H4 H7 hlt hlt1 exH4 hs ((Fx.of e5).trans (fx6.trans (Fx.of e7))) it1 _ fun σ3 ⟨hw3, hs3⟩ => ⟨hw3, ?_⟩
      refine ht i j σ3 H7 hlt hlt1 ex7 hs3 H7 (Ex.refl _) _ fun H8 e8 => ?_
      cases hb : f i j with
      | true =>
        rw [if_pos rfl]
        refine he i j σ3 H7 hlt hlt1 ex7 hs3 H8 e8 _ fun z H9 e9 hz => ?_
        have hys9 := e9 _ _ (e8 _ _ (e7 _ _ hzs))
        have hl9 : zs.length ≤ 100 * i + m := by
          rw [Paired.len hZ, List.length_append]
          have := accP_len (f := f) hm i
          have := rowP_len (f := f i) (i := i) (j := j)
          omega
        refine ⟨_, hys9, sz_lt (by omega), Ex.mut (((ex6.trans e7).trans e8).trans e9) hD, (fx6.trans (Fx.of ((e7.trans e8).trans e9))).trans (Fx.lst hys9), _, upd_same, ?_⟩
        rw [rowP_yes hb, ← List.append_assoc]
        refine Paired.impl (fun _ _ h => mf_pr _ _ _ (Fx.lst hys9) h) (Paired.snoc (Paired.impl (fun _ _ h => mono_pr _ _ _ ((e7.trans e8).trans e9) h) hZ) hz)
      | false =>
        rw [if_neg (by decide)]
        refine ⟨ex6.trans (e7.trans e8), fx6.trans (Fx.of (e7.trans e8)), zs, e8 _ _ (e7 _ _ hzs), ?_⟩
        rw [rowP_no hb]
        exact Paired.impl (fun _ _ h => mono_pr _ _ _ (e7.trans e8) h) hZ
    · have hjm : j = m := by omega
      subst hjm
      exact .inl ⟨T1.stop H6 pre6, ex6, zs, hzs, hZ⟩
  · have hinn : i = n := by omega
    subst hinn
    exact .inl ⟨T.stop H3 pre3, q _ H3 (e2.trans ex) ⟨D, ys, rfl, hys, hP⟩⟩
end
section
variable {P : Program} {w : World} {K : PySem.W.Frag} {mg : Str → Option Value} {base : Heap} {tk : Tok} {k : Nat} {CV iV CP iP : Addr}
theorem Rz.ex {fn : Str} {C : Addr} {x : V} {H H' : Hp} {E : XK} (h : Rz fn C x H E) (e : Evl.Ex H H') : Rz fn C x H' E := fun d H2 e2 h2 => h d H2 (e.trans e2) h2
def spIsWhere (C : Addr) : Sp := fun vs H Q E => ∃ (x y z : V) (dx dy : PyData), vs = [x, y, z] ∧ It H x dx ∧ It H y dy ∧ (isSz dx = false → Rz "value" C x H E) ∧ (isSz dx = true → isSz dy = false → Rz "value" C y H E) ∧
  (isSz dx = true → isSz dy = true → ∃ ds, Va ds z H ∧ SmallV ds ∧ ∀ v H2, Evl.Ex H H2 → v = .bl (form (dI dx) (dI dy) ds) → Q v H2)
theorem isSz_int {d : PyData} (h : isSz d = true) : ∃ n : Nat, d = .int (n : Int) ∧ 1 ≤ n ∧ n ≤ 8 := by
  cases d with
  | int i =>
    have : (decide (1 ≤ i) && decide (i ≤ 8)) = true := h
    simp only [Bool.and_eq_true, decide_eq_true_eq] at this
    exact ⟨i.toNat, by rw [Int.toNat_of_nonneg (by omega)], by omega, by omega⟩
  | _ => cases h
theorem it_intE {H : Hp} {x : V} {i : Int} (h : It H x (.int i)) : x = .int i := fl_int (it_fl_int h)
theorem ok_is_where {f f1 f2 : Addr} {fd fd1 fd2 : FuncData} (D_check_sizes : Df K mg "check_sizes" s_check_sizes ["left", "right"] f1 fd1) (G_check_sizes : FnOk P w K mg base (L2.CX P w) (k + 5) f1 fd1 ["left", "right"] (spCheckSizes CV))
    (D_has_where_form : Df K mg "has_where_form" s_has_where_form ["left", "right", "value"] f2 fd2) (G_has_where_form : FnOk P w K mg base CX0 (k + 5) f2 fd2 ["left", "right", "value"] spForm) (T : Txt mg tk) (D : Df K mg "is_where" s_is_where ["left", "right", "value"] f fd) :
    FnOk P w K mg base (L2.CX P w) (k + 6) f fd ["left", "right", "value"] (spIsWhere CV) := by
  refine D.F.okX sc_is_where (fun vs H Q E h => ?_) (fun cdv A outer s H vs Q E hr h => ?_)
  · obtain ⟨x, y, z, dx, dy, rfl, _⟩ := h
    rfl
  · obtain ⟨x, y, z, dx, dy, rfl, hx, hy, k1, k2, k3⟩ := h
    refine ⟨_, (pss_cons (ps_expr (pe_callS G_check_sizes (hr.mono (by omega)) (by rfl) D_check_sizes.g D_check_sizes.F.kp D_check_sizes.b (fun σ => passAt (takes_of rfl rfl rfl rfl) σ) (pa_cons (pv 0) (pa_cons (pv 1) pa_nil)))) (pss_one (ps_ret (pe_call G_has_where_form (hr.mono (by omega)) (by rfl) D_has_where_form.g D_has_where_form.F.kp D_has_where_form.b .nil pass0 (pa_cons (pv 0) (pa_cons (pv 1) (pa_cons (pv 2) pa_nil))))))), ?_⟩
    refine ⟨x, rfl, y, rfl, x, y, dx, dy, rfl, hx, hy, fun hb d H2 e h2 => k1 hb d H2 e h2, fun ha hb d H2 e h2 => k2 ha hb d H2 e h2, fun ha hb H2 e2 => ?_⟩
    obtain ⟨ds, hz, hsm, q⟩ := k3 ha hb
    obtain ⟨n, rfl, _⟩ := isSz_int ha
    obtain ⟨m, rfl, _⟩ := isSz_int hb
    rw [it_intE hx, it_intE hy]
    refine s_ret (EvP.ev (v := .bl (form n m ds)) (evp_call (sp := spForm) (E := E0) (eap_three (P := Is (.int n)) (R := Is (.int m)) (S := Va ds) (evp_var rfl rfl mono_is) (evp_var rfl rfl mono_is) (evp_var (v := z) rfl (mono_va _ _ _ e2 hz) mono_va) mono_is mono_is) fun vs H1 ⟨a, b, c, e, ha, hb, hc⟩ Q q E => ⟨n, m, c, ds, by rw [e, show a = _ from ha, show b = _ from hb], hc, hsm, q⟩)) fun H3 e3 => q _ H3 (e2.trans e3) rfl
end
end K20
namespace K20
open PySem PySem.Spec PyProof.Rows L2 Evl RZ Ev2 TA5

section
variable {P : Program} {w : World} {K : PySem.W.Frag} {mg : Str → Option Value} {base : Heap} {tk : Tok} {k : Nat} {CV iV CP iP : Addr}
def cellsL (l r : Int) (ds : List PyData) : List (Int × Int) := accP (fun i j => cov (i : Int) (j : Int) ds) r.toNat l.toNat
def spCells (C CF : Addr) : Sp := fun vs H Q E => ∃ (x y z : V) (dx dy : PyData), vs = [x, y, z] ∧ It H x dx ∧ It H y dy ∧ (isSz dx = false → Rz "value" C x H E) ∧ (isSz dx = true → isSz dy = false → Rz "value" C y H E) ∧
  (isSz dx = true → isSz dy = true → ∃ ds, Va ds z H ∧ SmallV ds ∧ (form (dI dx) (dI dy) ds = false → Rz "place" CF z H E) ∧ (form (dI dx) (dI dy) ds = true → ∀ v H2, Evl.Ex H H2 → Cs (cellsL (dI dx) (dI dy) ds) v H2 → Q v H2))
theorem ok_cells {f f1 f2 : Addr} {fd fd1 fd2 : FuncData} (EP : EPT K mg CP iP) (D_is_where : Df K mg "is_where" s_is_where ["left", "right", "value"] f1 fd1) (G_is_where : FnOk P w K mg base (L2.CX P w) (k + 6) f1 fd1 ["left", "right", "value"] (spIsWhere CV))
    (D_covers : Df K mg "covers" s_covers ["where", "left", "right"] f2 fd2) (G_covers : FnOk P w K mg base CX0 (k + 1) f2 fd2 ["where", "left", "right"] spCovers) (T : Txt mg tk) (D : Df K mg "cells" s_cells ["left", "right", "where"] f fd) :
    FnOk P w K mg base (L2.CX P w) (k + 7) f fd ["left", "right", "where"] (spCells CV CP) := by
  refine D.F.okX sc_cells (fun vs H Q E h => ?_) (fun cdv A outer s H vs Q E hr h => ?_)
  · obtain ⟨x, y, z, dx, dy, rfl, _⟩ := h
    rfl
  · obtain ⟨x, y, z, dx, dy, rfl, hx, hy, k1, k2, k3⟩ := h
    have nd := sc_cells.nd
    refine ⟨_, (pss_cons (ps_if (pt_not (pt_val (pe_callS G_is_where (hr.mono (by omega)) (by rfl) D_is_where.g D_is_where.F.kp D_is_where.b (fun σ => passAt (takes_of rfl rfl rfl rfl) σ) (pa_cons (pv 0) (pa_cons (pv 1) (pa_cons (pv 2) pa_nil)))))) (pss_one (ErrPL.ps_raiseErr rfl EP hr (takes_of rfl rfl rfl rfl) (pa_cons (pv 2) pa_nil))) pss_nil) (pss_one (ps_ret (pe_lc2 (wi := iRng1 _) (g := gName 3) (wi1 := iRng1 _) (g1 := gName 4) (own := [("a", 3), ("b", 4)]) (vs1 := [4]) (by rfl) nd (pi_range1 (by rfl) T.n_range (pa_cons (pv 0) pa_nil)) (blkOk_by (by kernel_rfl)) (by decide) (fun _ _ _ _ _ => (pg_name (i := 3) nd rfl (Or.inl rfl))) (fun _ _ _ _ _ => pts_nil) (fun _ _ _ _ _ => (pi_range1 (by rfl) T.n_range (pa_cons (pv 1) pa_nil))) (fun _ _ _ _ _ => (pg_name (i := 4) nd rfl (Or.inl rfl))) (fun _ _ _ _ _ => (pts_one (pt_val (pe_call G_covers (hr.mono (by omega)) (by rfl) D_covers.g D_covers.F.kp D_covers.b .nil pass0 (pa_cons (pv 2) (pa_cons (pv 3) (pa_cons (pv 4) pa_nil))))))) (fun _ _ _ _ _ => (pe_tup (pa_cons (pv 3) (pa_cons (pv 4) pa_nil)))))))), ?_⟩
    refine ⟨x, rfl, y, rfl, z, rfl, x, y, z, dx, dy, rfl, hx, hy, fun hb d H2 e h2 => k1 hb d H2 e h2, fun ha hb d H2 e h2 => k2 ha hb d H2 e h2, fun ha hb => ?_⟩
    obtain ⟨ds, hz, hsm, kf, q⟩ := k3 ha hb
    refine ⟨ds, hz, hsm, fun v H1 e1 hv => ?_⟩
    subst hv
    refine ⟨_, rfl, ?_⟩
    cases hf : form (dI dx) (dI dy) ds with
    | false =>
      rw [if_pos (show (!false) = true from rfl)]
      exact ⟨_, rfl, z, rfl, fun d hd => kf hf d _ (e1.trans (Ex.new hd)) upd_same⟩
    | true =>
      rw [if_neg (show ¬ (!true) = true by decide)]
      obtain ⟨n, rfl, _, hn⟩ := isSz_int ha
      obtain ⟨m, rfl, _, hm⟩ := isSz_int hb
      have hz1 := mono_va _ _ _ e1 hz
      rw [it_intE hx, it_intE hy]
      have hc : EvP _ (start N_cells [.int n, .int m, z]) H1 (Cs (accP (fun i j => cov (i : Int) (j : Int) ds) m n)) := evp_lc2c (vs := [3, 4]) (vs1 := [4]) (g := gName 3) (g1 := gName 4)
        (wi_rng (ta := tCons (tVar 0) tNil) (n := n) (fun H2 e2 Q q => ⟨_, rfl, q _ H2 (Ex.refl _) rfl⟩) (by omega)) (by omega) (by omega : m ≤ 100)
        (Sg := fun i σ2 _ => σ2 = [some (.int n), some (.int m), some z, some (.int (i : Int)), none]) (fun i y H2 hi e2 hy => by subst hy; exact g_name (i := 3) ⟨rfl, rfl⟩)
        (fun i σ2 H2 hi e2 hs => by subst hs; exact wi_rng (ta := tCons (tVar 1) tNil) (n := m) (fun H2 e2 Q q => ⟨_, rfl, q _ H2 (Ex.refl _) rfl⟩) (by omega))
        (Sg1 := fun i j σ2 _ => σ2 = [some (.int n), some (.int m), some z, some (.int (i : Int)), some (.int (j : Int))]) (fun i j σ2 y H2 H3 hi hj e2 hs fx hy => by subst hs; subst hy; exact g_name (i := 4) ⟨rfl, rfl⟩)
        (fun i j σ3 H2 hi hj e2 hs => by
          subst hs
          exact et_bl (evp_call (sp := spCovers) (E := E0) (S := Is (.bl (cov (i : Int) (j : Int) ds))) (eap_three (P := Va ds) (R := Is (.int (i : Int))) (S := Is (.int (j : Int))) (evp_var (i := 2) (v := z) rfl (mono_va _ _ _ e2 hz1) mono_va) (evp_var (i := 3) rfl rfl mono_is) (evp_var (i := 4) rfl rfl mono_is) mono_va mono_is) fun vs H1 ⟨a, b, c, e, ha, hb, hc⟩ Q q E => ⟨n, m, i, j, a, ds, by rw [e, show b = _ from hb, show c = _ from hc], ha, hf, q⟩))
        (fun i j σ3 H2 hi hj e2 hs => by subst hs; exact evp_pr (evp_var (i := 3) rfl rfl mono_is) (evp_var (i := 4) rfl rfl mono_is))
      exact hc H1 (Ex.refl _) _ fun v H2 e2 hv => q hf v H2 (e1.trans e2) hv
end
end K20
namespace K20
open PySem PySem.Spec PyProof.Rows L2 Evl RZ Ev2 TA5
theorem u65 {k : Nat} {A : Around} (r : Room k A) : A.units + 65 < cLine := by have := r.un; omega
abbrev rLstQ (K : PySem.W.Frag) : List V → Hp → VK → Prop := fun xs H Q => ∃ p ys, xs = [.ref p] ∧ (SqL K H p ys ∨ SqT K H p ys) ∧ ∀ l, H l = none → Q (.ref l) (upd H l (.lst ys))
/-! ### data that are looked at whole -/
def okD (d : PyData) : Bool := d.canLay0 && (SmallD d && decide (d.depth ≤ 10))
theorem lay_all : ∀ {ds : List PyData}, (∀ d ∈ ds, d.canLay0 = true) → PyData.canLayAll0 ds = true
  | [], _ => rfl
  | d :: ds, h => by
    show (d.canLay0 && PyData.canLayAll0 ds) = true
    rw [h d (List.mem_cons_self ..), lay_all fun e he => h e (List.mem_cons_of_mem _ he)]; rfl
theorem lay_of : ∀ {ds : List PyData}, PyData.canLayAll0 ds = true → ∀ d ∈ ds, d.canLay0 = true
  | [], _, _, h => nomatch h
  | e :: ds, h, d, hd => by
    have h' : (e.canLay0 && PyData.canLayAll0 ds) = true := h
    rw [Bool.and_eq_true] at h'
    rcases List.mem_cons.mp hd with rfl | hd
    · exact h'.1
    · exact lay_of h'.2 d hd
theorem depth_all {n : Nat} : ∀ {ds : List PyData}, (∀ d ∈ ds, d.depth ≤ n) → PyData.depthAll ds ≤ n
  | [], _ => Nat.zero_le _
  | d :: ds, h => by
    show max d.depth (PyData.depthAll ds) ≤ n
    exact Nat.max_le.mpr ⟨h d (List.mem_cons_self ..), depth_all fun e he => h e (List.mem_cons_of_mem _ he)⟩
theorem depth_of {n : Nat} : ∀ {ds : List PyData}, PyData.depthAll ds ≤ n → ∀ d ∈ ds, d.depth ≤ n
  | [], _, _, h => nomatch h
  | e :: ds, h, d, hd => by
    have h' : max e.depth (PyData.depthAll ds) ≤ n := h
    rcases List.mem_cons.mp hd with rfl | hd
    · omega
    · exact depth_of (by omega) d hd
theorem sh_of {d : PyData} (h1 : d.canLay0 = true) (h2 : d.depth ≤ 64) : SeqAt.shaped d = true := by
  unfold SeqAt.shaped
  rw [h1, decide_eq_true h2]; rfl
structure OkV (ds : List PyData) : Prop where
  len : ds.length ≤ 50
  ok : ∀ d ∈ ds, okD d = true
theorem okD_lay {d : PyData} (h : okD d = true) : d.canLay0 = true := by unfold okD at h; simp only [Bool.and_eq_true] at h; exact h.1
theorem okD_small {d : PyData} (h : okD d = true) : SmallD d = true := by unfold okD at h; simp only [Bool.and_eq_true] at h; exact h.2.1
theorem okD_depth {d : PyData} (h : okD d = true) : d.depth ≤ 10 := by unfold okD at h; simp only [Bool.and_eq_true, decide_eq_true_eq] at h; exact h.2.2
theorem OkV.small {ds : List PyData} (h : OkV ds) : SmallV ds := fun d hd => okD_small (h.ok d hd)
theorem OkV.lay {ds : List PyData} (h : OkV ds) : PyData.canLayAll0 ds = true := lay_all fun d hd => okD_lay (h.ok d hd)
theorem OkV.depth {ds : List PyData} (h : OkV ds) : PyData.depthAll ds ≤ 10 := depth_all fun d hd => okD_depth (h.ok d hd)
theorem OkV.sh {ds : List PyData} (h : OkV ds) : SeqAt.shaped (.tuple ds) = true := sh_of h.lay (by show PyData.depthAll ds + 1 ≤ 64; have := h.depth; omega)
theorem OkV.at {ds : List PyData} (h : OkV ds) (i : Nat) : okD (ds.getD i .none) = true := by
  rw [List.getD_eq_getElem?_getD]
  cases e : ds[i]? with
  | none => rfl
  | some d => exact h.ok d (List.mem_of_getElem? e)
theorem sh_it {d : PyData} (h : okD d = true) : SeqAt.shaped d = true := sh_of (okD_lay h) (by have := okD_depth h; omega)
mutual
theorem eqv_self : ∀ d : PyData, d.canLay0 = true → PyData.eqv d d = true
  | .none, _ => rfl
  | .bool b, _ => by cases b <;> rfl
  | .int i, _ => by show (i == i) = true; simp
  | .str x, _ => by show (x == x) = true; simp
  | .list xs, h => eqvs_self xs h
  | .tuple xs, h => eqvs_self xs h
  | .dict _, h => by cases h
theorem eqvs_self : ∀ ds : List PyData, PyData.canLayAll0 ds = true → PyData.eqvAll ds ds = true
  | [], _ => rfl
  | d :: ds, h => by
    have h' : (d.canLay0 && PyData.canLayAll0 ds) = true := h
    rw [Bool.and_eq_true] at h'
    show (PyData.eqv d d && PyData.eqvAll ds ds) = true
    rw [eqv_self d h'.1, eqvs_self ds h'.2]; rfl
end
theorem eqvAll_nil {ds : List PyData} : PyData.eqvAll ds [] = ds.isEmpty := by cases ds <;> rfl
theorem ints_lay (is : List Int) : PyData.canLayAll0 (is.map PyData.int) = true := lay_all fun d hd => by obtain ⟨i, _, rfl⟩ := List.mem_map.mp hd; rfl
theorem ints_depth (is : List Int) : PyData.depthAll (is.map PyData.int) ≤ 0 := depth_all fun d hd => by obtain ⟨i, _, rfl⟩ := List.mem_map.mp hd; exact Nat.le_refl _
theorem eqv_ints : ∀ as bs : List Int, PyData.eqvAll (as.map PyData.int) (bs.map PyData.int) = decide (as = bs)
  | [], [] => rfl
  | [], _ :: _ => rfl
  | _ :: _, [] => rfl
  | a :: as, b :: bs => by
    show ((a == b) && PyData.eqvAll (as.map PyData.int) (bs.map PyData.int)) = _
    rw [eqv_ints as bs]
    by_cases h : a = b
    · subst h; simp
    · simp [h]
/-- two ascending lists of the same ints are one -/
theorem asc_one : ∀ {as bs : List Int}, as.Pairwise (· < ·) → bs.Pairwise (· < ·) → (∀ k, k ∈ as ↔ k ∈ bs) → as = bs
  | [], [], _, _, _ => rfl
  | [], b :: bs, _, _, h => by have := (h b).mpr (List.mem_cons_self ..); cases this
  | a :: as, [], _, _, h => by have := (h a).mp (List.mem_cons_self ..); cases this
  | a :: as, b :: bs, pa, pb, h => by
    rw [List.pairwise_cons] at pa pb
    have e : a = b := by
      rcases List.mem_cons.mp ((h a).mp (List.mem_cons_self ..)) with h1 | h1
      · exact h1
      · rcases List.mem_cons.mp ((h b).mpr (List.mem_cons_self ..)) with h2 | h2
        · exact h2.symm
        · have := pa.1 b h2; have := pb.1 a h1; omega
    subst e
    rw [asc_one pa.2 pb.2 fun k => ⟨fun hk => ?_, fun hk => ?_⟩]
    · rcases List.mem_cons.mp ((h k).mp (List.mem_cons_of_mem _ hk)) with h1 | h1
      · have := pa.1 k hk; omega
      · exact h1
    · rcases List.mem_cons.mp ((h k).mpr (List.mem_cons_of_mem _ hk)) with h1 | h1
      · have := pb.1 k hk; omega
      · exact h1
theorem asc_pw : ∀ {as : List Int}, ascI as = true ↔ as.Pairwise (· < ·)
  | [] => by simp [ascI]
  | [a] => by simp [ascI]
  | a :: b :: r => by
    have ih := asc_pw (as := b :: r)
    have : ascI (a :: b :: r) = (decide (a < b) && ascI (b :: r)) := rfl
    rw [this, Bool.and_eq_true, ih, decide_eq_true_eq, List.pairwise_cons (a := a) (l := b :: r)]
    refine ⟨fun ⟨h, p⟩ => ⟨fun c hc => ?_, p⟩, fun ⟨h, p⟩ => ⟨h b (List.mem_cons_self ..), p⟩⟩
    rcases List.mem_cons.mp hc with rfl | hc
    · exact h
    · rw [List.pairwise_cons] at p
      have := p.1 c hc; omega
theorem asc_is {as bs : List Int} (pb : bs.Pairwise (· < ·)) (h : ∀ k, k ∈ bs ↔ k ∈ as) : decide (as = bs) = ascI as := by
  by_cases ha : ascI as = true
  · rw [ha, asc_one (asc_pw.mp ha) pb fun k => (h k).symm]; simp
  · have : ¬ as = bs := fun e => ha (by rw [e]; exact asc_pw.mpr pb)
    rw [decide_eq_false this]; simpa using ha
/-! ### a comprehension with a test -/
def WiX (wi : TI) (σ : L2.St) (H : Hp) (n : Nat) (item : Nat → V → Hp → Prop) : Prop := ∀ H1, Evl.Ex H H1 → ∀ R : L2.It → Hp → Prop, (∀ J H2, Evl.Ex H1 H2 → (∀ i H3, Evl.Ex H2 H3 → (i < n → J.go i H3) ∧ (n ≤ i → J.stop i H3) ∧ (i < n → ∀ x H', J.yld i H3 x H' → Evl.Ex H3 H' ∧ item i x H')) → R J H2) → wi σ H1 R
section
variable {K : PySem.W.Frag} {σ : L2.St} {H : Hp} {ta tb te tl : TE} {tt : TT}
theorem wx_list {a : Addr} {xs : List V} (h : Ev tl σ H (.ref a)) (hs : H a = some (.lst xs)) : WiX (iList K tl) σ H xs.length (fun i x _ => xs[i]? = some x) := fun H1 e R k =>
  h H1 e _ fun H2 e2 => ⟨a, rfl, ⟨xs, sq_of ((e.trans e2) _ _ hs)⟩, k _ H2 e2 fun i H3 e3 => by
    have h3 := sq_of (K := K) ((e.trans e2).trans e3 _ _ hs)
    exact ⟨fun hi => ⟨xs, _, h3, List.getElem?_eq_getElem hi⟩, fun hi => ⟨xs, h3, hi⟩, fun hi x H' ⟨y1, y2⟩ => by rw [y1]; exact ⟨Ex.refl _, y2 xs h3⟩⟩⟩
theorem wx_tup {n : Nat} {Pi : Nat → HP} (h : EvP tl σ H (TupP n Pi)) (m : ∀ i, Mono (Pi i)) : WiX (iTup K tl) σ H n Pi := fun H1 e R k =>
  h H1 e _ fun v H2 e2 ⟨a, xs, hv, ha, hl, hi⟩ => ⟨a, hv, ⟨xs, st_of ha⟩, k _ H2 e2 fun i H3 e3 => by
    have h3 := st_of (K := K) (e3 _ _ ha)
    exact ⟨fun hlt => ⟨xs, _, h3, List.getElem?_eq_getElem (by omega)⟩, fun hlt => ⟨xs, h3, by omega⟩, fun hlt x H' ⟨y1, y2⟩ => by rw [y1]; exact ⟨Ex.refl _, m i _ _ _ e3 (hi i x (y2 xs h3))⟩⟩⟩
theorem evp_lcF {wi : TI} {g : TG} {vs : List Nat} {n : Nat} {item : Nat → V → Hp → Prop} {Sg : Nat → L2.St → Hp → Prop} {f : Nat → Bool} {Pi : Nat → HP} (hw : WiX wi σ H n item) (hn : n ≤ 40000)
    (hg : ∀ i x H1, i < n → Evl.Ex H H1 → item i x H1 → GP g x (wipe σ vs) H1 (fun σ2 H2 => wipe σ2 vs = wipe σ vs ∧ Sg i σ2 H2)) (ht : ∀ i σ2 H1, i < n → Evl.Ex H H1 → Sg i σ2 H1 → EvT tt σ2 H1 (f i))
    (he : ∀ i σ2 H1, i < n → Evl.Ex H H1 → Sg i σ2 H1 → EvP te σ2 H1 (Pi i)) (m : ∀ i, MonoF (Pi i)) :
    EvP (tLc wi g tt te vs) σ H (fun v H1 => ∃ p ys, v = .ref p ∧ H1 p = some (.lst ys) ∧ Paired (fun y i => Pi i y H1) ys ((List.range n).filter f)) := fun H1 e Q q => hw H1 e _ fun J H2 e2 T => fun D hD => by
  refine ⟨fun i k H3 => k = n - i ∧ i ≤ n ∧ Evl.Ex H2 H3 ∧ ∃ ys, H3 D = some (.lst ys) ∧ Paired (fun y i => Pi i y H3) ys ((List.range i).filter f), ⟨n, by simp, Nat.zero_le _, Ex.new hD, [], upd_same, .nil⟩, ?_⟩
  rintro i k H3 ⟨rfl, hi, ex, ys, hys, hP⟩
  obtain ⟨tg, ts, ty⟩ := T i H3 ex
  by_cases hlt : i < n
  · refine .inr ⟨tg hlt, fun H4 => Evl.Ex H2 H4 ∧ ∃ ys, H4 D = some (.lst ys) ∧ Paired (fun y i => Pi i y H4) ys ((List.range (i + 1)).filter f), fun H4 ⟨a, b⟩ => ⟨n - (i + 1), by omega, rfl, by omega, a, b⟩, fun x H4 y => ?_⟩
    obtain ⟨e4, it⟩ := ty hlt x H4 y
    have ex4 := ((e.trans e2).trans ex).trans e4
    refine hg i x H4 hlt ex4 it _ fun σ2 ⟨hw2, hs⟩ => ⟨hw2, ?_⟩
    refine ht i σ2 H4 hlt ex4 hs H4 (Ex.refl _) _ fun H5 e5 => ?_
    cases hb : f i with
    | true =>
      rw [if_pos rfl]
      refine he i σ2 H4 hlt ex4 hs H5 e5 _ fun z H6 e6 hz => ?_
      have hys6 := e6 _ _ (e5 _ _ (e4 _ _ hys))
      have hl6 : ys.length ≤ i := by
        rw [Paired.len hP]
        exact Nat.le_trans (List.length_filter_le _ _) (by simp)
      refine ⟨_, hys6, sz_lt (by omega), Ex.mut (((ex.trans e4).trans e5).trans e6) hD, _, upd_same, ?_⟩
      rw [List.range_succ, List.filter_append, List.filter_cons, if_pos hb]
      exact Paired.impl (fun _ j h => m j _ _ _ (Fx.lst hys6) h) (Paired.snoc (Paired.impl (fun _ j h => (m j).mono _ _ _ ((e4.trans e5).trans e6) h) hP) hz)
    | false =>
      rw [if_neg (by decide)]
      refine ⟨(ex.trans e4).trans e5, ys, e5 _ _ (e4 _ _ hys), ?_⟩
      rw [List.range_succ, List.filter_append, List.filter_cons, if_neg (by rw [hb]; decide)]
      simp only [List.filter_nil, List.append_nil]
      exact Paired.impl (fun _ j h => (m j).mono _ _ _ (e4.trans e5) h) hP
  · have hinn : i = n := by omega
    subst hinn
    exact .inl ⟨ts (Nat.le_refl _), q _ H3 (e2.trans ex) ⟨D, ys, rfl, hys, hP⟩⟩
end
section
variable {P : Program} {w : World} {K : PySem.W.Frag} {mg : Str → Option Value} {base : Heap} {tk : Tok} {k : Nat}
end
end K20
namespace K20
open PySem PySem.Spec PyProof.Rows L2 Evl RZ Ev2 TA5

/-- a list of such things -/
def Ls (xs : List V) : HP := fun v H => ∃ p, v = .ref p ∧ H p = some (.lst xs)
theorem mono_ls {xs : List V} : Mono (Ls xs) := fun _ _ _ e ⟨p, h1, h2⟩ => ⟨p, h1, e _ _ h2⟩
def Ts (xs : List V) : HP := fun v H => ∃ p, v = .ref p ∧ H p = some (.tup xs)
theorem mono_ts {xs : List V} : Mono (Ts xs) := fun _ _ _ e ⟨p, h1, h2⟩ => ⟨p, h1, e _ _ h2⟩
theorem fls_ints {n : Int} : ∀ {xs : List V} {es : List PyData}, Paired fl xs es → es.all (isB n) = true → xs = (es.map dI).map V.int ∧ es = (es.map dI).map PyData.int
  | _, _, .nil, _ => ⟨rfl, rfl⟩
  | x :: xs, d :: es, .cons h t, hb => by
    rw [List.all_cons, Bool.and_eq_true] at hb
    obtain ⟨i, rfl, _⟩ := isB_int hb.1
    obtain ⟨h1, h2⟩ := fls_ints t hb.2
    rw [fl_int h]
    exact ⟨by show V.int i :: xs = V.int i :: _; rw [← h1], by show PyData.int i :: es = PyData.int i :: _; rw [← h2]⟩
def inW (d : PyData) : Bool := [PyData.str "all", .str "left", .str "right", .str "cell"].any fun z => PyData.eqv z d
theorem inW_str {d : PyData} (h : inW d = true) : ∃ w : Str, d = .str w ∧ (w = "all" ∨ w = "left" ∨ w = "right" ∨ w = "cell") := by
  cases d with
  | str w =>
    refine ⟨w, rfl, ?_⟩
    have h' : ((("all" : Str) == w) || ((("left" : Str) == w) || ((("right" : Str) == w) || ((("cell" : Str) == w) || false)))) = true := h
    simp only [Bool.or_eq_true, beq_iff_eq, Bool.or_false] at h'
    rcases h' with h | h | h | h
    · exact .inl h.symm
    · exact .inr (.inl h.symm)
    · exact .inr (.inr (.inl h.symm))
    · exact .inr (.inr (.inr h.symm))
  | _ => cases h
theorem inW_word {w : Str} (h : inW (.str w) = false) : ¬ w = "all" ∧ ¬ w = "left" ∧ ¬ w = "right" ∧ ¬ w = "cell" :=
  ⟨fun e => by subst e; exact absurd h (by decide +kernel), fun e => by subst e; exact absurd h (by decide +kernel), fun e => by subst e; exact absurd h (by decide +kernel), fun e => by subst e; exact absurd h (by decide +kernel)⟩
theorem form_out {l r : Int} {ds : List PyData} (h : inW (ds.getD 0 .none) = false) : form l r ds = false := by
  cases ds with
  | nil => rfl
  | cons d rest =>
    cases d with
    | str w =>
      obtain ⟨h1, h2, h3, h4⟩ := inW_word h
      rw [form_cons, if_neg h1, if_neg h2, if_neg h3, decide_eq_false h4]; rfl
    | _ => rfl
theorem isVs_no {n : Int} {d : PyData} (h : isTup d = false ∨ PyData.eqv d (.tuple []) = true) : isVs n d = false := by
  cases d with
  | tuple es =>
    rcases h with h | h
    · cases h
    · have h' : PyData.eqvAll es [] = true := h
      rw [eqvAll_nil] at h'
      simp [isVs, h']
  | _ => rfl
section
variable {K : PySem.W.Frag} {w : World} {σ : L2.St} {H : Hp} {ta tb te tl : TE} {tt : TT} {P : HP}
theorem evp_ofL {xs : List V} (h : EvL te σ H xs) : EvP te σ H (Ls xs) := fun H1 e Q q => h H1 e Q fun p H2 _ e2 hp => q _ H2 e2 ⟨p, rfl, hp⟩
theorem evp_ofU {xs : List V} (h : EvU te σ H xs) : EvP te σ H (Ts xs) := fun H1 e Q q => h H1 e Q fun p H2 _ e2 hp => q _ H2 e2 ⟨p, rfl, hp⟩
theorem evp_notInW {d : PyData} (ha : EvP ta σ H (fun v H => It H v d)) (hb : EvP tb σ H (Ls [.str "all", .str "left", .str "right", .str "cell"])) (hd : okD d = true) : EvP (tOp (rNotInD K) ta tb) σ H (Is (.bl (!inW d))) :=
  evp_op ha hb mono_it fun x y H1 _ hx ⟨p, hy, hp⟩ Q q => by
    subst hy
    exact ⟨d, [.str "all", .str "left", .str "right", .str "cell"], it_dp hx, .lst (sq_of hp) (.cons (.str _) (.cons (.str _) (.cons (.str _) (.cons (.str _) .nil)))), sh_it hd, by decide +kernel, q _ H1 (Ex.refl _) rfl⟩
theorem evp_eq0 {d : PyData} (ha : EvP ta σ H P) (m : Mono P) (hp : ∀ v H1, P v H1 → Dp K H1 v d) (s1 : SeqAt.shaped d = true) : EvP (tOp (rEqD K) ta (tTup tNil)) σ H (Is (.bl (PyData.eqv d (.tuple [])))) :=
  evp_eqD (R := Ts []) ha (evp_ofU (eu_tup ea_nil (by decide))) m hp (fun v H1 ⟨p, h1, h2⟩ => by subst h1; exact .tup (st_of h2) .nil) s1 rfl
theorem it_tup {es : List PyData} {v : V} (h : It H v (.tuple es)) : ∃ a xs, v = .ref a ∧ H a = some (.tup xs) ∧ Paired fl xs es := by
  cases h with
  | flat h => cases v <;> first | exact h.elim | (cases h; done)
  | tup h p => exact ⟨_, _, rfl, h, p⟩
theorem it_tupP {es : List PyData} {v : V} (h : It H v (.tuple es)) : TupP es.length (fun i v _ => fl v (es.getD i .none)) v H := by
  obtain ⟨a, xs, rfl, ha, p⟩ := it_tup h
  exact tup_fl p ha
theorem evp_list {xs : List V} (h : EvP te σ H (Ts xs)) : EvP (tCB (rLstQ K) (tCons te tNil)) σ H (Ls xs) := fun H1 e Q q =>
  h H1 e _ fun v H2 e2 ⟨p, hv, hp⟩ => by
    subst hv
    exact ⟨p, xs, rfl, .inr (st_of hp), fun l hl => q _ _ (e2.trans (Ex.new hl)) ⟨l, rfl, upd_same⟩⟩
def Srt (is : List Int) : HP := fun v H => ∃ (p : Addr) (ns : List Int), v = .ref p ∧ H p = some (.lst (ns.map V.int)) ∧ ns.Pairwise (· < ·) ∧ ∀ k, k ∈ ns ↔ k ∈ is
theorem evp_sorted {is : List Int} (h : EvP te σ H (Ts (is.map V.int))) (hl : is.length ≤ 50) : EvP (tCB (rSortedSet w) (tCons (tCB (TA5.rSetTI K w) (tCons te tNil)) tNil)) σ H (Srt is) := fun H1 e Q q =>
  h H1 e _ fun v H2 e2 ⟨p, hv, hp⟩ => by
    subst hv
    refine ⟨p, is, rfl, st_of hp, by omega, fun a c ha hc => ?_⟩
    refine ⟨a, _, c, rfl, upd_same, by omega, fun ns p' pw mem _ hp' => ?_⟩
    exact q _ _ ((e2.trans (Ex.new ha)).trans (Ex.new hp')) ⟨p', ns, rfl, upd_same, pw, fun k => by rw [mem k]; simp⟩
theorem ints_dp : ∀ is : List Int, DpAll K H (is.map V.int) (is.map PyData.int)
  | [] => .nil
  | i :: is => .cons (.int i) (ints_dp is)
theorem ints_sh (is : List Int) : SeqAt.shaped (.list (is.map PyData.int)) = true := sh_of (ints_lay is) (by show PyData.depthAll _ + 1 ≤ 64; have := ints_depth is; omega)
theorem evp_asc {is : List Int} (ha : EvP ta σ H (Ls (is.map V.int))) (hb : EvP tb σ H (Srt is)) : EvP (tOp (rEqD K) ta tb) σ H (Is (.bl (ascI is))) :=
  evp_op ha hb mono_ls fun x y H1 _ ⟨p, hx, hp⟩ ⟨p', ns, hy, hp', pw, mem⟩ Q q => by
    subst hx
    subst hy
    refine ⟨.list (is.map PyData.int), .list (ns.map PyData.int), .lst (sq_of hp) (ints_dp is), .lst (sq_of hp') (ints_dp ns), ints_sh is, ints_sh ns, q _ H1 (Ex.refl _) ?_⟩
    show V.bl (PyData.eqvAll (is.map PyData.int) (ns.map PyData.int)) = _
    rw [eqv_ints, asc_is pw mem]
theorem bad_dp {es : List PyData} : ∀ {ys : List V} {js : List Nat}, Paired (fun y i => fl y (es.getD i .none)) ys js → DpAll K H ys (js.map fun i => es.getD i .none)
  | _, _, .nil => .nil
  | _, _, .cons h t => .cons (fl_dp h) (bad_dp t)
end
theorem filter_none {α : Type} (f : α → Bool) (d : α) (ds : List α) : (((List.range ds.length).filter fun i => !f (ds.getD i d)).map fun i => ds.getD i d).isEmpty = ds.all f := by
  rw [← all_range f d ds]
  generalize List.range ds.length = js
  induction js with
  | nil => rfl
  | cons j js ih =>
    rw [List.all_cons, List.filter_cons]
    cases f (ds.getD j d) with
    | true => simpa using ih
    | false => simp
section
variable {P : Program} {w : World} {K : PySem.W.Frag} {mg : Str → Option Value} {base : Heap} {tk : Tok} {k : Nat}
end
end K20
namespace K20
open PySem PySem.Spec PyProof.Rows L2 Evl RZ Ev2 TA5
theorem u1 {k : Nat} {A : Around} (r : Room k A) : A.units + 1 < cLine := by have := r.un; omega
theorem all_sh : SeqAt.shaped (.tuple [.str "all"]) = true := by decide +kernel
section
variable {P : Program} {w : World} {K : PySem.W.Frag} {mg : Str → Option Value} {base : Heap} {tk : Tok} {k : Nat}
theorem eqv_all {w : Str} {rest : List PyData} : PyData.eqv (.tuple (.str w :: rest)) (.tuple [.str "all"]) = (decide (w = "all") && rest.isEmpty) := by
  show ((w == ("all" : Str)) && PyData.eqvAll rest []) = _
  rw [eqvAll_nil]
  rfl
end
end K20
namespace K20
open PySem PySem.Spec PyProof.Rows L2 Evl RZ Ev2 TA5

section
variable {K : PySem.W.Frag} {σ : L2.St} {H : Hp} {ta tb te : TE} {tt : TT} {ta' : TA} {s p : Addr} {xs : List Int}
theorem evd_draw {σ : L2.St} {H : Hp} {ta : TE} {s p : Addr} {xs : List Int} {m : Int} {E : XK} (hs : σ[0]? = some (some (.ref s))) (ha : ∀ H1, EvP ta σ H1 (Is (.int m))) (hm : 1 ≤ m) : EvD s p xs (tCall spDraw [] E (tCons (tVar 0) (tCons ta tNil))) σ H (BI fun r => 0 ≤ r ∧ r < m) := fun H1 e d Q q =>
  eap_two (P := Is (.ref s)) (evp_var hs rfl mono_is) (ha H1) mono_is H1 (Ex.refl _) _ fun vs H2 e2 ⟨x, y, hv, hx, hy⟩ => ⟨s, p, xs, m, by rw [hv, show x = .ref s from hx, show y = .int m from hy]; rfl, d.ex e2, hm, fun v H3 g3 d3 h3 => q v H3 ((Gs.of e2).trans g3) d3 h3⟩
theorem EvAP.one1 {v : V} (h : EvAP ta' σ H (fun vs H1 => ∃ x, vs = [x] ∧ Is v x H1)) : EvAP ta' σ H (fun vs _ => vs = [v]) := fun H1 e Q q => h H1 e Q fun vs H2 e2 ⟨x, e, hx⟩ => q vs H2 e2 (by rw [e, show x = v from hx])
theorem q_asgD {te : TE} {tz : TS} {D : Ends} {i : Nat} (h : te σ H (fun v H1 => tz D (σ.set i (some v)) H1)) : tSeq (tAsg te (gName i)) tz D σ H := h
theorem opD {r : R2} {Q : VK} (h : ta σ H fun x H1 => tb σ H1 fun y H2 => r x y H2 Q) : tOp r ta tb σ H Q := h
theorem evd_lcI {tn : TA} {vs : List Nat} {n j : Nat} (hw : ∀ H1, EvAP tn σ H1 (fun vs _ => vs = [.int (n : Int)])) (hn : n ≤ 40000) (hz : ∀ x, wipe ((wipe σ vs).set j (some x)) vs = wipe σ vs) (hj : ∀ x : V, ((wipe σ vs).set j (some x))[j]? = some (some x))
    (ht : ∀ (i : Nat), i < n → ∀ H1, Dr s p xs H1 → ∀ Q : Bool → Hp → Prop, (∀ b H2, Gs s H1 H2 → Dr s p xs H2 → Q b H2) → tt ((wipe σ vs).set j (some (.int (i : Int)))) H1 Q) :
    EvD s p xs (tLc (iRng1 tn) (gName j) tt (tVar j) vs) σ H (fun v H1 => ∃ (q : Addr) (is : List Int), v = .ref q ∧ H1 q = some (.lst (is.map V.int)) ∧ is.length ≤ n) := fun H1 e d Q q => hw H1 H1 (Ex.refl _) _ fun vs' H2 e2 hv => by
  subst hv
  refine ⟨(n : Int), rfl, by omega, by omega, fun D hD => ?_⟩
  have d2 := d.ex e2
  have hDs : D ≠ s := fun z => by obtain ⟨k, hk⟩ := d2.at_; rw [z, hk] at hD; cases hD
  have hDp : D ≠ p := fun z => by have := d2.pool; rw [← z, hD] at this; cases this
  refine ⟨fun i k H3 => k = n - i ∧ i ≤ n ∧ Gs s H2 H3 ∧ Dr s p xs H3 ∧ ∃ is : List Int, H3 D = some (.lst (is.map V.int)) ∧ is.length ≤ i, ⟨n, by simp, Nat.zero_le _, Gs.of (Ex.new hD), d2.ex (Ex.new hD), [], upd_same, Nat.le_refl _⟩, ?_⟩
  rintro i k H3 ⟨rfl, hi, ex, d3, is, hys, hl⟩
  by_cases hlt : i < n
  · refine .inr ⟨by show i < (n : Int).toNat; simpa using hlt, fun H4 => Gs s H2 H4 ∧ Dr s p xs H4 ∧ ∃ is : List Int, H4 D = some (.lst (is.map V.int)) ∧ is.length ≤ i + 1, fun H4 ⟨a, b, c⟩ => ⟨n - (i + 1), by omega, rfl, by omega, a, b, c⟩, fun x H4 y => ?_⟩
    obtain ⟨rfl, rfl⟩ := y
    refine ⟨hz _, ?_⟩
    rw [Int.zero_add]
    refine ht i hlt H4 d3 _ fun b H5 g5 d5 => ?_
    have hys5 := g5 _ _ hDs hys
    cases b with
    | true =>
      rw [if_pos rfl]
      refine ⟨_, hj _, _, hys5, sz_lt (by rw [List.length_map]; omega), ?_, ?_, is ++ [(i : Int)], by rw [upd_same, List.map_append]; rfl, by simp; omega⟩
      · intro a o ha h
        have hna : a ≠ D := fun q => by rw [q, hD] at h; cases h
        rw [upd_ne hna]
        exact g5 _ _ ha (ex _ _ ha h)
      · refine ⟨d5.ne, ?_, ?_⟩
        · obtain ⟨k, hk⟩ := d5.at_
          exact ⟨k, by rw [upd_ne hDs.symm]; exact hk⟩
        · rw [upd_ne hDp.symm]; exact d5.pool
    | false =>
      rw [if_neg (by decide)]
      exact ⟨ex.trans g5, d5, is, hys5, by omega⟩
  · have hinn : i = n := by omega
    subst hinn
    exact .inl ⟨by show (i : Int).toNat ≤ i; simp, q _ H3 ((Gs.of e2).trans ex) d3 ⟨D, is, rfl, hys, hl⟩⟩
theorem evd_tupI {n : Nat} (h : EvD s p xs te σ H (fun v H1 => ∃ (q : Addr) (is : List Int), v = .ref q ∧ H1 q = some (.lst (is.map V.int)) ∧ is.length ≤ n)) :
    EvD s p xs (tCB (rTupQ K) (tCons te tNil)) σ H (fun v H1 => ∃ is : List Int, Ts (is.map V.int) v H1 ∧ is.length ≤ n) := fun H1 e d Q q =>
  h H1 e d _ fun v H2 e2 d2 ⟨a, is, hv, hp, hl⟩ => by
    subst hv
    exact ⟨a, _, rfl, .inl ⟨sq_of hp, fun l hl' => q _ _ (e2.trans (Gs.of (Ex.new hl'))) (d2.ex (Ex.new hl')) ⟨is, ⟨l, rfl, upd_same⟩, hl⟩⟩⟩
end
theorem okD_int {i : Int} : okD (.int i) = true := rfl
theorem okD_ints {is : List Int} (h : is.length ≤ 50) : okD (.tuple (is.map PyData.int)) = true := by
  unfold okD
  have h1 : (PyData.tuple (is.map PyData.int)).canLay0 = true := ints_lay is
  have h2 : SmallD (.tuple (is.map PyData.int)) = true := decide_eq_true (by rw [List.length_map]; exact h)
  have h3 : (PyData.tuple (is.map PyData.int)).depth ≤ 10 := by show PyData.depthAll _ + 1 ≤ 10; have := ints_depth is; omega
  rw [h1, h2, decide_eq_true h3]; rfl
theorem fl_ints : ∀ is : List Int, Paired fl (is.map V.int) (is.map PyData.int)
  | [] => .nil
  | i :: is => .cons rfl (fl_ints is)
section
variable {P : Program} {w : World} {K : PySem.W.Frag} {mg : Str → Option Value} {base : Heap} {tk : Tok} {k : Nat}
theorem word_at {n : Nat} (h : n < 4) : ∃ w : Str, ([V.str "all", .str "left", .str "right", .str "cell"])[n]? = some (.str w) ∧ okD (.str w) = true := by
  match n, h with
  | 0, _ => exact ⟨_, rfl, by decide +kernel⟩
  | 1, _ => exact ⟨_, rfl, by decide +kernel⟩
  | 2, _ => exact ⟨_, rfl, by decide +kernel⟩
  | 3, _ => exact ⟨_, rfl, by decide +kernel⟩
end
end K20
namespace K20
open PySem PySem.Spec PyProof.Rows L2 Evl RZ Ev2 TA5
theorem Paired.take {α β : Type} {R : α → β → Prop} : ∀ {xs : List α} {ys : List β} (n : Nat), Paired R xs ys → Paired R (xs.take n) (ys.take n)
  | _, _, 0, _ => .nil
  | _, _, _ + 1, .nil => .nil
  | _, _, n + 1, .cons h t => .cons h (Paired.take n t)
theorem Paired.drop {α β : Type} {R : α → β → Prop} : ∀ {xs : List α} {ys : List β} (n : Nat), Paired R xs ys → Paired R (xs.drop n) (ys.drop n)
  | _, _, 0, p => p
  | _, _, _ + 1, .nil => .nil
  | _, _, n + 1, .cons _ t => Paired.drop n t
theorem Paired.app {α β : Type} {R : α → β → Prop} : ∀ {xs : List α} {ys : List β} {xs' : List α} {ys' : List β}, Paired R xs ys → Paired R xs' ys' → Paired R (xs ++ xs') (ys ++ ys')
  | _, _, _, _, .nil, p => p
  | _, _, _, _, .cons h t, p => .cons h (Paired.app t p)
/-- a thing that may stand in a tuple -/
def Th : HP := fun v H => ∃ d, It H v d ∧ okD d = true
theorem mono_th : Mono Th := fun _ _ _ e ⟨d, h, k⟩ => ⟨d, h.mono (Kx.of e), k⟩
section
variable {K : PySem.W.Frag} {σ : L2.St} {H : Hp} {ta' : TA} {ta tb te : TE} {s p : Addr} {xs : List Int}
def EvTh (ta : TA) (σ : L2.St) (H : Hp) (n : Nat) : Prop := EvAP ta σ H (fun vs H1 => vs.length = n ∧ ∀ v ∈ vs, Th v H1)
theorem th_nil : EvTh tNil σ H 0 := fun H1 e Q q => q [] H1 (Ex.refl _) ⟨rfl, fun v h => nomatch h⟩
theorem th_cons {n : Nat} (h : EvP te σ H Th) (h2 : EvTh ta' σ H n) : EvTh (tCons te ta') σ H (n + 1) := fun H1 e Q q =>
  h H1 e _ fun v H2 e2 hv => h2 H2 (e.trans e2) _ fun vs H3 e3 ⟨hl, hvs⟩ => q (v :: vs) H3 (e2.trans e3) ⟨by rw [List.length_cons, hl], fun z hz => by
    rcases List.mem_cons.mp hz with rfl | hz
    · exact mono_th _ _ _ e3 hv
    · exact hvs z hz⟩
theorem th_c {v : V} {d : PyData} (h : fl v d) (k : okD d = true) : EvP (tC v) σ H Th := evp_c.imp fun x H1 _ e => ⟨d, by rw [show x = v from e]; exact .flat h, k⟩
theorem th_neg {i : Int} : EvP (tUn (rU fun i => .int (-i)) (tC (.int i))) σ H Th := (evp_un (P := Is (.int i)) (S := Is (.int (-i))) evp_c fun x H1 _ hx Q q => ⟨i, hx, q _ H1 (Ex.refl _) rfl⟩).imp fun x H1 _ e => ⟨.int (-i), by rw [show x = _ from e]; exact .flat rfl, rfl⟩
theorem th_tup {vs : List V} {ds : List PyData} (h : EvA ta' σ H vs) (hl : vs.length ≤ 100000) (p : Paired fl vs ds) (k : okD (.tuple ds) = true) : EvP (tTup ta') σ H Th := (evp_ofU (eu_tup h hl)).imp fun x H1 _ ⟨a, e, ha⟩ => ⟨_, by rw [e]; exact .tup ha p, k⟩
theorem th_lst {vs : List V} {ds : List PyData} (h : EvA ta' σ H vs) (hl : vs.length ≤ 100000) (p : Paired fl vs ds) (k : okD (.list ds) = true) : EvP (tLst ta') σ H Th := (evp_ofL (el_lst h hl)).imp fun x H1 _ ⟨a, e, ha⟩ => ⟨_, by rw [e]; exact .lst ha p, k⟩
theorem th_all {n : Nat} (h : EvTh ta' σ H n) (hn : n ≤ 100000) : EvP (tLst ta') σ H (fun v H1 => ∃ p ys, v = .ref p ∧ H1 p = some (.lst ys) ∧ ys.length = n ∧ ∀ y ∈ ys, Th y H1) := fun H1 e Q q =>
  h H1 e _ fun vs H2 e2 ⟨hl, hvs⟩ => ⟨sz_of (by rw [hl]; exact hn), fun p hp => q _ _ (e2.trans (Ex.new hp)) ⟨p, vs, rfl, upd_same, hl, fun y hy => mono_th _ _ _ (Ex.new hp) (hvs y hy)⟩⟩
theorem evp_cat {xs ys : List V} (ha : EvP ta σ H (Ts xs)) (hb : EvP tb σ H (Ts ys)) (hl : xs.length + ys.length ≤ 100000) : EvP (tOp (rCatA K) ta tb) σ H (Ts (xs ++ ys)) :=
  evp_op ha hb mono_ts fun x y H1 _ ⟨a, hx, h1⟩ ⟨b, hy, h2⟩ Q q => by
    subst hx
    subst hy
    refine ⟨a, b, xs, ys, rfl, rfl, st_of h1, st_of h2, sz_of hl, fun e => q _ H1 (Ex.refl _) ⟨b, rfl, by rw [e]; exact h2⟩, fun _ e => q _ H1 (Ex.refl _) ⟨a, rfl, by rw [e, List.append_nil]; exact h1⟩, fun _ _ p hp => q _ _ (Ex.new hp) ⟨p, rfl, upd_same⟩⟩
theorem draw_at {m : Int} {E : XK} (hs : σ[0]? = some (some (.ref s))) (ha : EvP ta σ H (Is (.int m))) (hm : 1 ≤ m) (d : Dr s p xs H) {Q : VK} (q : ∀ v H2, Gs s H H2 → Dr s p xs H2 → BI (fun r => 0 ≤ r ∧ r < m) v H2 → Q v H2) : tCall spDraw [] E (tCons (tVar 0) (tCons ta tNil)) σ H Q :=
  eap_two (P := Is (.ref s)) (evp_var hs rfl mono_is) ha mono_is H (Ex.refl _) _ fun vs H2 e2 ⟨x, y, hv, hx, hy⟩ => ⟨s, p, xs, m, by rw [hv, show x = .ref s from hx, show y = .int m from hy]; rfl, d.ex e2, hm, fun v H3 g3 d3 h3 => q v H3 ((Gs.of e2).trans g3) d3 h3⟩
theorem q_par3 {t1 t2 t3 : TE} {i j l : Nat} {tz : TS} {D : Ends} (h : t1 σ H fun x H1 => t2 σ H1 fun y H2 => t3 σ H2 fun z H3 => ∃ u v w, [x, y, z] = [u, v, w] ∧ tz D (((σ.set i (some u)).set j (some v)).set l (some w)) H3) : tSeq (tPar3 i j l (tCons t1 (tCons t2 (tCons t3 tNil)))) tz D σ H := h
theorem q_asgG {te : TE} {g : TG} {tz : TS} {D : Ends} (h : te σ H fun v H1 => g v σ H1 fun σ' H' => tz D σ' H') : tSeq (tAsg te g) tz D σ H := h
theorem tup3 {t1 t2 t3 : TE} {Q : VK} (h : t1 σ H fun x H1 => t2 σ H1 fun y H2 => t3 σ H2 fun z H3 => 3 ≤ sizeLine ∧ ∀ p, H3 p = none → Q (.ref p) (upd H3 p (.tup [x, y, z]))) : tTup (tCons t1 (tCons t2 (tCons t3 tNil))) σ H Q := h
theorem evp_ts {x : V} {a : Addr} {xs : List V} {i : Nat} (hs : σ[i]? = some (some (.ref a))) (ha : H a = some (.tup xs)) : EvP (tVar i) σ H (Ts xs) := evp_var hs ⟨a, rfl, ha⟩ mono_ts
theorem evp_from {a : Addr} {xs : List V} {i : Nat} {n : Nat} (hs : σ[i]? = some (some (.ref a))) (ha : H a = some (.tup xs)) (h : EvP te σ H (Is (.int (n : Int)))) : EvP (tSl (rSlA K) (tVar i) (tPart te) tNoPart) σ H (Ts (xs.drop n)) :=
  (evp_slA (K := K) (lo := some (n : Int)) (hi := none) (evp_var (P := Is (.ref a)) (i := i) hs rfl mono_is).ev (eo_some h.ev) eo_none ha).imp fun v H1 _ ⟨p, e, hp⟩ => ⟨p, e, by rw [hp, cutV_from]⟩
theorem evp_to {a : Addr} {xs : List V} {i : Nat} {n : Nat} (hs : σ[i]? = some (some (.ref a))) (ha : H a = some (.tup xs)) (h : EvP te σ H (Is (.int (n : Int)))) : EvP (tSl (rSlA K) (tVar i) tNoPart (tPart te)) σ H (Ts (xs.take n)) :=
  (evp_slA (K := K) (lo := none) (hi := some (n : Int)) (evp_var (P := Is (.ref a)) (i := i) hs rfl mono_is).ev eo_none (eo_some h.ev) ha).imp fun v H1 _ ⟨p, e, hp⟩ => ⟨p, e, by rw [hp, cutV_to]⟩
end
section
variable {P : Program} {w : World} {K : PySem.W.Frag} {mg : Str → Option Value} {base : Heap} {tk : Tok} {k : Nat}
end
end K20
namespace K20
open PySem PySem.Spec PyProof.Rows L2 Evl RZ Ev2 TA5
section
variable {P : Program} {w : World} {K : PySem.W.Frag} {mg : Str → Option Value} {base : Heap} {tk : Tok} {k : Nat} {CV iV CP iP : Addr}
end
end K20
namespace K20
open PySem PySem.Spec PyProof.Rows L2 Evl RZ Ev2 TA5

/-! ### the pairs, in two ways -/
theorem pairs_accP (F : Nat → Nat → Bool) (r : Nat) (hr : 0 < r) : ∀ l : Nat, (((List.range (l * r)).filter fun t => F (t / r) (t % r)).map fun t => (((t / r : Nat) : Int), ((t % r : Nat) : Int))) = accP F r l
  | 0 => by simp [accP]
  | l + 1 => by
    have ih := pairs_accP F r hr l
    have hd : ∀ j, j < r → (l * r + j) / r = l := fun j hj => by rw [Nat.mul_comm, Nat.mul_add_div hr, Nat.div_eq_of_lt hj]; rfl
    have hm : ∀ j, j < r → (l * r + j) % r = j := fun j hj => by rw [Nat.mul_comm, Nat.mul_add_mod, Nat.mod_eq_of_lt hj]
    rw [Nat.succ_mul, List.range_add, List.filter_append, List.map_append, ih, List.filter_map, List.map_map]
    show _ = accP F r l ++ rowP (F l) l r
    congr 1
    unfold rowP
    have e1 : ((List.range r).filter ((fun t => F (t / r) (t % r)) ∘ fun x => l * r + x)) = (List.range r).filter (F l) := List.filter_congr fun j hj => by
      have := List.mem_range.mp hj
      show F ((l * r + j) / r) ((l * r + j) % r) = _
      rw [hd j this, hm j this]
    rw [e1]
    refine List.map_congr_left fun j hj => ?_
    have := List.mem_range.mp (List.mem_filter.mp hj).1
    show ((((l * r + j) / r : Nat) : Int), (((l * r + j) % r : Nat) : Int)) = _
    rw [hd j this, hm j this]
/-- cells as data -/
def cD (cs : List (Int × Int)) : PyData := .list (cs.map fun c => .tuple [.int c.1, .int c.2])
theorem prs_dp {K : PySem.W.Frag} {H : Hp} : ∀ {ys : List V} {cs : List (Int × Int)}, Paired (fun y c => Pr c.1 c.2 y H) ys cs → DpAll K H ys (cs.map fun c => .tuple [.int c.1, .int c.2])
  | _, _, .nil => .nil
  | _, _, .cons h t => .cons (pr_dp h) (prs_dp t)
theorem cs_dp {K : PySem.W.Frag} {H : Hp} {cs : List (Int × Int)} {v : V} (h : Cs cs v H) : Dp K H v (cD cs) := by
  obtain ⟨p, ys, rfl, hp, h⟩ := h
  exact .lst (sq_of hp) (prs_dp h)
theorem cD_lay (cs : List (Int × Int)) : (cD cs).canLay0 = true := lay_all fun d hd => by obtain ⟨c, _, rfl⟩ := List.mem_map.mp hd; rfl
theorem cD_sh (cs : List (Int × Int)) : SeqAt.shaped (cD cs) = true := sh_of (cD_lay cs) (by
  show PyData.depthAll _ + 1 ≤ 64
  have := depth_all (n := 1) (ds := cs.map fun c => PyData.tuple [.int c.1, .int c.2]) fun d hd => by obtain ⟨c, _, rfl⟩ := List.mem_map.mp hd; exact Nat.le_refl _
  omega)
theorem isSz_nat {n : Nat} (h1 : 1 ≤ n) (h8 : n ≤ 8) : isSz (.int (n : Int)) = true := by
  show (decide (1 ≤ (n : Int)) && decide ((n : Int) ≤ 8)) = true
  rw [decide_eq_true (by omega), decide_eq_true (by omega)]; rfl
section
variable {K : PySem.W.Frag} {σ : L2.St} {H : Hp} {ta tb tc te : TE} {E : XK} {P R : HP} {CV : Addr}
theorem evp_pr0 {i j : Int} (h : EvP te σ H (Pr i j)) : EvP (tOp (rIxT K) te (tC (.int 0))) σ H (Is (.int i)) := fun H1 e Q q => h H1 e _ fun v H2 e2 ⟨a, hv, ha⟩ => ⟨a, _, 0, .int i, hv, rfl, st_of ha, rfl, q _ H2 e2 rfl⟩
theorem evp_pr1 {i j : Int} (h : EvP te σ H (Pr i j)) : EvP (tOp (rIxT K) te (tC (.int 1))) σ H (Is (.int j)) := fun H1 e Q q => h H1 e _ fun v H2 e2 ⟨a, hv, ha⟩ => ⟨a, _, 1, .int j, hv, rfl, st_of ha, rfl, q _ H2 e2 rfl⟩
theorem evp_fdm {t r : Nat} (hr : 0 < r) (hr8 : r ≤ 8) (ha : EvP ta σ H (Is (.int (t : Int)))) (hb : EvP tb σ H (Is (.int (r : Int)))) (hc : EvP tc σ H (Is (.int (t : Int)))) (hd : EvP te σ H (Is (.int (r : Int)))) :
    EvP (tTup (tCons (tOp (rI CDivN fun i j => .int (i.fdiv j)) ta tb) (tCons (tOp (rI (fun _ j => j ≠ 0) fun i j => .int (i.fmod j)) tc te) tNil))) σ H (Pr ((t / r : Nat) : Int) ((t % r : Nat) : Int)) := by
  have e1 : (t : Int).fdiv (r : Int) = ((t / r : Nat) : Int) := by rw [Int.fdiv_eq_ediv_of_nonneg _ (by omega)]; rfl
  have e2 : (t : Int).fmod (r : Int) = ((t % r : Nat) : Int) := by rw [Int.fmod_eq_emod_of_nonneg _ (by omega)]; rfl
  exact evp_pr (evp_is (evp_I (C := CDivN) (g := fun i j => .int (i.fdiv j)) ha hb ⟨by omega, by omega⟩) (by rw [e1])) (evp_is (evp_I (C := fun _ j => j ≠ 0) (g := fun i j => .int (i.fmod j)) hc hd (by omega)) (by rw [e2]))
/-- ["number", x] -/
theorem evp_msg {m : Str} {x : V} {i : Nat} (h : σ[i]? = some (some x)) : EvP (tLst (tCons (tC (.str m)) (tCons (tVar i) tNil))) σ H (Ls [.str m, x]) := evp_ofL (el_lst (ea_cons ev_c (ea_cons (ev_var h) ea_nil)) (show 2 ≤ 100000 by decide))
theorem num_dp {m : Str} {x : V} {d : PyData} (hx : fl x d) {v : V} {H : Hp} (h : Ls [.str m, x] v H) : Dp K H v (.list [.str m, d]) := by
  obtain ⟨p, rfl, h⟩ := h
  exact .lst (sq_of h) (.cons (.str m) (.cons (fl_dp hx) .nil))
theorem e_same {m : Str} {x : V} {d : PyData} (hx : fl x d) (hs : SeqAt.shaped (.list [.str m, d]) = true) (ha : EvP ta σ H (Ls [.str m, x])) (hb : EvP tb σ H (Ls [.str m, x])) : EvT (tTest (tOp (rNeD K) ta tb)) σ H false :=
  et_tst (evp_is (evp_neD (K := K) (d := .list [.str m, d]) (e := .list [.str m, d]) ha hb mono_ls (fun _ _ h => num_dp hx h) (fun _ _ h => num_dp hx h) hs hs) (by rw [eqv_self _ (SeqAt.canLay_of_shaped hs)]; rfl))
def Any : HP := fun _ _ => True
theorem mono_any : Mono Any := fun _ _ _ _ _ => trivial
theorem evp_any (h : EvP te σ H P) : EvP te σ H Any := h.imp fun _ _ _ _ => trivial
/-- sizes that are none, told -/
theorem odd_at {i : Nat} {x : V} (h : ([V.int 0, .int 9, .int (-1), .bl true, .non, .str "1"])[i]? = some x) : ∃ d, fl x d ∧ isSz d = false ∧ SeqAt.shaped (.list [.str "number", d]) = true := by
  match i, h with
  | 0, h => cases h; exact ⟨.int 0, rfl, rfl, by decide +kernel⟩
  | 1, h => cases h; exact ⟨.int 9, rfl, rfl, by decide +kernel⟩
  | 2, h => cases h; exact ⟨.int (-1), rfl, rfl, by decide +kernel⟩
  | 3, h => cases h; exact ⟨.bool true, rfl, rfl, by decide +kernel⟩
  | 4, h => cases h; exact ⟨.none, rfl, rfl, by decide +kernel⟩
  | 5, h => cases h; exact ⟨.str "1", rfl, rfl, by decide +kernel⟩
/-- what is due, and what is told -/
def Du (g : Bool) (z : V) (ds : List PyData) (cs : List (Int × Int)) : HP := fun v H => if g = true then Cs cs v H else (Ls [.str "fact", z] v H ∧ Va ds z H)
theorem mono_du {g : Bool} {z : V} {ds : List PyData} {cs : List (Int × Int)} : Mono (Du g z ds cs) := fun v H H' e h => by
  cases g with
  | true => exact cs_mono _ _ _ e h
  | false => exact ⟨mono_ls _ _ _ e h.1, mono_va _ _ _ e h.2⟩
def duD (g : Bool) (ds : List PyData) (cs : List (Int × Int)) : PyData := if g = true then cD cs else .list [.str "fact", .tuple ds]
theorem du_dp {g : Bool} {z : V} {ds : List PyData} {cs : List (Int × Int)} {v : V} {H : Hp} (h : Du g z ds cs v H) : Dp K H v (duD g ds cs) := by
  cases g with
  | true => exact cs_dp h
  | false =>
    obtain ⟨⟨p, rfl, hp⟩, hz⟩ := h
    exact .lst (sq_of hp) (.cons (.str _) (.cons (va_dp hz) .nil))
theorem du_sh {g : Bool} {ds : List PyData} {cs : List (Int × Int)} (hok : OkV ds) : SeqAt.shaped (duD g ds cs) = true := by
  cases g with
  | true => exact cD_sh cs
  | false =>
    refine sh_of ?_ ?_
    · show ((PyData.str "fact").canLay0 && (PyData.canLayAll0 ds && true)) = true
      rw [hok.lay]; decide +kernel
    · show max 0 (max (PyData.depthAll ds + 1) 0) + 1 ≤ 64
      have := hok.depth; omega
theorem e_du {g : Bool} {z : V} {ds : List PyData} {cs : List (Int × Int)} (hok : OkV ds) (ha : EvP ta σ H (Du g z ds cs)) (hb : EvP tb σ H (Du g z ds cs)) : EvT (tTest (tOp (rNeD K) ta tb)) σ H false :=
  et_tst (evp_is (evp_neD (K := K) ha hb mono_du (fun _ _ h => du_dp h) (fun _ _ h => du_dp h) (du_sh hok) (du_sh hok)) (by rw [eqv_self _ (SeqAt.canLay_of_shaped (du_sh hok))]; rfl))
theorem is_du {l r : Nat} {Ef : L2.St → XK} (hl : 1 ≤ l ∧ l ≤ 8) (hr : 1 ≤ r ∧ r ≤ 8) {z : V} {ds : List PyData} (hok : OkV ds) (h1 : EvP ta σ H (Is (.int (l : Int)))) (h2 : EvP tb σ H (Is (.int (r : Int)))) (h3 : EvP tc σ H (fun v H => v = z ∧ Va ds z H)) :
    EvP (tCallS (spIsWhere CV) Ef (tCons ta (tCons tb (tCons tc tNil)))) σ H (Is (.bl (form l r ds))) := fun H1 e Q q =>
  eap_three h1 h2 h3 mono_is mono_is H1 e _ fun vs H2 e2 ⟨a, b, c, hv, ha, hb', hc, hz⟩ => ⟨.int l, .int r, z, .int l, .int r, by rw [hv, show a = _ from ha, show b = _ from hb', hc], .flat rfl, .flat rfl, fun ha => (by rw [isSz_nat hl.1 hl.2] at ha; cases ha), fun _ ha => (by rw [isSz_nat hr.1 hr.2] at ha; cases ha),
    fun _ _ => ⟨ds, hz, hok.small, fun v H3 e3 hv => q v H3 (e2.trans e3) hv⟩⟩
end
end K20
set_option maxHeartbeats 8100000
namespace K20
open PySem PySem.Spec PyProof.Rows L2 Evl RZ Ev2 TA5
theorem dpAll_ints {K : PySem.W.Frag} {H : Hp} : ∀ ns : List Int, DpAll K H (ns.map V.int) (ns.map PyData.int)
  | [] => .nil
  | n :: ns => .cons (.int n) (dpAll_ints ns)
theorem for_enum {K : PySem.W.Frag} {a : Addr} {xs : List V} {g : TG} {tb : TS} {D : Ends} {σ : L2.St} {H : Hp} (Pv : Nat → L2.St → Hp → Prop) (h0 : Pv 0 σ H) (hl : ∀ i σ H, Pv i σ H → SqL K H a xs)
    (hs : ∀ (i : Nat) (x : V) (T : Addr) (σ : L2.St) (H : Hp), xs[i]? = some x → Pv i σ H → H T = none → g (.ref T) σ (upd H T (.tup [.int (i : Nat), x])) fun σ2 H2 => tb { D with nx := Pv (i + 1), ct := Pv (i + 1), bk := D.nx } σ2 H2) (hd : ∀ σ H, Pv xs.length σ H → D.nx σ H) :
    ∃ W : Nat → Nat → L2.St → Hp → Prop, (∃ m, W 0 m σ H) ∧ ∀ i m σ H, W i m σ H → ((Ite K a).stop i H ∧ D.nx σ H) ∨ ((Ite K a).go i H ∧ ∃ N : L2.St → Hp → Prop, (∀ σ' H', N σ' H' → ∃ m', m' < m ∧ W (i + 1) m' σ' H') ∧ ∀ v H', (Ite K a).yld i H v H' → g v σ H' fun σ2 H2 => tb { D with nx := N, ct := N, bk := D.nx } σ2 H2) := by
  refine ⟨fun i m σ H => m = xs.length - i ∧ i ≤ xs.length ∧ Pv i σ H, ⟨xs.length, rfl, Nat.zero_le _, h0⟩, ?_⟩
  rintro i m σ H ⟨rfl, hi, pv⟩
  have ql := hl i σ H pv
  by_cases hlt : i < xs.length
  · refine .inr ⟨⟨xs, xs[i], ql, List.getElem?_eq_getElem hlt⟩, Pv (i + 1), fun σ' H' p' => ⟨xs.length - (i + 1), by omega, rfl, hlt, p'⟩, fun v H' y => ?_⟩
    obtain ⟨T, x, rfl, hT, rfl, f1⟩ := y
    exact hs i x T σ H (f1 xs ql) pv hT
  · have e : i = xs.length := by omega
    subst e
    exact .inl ⟨⟨xs, ql, Nat.le_refl _⟩, hd σ H pv⟩
section
variable {σ : L2.St} {H : Hp} {s p : Addr} {xs : List Int} {E : XK} {i : Nat} {ta : TE}
def Sz : HP := fun v _ => ∃ m : Nat, v = .int (m : Int) ∧ 1 ≤ m ∧ m ≤ 8
theorem drawI {M : Int} (hs : σ[i]? = some (some (.ref s))) (ha : ∀ H1, EvP ta σ H1 (Is (.int M))) (hm : 1 ≤ M) : EvD s p xs (tCall spDraw [] E (tCons (tVar i) (tCons ta tNil))) σ H (BI fun r => 0 ≤ r ∧ r < M) := fun H1 e d Q q =>
  eap_two (P := Is (.ref s)) (evp_var hs rfl mono_is) (ha H1) mono_is H1 (Ex.refl _) _ fun vs H2 e2 ⟨x, y, hv, hx, hy⟩ => ⟨s, p, xs, M, by rw [hv, show x = .ref s from hx, show y = .int M from hy]; rfl, d.ex e2, hm, fun v H3 g3 d3 h3 => q v H3 ((Gs.of e2).trans g3) d3 h3⟩
theorem sizeD (hs : σ[i]? = some (some (.ref s))) : EvD s p xs (tOp (rI0 fun i j => .int (i + j)) (tC (.int 1)) (tCall spDraw [] E (tCons (tVar i) (tCons (tC (.int 8)) tNil)))) σ H Sz := fun H1 e d Q q =>
  drawI (H := H1) hs (fun _ => evp_c) (by decide) H1 (Gs.refl _ _) d _ fun v H2 g2 d2 ⟨r, hv, hr⟩ => ⟨1, r, rfl, hv, q _ H2 g2 d2 ⟨(1 + r).toNat, by rw [show (((1 + r).toNat : Nat) : Int) = 1 + r by omega], by omega, by omega⟩⟩
theorem tup2 {t1 t2 : TE} {Q : VK} (h : t1 σ H fun x H1 => t2 σ H1 fun y H2 => 2 ≤ sizeLine ∧ ∀ p, H2 p = none → Q (.ref p) (upd H2 p (.tup [x, y]))) : tTup (tCons t1 (tCons t2 tNil)) σ H Q := h
end
section
variable {P : Program} {w : World} {K : PySem.W.Frag} {mg : Str → Option Value} {base : Heap} {tk : Tok} {CV iV CP iP : Addr} {k : Nat}
end
end K20
namespace K20
open PySem PySem.Spec PyProof.Rows L2 Evl RZ Ev2 TA5
end K20
open PySem PySem.W PyProof.Rows
set_option maxHeartbeats 2000000
/-! xs[lo:hi:step] of a list -/
namespace L2
open PySem PySem.Spec PyProof.Rows
/-- what is picked, by its places -/
def pickV {α : Type} (xs : List α) (lo hi st : Option Int) : List α := (sliceRange (sliceBounds lo hi st xs.length).1 (sliceBounds lo hi st xs.length).2.1 (sliceBounds lo hi st xs.length).2.2).filterMap (xs[·]?)
theorem vals_at {xs : List V} {its : List Value} (r : Vals xs its) : ∀ i : Nat, (∃ x v, xs[i]? = some x ∧ its[i]? = some v ∧ RelV x v) ∨ (xs[i]? = none ∧ its[i]? = none) := by
  induction r with
  | nil => exact fun i => .inr ⟨rfl, rfl⟩
  | cons h t ih => exact fun i => match i with
    | 0 => .inl ⟨_, _, rfl, rfl, h⟩
    | i + 1 => ih i
theorem vals_pick {xs : List V} {its : List Value} (r : Vals xs its) : ∀ idx : List Nat, Vals (idx.filterMap (xs[·]?)) (idx.filterMap (its[·]?))
  | [] => .nil
  | i :: idx => by
    rcases vals_at r i with ⟨x, v, h1, h2, h3⟩ | ⟨h1, h2⟩
    · rw [List.filterMap_cons, List.filterMap_cons]
      simp only [h1, h2]
      exact .cons h3 (vals_pick r idx)
    · rw [List.filterMap_cons, List.filterMap_cons]
      simp only [h1, h2]
      exact vals_pick r idx
def tSlS (K : PySem.W.Frag) (te : TE) (tl th ts : TO) : TE := fun σ H Q => te σ H fun x H1 => ∃ a xs, x = .ref a ∧ SqL K H1 a xs ∧
  tl σ H1 fun lo H2 => H2 = H1 ∧ th σ H2 fun hi H3 => H3 = H1 ∧ ts σ H3 fun st H4 => H4 = H1 ∧ st ≠ some 0 ∧ (pickV xs lo hi st).length ≤ sizeLine ∧ ∀ p, H4 p = none → Q (.ref p) (upd H4 p (.lst (pickV xs lo hi st)))
section
variable {X : Cx}
theorem pe_slS {e : PySem.Expr} {lo hi st : Option PySem.Expr} {te : TE} {tl th ts : TO} {p2 pos : Pos} (he : PE X e te) (hl : PO X lo tl) (hu : PO X hi th) (hst : PO X st ts)
    (hn : ∀ v : Value, ∀ s : Value, subscripted (.Slice lo hi st p2) false v s = operate [v, s] (getItem v s) := by intros; with_unfolding_all rfl) : PE X (.Subscript e (.Slice lo hi st p2) pos) (tSlS X.K te tl th ts) := by
  refine ⟨fun pins s σ H Q I h => ?_⟩
  refine Subscript_ (thn (he.run pins s σ H _ I h) fun v s1 ⟨x, H1, I1, r1, q1⟩ => ?_)
  obtain ⟨a, xs, ex, hx, q⟩ := q1
  subst ex
  cases r1
  refine wpAny_Slice (thn (hl.run pins s1 σ H1 _ I1 q) fun vl s2 ⟨l, H2, I2, pl, e2, q2⟩ => ?_)
  subst e2
  refine thn (hu.run pins s2 σ _ _ I2 q2) fun vu s3 ⟨u, H3, I3, pu, e3, q3⟩ => ?_
  subst e3
  refine thn (hst.run pins s3 σ _ _ I3 q3) fun vs s4 ⟨o, H4, I4, ps, e4, h0, hlen, q4⟩ => ?_
  subst e4
  have I5 : Inv X pins σ H4 { s4 with heap := s4.heap.push { cls := .type "slice", data := .fields #[vl, vu, vs] } } := I4.kept (t' := s4.toks) fun b ob q => Heap.get?_push_of_some _ q
  obtain ⟨its, r, ht, hz⟩ := I5.list hx
  have hl2 := r.length
  refine tail_any (ops := [.ref a, .ref s4.heap.objs.size]) ht.isList.typeIs (PySem.slot_list_getitem.lookup) ?_ (hn _ _)
  refine wpAny_getItem_list_slice ht.isList (Heap.IsSliceOf.new _ vl vu vs) pl pu ps h0 ?_ (by rw [List.size_toArray]; omega)
  have e5 : slicePick its.toArray l u o = (((sliceRange (sliceBounds l u o xs.length).1 (sliceBounds l u o xs.length).2.1 (sliceBounds l u o xs.length).2.2)).filterMap (its[·]?)).toArray := by
    unfold slicePick
    rw [List.size_toArray, hl2]
    simp
  rw [e5]
  have rv := vals_pick r (sliceRange (sliceBounds l u o xs.length).1 (sliceBounds l u o xs.length).2.1 (sliceBounds l u o xs.length).2.2)
  refine ⟨.ref _, _, I5.laid (t' := s4.toks) (o := .lst (pickV xs l u o)) (fun b ob q => Heap.get?_push_of_some _ q) (Nat.le_refl _) ?_, rfl, q4 _ (I5.hok.fresh (Nat.le_refl _))⟩
  exact ⟨hlen, _, 0, rv, Heap.get?_push_size _ rfl⟩
end
end L2
/-! own rules: a method that may raise, within a try; x is True; enumerate of a tuple -/
namespace OwE
open PySem PySem.Calls PyProof.Rows Sem
/-- enumerate(v): its two new cells -/
theorem meets_enum1 {v : Value} {o : Obj} {H : Heap → Prop} (B : Begins v o H) :
    Meets (Builtin.«enumerate.__new__» ⟨[.type "enumerate", v], []⟩) (fun _ R s => H s.heap ∧
      R (.ok (.ret (.ref (s.heap.push o).objs.size))) { s with heap := (s.heap.push o).push { cls := .type "enumerate", data := .fields #[.none, .bool false, .ref s.heap.objs.size, rawInt 0, .none, .none] } }) :=
  .of_wp fun prog w A R s hh => by
    obtain ⟨hp, gl, dr, tk, os⟩ := s
    obtain ⟨a1, a2⟩ := hh
    have sub := sub_enumerate
    have start : ∀ {A' : Around} {E : Value → Shared → Prop} {Q : Value → Shared → Prop}, Q (.ref hp.objs.size) ⟨hp.push o, gl, dr, tk, os⟩ → wpAny (model prog w) A' (pyIter v) Q E ⟨hp, gl, dr, tk, os⟩ := fun q => B.iter prog w _ _ ⟨hp, gl, dr, tk, os⟩ _ a1 q
    wp_walk using start
    refine wpAny_stack_any fun st => wpAny_pure ?_
    split
    · rename_i c _ _ _ _ _
      cases (c == Value.type "enumerate")
      · wp_walk using start
        exact ⟨_, rfl, a2⟩
      · wp_walk using start
        exact ⟨_, rfl, a2⟩
    · wp_walk using start
      exact ⟨_, rfl, a2⟩
theorem call_enumT {prog : Program} {w : World} {A : Around} {E : Value → Shared → Prop} {s : Shared} {t : Addr} {items : Array Value} {Q : Value → Shared → Prop} (ht : s.heap.IsTuple t items)
    (h : ∀ h', IsEnum h' (s.heap.objs.size + 1) s.heap.objs.size 0 .none → h'.IsTupleIter s.heap.objs.size t 0 → h'.objs.size = s.heap.objs.size + 2 → (∀ b o, s.heap.get? b = some o → h'.get? b = some o) → Q (.ref (s.heap.objs.size + 1)) { s with heap := h' }) :
    wpAny (model prog w) A (call (.type "enumerate") [.ref t]) Q E s := by
  refine callType_new F.called_enumerate (by decide) (F.typeCall_enumerate_1 _) (F.newCall_enumerate_1 _) (fun obj => F.args_object_init_2 obj _) F.entry_enumerate_new (meets_enum1 (begins_tuple t items)) ⟨ht, ?_⟩
  have z : (s.heap.push { cls := .type "tuple_iterator", data := .fields #[.ref t, .int 0 0] }).objs.size = s.heap.objs.size + 1 := Heap.size_push ..
  show _ ∧ _
  rw [z]
  have e : IsEnum ((s.heap.push { cls := .type "tuple_iterator", data := .fields #[.ref t, .int 0 0] }).push { cls := .type "enumerate", data := .fields #[.none, .bool false, .ref s.heap.objs.size, rawInt 0, .none, .none] }) (s.heap.objs.size + 1) s.heap.objs.size 0 .none := by
    have := Heap.get?_push_size (s.heap.push { cls := .type "tuple_iterator", data := .fields #[.ref t, .int 0 0] }) (o := { cls := .type "enumerate", data := .fields #[.none, .bool false, .ref s.heap.objs.size, rawInt 0, .none, .none] }) rfl
    rw [z] at this
    exact this
  exact ⟨⟨_, e, rfl⟩, h _ e ⟨_, Heap.get?_push_of_some _ (Heap.get?_push_size _ rfl), rfl, rfl⟩ (by rw [Heap.size_push, z]) fun b o x => Heap.get?_push_of_some _ (Heap.get?_push_of_some _ x)⟩
end OwE
namespace Ow
open PySem L2 PySem.Spec PyProof.Rows TA5
/-- the tuple at a, each item in a new pair -/
def IteT (K : PySem.W.Frag) (a : Addr) : L2.It :=
  ⟨fun i H => ∃ (xs : List V) (x : V), SqT K H a xs ∧ xs[i]? = some x, fun i H v H' => ∃ T x, v = .ref T ∧ H T = none ∧ H' = upd H T (.tup [.int (i : Nat), x]) ∧ ∀ xs, SqT K H a xs → xs[i]? = some x, fun i H => ∃ xs : List V, SqT K H a xs ∧ xs.length ≤ i⟩
theorem turn_enumT {P : Program} {w : World} {K : PySem.W.Frag} {elts : List Expr} {kk : Nat} {tpos : Pos} (a e it : Addr) (hai : a ≠ it) :
    Turn P w K (.Tuple elts kk tpos) (IteT K a) [e, it] e (fun i h => (∃ old, IsEnum h e it ((i : Nat) : Int) old) ∧ h.IsTupleIter it a i ∧ e ≠ it ∧ e ≠ a) where
  mem := by simp
  obj := fun i h st b hb => by
    obtain ⟨⟨old, he⟩, ⟨o, ho, hc, hd⟩, _⟩ := st
    rcases (show b = e ∨ b = it by simpa using hb) with z | z
    · rw [z]; exact ⟨_, he, fun v q => nomatch q⟩
    · rw [z]; exact ⟨o, ho, fun v q => by rw [hd] at q; cases q⟩
  keep := fun i h h' st k => by
    obtain ⟨⟨old, he⟩, hi, n1, n2⟩ := st
    exact ⟨⟨old, k e (by simp) _ he⟩, hi.at fun o q => k it (by simp) o q, n1, n2⟩
  item := by
    intro X hP hw hK hc i pins s σ H E I hf st hg
    subst hP hw hK
    obtain ⟨⟨old, he⟩, hit, n1, n2⟩ := st
    obtain ⟨xs, x, hq, hx⟩ := hg
    obtain ⟨its, rv, p, hz⟩ := I.tuple hq
    obtain ⟨u, hu, ru⟩ := rv.get hx
    have hel := Heap.lt_size he
    have hil : it < s.heap.objs.size := by obtain ⟨_, q, _⟩ := hit; exact Heap.lt_size q
    have hp : s.heap.IsTuple a its.toArray := p
    have hlt : i < its.toArray.size := by
      have := (List.getElem?_eq_some_iff.mp hu).1
      simpa using this
    refine wpAny_pyNext_enum_itemD (Draws.tuple (A := X.A.in1) (I.ok.hd hc) it a hai its.toArray) he ⟨hit, hp⟩ hlt n1 (by simp [n1, n2]) fun u' h' tk hu' ho ⟨hit', _⟩ hT hsz hk => ?_
    have eu : u' = u := by
      have z : its[i]? = some u' := by simpa using hu'
      rw [hu] at z
      exact (Option.some.inj z).symm
    subst eu
    refine ⟨_, rfl, wpAny_letOwnedTupleGo_enum (s := { s with heap := h', toks := tk + 1 }) ho fun h'' he' sb => ?_⟩
    have hT2 : h''.get? s.heap.objs.size = some { cls := .type "tuple", data := .seq #[.int i tk, u'] } := (sb.2 _ (Nat.ne_of_gt hel)).trans hT
    have new : ObjOk X.prog X.w (upd H s.heap.objs.size (.tup [.int (i : Nat), x])) h'' s.heap.objs.size (.tup [.int (i : Nat), x]) :=
      ⟨by show 2 ≤ sizeLine; decide, [.int i tk, u'], .cons ⟨_, rfl⟩ (.cons ru .nil), ⟨_, hT2, rfl, _, rfl⟩⟩
    have I1 : Inv X pins σ (upd H s.heap.objs.size (.tup [.int (i : Nat), x])) { s with heap := h'', toks := tk + 1 } :=
      I.turnedNew (ch := [e, it]) (fun b ob hb q => (sb.2 b (fun z => hb (by simp [z]))).trans (hk b ob (fun z => hb (by simp [z])) (fun z => hb (by simp [z])) q)) hf (Nat.le_refl _) new
    refine ⟨.ref s.heap.objs.size, _, I1, rfl, ⟨_, x, rfl, I.hok.fresh (Nat.le_refl _), rfl, fun ys hy => by rw [I.tuple_inj hy hq]; exact hx⟩, ⟨⟨u', ?_⟩, hit'.at fun o q => (sb.2 it (Ne.symm n1)).trans q, n1, n2⟩, fun b hb => ?_⟩
    · rw [show ((i + 1 : Nat) : Int) = (i : Int) + 1 by omega]
      exact he'
    · have hb' : b < s.heap.objs.size := by
        rcases (show b = e ∨ b = it by simpa using hb) with z | z
        · rw [z]; exact hel
        · rw [z]; exact hil
      rw [upd_ne (Nat.ne_of_lt hb')]
      exact (hf b hb).1
  done := by
    intro X hP hw hK hc i pins s σ H E I hf st hg
    subst hP hw hK
    obtain ⟨⟨old, he⟩, hit, n1, n2⟩ := st
    obtain ⟨xs, hq, hx⟩ := hg
    obtain ⟨its, rv, p, hz⟩ := I.tuple hq
    obtain ⟨f0, f1, f2, f3, f4, f5⟩ := hf it (by simp)
    have hl := rv.length
    have hp : s.heap.IsTuple a its.toArray := p
    have D : Draws X.prog X.w X.A.in1 it [it, a] 0 (fun _ _ => False) (fun _ h => h.IsTupleIter it a i ∧ h.IsTuple a its.toArray) :=
      { live := fun _ _ st => by obtain ⟨⟨o, ho, _⟩, _⟩ := st; exact ⟨o, ho⟩
        frame := fun _ _ _ st k => ⟨st.1.at fun o q => k it (by simp) o q, st.2.at fun o q => k a (by simp) o q⟩
        item := fun j s Q E hj st hQ => absurd hj (Nat.not_lt_zero _)
        done := fun s Q E st hE => wpAny_nextOf_tuple_end (I.ok.hd hc) st.1 st.2 (by simp; omega) hE }
    exact wpAny_pyNext_enum_endD D he ⟨hit, hp⟩ fun h' eb => ⟨rfl, I.turned (t' := s.toks) (fun b o hb q => eb b o hb q) f0 f1 f3 f4 f5⟩
  self := fun A i s Q E st h => by
    obtain ⟨⟨_, he⟩, _⟩ := st
    exact wpAny_pyIter_enum he h
def iEnumT (K : PySem.W.Frag) (ta : TA) : TI := fun σ H R => ta σ H fun vs H1 => ∃ a xs, vs = [.ref a] ∧ SqT K H1 a xs ∧ R (IteT K a) H1
theorem pi_enumT {X : Cx} {e : Expr} {ta : TA} {p pos tpos : Pos} {elts : List Expr} {kk : Nat} (hg : Gl X "enumerate") (hm : X.mg "enumerate" = none) (ha : PA X [e] ta) (hs : starEach [e] X.env = [(false, eval e X.env)] := by rfl) :
    PI X (.Tuple elts kk tpos) (.Call (.Name "enumerate" p) [e] [] pos) (iEnumT X.K ta) := by
  refine ⟨fun pins s σ H R I h => ?_⟩
  refine Call_ (ld_blt I hg hm boot_enumerate (PyProof.Rows.callWith_type1 (thn (ha.run pos pins s σ H _ I h) fun us s1 ⟨vs, H1, I1, r1, q1⟩ => ?_) hs rfl))
  obtain ⟨a, xs, rfl, hq, q⟩ := q1
  obtain rfl := Vals.ref1 r1
  obtain ⟨its, rv, p', hz⟩ := I1.tuple hq
  have hp : s1.heap.IsTuple a its.toArray := p'
  have hal : a < s1.heap.objs.size := by obtain ⟨o, ho, _⟩ := id hp; exact Heap.lt_size ho
  refine OwE.call_enumT hp fun h' he hit hsz hk => wpAny_pyIter_enum he ?_
  have I2 : Inv X pins σ H1 { s1 with heap := h' } := I1.kept (t' := s1.toks) hk
  refine ⟨s1.heap.objs.size + 1, [s1.heap.objs.size + 1, s1.heap.objs.size], _, _, H1, rfl, I2, turn_enumT a (s1.heap.objs.size + 1) s1.heap.objs.size (Nat.ne_of_lt hal), ⟨⟨.none, he⟩, hit, Nat.succ_ne_self _, Nat.ne_of_gt (Nat.lt_succ_of_lt hal)⟩, fun b hb => ?_, q⟩
  have hle : s1.heap.objs.size ≤ b := by
    rcases (show b = s1.heap.objs.size + 1 ∨ b = s1.heap.objs.size by simpa using hb) with z | z
    · rw [z]; exact Nat.le_add_right _ _
    · rw [z]; exact Nat.le_refl _
  exact I1.fpOk hle (I1.hok.fresh hle)
/-- a method that may raise, what is raised wished for at the caller's slots -/
def tMethE (C : Addr) (m : Str) (sp : Sp) (dvs : List V) (E : L2.St → XK) (ta : TE) (t : TA) : TE := fun σ H Q => tMeth C m sp dvs (E σ) ta t σ H Q
section
variable {X : Cx} {CX : CXT} {k : Nat} {f C : Addr} {fd : FuncData} {ps : List Str} {sp : Sp} {dvs : List V} {ds : List Value} {E : L2.St → XK} {x m : Str} {p pos apos : Pos} {e o : Expr} {es : List Expr} {ta : TE} {t : TA}
theorem pe_methE {pl : Sem Bool} (he : PE X o ta) (c : Cls X.K C) (hm : Meth X.K C m f) (F : FnOk X.prog X.w X.K X.mg X.base CX k f fd ps sp) (hr : Room k X.A) (hb : Binds X.K fd ps ds) (hd : Vals dvs ds) (hx : ∀ σ, PassesAt CX X σ (E σ)) (ha : PA X (e :: es) t)
    (hst : starEach (e :: es) X.env = (false, eval e X.env) :: starEach es X.env := by rfl) (hpl : (backTo pos (starEach es X.env)).any (·.1) = false := by rfl)
    (ht : eval (.Call (.Attribute o m apos) (e :: es) [] pos) X.env = (do
      let ov ← eval o X.env
      standAt apos.atName
      let (f, first) ← holding [ov] (getMethod ov m pl)
      callWith pos f first (backTo pos (starEach (e :: es) X.env)) (backToKw pos (keywordEach [] X.env))) := by rfl) :
    PE X (.Call (.Attribute o m apos) (e :: es) [] pos) (tMethE C m sp dvs E ta t) := by
  refine ⟨fun pins s σ H Q I h => PySem.W.methodCall_KW (pl := pl) (thn (he.run pins s σ H _ I h) fun u s1 ⟨x, H1, I1, rx, a, dx, fs, ex, ea, l, q⟩ => ?_) ht⟩
  subst ex
  cases rx
  refine getmeth_ok I1 ea c hm l (PySem.W.callWith_K (first := [.ref a]) (h₀ := X.base) I.ok.mod.kin hm.kp (thn (ha.run pos pins s1 σ H1 _ I1 q) fun us s2 ⟨vs, H2, I2, r, q2⟩ => ⟨I2.kIn, ?_⟩) hst hpl)
  exact run_fnSD (us := .ref a :: us) (vs := .ref a :: vs) F hr hb hd (hx σ) I2 (.cons rfl r) q2
theorem pe_methE0 {pl : Sem Bool} (he : PE X o ta) (c : Cls X.K C) (hm : Meth X.K C m f) (F : FnOk X.prog X.w X.K X.mg X.base CX k f fd ps sp) (hr : Room k X.A) (hb : Binds X.K fd ps ds) (hd : Vals dvs ds) (hx : ∀ σ, PassesAt CX X σ (E σ))
    (ht : eval (.Call (.Attribute o m apos) [] [] pos) X.env = (do
      let ov ← eval o X.env
      standAt apos.atName
      let (f, first) ← holding [ov] (getMethod ov m pl)
      callWith pos f first (backTo pos (starEach [] X.env)) (backToKw pos (keywordEach [] X.env))) := by rfl) :
    PE X (.Call (.Attribute o m apos) [] [] pos) (tMethE C m sp dvs E ta tNil) := by
  refine ⟨fun pins s σ H Q I h => PySem.W.methodCall_KW (pl := pl) (thn (he.run pins s σ H _ I h) fun u s1 ⟨x, H1, I1, rx, a, dx, fs, ex, ea, l, q⟩ => ?_) ht⟩
  subst ex
  cases rx
  exact getmeth_ok I1 ea c hm l (PySem.W.callWith_K0 (first := [.ref a]) I1.kIn hm.kp (run_fnSD (us := [.ref a]) (vs := [.ref a]) F hr hb hd (hx σ) I1 (.cons rfl .nil) q))
/-- x is True, x is False: x a bool, an int, a text or an object -/
def isV : V → Bool
  | .non => true
  | .bl _ => true
  | .int _ => true
  | .str _ => true
  | .ref _ => true
  | _ => false
def rIsC : R2 := fun x y H Q => ∃ b, y = .bl b ∧ isV x = true ∧ Q (.bl (decide (x = .bl b))) H
def rNotC : R2 := fun x y H Q => ∃ b, y = .bl b ∧ isV x = true ∧ Q (.bl (!decide (x = .bl b))) H
theorem op_isC : OpR X (compareOp .Is) rIsC := by
  intro pins s σ H x y v u Q I rx ry h
  obtain ⟨b, rfl, hv, q⟩ := h
  cases (show u = Value.bool b from ry)
  cases x with
  | bl a =>
    cases (show v = Value.bool a from rx)
    by_cases e : a = b
    · subst e; exact wpAny_is_self rfl ⟨.bl true, H, I, rfl, by simpa using q⟩
    · exact wpAny_is_other rfl (fun z => e (Value.bool.inj z)) ⟨.bl false, H, I, rfl, by simpa [e] using q⟩
  | non => cases (show v = Value.none from rx); exact wpAny_is_other rfl (fun z => nomatch z) ⟨.bl false, H, I, rfl, q⟩
  | int i => obtain ⟨t, rfl⟩ := (show ∃ t, v = Value.int i t from rx); exact wpAny_is_other rfl (fun z => nomatch z) ⟨.bl false, H, I, rfl, q⟩
  | str i => obtain ⟨t, rfl⟩ := (show ∃ t, v = Value.str i t from rx); exact wpAny_is_other rfl (fun z => nomatch z) ⟨.bl false, H, I, rfl, q⟩
  | ref a => cases (show v = Value.ref a from rx); exact wpAny_is_other rfl (fun z => nomatch z) ⟨.bl false, H, I, rfl, q⟩
  | _ => cases hv
theorem op_notC : OpR X (compareOp .IsNot) rNotC := by
  intro pins s σ H x y v u Q I rx ry h
  obtain ⟨b, rfl, hv, q⟩ := h
  cases (show u = Value.bool b from ry)
  cases x with
  | bl a =>
    cases (show v = Value.bool a from rx)
    by_cases e : a = b
    · subst e; exact wpAny_isNot_self rfl ⟨.bl false, H, I, rfl, by simpa using q⟩
    · exact wpAny_isNot_other rfl (fun z => e (Value.bool.inj z)) ⟨.bl true, H, I, rfl, by simpa [e] using q⟩
  | non => cases (show v = Value.none from rx); exact wpAny_isNot_other rfl (fun z => nomatch z) ⟨.bl true, H, I, rfl, q⟩
  | int i => obtain ⟨t, rfl⟩ := (show ∃ t, v = Value.int i t from rx); exact wpAny_isNot_other rfl (fun z => nomatch z) ⟨.bl true, H, I, rfl, q⟩
  | str i => obtain ⟨t, rfl⟩ := (show ∃ t, v = Value.str i t from rx); exact wpAny_isNot_other rfl (fun z => nomatch z) ⟨.bl true, H, I, rfl, q⟩
  | ref a => cases (show v = Value.ref a from rx); exact wpAny_isNot_other rfl (fun z => nomatch z) ⟨.bl true, H, I, rfl, q⟩
  | _ => cases hv
end
end Ow
namespace K20
open PySem PySem.Spec PyProof.Rows L2 Evl RZ Ev2 TA5
abbrev s_law_order : Stmt := topS 45
abbrev N_law_order : List Str := ["_law_state", "_law_size", "_law_values", "_law_start"]
theorem sc_law_order : FnScope N_law_order ["_law_state", "_law_size"] (defScope s_law_order) := ⟨rfl, rfl, rfl, by decide +kernel, rfl, by decide +kernel, by decide +kernel⟩
abbrev s_law_family : Stmt := topS 46
abbrev N_law_family : List Str := ["_law_state", "_law_values", "_law_cut", "_law_found"]
theorem sc_law_family : FnScope N_law_family ["_law_state", "_law_values"] (defScope s_law_family) := ⟨rfl, rfl, rfl, by decide +kernel, rfl, by decide +kernel, by decide +kernel⟩

/-! ### lists that are cut and joined -/
section
variable {K : PySem.W.Frag} {σ : L2.St} {H : Hp} {ta tb te : TE} {s p : Addr} {xs : List Int}
theorem evp_catL {as bs : List V} (ha : EvP ta σ H (Ls as)) (hb : EvP tb σ H (Ls bs)) (hl : as.length + bs.length ≤ 100000) : EvP (tOp rCat ta tb) σ H (Ls (as ++ bs)) :=
  evp_op ha hb mono_ls fun x y H1 _ ⟨a, hx, h1⟩ ⟨b, hy, h2⟩ Q q => by
    subst hx
    subst hy
    exact ⟨a, b, as, bs, rfl, rfl, h1, h2, sz_of hl, fun p hp => q _ _ (Ex.new hp) ⟨p, rfl, upd_same⟩⟩
theorem evp_cutL {as : List V} {tl th : TO} {lo hi : Option Int} (h : EvP te σ H (Ls as)) (h1 : ∀ {H' : Hp}, EvO tl σ H' lo) (h2 : ∀ {H' : Hp}, EvO th σ H' hi) : EvP (tSl (rSlL K) te tl th) σ H (Ls (cutV as lo hi)) := fun H1 e Q q =>
  h H1 e _ fun v H2 e2 ⟨a, hv, ha⟩ => h1 H2 (Ex.refl _) _ fun H3 e3 => h2 H3 (Ex.refl _) _ fun H4 e4 => ⟨a, as, hv, sq_of (e4 _ _ (e3 _ _ ha)), fun p hp => q _ _ (((e2.trans e3).trans e4).trans (Ex.new hp)) ⟨p, rfl, upd_same⟩⟩
theorem evp_pick0 {as : List V} {k : Int} (h : EvP te σ H (Ls as)) (hk : k ≠ 0) (hl : (pickV as none none (some k)).length ≤ 100000) : EvP (tSlS K te tNoPart tNoPart (tPart (tC (.int k)))) σ H (Ls (pickV as none none (some k))) := fun H1 e Q q =>
  h H1 e _ fun v H2 e2 ⟨a, hv, ha⟩ => ⟨a, as, hv, sq_of ha, rfl, rfl, k, rfl, rfl, fun z => hk (Option.some.inj z), sz_of hl, fun p hp => q _ _ (e2.trans (Ex.new hp)) ⟨p, rfl, upd_same⟩⟩
theorem evp_pick1 {as : List V} {k j : Int} (h : EvP te σ H (Ls as)) (hk : k ≠ 0) (hl : (pickV as (some j) none (some k)).length ≤ 100000) : EvP (tSlS K te (tPart (tC (.int j))) tNoPart (tPart (tC (.int k)))) σ H (Ls (pickV as (some j) none (some k))) := fun H1 e Q q =>
  h H1 e _ fun v H2 e2 ⟨a, hv, ha⟩ => ⟨a, as, hv, sq_of ha, j, rfl, rfl, rfl, k, rfl, rfl, fun z => hk (Option.some.inj z), sz_of hl, fun p hp => q _ _ (e2.trans (Ex.new hp)) ⟨p, rfl, upd_same⟩⟩
end
def iota (n : Nat) : List Int := (List.range n).map fun i : Nat => (i : Int)
theorem rgV_iota {n : Nat} : rgV 0 (n : Int) = (iota n).map V.int := by
  unfold rgV iota
  rw [List.map_map, Int.sub_zero, Int.toNat_natCast]
  exact List.map_congr_left fun i _ => by show V.int (0 + (i : Int)) = V.int (i : Int); rw [Int.zero_add]
theorem iota_len {n : Nat} : (iota n).length = n := by unfold iota; rw [List.length_map, List.length_range]
theorem iota_nodup {n : Nat} : (iota n).Nodup := List.Pairwise.map _ (fun a b h z => h (Int.ofNat.inj z)) List.nodup_range
theorem iota_mem {n : Nat} {x : Int} : x ∈ iota n ↔ 0 ≤ x ∧ x < n := by
  unfold iota
  rw [List.mem_map]
  exact ⟨fun ⟨i, hi, e⟩ => by have := List.mem_range.mp hi; omega, fun ⟨h1, h2⟩ => ⟨x.toNat, List.mem_range.mpr (by omega), by omega⟩⟩
theorem fm_congr {α β : Type} {f g : α → Option β} : ∀ l : List α, (∀ i, f i = g i) → l.filterMap f = l.filterMap g
  | [], _ => rfl
  | i :: l, h => by rw [List.filterMap_cons, List.filterMap_cons, h i, fm_congr l h]
theorem pickV_map {α β : Type} (f : α → β) (l : List α) (lo hi st : Option Int) : pickV (l.map f) lo hi st = (pickV l lo hi st).map f := by
  unfold pickV
  rw [List.length_map, List.map_filterMap]
  exact fm_congr _ fun i => by rw [List.getElem?_map]
theorem range_pick {α : Type} (l : List α) : (List.range l.length).filterMap (l[·]?) = l := by
  have h : ∀ n, n ≤ l.length → (List.range n).filterMap (l[·]?) = l.take n := by
    intro n
    induction n with
    | zero => intro _; rfl
    | succ n ih =>
      intro hn
      rw [List.range_succ, List.filterMap_append, ih (by omega), List.take_add_one]
      congr 1
  rw [h _ (Nat.le_refl _), List.take_length]
def idx2 (n : Nat) : List Nat := sliceRange (sliceBounds none none (some 2) n).1 (sliceBounds none none (some 2) n).2.1 (sliceBounds none none (some 2) n).2.2 ++ sliceRange (sliceBounds (some 1) none (some 2) n).1 (sliceBounds (some 1) none (some 2) n).2.1 (sliceBounds (some 1) none (some 2) n).2.2
theorem idx2_perm : ∀ n : Nat, n ≤ 8 → (idx2 n).isPerm (List.range n) = true := by decide +kernel
theorem pick2_perm {α : Type} (l : List α) (h : l.length ≤ 8) : (pickV l none none (some 2) ++ pickV l (some 1) none (some 2)).Perm l := by
  have h1 : (idx2 l.length).Perm (List.range l.length) := List.isPerm_iff.mp (idx2_perm _ h)
  have h2 := h1.filterMap (l[·]?)
  rw [range_pick] at h2
  unfold idx2 at h2
  rw [List.filterMap_append] at h2
  exact h2
theorem rot_perm {α : Type} (l : List α) (k : Nat) : (l.drop k ++ l.take k).Perm l := List.perm_append_comm.trans (by rw [List.take_append_drop])
section
variable {P : Program} {w : World} {K : PySem.W.Frag} {mg : Str → Option Value} {base : Heap} {tk : Tok} {k : Nat} {σ : L2.St} {H : Hp} {s p : Addr} {xs : List Int}
theorem not_state {a : Addr} {is : List Int} (d : Dr s p xs H) (h : H a = some (.lst (is.map V.int))) : a ≠ s := fun z => by
  obtain ⟨k, hk⟩ := d.at_
  rw [z, hk] at h
  cases is with
  | nil => cases h
  | cons i is => cases h
/-- a draw, of a state in any place -/
theorem draw_i {i : Nat} {ta : TE} {m : Int} {E : XK} (hs : σ[i]? = some (some (.ref s))) (ha : EvP ta σ H (Is (.int m))) (hm : 1 ≤ m) (d : Dr s p xs H) {Q : VK} (q : ∀ (r : Int) H2, Gs s H H2 → Dr s p xs H2 → 0 ≤ r → r < m → Q (.int r) H2) : tCall spDraw [] E (tCons (tVar i) (tCons ta tNil)) σ H Q :=
  eap_two (P := Is (.ref s)) (evp_var hs rfl mono_is) ha mono_is H (Ex.refl _) _ fun vs H2 e2 ⟨x, y, hv, hx, hy⟩ => ⟨s, p, xs, m, by rw [hv, show x = .ref s from hx, show y = .int m from hy]; rfl, d.ex e2, hm, fun v H3 g3 d3 ⟨r, e, h0, h1⟩ => by rw [e]; exact q r H3 ((Gs.of e2).trans g3) d3 h0 h1⟩
def spOrder : Sp := fun vs H Q _ => ∃ (s p : Addr) (xs : List Int) (n : Nat), vs = [.ref s, .int (n : Int)] ∧ Dr s p xs H ∧ 1 ≤ n ∧ n ≤ 8 ∧ ∀ v H2 (is : List Int), Gs s H H2 → Dr s p xs H2 → is.Perm (iota n) → Ls (is.map V.int) v H2 → Q v H2
theorem ok_order {f f1 : Addr} {fd fd1 : FuncData} (D__law_draw : Df K mg "_law_draw" s_law_draw ["_law_state", "_law_many"] f1 fd1) (G__law_draw : FnOk P w K mg base CX0 (k + 1) f1 fd1 ["_law_state", "_law_many"] spDraw) (T : Txt mg tk)
    (D : Df K mg "_law_order" s_law_order ["_law_state", "_law_size"] f fd) : FnOk P w K mg base CX0 (k + 2) f fd ["_law_state", "_law_size"] spOrder := by
  refine D.F.ok sc_law_order (fun vs H Q E h => ?_) (fun cdv A outer s0 H vs Q E hr h => ?_)
  · obtain ⟨s, p, xs, n, rfl, _⟩ := h
    rfl
  · obtain ⟨s, p, xs, n, rfl, d, hn1, hn8, q⟩ := h
    have nd := sc_law_order.nd
    refine ⟨_, (pss_cons (ps_set (i := 2) nd rfl (Or.inl rfl) (pe_listRg rfl (by rfl) T.n_list (prg_1 (by rfl) T.n_range (pv 1)))) (pss_cons (ps_set (i := 3) nd rfl (Or.inl rfl) (pe_call G__law_draw (hr.mono (by omega)) (by rfl) D__law_draw.g D__law_draw.F.kp D__law_draw.b .nil pass0 (pa_cons (pv 0) (pa_cons (pv 1) pa_nil)))) (pss_cons (ps_set (i := 2) nd rfl (Or.inl rfl) (pe_op op_cat (pe_slice (r := rSlL K) sl_list (pv 2) (po_some (pv 3)) po_none) (pe_slice (r := rSlL K) sl_list (pv 2) po_none (po_some (pv 3))))) (pss_one (ps_ret (pe_ifExp (pt_cmpR op_eq (pe_call G__law_draw (hr.mono (by omega)) (by rfl) D__law_draw.g D__law_draw.F.kp D__law_draw.b .nil pass0 (pa_cons (pv 0) (pa_cons pe_int pa_nil))) pe_int (nomark _)) (pe_op op_cat (pe_slS (pv 2) po_none po_none (po_some pe_int)) (pe_slS (pv 2) (po_some pe_int) po_none (po_some pe_int))) (pv 2))))))), ?_⟩
    refine ⟨.int (n : Int), rfl, (n : Int), rfl, RgOk.of_le (by omega) (by omega) (by omega) (by omega), fun l hl => ?_⟩
    rw [rgV_iota]
    have e1 : Evl.Ex H (upd H l (.lst ((iota n).map V.int))) := Ex.new hl
    have l1 : (upd H l (.lst ((iota n).map V.int))) l = some (.lst ((iota n).map V.int)) := upd_same
    have d1 := d.ex e1
    generalize upd H l (.lst ((iota n).map V.int)) = H1 at e1 l1 d1
    have hls := not_state d1 l1
    refine q_asgD (draw_i (i := 0) (p := p) (xs := xs) (m := (n : Int)) rfl (evp_var (i := 1) rfl rfl mono_is) (by omega) d1 fun r H2 g2 d2 h0 hr' => ?_)
    obtain ⟨j, rfl⟩ : ∃ j : Nat, r = j := ⟨r.toNat, by omega⟩
    have l2 := g2 _ _ hls l1
    have g2' := (Gs.of e1).trans g2
    clear g2 d1 l1 e1
    refine q_asgP (P := Ls (((iota n).drop j ++ (iota n).take j).map V.int)) ((evp_catL (as := cutV ((iota n).map V.int) (some (j : Int)) none) (bs := cutV ((iota n).map V.int) none (some (j : Int))) (evp_cutL (K := K) (evp_var (i := 2) rfl ⟨l, rfl, l2⟩ mono_ls) (eo_some (evp_var (P := Is (.int (j : Int))) (i := 3) rfl rfl mono_is).ev) eo_none) (evp_cutL (K := K) (evp_var (i := 2) rfl ⟨l, rfl, l2⟩ mono_ls) eo_none (eo_some (evp_var (P := Is (.int (j : Int))) (i := 3) rfl rfl mono_is).ev)) (by
      rw [cutV_from, cutV_to, List.length_drop, List.length_take, List.length_map, iota_len]; omega)).imp fun v H1 _ h => by rw [cutV_from, cutV_to, ← List.map_drop, ← List.map_take, ← List.map_append] at h; exact h) fun v3 H3 e3 ⟨l3, hv3, h3⟩ => ?_
    subst hv3
    have hp := rot_perm (iota n) j
    generalize (iota n).drop j ++ (iota n).take j = is at h3 hp
    have hil : is.length = n := by rw [hp.length_eq, iota_len]
    have d3 := d2.ex e3
    have hls3 := not_state d3 h3
    refine draw_i (i := 0) (p := p) (xs := xs) (m := 2) rfl evp_c (by decide) d3 fun r H4 g4 d4 h0 hr2 => ?_
    have h4 := g4 _ _ hls3 h3
    have g4' := (g2'.trans (Gs.of e3)).trans g4
    refine ⟨rfl, _, rfl, ?_⟩
    show if decide (V.int r = V.int 0) = true then tOp rCat _ _ _ H4 Q else tVar 2 _ H4 Q
    have hv2 : ∀ {σ' : L2.St}, σ'[2]? = some (some (.ref l3)) → EvP (tVar 2) σ' H4 (Ls (is.map V.int)) := fun h => evp_var h ⟨l3, rfl, h4⟩ mono_ls
    have hpk := pick2_perm is (by omega)
    have hpl := hpk.length_eq
    rw [List.length_append] at hpl
    cases hb : decide (V.int r = V.int 0) with
    | false =>
      rw [if_neg (by decide)]
      refine ⟨.ref l3, rfl, ?_⟩
      exact q _ H4 is g4' d4 hp ⟨l3, rfl, h4⟩
    | true =>
      rw [if_pos rfl]
      refine evp_catL (evp_pick0 (K := K) (hv2 rfl) (by decide) (by rw [pickV_map, List.length_map]; omega)) (evp_pick1 (K := K) (hv2 rfl) (by decide) (by rw [pickV_map, List.length_map]; omega)) (by rw [pickV_map, pickV_map, List.length_map, List.length_map]; omega) H4 (Ex.refl _) _ fun v H5 e5 h5 => ?_
      rw [pickV_map, pickV_map, ← List.map_append] at h5
      exact q v H5 _ (g4'.trans (Gs.of e5)) (d4.ex e5) (hpk.trans hp) h5
end
end K20
namespace K20
open PySem PySem.Spec PyProof.Rows L2 Evl RZ Ev2 TA5

/-! ### families -/
def Nst (f g : List Int) : Prop := (∀ x ∈ f, x ∈ g) ∨ (∀ x ∈ g, x ∈ f) ∨ (∀ x ∈ f, x ∉ g)
theorem Nst.symm {f g : List Int} (h : Nst f g) : Nst g f := by
  rcases h with h | h | h
  · exact .inr (.inl h)
  · exact .inl h
  · exact .inr (.inr fun x hx hf => h x hf hx)
structure Fam (is : List Int) (fs : List (List Int)) : Prop where
  len : fs.length + 1 ≤ 2 * is.length
  ne : fs ≠ []
  asc : ∀ f ∈ fs, f.Pairwise (· < ·)
  non : ∀ f ∈ fs, f ≠ []
  sub : ∀ f ∈ fs, ∀ x ∈ f, x ∈ is
  nst : ∀ f ∈ fs, ∀ g ∈ fs, Nst f g
theorem Fam.perm {is js : List Int} {fs : List (List Int)} (h : Fam is fs) (p : is.Perm js) : Fam js fs := ⟨by rw [← p.length_eq]; exact h.len, h.ne, h.asc, h.non, fun f hf x hx => p.mem_iff.mp (h.sub f hf x hx), h.nst⟩
theorem Fam.one {i : Int} : Fam [i] [[i]] := ⟨by show 2 ≤ 2; decide, by simp, fun f hf => by rw [List.mem_singleton.mp hf]; simp, fun f hf => by rw [List.mem_singleton.mp hf]; simp, fun f hf x hx => by rw [List.mem_singleton.mp hf] at hx; exact hx, fun f hf g hg => by rw [List.mem_singleton.mp hf, List.mem_singleton.mp hg]; exact .inl fun x hx => hx⟩
theorem Fam.join {as bs so : List Int} {fs gs : List (List Int)} (h : Fam as fs) (k : Fam bs gs) (nd : (as ++ bs).Nodup) (hs : so.Perm (as ++ bs)) (hsort : so.Pairwise (· ≤ ·)) (hne : as ++ bs ≠ []) : Fam (as ++ bs) (so :: (fs ++ gs)) := by
  have hap : ∀ x ∈ as, x ∉ bs := fun x hx hb => (List.nodup_append.mp nd).2.2 x hx x hb rfl
  have hall : ∀ g ∈ fs ++ gs, ∀ x ∈ g, x ∈ so := fun g hg x hx => hs.mem_iff.mpr (by
    rcases List.mem_append.mp hg with h1 | h1
    · exact List.mem_append.mpr (.inl (h.sub g h1 x hx))
    · exact List.mem_append.mpr (.inr (k.sub g h1 x hx)))
  refine ⟨?_, by simp, fun f hf => ?_, fun f hf => ?_, fun f hf x hx => ?_, fun f hf g hg => ?_⟩
  · have := h.len
    have := k.len
    simp
    omega
  · rcases List.mem_cons.mp hf with rfl | hf
    · have nds : f.Nodup := hs.nodup_iff.mpr nd
      exact (hsort.and nds).imp fun ⟨h1, h2⟩ => by omega
    · rcases List.mem_append.mp hf with h1 | h1
      · exact h.asc f h1
      · exact k.asc f h1
  · rcases List.mem_cons.mp hf with rfl | hf
    · exact fun z => hne (by rw [z] at hs; exact hs.nil_eq.symm)
    · rcases List.mem_append.mp hf with h1 | h1
      · exact h.non f h1
      · exact k.non f h1
  · rcases List.mem_cons.mp hf with rfl | hf
    · exact hs.mem_iff.mp hx
    · exact hs.mem_iff.mp (hall f hf x hx)
  · rcases List.mem_cons.mp hf with rfl | hf'
    · rcases List.mem_cons.mp hg with rfl | hg'
      · exact .inl fun x hx => hx
      · exact .inr (.inl (hall g hg'))
    rcases List.mem_cons.mp hg with rfl | hg'
    · exact .inl (hall f hf')
    rcases List.mem_append.mp hf' with h1 | h1 <;> rcases List.mem_append.mp hg' with h2 | h2
    · exact h.nst f h1 g h2
    · exact .inr (.inr fun x hx hg => hap x (h.sub f h1 x hx) (k.sub g h2 x hg))
    · exact .inr (.inr fun x hx hg => hap x (h.sub g h2 x hg) (k.sub f h1 x hx))
    · exact k.nst f h1 g h2
/-- a list of tuples of numbers -/
def TuL (fs : List (List Int)) : HP := fun v H => ∃ p ys, v = .ref p ∧ H p = some (.lst ys) ∧ Paired (fun y f => Ts (f.map V.int) y H) ys fs
theorem mono_tuL {fs : List (List Int)} : Mono (TuL fs) := fun _ _ _ e ⟨p, ys, h1, h2, h3⟩ => ⟨p, ys, h1, e _ _ h2, Paired.impl (fun _ _ h => mono_ts _ _ _ e h) h3⟩
/-- what stands in a list of refs is not the state -/
def Refs (ys : List V) : Prop := ∀ y ∈ ys, ∃ a, y = .ref a
theorem paired_refs {α : Type} {R : V → α → Prop} (hr : ∀ y a, R y a → ∃ b, y = .ref b) : ∀ {ys : List V} {zs : List α}, Paired R ys zs → Refs ys
  | _, _, .nil => fun y h => nomatch h
  | _, _, .cons h t => fun y hy => by
    rcases List.mem_cons.mp hy with rfl | hy
    · exact hr _ _ h
    · exact paired_refs hr t y hy
section
variable {K : PySem.W.Frag} {σ : L2.St} {H H' : Hp} {ta tb te : TE} {s p : Addr} {xs : List Int}
theorem refs_state {a : Addr} {ys : List V} (d : Dr s p xs H) (h : H a = some (.lst ys)) (hr : Refs ys) : a ≠ s := fun z => by
  obtain ⟨k, hk⟩ := d.at_
  rw [z, hk] at h
  cases h
  obtain ⟨b, e⟩ := hr (.int (k : Int)) (by simp)
  cases e
theorem tup_state {a : Addr} {ys : List V} (d : Dr s p xs H) (h : H a = some (.tup ys)) : a ≠ s := fun z => by
  obtain ⟨k, hk⟩ := d.at_
  rw [z, hk] at h
  cases h
theorem ts_gs {us : List V} {v : V} (g : Gs s H H') (d : Dr s p xs H) (h : Ts us v H) : Ts us v H' := by
  obtain ⟨a, e, ha⟩ := h
  exact ⟨a, e, g _ _ (tup_state d ha) ha⟩
theorem tuL_gs {fs : List (List Int)} {v : V} (g : Gs s H H') (d : Dr s p xs H) (h : TuL fs v H) : TuL fs v H' := by
  obtain ⟨a, ys, e, ha, pr⟩ := h
  exact ⟨a, ys, e, g _ _ (refs_state d ha (paired_refs (fun y f ⟨b, e, _⟩ => ⟨b, e⟩) pr)) ha, Paired.impl (fun _ _ h => ts_gs g d h) pr⟩
theorem evp_catT {fs gs : List (List Int)} (ha : EvP ta σ H (TuL fs)) (hb : EvP tb σ H (TuL gs)) (hl : fs.length + gs.length ≤ 100000) : EvP (tOp rCat ta tb) σ H (TuL (fs ++ gs)) :=
  evp_op ha hb mono_tuL fun x y H1 _ ⟨a, as, hx, h1, p1⟩ ⟨b, bs, hy, h2, p2⟩ Q q => by
    subst hx
    subst hy
    exact ⟨a, b, as, bs, rfl, rfl, h1, h2, sz_of (by rw [Paired.len p1, Paired.len p2]; exact hl), fun p hp => q _ _ (Ex.new hp) ⟨p, _, rfl, upd_same, Paired.app (Paired.impl (fun _ _ h => mono_ts _ _ _ (Ex.new hp) h) p1) (Paired.impl (fun _ _ h => mono_ts _ _ _ (Ex.new hp) h) p2)⟩⟩
theorem evp_tupOf {us : List V} (h : EvP te σ H (Ls us)) : EvP (tCB (rTupQ K) (tCons te tNil)) σ H (Ts us) := fun H1 e Q q => h H1 e _ fun v H2 e2 ⟨a, hv, ha⟩ =>
  ⟨a, us, by rw [hv], .inl ⟨sq_of ha, fun l hl => q _ _ (e2.trans (Ex.new hl)) ⟨l, rfl, upd_same⟩⟩⟩
theorem evp_lst1 {us : List Int} (h : EvP te σ H (Ts (us.map V.int))) : EvP (tLst (tCons te tNil)) σ H (TuL [us]) := fun H1 e Q q => h H1 e _ fun v H2 e2 hv =>
  ⟨sz_of (show 1 ≤ 100000 by decide), fun l hl => q _ _ (e2.trans (Ex.new hl)) ⟨l, _, rfl, upd_same, .cons (mono_ts _ _ _ (Ex.new hl) hv) .nil⟩⟩
theorem evp_sortI {is : List Int} (h : EvP te σ H (Ls (is.map V.int))) (hl : is.length < 64) : EvP (tCB (rSorted K) (tCons te tNil)) σ H (fun v H1 => ∃ so : List Int, so.Perm is ∧ so.Pairwise (· ≤ ·) ∧ Ls (so.map V.int) v H1) := fun H1 e Q q => h H1 e _ fun v H2 e2 ⟨a, hv, ha⟩ =>
  ⟨a, is, by rw [hv], sq_of ha, hl, fun so p hp hs hn => q _ _ (e2.trans (Ex.new hn)) ⟨so, hp, hs, p, rfl, upd_same⟩⟩
end
section
variable {P : Program} {w : World} {K : PySem.W.Frag} {mg : Str → Option Value} {base : Heap} {tk : Tok} {k : Nat} {σ : L2.St} {H : Hp} {s p : Addr} {xs : List Int}
def spFam (n : Nat) : Sp := fun vs H Q _ => ∃ (s p : Addr) (xs : List Int) (y : V) (is : List Int), vs = [.ref s, y] ∧ Dr s p xs H ∧ Ls (is.map V.int) y H ∧ is.Nodup ∧ 1 ≤ is.length ∧ is.length ≤ 8 ∧ is.length < n ∧ ∀ v H2 fs, Gs s H H2 → Dr s p xs H2 → Fam is fs → TuL fs v H2 → Q v H2
theorem fam_call {n : Nat} {te : TE} {is : List Int} {E : XK} (hs : σ[0]? = some (some (.ref s))) (h : EvP te σ H (Ls (is.map V.int))) (d : Dr s p xs H) (nd : is.Nodup) (h1 : 1 ≤ is.length) (h8 : is.length ≤ 8) (hn : is.length < n) {Q : VK} (q : ∀ v H2 fs, Gs s H H2 → Dr s p xs H2 → Fam is fs → TuL fs v H2 → Q v H2) :
    tCall (spFam n) [] E (tCons (tVar 0) (tCons te tNil)) σ H Q :=
  eap_two (P := Is (.ref s)) (evp_var hs rfl mono_is) h mono_is H (Ex.refl _) _ fun vs H2 e2 ⟨x, y, hv, hx, hy⟩ => ⟨s, p, xs, y, is, by rw [hv, show x = .ref s from hx]; rfl, d.ex e2, hy, nd, h1, h8, hn, fun v H3 fs g3 d3 hf hv => q v H3 fs ((Gs.of e2).trans g3) d3 hf hv⟩
theorem ok_family {f f1 : Addr} {fd fd1 : FuncData} (D__law_draw : Df K mg "_law_draw" s_law_draw ["_law_state", "_law_many"] f1 fd1) (G__law_draw : FnOk P w K mg base CX0 (k + 1) f1 fd1 ["_law_state", "_law_many"] spDraw) (T : Txt mg tk)
    (D : Df K mg "_law_family" s_law_family ["_law_state", "_law_values"] f fd) : ∀ n : Nat, FnOk P w K mg base CX0 (k + n + 2) f fd ["_law_state", "_law_values"] (spFam n)
  | 0 => D.F.ok sc_law_family (fun vs H Q E ⟨_, _, _, _, _, _, _, _, _, _, _, h, _⟩ => absurd h (Nat.not_lt_zero _)) (fun cdv A outer s H vs Q E hr ⟨_, _, _, _, _, _, _, _, _, _, _, h, _⟩ => absurd h (Nat.not_lt_zero _))
  | n + 1 => by
    have G__law_family := ok_family D__law_draw G__law_draw T D n
    refine D.F.ok sc_law_family (fun vs H Q E h => ?_) (fun cdv A outer s0 H vs Q E hr h => ?_)
    · obtain ⟨s, p, xs, y, is, rfl, _⟩ := h
      rfl
    · obtain ⟨s, p, xs, y, is, rfl, d, ⟨a, rfl, ha⟩, nd0, h1, h8, hn, q⟩ := h
      have nd := sc_law_family.nd
      have D__law_family := D
      refine ⟨_, (pss_cons (ps_if (pt_cmpR op_eq (pe_callB (r := rLenQ K) call_len_seq (by rfl) T.n_len PySem.boot_len (pa_cons (pv 1) pa_nil)) pe_int (nomark _)) (pss_one (ps_ret (pe_lst (pa_cons (pe_callTy (r := rTupQ K) call_tuple_of (by rfl) T.n_tuple PyProof.Rows.boot_tuple (pa_cons (pv 1) pa_nil)) pa_nil)))) pss_nil) (pss_cons (ps_set (i := 2) nd rfl (Or.inl rfl) (pe_op op_add pe_int (pe_call G__law_draw (hr.mono (by omega)) (by rfl) D__law_draw.g D__law_draw.F.kp D__law_draw.b .nil pass0 (pa_cons (pv 0) (pa_cons (pe_op op_sub (pe_callB (r := rLenQ K) call_len_seq (by rfl) T.n_len PySem.boot_len (pa_cons (pv 1) pa_nil)) pe_int) pa_nil))))) (pss_cons (ps_set (i := 3) nd rfl (Or.inl rfl) (pe_op op_cat (pe_call G__law_family (hr.mono (by omega)) (by rfl) D__law_family.g D__law_family.F.kp D__law_family.b .nil pass0 (pa_cons (pv 0) (pa_cons (pe_slice (r := rSlL K) sl_list (pv 1) po_none (po_some (pv 2))) pa_nil))) (pe_call G__law_family (hr.mono (by omega)) (by rfl) D__law_family.g D__law_family.F.kp D__law_family.b .nil pass0 (pa_cons (pv 0) (pa_cons (pe_slice (r := rSlL K) sl_list (pv 1) (po_some (pv 2)) po_none) pa_nil))))) (pss_one (ps_ret (pe_op op_cat (pe_lst (pa_cons (pe_callTy (r := rTupQ K) call_tuple_of (by rfl) T.n_tuple PyProof.Rows.boot_tuple (pa_cons (pe_callB (r := rSorted K) cr_sorted (by rfl) T.n_sorted PyProof.Rows.boot_sorted (pa_cons (pv 1) pa_nil)) pa_nil)) pa_nil)) (pv 3))))))), ?_⟩
      have v1 : ∀ {σ' : L2.St} {H' : Hp}, σ'[1]? = some (some (.ref a)) → H' a = some (.lst (is.map V.int)) → EvP (tVar 1) σ' H' (Ls (is.map V.int)) := fun h e => evp_var h ⟨a, rfl, e⟩ mono_ls
      have lenL : ∀ {σ' : L2.St} {H' : Hp}, σ'[1]? = some (some (.ref a)) → H' a = some (.lst (is.map V.int)) → EvP (tCB (rLenQ K) (tCons (tVar 1) tNil)) σ' H' (Is (.int (is.length : Int))) := fun h e => fun H1 e1 Q q => v1 h e H1 e1 _ fun v H2 e2 ⟨b, hv, hb⟩ => ⟨b, _, by rw [hv], .inl (sq_of hb), by rw [List.length_map]; exact q _ H2 e2 rfl⟩
      refine q_when (b := decide ((is.length : Int) = 1)) (et_tst (evp_is (evp_eq (lenL rfl ha) (evp_c (v := .int 1)) rfl) (by simp))) (fun hb H1 e1 => ?_) fun hb H1 e1 => ?_
      · have hl1 : is.length = 1 := by have := of_decide_eq_true hb; omega
        obtain ⟨i, rfl⟩ := List.length_eq_one_iff.mp hl1
        refine evp_lst1 (us := [i]) (evp_tupOf (K := K) (v1 rfl (e1 _ _ ha))) H1 (Ex.refl _) _ fun v H2 e2 hv => ?_
        exact q v H2 [[i]] (Gs.of (e1.trans e2)) (d.ex (e1.trans e2)) Fam.one hv
      have hl1 : 2 ≤ is.length := by have := of_decide_eq_false hb; omega
      have d1 := d.ex e1
      have ha1 := e1 _ _ ha
      have has := not_state d1 ha1
      -- the cut
      refine q_asgD (opD (draw_i (i := 0) (p := p) (xs := xs) (m := (is.length : Int) - 1) rfl (evp_I0 (g := fun i j => .int (i - j)) (lenL rfl ha1) (evp_c (v := .int 1))) (by omega) d1 fun r H2 g2 d2 h0 hr2 => ?_))
      obtain ⟨j, rfl⟩ : ∃ j : Nat, r = j := ⟨r.toNat, by omega⟩
      have ha2 := g2 _ _ has ha1
      have g2' := (Gs.of e1).trans g2
      refine ⟨1, (j : Int), rfl, rfl, ?_⟩
      have ej : ((1 : Int) + (j : Int)) = ((j + 1 : Nat) : Int) := by omega
      dsimp only
      rw [ej]
      have hj : j + 1 < is.length := by omega
      have ap : is.take (j + 1) ++ is.drop (j + 1) = is := List.take_append_drop ..
      have ndp := ap.symm ▸ nd0
      have nda := (List.nodup_append.mp ndp).1
      have ndb := (List.nodup_append.mp ndp).2.1
      have la : (is.take (j + 1)).length = j + 1 := by rw [List.length_take]; omega
      have lb : (is.drop (j + 1)).length = is.length - (j + 1) := List.length_drop
      -- both parts
      refine q_asgD (opD (fam_call (p := p) (xs := xs) (n := n) (is := is.take (j + 1)) rfl ((evp_cutL (K := K) (lo := none) (hi := some ((j + 1 : Nat) : Int)) (v1 rfl ha2) eo_none (eo_some (evp_var (P := Is (.int ((j + 1 : Nat) : Int))) (i := 2) rfl rfl mono_is).ev)).imp fun v H1 _ h => by rw [cutV_to, ← List.map_take] at h; exact h) d2 nda (by omega) (by omega) (by omega) fun v5 H3 fs g3 d3 hfs hv5 => ?_))
      have ha3 := g3 _ _ has ha2
      refine fam_call (p := p) (xs := xs) (n := n) (is := is.drop (j + 1)) rfl ((evp_cutL (K := K) (lo := some ((j + 1 : Nat) : Int)) (hi := none) (v1 rfl ha3) (eo_some (evp_var (P := Is (.int ((j + 1 : Nat) : Int))) (i := 2) rfl rfl mono_is).ev) eo_none).imp fun v H1 _ h => by rw [cutV_from, ← List.map_drop] at h; exact h) d3 ndb (by omega) (by omega) (by omega) fun v6 H4 gs g4 d4 hgs hv6 => ?_
      have ha4 := g4 _ _ has ha3
      have hv5' := tuL_gs g4 d3 hv5
      have l5 := hfs.len
      have l6 := hgs.len
      obtain ⟨p5, y5, rfl, h5, pr5⟩ := hv5'
      obtain ⟨p6, y6, rfl, h6, pr6⟩ := hv6
      refine ⟨p5, p6, y5, y6, rfl, rfl, h5, h6, sz_of (by rw [Paired.len pr5, Paired.len pr6]; omega), fun p7 hp7 => ?_⟩
      have h7 : TuL (fs ++ gs) (.ref p7) (upd H4 p7 (.lst (y5 ++ y6))) := ⟨p7, _, rfl, upd_same, Paired.app (Paired.impl (fun _ _ h => mono_ts _ _ _ (Ex.new hp7) h) pr5) (Paired.impl (fun _ _ h => mono_ts _ _ _ (Ex.new hp7) h) pr6)⟩
      have e7 : Evl.Ex H4 (upd H4 p7 (.lst (y5 ++ y6))) := Ex.new hp7
      generalize upd H4 p7 (.lst (y5 ++ y6)) = H7 at h7 e7
      have gg := ((g2'.trans g3).trans g4).trans (Gs.of e7)
      have hall : EvP (tCB (rTupQ K) (tCons (tCB (rSorted K) (tCons (tVar 1) tNil)) tNil)) [some (.ref s), some (.ref a), some (.int ((j + 1 : Nat) : Int)), some (.ref p7)] H7 (fun v H1 => ∃ so : List Int, so.Perm is ∧ so.Pairwise (· ≤ ·) ∧ Ts (so.map V.int) v H1) := fun H1 e1 Q q =>
        evp_sortI (K := K) (v1 rfl (e7 _ _ ha4)) (by omega) H1 e1 _ fun v H2 e2 ⟨so, hp, hs, b, hb, hh⟩ => ⟨b, _, by rw [hb], .inl ⟨sq_of hh, fun l hl => q _ _ (e2.trans (Ex.new hl)) ⟨so, hp, hs, l, rfl, upd_same⟩⟩⟩
      refine opD (hall H7 (Ex.refl _) _ fun v8 H8 e8 ⟨so, hso, hsr, hv8⟩ => ⟨sz_of (show 1 ≤ 100000 by decide), fun p9 hp9 => ?_⟩)
      have e9 : Evl.Ex H8 (upd H8 p9 (.lst [v8])) := Ex.new hp9
      have h9 : (upd H8 p9 (.lst [v8])) p9 = some (.lst [v8]) := upd_same
      generalize upd H8 p9 (.lst [v8]) = H9 at e9 h9
      obtain ⟨p7', y7, e7', h7', pr7⟩ := mono_tuL _ _ _ (e8.trans e9) h7
      cases e7'
      refine ⟨.ref p7, rfl, p9, p7, [v8], y7, rfl, rfl, h9, h7', sz_of (by rw [Paired.len pr7, List.length_append]; simp; omega), fun pz hz => ?_⟩
      have ez : Evl.Ex H9 (upd H9 pz (.lst ([v8] ++ y7))) := Ex.new hz
      have FF := Fam.join hfs hgs (ap.symm ▸ nd0) (ap.symm ▸ hso) hsr (fun z => by rw [ap] at z; rw [z] at hl1; simp at hl1)
      rw [ap] at FF
      exact q _ _ (so :: (fs ++ gs)) ((gg.trans (Gs.of (e8.trans e9))).trans (Gs.of ez)) ((((d4.ex e7).ex e8).ex e9).ex ez) FF ⟨pz, _, rfl, upd_same, .cons (mono_ts _ _ _ (e9.trans ez) hv8) (Paired.impl (fun _ _ h => mono_ts _ _ _ ez h) pr7)⟩
end
end K20
namespace K20
open PySem PySem.Spec PyProof.Rows L2 Evl RZ Ev2 TA5 Ow
abbrev s_law_wheres : Stmt := topS 47
abbrev N_law_wheres : List Str := ["_law_state", "_law_left", "_law_right", "_law_found", "_law_turn", "_law_values"]
theorem sc_law_wheres : FnScope N_law_wheres ["_law_state", "_law_left", "_law_right"] (defScope s_law_wheres) := ⟨rfl, rfl, rfl, by decide +kernel, rfl, by decide +kernel, by decide +kernel⟩

/-! ### lists of things of one kind -/
def LsP {α : Type} (Pi : α → HP) (zs : List α) : HP := fun v H => ∃ p ys, v = .ref p ∧ H p = some (.lst ys) ∧ Paired (fun y z => Pi z y H) ys zs
def TsP {α : Type} (Pi : α → HP) (zs : List α) : HP := fun v H => ∃ p ys, v = .ref p ∧ H p = some (.tup ys) ∧ Paired (fun y z => Pi z y H) ys zs
theorem mono_lsP {α : Type} {Pi : α → HP} {zs : List α} (m : ∀ z, Mono (Pi z)) : Mono (LsP Pi zs) := fun _ _ _ e ⟨p, ys, h1, h2, h3⟩ => ⟨p, ys, h1, e _ _ h2, Paired.impl (fun _ _ h => m _ _ _ _ e h) h3⟩
theorem mf_tsP {α : Type} {Pi : α → HP} {zs : List α} (m : ∀ z, MonoF (Pi z)) : MonoF (TsP Pi zs) := fun _ _ _ e ⟨p, ys, h1, h2, h3⟩ => ⟨p, ys, h1, e _ _ h2 (fun _ z => nomatch z), Paired.impl (fun _ _ h => m _ _ _ _ e h) h3⟩
def IsRef {α : Type} (Pi : α → HP) : Prop := ∀ z y H, Pi z y H → ∃ a, y = V.ref a
theorem lsP_gs {α : Type} {Pi : α → HP} {zs : List α} {s p : Addr} {xs : List Int} {H H' : Hp} {v : V} (m : ∀ z, MonoF (Pi z)) (hr : IsRef Pi) (g : Gs s H H') (d : Dr s p xs H) (h : LsP Pi zs v H) : LsP Pi zs v H' := by
  obtain ⟨a, ys, e, ha, pr⟩ := h
  exact ⟨a, ys, e, g _ _ (refs_state d ha (paired_refs (fun y f h => hr _ _ _ h) pr)) ha, Paired.impl (fun _ _ h => m _ _ _ _ (Gs.fx g d) h) pr⟩
theorem paired_idx {α : Type} {R : V → α → Prop} {ys : List V} {zs : List α} (pr : Paired R ys zs) : ∀ {i : Nat} {y : V}, ys[i]? = some y → ∃ z, zs[i]? = some z ∧ R y z := by
  induction pr with
  | nil => intro i y h; cases i <;> cases h
  | cons h t ih =>
    intro i y e
    cases i with
    | zero => cases e; exact ⟨_, rfl, h⟩
    | succ i => exact ih e
theorem paired_mapG {α β γ : Type} {R : α → γ → Prop} {g : β → γ} : ∀ {ys : List α} {idx : List β}, Paired (fun y i => R y (g i)) ys idx → Paired R ys (idx.map g)
  | _, _, .nil => .nil
  | _, _, .cons h t => .cons h (paired_mapG t)
theorem range_filter {α : Type} (b : α → Bool) : ∀ zs : List α, ((List.range zs.length).filter fun i => (zs[i]?).any b).map (zs[·]?) = (zs.filter b).map some
  | [] => rfl
  | z :: zs => by
    have ih := range_filter b zs
    rw [List.length_cons, List.range_succ_eq_map, List.filter_cons, List.filter_map]
    have e : ((List.range zs.length).filter ((fun i => ((z :: zs)[i]?).any b) ∘ Nat.succ)) = (List.range zs.length).filter fun i => (zs[i]?).any b := rfl
    rw [e]
    show List.map _ (if b z = true then _ else _) = _
    cases hb : b z with
    | true => rw [if_pos rfl, List.filter_cons_of_pos hb, List.map_cons, List.map_cons, List.map_map, ← ih]; rfl
    | false => rw [if_neg (by decide), List.filter_cons_of_neg (by rw [hb]; decide), List.map_map, ← ih]; rfl
section
variable {K : PySem.W.Frag} {σ : L2.St} {H H' : Hp} {ta tb te tl : TE} {tt : TT} {s p : Addr} {xs : List Int} {α β : Type}
theorem wx_lsP {Pi : α → HP} {zs : List α} (m : ∀ z, Mono (Pi z)) (h : EvP tl σ H (LsP Pi zs)) : WiX (iList K tl) σ H zs.length (fun i x H1 => ∃ z, zs[i]? = some z ∧ Pi z x H1) := fun H1 e R k =>
  h H1 e _ fun v H2 e2 ⟨a, ys, hv, ha, pr⟩ => ⟨a, hv, ⟨ys, sq_of ha⟩, k _ H2 e2 fun i H3 e3 => by
    have h3 := sq_of (K := K) (e3 _ _ ha)
    have hl := Paired.len pr
    exact ⟨fun hlt => ⟨ys, _, h3, List.getElem?_eq_getElem (by omega)⟩, fun hlt => ⟨ys, h3, by omega⟩, fun hlt x H' ⟨y1, y2⟩ => by
      rw [y1]
      obtain ⟨z, hz, hp⟩ := paired_idx pr (y2 ys h3)
      exact ⟨Ex.refl _, z, hz, m z _ _ _ e3 hp⟩⟩⟩
theorem wx_tsP {Pi : α → HP} {zs : List α} (m : ∀ z, Mono (Pi z)) (h : EvP tl σ H (TsP Pi zs)) : WiX (iTup K tl) σ H zs.length (fun i x H1 => ∃ z, zs[i]? = some z ∧ Pi z x H1) := fun H1 e R k =>
  h H1 e _ fun v H2 e2 ⟨a, ys, hv, ha, pr⟩ => ⟨a, hv, ⟨ys, st_of ha⟩, k _ H2 e2 fun i H3 e3 => by
    have h3 := st_of (K := K) (e3 _ _ ha)
    have hl := Paired.len pr
    exact ⟨fun hlt => ⟨ys, _, h3, List.getElem?_eq_getElem (by omega)⟩, fun hlt => ⟨ys, h3, by omega⟩, fun hlt x H' ⟨y1, y2⟩ => by
      rw [y1]
      obtain ⟨z, hz, hp⟩ := paired_idx pr (y2 ys h3)
      exact ⟨Ex.refl _, z, hz, m z _ _ _ e3 hp⟩⟩⟩
/-- enumerate: a new pair at each turn -/
def EnP (Pi : α → HP) (zs : List α) (i : Nat) : HP := fun x H1 => ∃ z y T, zs[i]? = some z ∧ x = .ref T ∧ H1 T = some (.tup [.int (i : Int), y]) ∧ Pi z y H1
theorem wx_enL {Pi : α → HP} {zs : List α} (m : ∀ z, Mono (Pi z)) (h : EvP tl σ H (LsP Pi zs)) : WiX (iEnum K (tCons tl tNil)) σ H zs.length (EnP Pi zs) := fun H1 e R k =>
  h H1 e _ fun v H2 e2 ⟨a, ys, hv, ha, pr⟩ => ⟨a, ys, by rw [hv], sq_of ha, k _ H2 e2 fun i H3 e3 => by
    have h3 := sq_of (K := K) (e3 _ _ ha)
    have hl := Paired.len pr
    exact ⟨fun hlt => ⟨ys, _, h3, List.getElem?_eq_getElem (by omega)⟩, fun hlt => ⟨ys, h3, by omega⟩, fun hlt x H' ⟨T, y, hx, hT, hH, y2⟩ => by
      rw [hH]
      obtain ⟨z, hz, hp⟩ := paired_idx pr (y2 ys h3)
      exact ⟨Ex.new hT, z, y, T, hz, hx, upd_same, m z _ _ _ (e3.trans (Ex.new hT)) hp⟩⟩⟩
theorem wx_enT {Pi : α → HP} {zs : List α} (m : ∀ z, Mono (Pi z)) (h : EvP tl σ H (TsP Pi zs)) : WiX (iEnumT K (tCons tl tNil)) σ H zs.length (EnP Pi zs) := fun H1 e R k =>
  h H1 e _ fun v H2 e2 ⟨a, ys, hv, ha, pr⟩ => ⟨a, ys, by rw [hv], st_of ha, k _ H2 e2 fun i H3 e3 => by
    have h3 := st_of (K := K) (e3 _ _ ha)
    have hl := Paired.len pr
    exact ⟨fun hlt => ⟨ys, _, h3, List.getElem?_eq_getElem (by omega)⟩, fun hlt => ⟨ys, h3, by omega⟩, fun hlt x H' ⟨T, y, hx, hT, hH, y2⟩ => by
      rw [hH]
      obtain ⟨z, hz, hp⟩ := paired_idx pr (y2 ys h3)
      exact ⟨Ex.new hT, z, y, T, hz, hx, upd_same, m z _ _ _ (e3.trans (Ex.new hT)) hp⟩⟩⟩
/-- a list that is walked -/
theorem evp_lcW {wi : TI} {g : TG} {vs : List Nat} {zs : List α} {item : Nat → V → Hp → Prop} {b : α → Bool} {f : α → β} {Ri : β → HP} {Sg : α → L2.St → Hp → Prop} (hw : WiX wi σ H zs.length item) (hl : zs.length ≤ 40000)
    (hg : ∀ i z x H1, zs[i]? = some z → Evl.Ex H H1 → item i x H1 → GP g x (wipe σ vs) H1 (fun σ2 H2 => wipe σ2 vs = wipe σ vs ∧ Sg z σ2 H2)) (ht : ∀ z σ2 H1, z ∈ zs → Evl.Ex H H1 → Sg z σ2 H1 → EvT tt σ2 H1 (b z))
    (he : ∀ z σ2 H1, z ∈ zs → Evl.Ex H H1 → Sg z σ2 H1 → EvP te σ2 H1 (Ri (f z))) (m : ∀ y, MonoF (Ri y)) :
    EvP (tLc wi g tt te vs) σ H (LsP Ri ((zs.filter b).map f)) :=
  (evp_lcF (n := zs.length) (item := item) (Sg := fun i σ2 H1 => ∃ z, zs[i]? = some z ∧ Sg z σ2 H1) (f := fun i => (zs[i]?).any b) (Pi := fun i => match zs[i]? with | some z => Ri (f z) | none => fun _ _ => False) hw hl
    (fun i x H1 hi e hx => by
      obtain ⟨z, hz⟩ : ∃ z, zs[i]? = some z := ⟨_, List.getElem?_eq_getElem hi⟩
      intro Q q
      exact hg i z x H1 hz e hx Q fun σ2 hs => q σ2 ⟨hs.1, z, hz, hs.2⟩)
    (fun i σ2 H1 hi e ⟨z, hz, hs⟩ => by
      have : (zs[i]?).any b = b z := by rw [hz]; rfl
      rw [this]
      exact ht z σ2 H1 (List.mem_of_getElem? hz) e hs)
    (fun i σ2 H1 hi e ⟨z, hz, hs⟩ => by
      rw [hz]
      exact he z σ2 H1 (List.mem_of_getElem? hz) e hs)
    (fun i => by
      cases hz : zs[i]? with
      | none => exact fun _ _ _ _ h => h
      | some z => exact m _)).imp fun v H1 _ ⟨q, ys, hv, hq, pr⟩ => ⟨q, ys, hv, hq, by
    have h1 : Paired (fun y (o : Option α) => match o with | some z => Ri (f z) y H1 | none => False) ys (((List.range zs.length).filter fun i => (zs[i]?).any b).map (zs[·]?)) := paired_mapG (Paired.impl (fun y i h => by
      cases hz : zs[i]? with
      | none => rw [hz] at h; exact h
      | some z => rw [hz] at h; exact h) pr)
    rw [range_filter] at h1
    have h2 : ∀ {ys : List V} {zs : List α}, Paired (fun y (o : Option α) => match o with | some z => Ri (f z) y H1 | none => False) ys (zs.map some) → Paired (fun y z => Ri z y H1) ys (zs.map f) := fun {ys zs} => by
      induction zs generalizing ys with
      | nil => intro h; cases h; exact .nil
      | cons z zs ih => intro h; cases h with | cons h t => exact .cons h (ih t)
    exact h2 h1⟩
end
end K20
namespace K20
open PySem PySem.Spec PyProof.Rows L2 Evl RZ Ev2 TA5 Ow

/-! ### wheres -/
inductive Wh
  | all
  | left (vs : List Int)
  | right (vs : List Int)
  | cell (a b : Int)
def wD : Wh → List PyData
  | .all => [.str "all"]
  | .left vs => [.str "left", .tuple (vs.map .int)]
  | .right vs => [.str "right", .tuple (vs.map .int)]
  | .cell a b => [.str "cell", .int a, .int b]
structure VsOk (n : Int) (vs : List Int) : Prop where
  asc : vs.Pairwise (· < ·)
  ne : vs ≠ []
  lt : ∀ x ∈ vs, 0 ≤ x ∧ x < n
  len : vs.length ≤ 8
def WhOk (l r : Int) : Wh → Prop
  | .all => True
  | .left vs => VsOk l vs
  | .right vs => VsOk r vs
  | .cell a b => (0 ≤ a ∧ a < l) ∧ 0 ≤ b ∧ b < r
theorem isB_is {n i : Int} (h : 0 ≤ i ∧ i < n) : isB n (.int i) = true := by
  show (decide (0 ≤ i) && decide (i < n)) = true
  simp [h.1, h.2]
theorem vsOk_is {n : Int} {vs : List Int} (h : VsOk n vs) : isVs n (.tuple (vs.map .int)) = true := by
  have h1 : (vs.map PyData.int).all (isB n) = true := by
    rw [List.all_eq_true]
    intro d hd
    obtain ⟨i, hi, rfl⟩ := List.mem_map.mp hd
    exact isB_is (h.lt i hi)
  have h2 : (vs.map PyData.int).map dI = vs := by rw [List.map_map]; exact List.map_id _
  have h3 : (vs.map PyData.int).isEmpty = false := by
    have := h.ne
    cases vs with
    | nil => exact absurd rfl this
    | cons => rfl
  show (!(vs.map PyData.int).isEmpty && ((vs.map PyData.int).all (isB n) && ascI ((vs.map PyData.int).map dI))) = true
  rw [h1, h2, h3, asc_pw.mpr h.asc]; rfl
theorem wh_form {l r : Int} {w : Wh} (h : WhOk l r w) : form l r (wD w) = true := by
  cases w with
  | all => rfl
  | left vs => show (decide ((1 : Nat) + 1 = 2) && isVs l (.tuple (vs.map .int))) = true; rw [vsOk_is h]; rfl
  | right vs => show (decide ((1 : Nat) + 1 = 2) && isVs r (.tuple (vs.map .int))) = true; rw [vsOk_is h]; rfl
  | cell a b => show (decide (("cell" : Str) = "cell") && (decide ((2 : Nat) + 1 = 3) && (isB l (.int a) && isB r (.int b)))) = true; rw [isB_is h.1, isB_is h.2]; simp
theorem wh_okV {l r : Int} {w : Wh} (h : WhOk l r w) : OkV (wD w) := by
  have hs : ∀ w : Str, w = "all" ∨ w = "left" ∨ w = "right" ∨ w = "cell" → okD (.str w) = true := fun w h => by rcases h with rfl | rfl | rfl | rfl <;> decide +kernel
  have two : ∀ (w : Str) (vs : List Int), okD (.str w) = true → vs.length ≤ 8 → OkV [.str w, .tuple (vs.map .int)] := fun w vs h1 h2 => ⟨by show 2 ≤ 50; decide, fun d hd => by
    rcases List.mem_cons.mp hd with rfl | hd
    · exact h1
    · rw [List.mem_singleton.mp hd]; exact okD_ints (by omega)⟩
  cases w with
  | all => exact ⟨by decide, fun d hd => by rw [List.mem_singleton.mp hd]; exact hs _ (.inl rfl)⟩
  | left vs => exact two _ vs (hs _ (.inr (.inl rfl))) (show VsOk l vs from h).len
  | right vs => exact two _ vs (hs _ (.inr (.inr (.inl rfl)))) (show VsOk r vs from h).len
  | cell a b => exact ⟨by show 3 ≤ 50; decide, fun d hd => by
      rcases List.mem_cons.mp hd with rfl | hd
      · exact hs _ (.inr (.inr (.inr rfl)))
      rcases List.mem_cons.mp hd with rfl | hd
      · rfl
      · rw [List.mem_singleton.mp hd]; rfl⟩
/-- a where, as it lies -/
def Wv : Wh → HP
  | .all => Ts [.str "all"]
  | .left vs => fun v H => ∃ t, Ts [.str "left", .ref t] v H ∧ H t = some (.tup (vs.map V.int))
  | .right vs => fun v H => ∃ t, Ts [.str "right", .ref t] v H ∧ H t = some (.tup (vs.map V.int))
  | .cell a b => Ts [.str "cell", .int a, .int b]
theorem mf_ts {xs : List V} : MonoF (Ts xs) := fun _ _ _ e ⟨p, h1, h2⟩ => ⟨p, h1, e _ _ h2 (fun _ z => nomatch z)⟩
theorem mf_wv : ∀ w : Wh, MonoF (Wv w)
  | .all => mf_ts
  | .left vs => fun _ _ _ e ⟨t, h1, h2⟩ => ⟨t, mf_ts _ _ _ e h1, e _ _ h2 (fun _ z => nomatch z)⟩
  | .right vs => fun _ _ _ e ⟨t, h1, h2⟩ => ⟨t, mf_ts _ _ _ e h1, e _ _ h2 (fun _ z => nomatch z)⟩
  | .cell a b => mf_ts
theorem ref_wv : IsRef Wv := fun w y H h => by
  cases w with
  | all => obtain ⟨a, e, _⟩ := h; exact ⟨a, e⟩
  | left vs => obtain ⟨t, ⟨a, e, _⟩, _⟩ := h; exact ⟨a, e⟩
  | right vs => obtain ⟨t, ⟨a, e, _⟩, _⟩ := h; exact ⟨a, e⟩
  | cell a b => obtain ⟨a, e, _⟩ := h; exact ⟨a, e⟩
theorem wv_va {w : Wh} {v : V} {H : Hp} (h : Wv w v H) : Va (wD w) v H := by
  cases w with
  | all => obtain ⟨a, e, ha⟩ := h; exact ⟨a, _, e, ha, .cons (.flat rfl) .nil⟩
  | left vs => obtain ⟨t, ⟨a, e, ha⟩, ht⟩ := h; exact ⟨a, _, e, ha, .cons (.flat rfl) (.cons (.tup ht (fl_ints vs)) .nil)⟩
  | right vs => obtain ⟨t, ⟨a, e, ha⟩, ht⟩ := h; exact ⟨a, _, e, ha, .cons (.flat rfl) (.cons (.tup ht (fl_ints vs)) .nil)⟩
  | cell a b => obtain ⟨a, e, ha⟩ := h; exact ⟨a, _, e, ha, .cons (.flat rfl) (.cons (.flat rfl) (.cons (.flat rfl) .nil))⟩
/-- nested or apart -/
def Nsw : Wh → Wh → Prop
  | .left f, .left g => Nst f g
  | .right f, .right g => Nst f g
  | _, _ => True
def Whs (l r : Int) (ws : List Wh) : Prop := (∀ w ∈ ws, WhOk l r w) ∧ ∀ u ∈ ws, ∀ w ∈ ws, Nsw u w
theorem asc_len : ∀ (f : List Int) (lo hi : Int), f.Pairwise (· < ·) → (∀ x ∈ f, lo ≤ x ∧ x < hi) → (f.length : Int) ≤ max 0 (hi - lo)
  | [], _, _, _, _ => by simp; omega
  | x :: f, lo, hi, hp, hs => by
    have h1 := hs x (List.mem_cons_self ..)
    have := asc_len f (x + 1) hi (List.pairwise_cons.mp hp).2 fun y hy => ⟨by have := (List.pairwise_cons.mp hp).1 y hy; omega, (hs y (List.mem_cons_of_mem _ hy)).2⟩
    rw [List.length_cons]
    omega
theorem fam_vs {n : Nat} {is : List Int} {fs : List (List Int)} (h : Fam is fs) (p : is.Perm (iota n)) (hn : n ≤ 8) : ∀ f ∈ fs, VsOk n f := fun f hf => by
  have hs : ∀ x ∈ f, 0 ≤ x ∧ x < (n : Int) := fun x hx => iota_mem.mp (p.mem_iff.mp (h.sub f hf x hx))
  refine ⟨h.asc f hf, h.non f hf, hs, ?_⟩
  have := asc_len f 0 n (h.asc f hf) hs
  omega
theorem whs_new {l r : Nat} {fs gs : List (List Int)} (h1 : ∀ f ∈ fs, VsOk l f) (h2 : ∀ f ∈ gs, VsOk r f) (n1 : ∀ f ∈ fs, ∀ g ∈ fs, Nst f g) (n2 : ∀ f ∈ gs, ∀ g ∈ gs, Nst f g) : Whs l r ([.all] ++ fs.map .left ++ gs.map .right) := by
  have cases3 : ∀ w ∈ [Wh.all] ++ fs.map .left ++ gs.map .right, w = .all ∨ (∃ f ∈ fs, w = .left f) ∨ ∃ f ∈ gs, w = .right f := fun w hw => by
    rcases List.mem_append.mp hw with h | h
    · rcases List.mem_append.mp h with h | h
      · exact .inl (List.mem_singleton.mp h)
      · obtain ⟨f, hf, e⟩ := List.mem_map.mp h; exact .inr (.inl ⟨f, hf, e.symm⟩)
    · obtain ⟨f, hf, e⟩ := List.mem_map.mp h; exact .inr (.inr ⟨f, hf, e.symm⟩)
  refine ⟨fun w hw => ?_, fun u hu w hw => ?_⟩
  · rcases cases3 w hw with rfl | ⟨f, hf, rfl⟩ | ⟨f, hf, rfl⟩
    · trivial
    · exact h1 f hf
    · exact h2 f hf
  · rcases cases3 u hu with rfl | ⟨f, hf, rfl⟩ | ⟨f, hf, rfl⟩ <;> rcases cases3 w hw with rfl | ⟨g, hg, rfl⟩ | ⟨g, hg, rfl⟩ <;> first | trivial | exact n1 f hf g hg | exact n2 f hf g hg
theorem whs_cell {l r : Int} {ws : List Wh} {a b : Int} (h : Whs l r ws) (ha : 0 ≤ a ∧ a < l) (hb : 0 ≤ b ∧ b < r) : Whs l r (ws ++ [.cell a b]) := by
  refine ⟨fun w hw => ?_, fun u hu w hw => ?_⟩
  · rcases List.mem_append.mp hw with h1 | h1
    · exact h.1 w h1
    · rw [List.mem_singleton.mp h1]; exact ⟨ha, hb⟩
  · rcases List.mem_append.mp hu with h1 | h1
    · rcases List.mem_append.mp hw with h2 | h2
      · exact h.2 u h1 w h2
      · rw [List.mem_singleton.mp h2]; cases u <;> trivial
    · rw [List.mem_singleton.mp h1]; trivial
end K20
namespace K20
open PySem PySem.Spec PyProof.Rows L2 Evl RZ Ev2 TA5 Ow

structure FR where
  w : Wh
  lo : Int
  hi : Option Int
def OI : Option Int → V
  | none => .non
  | some i => .int i
def Fv (f : FR) : HP := fun v H => ∃ x, Ts [x, .int f.lo, OI f.hi] v H ∧ Wv f.w x H
theorem mf_fv (f : FR) : MonoF (Fv f) := fun _ _ _ e ⟨x, h1, h2⟩ => ⟨x, mf_ts _ _ _ e h1, mf_wv _ _ _ _ e h2⟩
theorem ref_fv : IsRef Fv := fun f y H ⟨_, ⟨a, e, _⟩, _⟩ => ⟨a, e⟩
structure FsOk (l r : Int) (fs : List FR) : Prop where
  ws : Whs l r (fs.map (·.w))
  lim : ∀ f ∈ fs, (0 ≤ f.lo ∧ True) ∧ ∀ h, f.hi = some h → f.lo ≤ h ∧ h ≤ 200
theorem Whs.sub {l r : Int} {us ws : List Wh} (h : Whs l r ws) (k : ∀ u ∈ us, u ∈ ws) : Whs l r us := ⟨fun u hu => h.1 u (k u hu), fun u hu w hw => h.2 u (k u hu) w (k w hw)⟩
section
variable {P : Program} {w : World} {K : PySem.W.Frag} {mg : Str → Option Value} {base : Heap} {tk : Tok} {k : Nat} {σ : L2.St} {H : Hp} {s p : Addr} {xs : List Int}
def spWheres : Sp := fun vs H Q _ => ∃ (s p : Addr) (xs : List Int) (l r : Nat), vs = [.ref s, .int (l : Int), .int (r : Int)] ∧ Dr s p xs H ∧ (1 ≤ l ∧ l ≤ 8) ∧ (1 ≤ r ∧ r ≤ 8) ∧ ∀ v H2 ws, Gs s H H2 → Dr s p xs H2 → Whs l r ws → 1 ≤ ws.length → ws.length ≤ 40 → LsP Wv ws v H2 → Q v H2
theorem et_yes : EvT tYes σ H true := fun H1 e Q q => q H1 (Ex.refl _)
theorem lc_at {tl te : TE} {g : TG} {tt : TT} {vs : List Nat} {Q : VK} (h : tl σ H fun v H1 => tLc (iList K (tC v)) g tt te vs σ H1 Q) : tLc (iList K tl) g tt te vs σ H Q := h
/-- the tuples of a family, with a word -/
theorem fam_words {H : Hp} {v : V} {fs : List (List Int)} {word : Str} {mk : List Int → Wh} (hm : ∀ f v H t, Ts [.str word, .ref t] v H → H t = some (.tup (f.map V.int)) → Wv (mk f) v H) (h : TuL fs v H) (hl : fs.length ≤ 1000) {σ : L2.St} (hw : ∀ x, wipe ((wipe σ [5]).set 5 (some x)) [5] = wipe σ [5]) (hx : ∀ x : V, ((wipe σ [5]).set 5 (some x))[5]? = some (some x)) :
    EvP (tLc (iList K (tC v)) (gName 5) tYes (tTup (tCons (tC (.str word)) (tCons (tVar 5) tNil))) [5]) σ H (LsP Wv (fs.map mk)) := by
  have := evp_lcW (wi := iList K (tC v)) (σ := σ) (H := H) (te := tTup (tCons (tC (.str word)) (tCons (tVar 5) tNil))) (g := gName 5) (tt := tYes) (vs := [5]) (zs := fs) (b := fun _ => true) (f := mk) (Ri := Wv) (Sg := fun f σ2 H2 => ∃ x, σ2 = (wipe σ [5]).set 5 (some x) ∧ Ts (f.map V.int) x H2) (wx_lsP (K := K) (Pi := fun f => Ts (f.map V.int)) (fun _ => mono_ts) (evp_c.imp fun x H1 e ex => by rw [show x = v from ex]; exact mono_tuL _ _ _ e h)) (by omega)
    (fun i f x H1 hz e ⟨z, hz', hp⟩ => g_name (i := 5) ⟨hw x, x, rfl, by rw [hz] at hz'; cases hz'; exact hp⟩) (fun f σ2 H1 _ _ _ => et_yes)
    (fun f σ2 H1 _ e ⟨x, hs, hx'⟩ => by
      subst hs
      exact fun H2 e2 Q q => eap_two (P := Is (.str word)) evp_c (evp_var (hx x) hx' mono_ts) mono_is H2 e2 _ fun vs H3 e3 ⟨a, b, hv, ha, ⟨t, hb, ht⟩⟩ => by
        rw [hv, show a = .str word from ha, hb]
        exact ⟨sz_of (show 2 ≤ 100000 by decide), fun l hl => q _ _ (e3.trans (Ex.new hl)) (hm f _ _ t ⟨l, rfl, upd_same⟩ (Ex.new hl _ _ ht))⟩)
    mf_wv
  rw [List.filter_eq_self.mpr (fun _ _ => rfl)] at this
  exact this
theorem evp_catW {α : Type} {Pi : α → HP} {ta tb : TE} {us ws : List α} (m : ∀ z, Mono (Pi z)) (ha : EvP ta σ H (LsP Pi us)) (hb : EvP tb σ H (LsP Pi ws)) (hl : us.length + ws.length ≤ 100000) : EvP (tOp rCat ta tb) σ H (LsP Pi (us ++ ws)) :=
  evp_op ha hb (mono_lsP m) fun x y H1 _ ⟨a, as, hx, h1, p1⟩ ⟨b, bs, hy, h2, p2⟩ Q q => by
    subst hx
    subst hy
    exact ⟨a, b, as, bs, rfl, rfl, h1, h2, sz_of (by rw [Paired.len p1, Paired.len p2]; exact hl), fun p hp => q _ _ (Ex.new hp) ⟨p, _, rfl, upd_same, Paired.app (Paired.impl (fun _ _ h => m _ _ _ _ (Ex.new hp) h) p1) (Paired.impl (fun _ _ h => m _ _ _ _ (Ex.new hp) h) p2)⟩⟩
/-- a family that is drawn -/
theorem fam_drawn {n : Nat} {i : Nat} {E E' : XK} (hs : σ[0]? = some (some (.ref s))) (hi : EvP (tVar i) σ H (Is (.int (n : Int)))) (d : Dr s p xs H) (h1 : 1 ≤ n) (h8 : n ≤ 8) {Q : VK} (q : ∀ v H2 fs, Gs s H H2 → Dr s p xs H2 → (∀ f ∈ fs, VsOk n f) → (∀ f ∈ fs, ∀ g ∈ fs, Nst f g) → fs.length ≤ 16 → TuL fs v H2 → Q v H2) :
    tCall (spFam 9) [] E (tCons (tVar 0) (tCons (tCall spOrder [] E' (tCons (tVar 0) (tCons (tVar i) tNil))) tNil)) σ H Q := by
  refine ⟨.ref s, hs, ?_⟩
  show tCall spOrder [] E' (tCons (tVar 0) (tCons (tVar i) tNil)) σ H _
  refine eap_two (P := Is (.ref s)) (evp_var hs rfl mono_is) hi mono_is H (Ex.refl _) _ fun vs H2 e2 ⟨x, y, hv, hx, hy⟩ => ⟨s, p, xs, n, by rw [hv, show x = .ref s from hx, show y = .int (n : Int) from hy]; rfl, d.ex e2, h1, h8, fun v H3 is g3 d3 hp hl => ?_⟩
  have hlen : is.length = n := by rw [hp.length_eq, iota_len]
  exact ⟨s, p, xs, v, is, rfl, d3, hl, hp.nodup_iff.mpr iota_nodup, by omega, by omega, by omega, fun v4 H4 fs g4 d4 hf hv4 => q v4 H4 fs (((Gs.of e2).trans g3).trans g4) d4 (fam_vs hf hp h8) hf.nst (by have := hf.len; omega) hv4⟩
theorem fam_comp {n : Nat} {i : Nat} {E E' : XK} {word : Str} {mk : List Int → Wh} (hm : ∀ f v H t, Ts [.str word, .ref t] v H → H t = some (.tup (f.map V.int)) → Wv (mk f) v H) (hw : ∀ x, wipe ((wipe σ [5]).set 5 (some x)) [5] = wipe σ [5]) (hx : ∀ x : V, ((wipe σ [5]).set 5 (some x))[5]? = some (some x))
    (hs : σ[0]? = some (some (.ref s))) (hi : EvP (tVar i) σ H (Is (.int (n : Int)))) (d : Dr s p xs H) (h1 : 1 ≤ n) (h8 : n ≤ 8) {Q : VK} (q : ∀ v H2 (fs : List (List Int)), Gs s H H2 → Dr s p xs H2 → (∀ f ∈ fs, VsOk n f) → (∀ f ∈ fs, ∀ g ∈ fs, Nst f g) → fs.length ≤ 16 → LsP Wv (fs.map mk) v H2 → Q v H2) :
    tLc (iList K (tCall (spFam 9) [] E (tCons (tVar 0) (tCons (tCall spOrder [] E' (tCons (tVar 0) (tCons (tVar i) tNil))) tNil)))) (gName 5) tYes (tTup (tCons (tC (.str word)) (tCons (tVar 5) tNil))) [5] σ H Q :=
  lc_at (fam_drawn (n := n) (p := p) (xs := xs) hs hi d h1 h8 fun v H2 (fs : List (List Int)) g2 d2 hfs hnf hfl hv => fam_words (K := K) (mk := mk) hm hv (by omega) hw hx H2 (Ex.refl _) _ fun v3 H3 e3 h3 => q v3 H3 fs (g2.trans (Gs.of e3)) (d2.ex e3) hfs hnf hfl h3)
theorem ok_wheres {f f1 f2 f3 : Addr} {fd fd1 fd2 fd3 : FuncData} (D__law_draw : Df K mg "_law_draw" s_law_draw ["_law_state", "_law_many"] f1 fd1) (G__law_draw : FnOk P w K mg base CX0 (k + 1) f1 fd1 ["_law_state", "_law_many"] spDraw)
    (D__law_order : Df K mg "_law_order" s_law_order ["_law_state", "_law_size"] f2 fd2) (G__law_order : FnOk P w K mg base CX0 (k + 2) f2 fd2 ["_law_state", "_law_size"] spOrder)
    (D__law_family : Df K mg "_law_family" s_law_family ["_law_state", "_law_values"] f3 fd3) (G__law_family : FnOk P w K mg base CX0 (k + 11) f3 fd3 ["_law_state", "_law_values"] (spFam 9)) (T : Txt mg tk)
    (D : Df K mg "_law_wheres" s_law_wheres ["_law_state", "_law_left", "_law_right"] f fd) : FnOk P w K mg base CX0 (k + 12) f fd ["_law_state", "_law_left", "_law_right"] spWheres := by
  refine D.F.ok sc_law_wheres (fun vs H Q E h => ?_) (fun cdv A outer s0 H vs Q E hr h => ?_)
  · obtain ⟨s, p, xs, l, r, rfl, _⟩ := h
    rfl
  · obtain ⟨s, p, xs, l, r, rfl, d, ⟨hl1, hl8⟩, ⟨hr1, hr8⟩, q⟩ := h
    have nd := sc_law_wheres.nd
    refine ⟨_, (pss_cons (ps_set (i := 3) nd rfl (Or.inl rfl) (pe_op op_cat (pe_lst (pa_cons (pe_tup (pa_cons pe_str pa_nil)) pa_nil)) (pe_lc (wi := iList K _) (g := gName 5) (own := [("_law_values", 5)]) (by rfl) nd (pi_list (pe_call G__law_family (hr.mono (by omega)) (by rfl) D__law_family.g D__law_family.F.kp D__law_family.b .nil pass0 (pa_cons (pv 0) (pa_cons (pe_call G__law_order (hr.mono (by omega)) (by rfl) D__law_order.g D__law_order.F.kp D__law_order.b .nil pass0 (pa_cons (pv 0) (pa_cons (pv 1) pa_nil))) pa_nil)))) (blkOk_by (by kernel_rfl)) (fun _ _ _ _ _ => (pg_name (i := 5) nd rfl (Or.inl rfl))) (fun _ _ _ _ _ => pts_nil) (fun _ _ _ _ _ => (pe_tup (pa_cons pe_str (pa_cons (pv 5) pa_nil))))))) (pss_cons (ps_set (i := 3) nd rfl (Or.inl rfl) (pe_op op_cat (pv 3) (pe_lc (wi := iList K _) (g := gName 5) (own := [("_law_values", 5)]) (by rfl) nd (pi_list (pe_call G__law_family (hr.mono (by omega)) (by rfl) D__law_family.g D__law_family.F.kp D__law_family.b .nil pass0 (pa_cons (pv 0) (pa_cons (pe_call G__law_order (hr.mono (by omega)) (by rfl) D__law_order.g D__law_order.F.kp D__law_order.b .nil pass0 (pa_cons (pv 0) (pa_cons (pv 2) pa_nil))) pa_nil)))) (blkOk_by (by kernel_rfl)) (fun _ _ _ _ _ => (pg_name (i := 5) nd rfl (Or.inl rfl))) (fun _ _ _ _ _ => pts_nil) (fun _ _ _ _ _ => (pe_tup (pa_cons pe_str (pa_cons (pv 5) pa_nil))))))) (pss_cons (ps_for PassesOwn.never rfl (pi_range1 (by rfl) T.n_range (pa_cons pe_int pa_nil)) (pg_name (i := 4) nd rfl (Or.inl rfl)) (pss_one (ps_expr (pe_bm PySem.F.plainAttrs_list PySem.F.slot_list_append PySem.F.type_list_append mt_append (pv 3) (pa_cons (pe_tup (pa_cons pe_str (pa_cons (pe_call G__law_draw (hr.mono (by omega)) (by rfl) D__law_draw.g D__law_draw.F.kp D__law_draw.b .nil pass0 (pa_cons (pv 0) (pa_cons (pv 1) pa_nil))) (pa_cons (pe_call G__law_draw (hr.mono (by omega)) (by rfl) D__law_draw.g D__law_draw.F.kp D__law_draw.b .nil pass0 (pa_cons (pv 0) (pa_cons (pv 2) pa_nil))) pa_nil)))) pa_nil))))) (pss_one (ps_ret (pv 3)))))), ?_⟩
    -- all, and the left ones
    refine q_asgD (opD ⟨by show 1 ≤ sizeLine; decide, fun t1 ht1 => ⟨by show 1 ≤ sizeLine; decide, fun l1 hl1' => ?_⟩⟩)
    have e1 : Evl.Ex H (upd (upd H t1 (.tup [.str "all"])) l1 (.lst [.ref t1])) := (Ex.new ht1).trans (Ex.new hl1')
    have h1 : LsP Wv [.all] (.ref l1) (upd (upd H t1 (.tup [.str "all"])) l1 (.lst [.ref t1])) := ⟨l1, _, rfl, upd_same, .cons ⟨t1, rfl, Ex.new hl1' _ _ upd_same⟩ .nil⟩
    generalize upd (upd H t1 (.tup [.str "all"])) l1 (.lst [.ref t1]) = H1 at e1 h1
    have d1 := d.ex e1
    refine fam_comp (p := p) (xs := xs) (i := 1) (n := l) (mk := Wh.left) (fun f v H t a b => ⟨t, a, b⟩) (fun _ => rfl) (fun _ => rfl) rfl (evp_var rfl rfl mono_is) d1 hl1 hl8 fun v2 H2 (fs : List (List Int)) g2 d2 hfs hnf hfl hv2 => ?_
    obtain ⟨p1, y1, ep1, hp1, pr1⟩ := lsP_gs mf_wv ref_wv g2 d1 h1
    cases ep1
    obtain ⟨p2, y2, rfl, hp2, pr2⟩ := hv2
    refine ⟨l1, p2, y1, y2, rfl, rfl, hp1, hp2, sz_of (by rw [Paired.len pr1, Paired.len pr2, List.length_map]; simp; omega), fun l3 hl3 => ?_⟩
    have h3 : LsP Wv ([.all] ++ fs.map .left) (.ref l3) (upd H2 l3 (.lst (y1 ++ y2))) := ⟨l3, _, rfl, upd_same, Paired.app (Paired.impl (fun _ _ h => (mf_wv _).mono _ _ _ (Ex.new hl3) h) pr1) (Paired.impl (fun _ _ h => (mf_wv _).mono _ _ _ (Ex.new hl3) h) pr2)⟩
    have e3 : Evl.Ex H2 (upd H2 l3 (.lst (y1 ++ y2))) := Ex.new hl3
    generalize upd H2 l3 (.lst (y1 ++ y2)) = H3 at h3 e3
    have d3 := d2.ex e3
    have g3 := ((Gs.of e1).trans g2).trans (Gs.of e3)
    clear hp1 pr1 hp2 pr2 h1 e1 g2 d1 d2 e3
    -- the right ones
    refine q_asgD (opD ⟨.ref l3, rfl, ?_⟩)
    refine fam_comp (p := p) (xs := xs) (i := 2) (n := r) (mk := Wh.right) (fun f v H t a b => ⟨t, a, b⟩) (fun _ => rfl) (fun _ => rfl) rfl (evp_var rfl rfl mono_is) d3 hr1 hr8 fun v4 H4 (gs : List (List Int)) g4 d4 hgs hng hgl hv4 => ?_
    obtain ⟨p1, y1, ep1, hp1, pr1⟩ := lsP_gs mf_wv ref_wv g4 d3 h3
    cases ep1
    obtain ⟨p2, y2, rfl, hp2, pr2⟩ := hv4
    refine ⟨l3, p2, y1, y2, rfl, rfl, hp1, hp2, sz_of (by rw [Paired.len pr1, Paired.len pr2]; simp; omega), fun l5 hl5 => ?_⟩
    have h5 : LsP Wv ([.all] ++ fs.map .left ++ gs.map .right) (.ref l5) (upd H4 l5 (.lst (y1 ++ y2))) := ⟨l5, _, rfl, upd_same, Paired.app (Paired.impl (fun _ _ h => (mf_wv _).mono _ _ _ (Ex.new hl5) h) pr1) (Paired.impl (fun _ _ h => (mf_wv _).mono _ _ _ (Ex.new hl5) h) pr2)⟩
    have e5 : Evl.Ex H4 (upd H4 l5 (.lst (y1 ++ y2))) := Ex.new hl5
    have hl5' : H l5 = none := by
      cases hh : H l5 with
      | none => rfl
      | some o =>
        have hne : l5 ≠ s := fun z => by obtain ⟨k, hk⟩ := d4.at_; rw [z, hk] at hl5; cases hl5
        rw [g4 _ _ hne (g3 _ _ hne hh)] at hl5
        cases hl5
    generalize upd H4 l5 (.lst (y1 ++ y2)) = H5 at h5 e5
    have d5 := d4.ex e5
    have g5 := (g3.trans g4).trans (Gs.of e5)
    have hW := whs_new hfs hgs hnf hng
    have hlen : 1 ≤ ([Wh.all] ++ fs.map Wh.left ++ gs.map Wh.right).length ∧ ([Wh.all] ++ fs.map Wh.left ++ gs.map Wh.right).length ≤ 33 := by simp; omega
    generalize [Wh.all] ++ fs.map Wh.left ++ gs.map Wh.right = ws at h5 hW hlen
    clear hp1 pr1 hp2 pr2 h3 e5 g3 g4 d3 d4
    -- the cells
    refine q_forR1 (n := 3) (ea_cons ev_c ea_nil) (by decide) (fun j σ' H' => ∃ (s4 s5 : Option V) (ws' : List Wh), σ' = [some (.ref s), some (.int (l : Int)), some (.int (r : Int)), some (.ref l5), s4, s5] ∧ Gs s H H' ∧ Dr s p xs H' ∧ Whs l r ws' ∧ ws'.length = ws.length + j ∧ LsP Wv ws' (.ref l5) H')
      (fun H6 e6 => ⟨_, _, ws, rfl, g5.trans (Gs.of e6), d5.ex e6, hW, rfl, mono_lsP (fun w => (mf_wv w).mono) _ _ _ e6 h5⟩) (fun j σ' H' hj ⟨s4, s5, ws', hs, g, d', hW', hl', hv'⟩ => ?_) (fun σ' H' ⟨s4, s5, ws', hs, g, d', hW', hl', hv'⟩ => ?_)
    · subst hs
      have hv0 := hv'
      obtain ⟨p1, y1, ep1, hp1, pr1⟩ := hv'
      cases ep1
      have hl5s := refs_state d' hp1 (paired_refs (fun y f h => ref_wv _ _ _ h) pr1)
      refine ⟨.ref l5, rfl, .inl ⟨rfl, y1, sq_of hp1⟩, ?_⟩
      refine draw_i (i := 0) (p := p) (xs := xs) (m := (l : Int)) rfl (evp_var (i := 1) rfl rfl mono_is) (by omega) d' fun a H6 g6 d6 ha0 ha1 => ?_
      refine draw_i (i := 0) (p := p) (xs := xs) (m := (r : Int)) rfl (evp_var (i := 2) rfl rfl mono_is) (by omega) d6 fun b H7 g7 d7 hb0 hb1 => ?_
      refine ⟨by show 3 ≤ sizeLine; decide, fun t ht => ?_⟩
      have hv7 := lsP_gs mf_wv ref_wv g7 d6 (lsP_gs mf_wv ref_wv g6 d' hv0)
      have e8 : Evl.Ex H7 (upd H7 t (.tup [.str "cell", .int a, .int b])) := Ex.new ht
      have h8 : (upd H7 t (.tup [.str "cell", .int a, .int b])) t = some (.tup [.str "cell", .int a, .int b]) := upd_same
      generalize upd H7 t (.tup [.str "cell", .int a, .int b]) = H8 at e8 h8
      obtain ⟨p1', y8, ep, hp8, pr8⟩ := mono_lsP (fun w => (mf_wv w).mono) _ _ _ e8 hv7
      cases ep
      refine ⟨l5, y8, .ref t, rfl, rfl, hp8, sz_lt (by rw [Paired.len pr8]; omega), ?_⟩
      have g8 : Gs s H H8 := (g.trans (g6.trans g7)).trans (Gs.of e8)
      have d8 := d7.ex e8
      refine ⟨_, _, ws' ++ [.cell a b], rfl, fun a o hna hh => ?_, ⟨d8.ne, ?_, ?_⟩, whs_cell hW' ⟨ha0, ha1⟩ ⟨hb0, hb1⟩, by rw [List.length_append, hl']; rfl, l5, _, rfl, upd_same, ?_⟩
      · rw [upd_ne (fun z => by rw [z, hl5'] at hh; cases hh)]
        exact g8 _ _ hna hh
      · obtain ⟨k, hk⟩ := d8.at_
        exact ⟨k, by rw [upd_ne hl5s.symm]; exact hk⟩
      · have hpl : p ≠ l5 := fun z => by
          have := d8.pool
          rw [z, hp8] at this
          cases this
          have hr' := paired_refs (fun y f h => ref_wv _ _ _ h) pr8
          cases xs with
          | nil => cases pr8; simp at hl'; omega
          | cons x xs => obtain ⟨c, e⟩ := hr' (.int x) (by simp); cases e
        rw [upd_ne hpl]
        exact d8.pool
      · have fx : Fx H8 (upd H8 l5 (.lst (y8 ++ [.ref t]))) := Fx.lst hp8
        exact Paired.app (Paired.impl (fun _ _ h => mf_wv _ _ _ _ fx h) pr8) (.cons ⟨t, rfl, fx _ _ h8 (fun _ z => nomatch z)⟩ .nil)
    · subst hs
      refine ⟨.ref l5, rfl, q _ H' ws' g d' hW' (by omega) (by rw [hl']; show ws.length + 3 ≤ 40; omega) hv'⟩
end
end K20
/-! a for in a generator's body -/
namespace L2
open PySem PySem.Spec PyProof.Rows GenW
section
variable {prog : Program} {w : World} {A : Around} {R : GenEnd} {Y : Protocol} {n : Nat} {s₀ : Shared} {fs : List Frame} {s : Shared} {env : Env}
/-- what is left when a turn raises -/
abbrev notedTo (e : Value) (env : Env) : Sem PySem.Fin := (do noteFrame e env; theTreesLotGoes e : Sem Unit).wrap (fun _ => .raise e) .raise id id
theorem seg_forLoop {target : Expr} {it : Value} {body orelse : List Stmt} 
    (h : wpAny (model prog w) (A.over (.forLoop target it body orelse env) fs) (pyNext it) (fun r s1 => match r with
        | none => Seg (model prog w) A R Y n s₀ (.forLoop target it body orelse env) (.pure (.again (.block orelse env))) fs s1
        | some v => wpAny (model prog w) (A.over (.forLoop target it body orelse env) fs) (letOwnedTupleGo target it v) (fun _ s2 =>
            wpAny (model prog w) (A.over (.forLoop target it body orelse env) fs) (assign target env v) (fun _ s3 =>
              Seg (model prog w) A R Y n s₀ (.forLoop target it body orelse env) ((execs body env).wrap (fun f => match f with
                | .next | .cont => .pure (.again (.forLoop target it body orelse env))
                | .brk => .pure (.done .next)
                | .ret v => .pure (.done (.ret v))) (fun e => notedTo e env) id id) fs s3)
              (fun x s' => Seg (model prog w) A R Y n s₀ (.forLoop target it body orelse env) (notedTo x env) fs s') s2)
            (fun x s' => Seg (model prog w) A R Y n s₀ (.forLoop target it body orelse env) (notedTo x env) fs s') s1)
      (fun x s' => Seg (model prog w) A R Y n s₀ (.forLoop target it body orelse env) (notedTo x env) fs s') s) :
    Seg (model prog w) A R Y n s₀ (.forLoop target it body orelse env) ((model prog w).den (.forLoop target it body orelse env)) fs s := by
  show Seg _ A R Y n s₀ _ ((forTurn target it body orelse env).onRaise (fun x => do noteFrame x env; theTreesLotGoes x)) fs s
  have hJ : (fun e => ((do noteFrame e env; theTreesLotGoes e : Sem Unit)).bind fun _ => (Sem.raise e : Sem PySem.Fin)) = fun e => notedTo e env := by
    funext e
    exact Sem.bind_eq_wrap _ _
  unfold forTurn
  rw [Sem.onRaise_eq_wrap, hJ]
  refine seg_bind_wrap (wpAny_standAt ?_)
  refine seg_bind_wrap (wpAny_onRaise (wpAny_mono h (fun r s1 h1 => ?_) fun x s' hx => wpAny_standAt hx))
  cases r with
  | none => exact h1
  | some v =>
    refine seg_bind_wrap (wpAny_mono h1 (fun _ s2 h2 => ?_) fun x s' hx => hx)
    refine seg_bind_wrap (wpAny_mono h2 (fun _ s3 h3 => ?_) fun x s' hx => hx)
    rw [Sem.bind_eq_wrap', Sem.wrap_wrap]
    have h4 := h3
    refine cast (congrArg (fun t => Seg (model prog w) A R Y n s₀ (.forLoop target it body orelse env) t fs s3) ?_) h4
    refine (Sem.wrap_congr (execs body env) id id (fun f => ?_) (fun e => rfl)).symm
    cases f <;> rfl
theorem seg_block_nil (h : Seg (model prog w) A R Y n s₀ (.block [] env) (.pure (.done .next)) fs s) : Seg (model prog w) A R Y n s₀ (.block [] env) ((model prog w).den (.block [] env)) fs s := h
theorem seg_For {target iter : Expr} {body orelse : List Stmt} {pos : Pos} {c : Code} {K : Flow → Sem PySem.Fin} {J : Value → Sem PySem.Fin} {gd : Bool → Bool} {lv : List Value → List Value} {A1 : Around} (ho : A.over c fs = A1)
    (hs : ∀ x, foldedSetIterable iter env x = pure x)
    (h : wpAny (model prog w) A1 (eval iter env) (fun v s1 => wpAny (model prog w) A1 (pyIter v) (fun itv s2 => ∀ p, Seg (model prog w) A R Y n s₀ (.forLoop target itv body orelse env) ((model prog w).den (.forLoop target itv body orelse env))
      (.ret (fun r => ((match r with | .ok f => (.pure f : Sem Flow) | .error e => .raise e).onRaise (cameBack env)).wrap K J gd lv) none (gd false) (lv []) c p [] :: fs) s2)
      (fun x s' => Seg (model prog w) A R Y n s₀ c (J x) fs s') s1) (fun x s' => Seg (model prog w) A R Y n s₀ c (J x) fs s') s) :
    Seg (model prog w) A R Y n s₀ c ((exec (.For target iter body orelse pos) env).wrap K J gd lv) fs s := by
  subst ho
  rw [exec_For]
  refine seg_bind_wrap (wpAny_standAt ?_)
  refine seg_bind_wrap ?_
  refine wpAny_mono h (fun v s1 h1 => ?_) fun x s' hx => hx
  refine seg_bind_wrap (wpAny_of_eq (hs v) ?_)
  refine seg_bind_wrap (wpAny_standAt ?_)
  refine seg_bind_wrap (wpAny_holding ?_)
  refine wpAny_mono h1 (fun itv s2 h2 => ?_) fun x s' hx => hx
  exact seg_call h2
end
section
variable {X : Cx}
def tGFor (wi : TI) (g : TG) (tb : TGn) : TGn := fun D ys σ H => wi σ H fun J H1 => ∃ W : Nat → Nat → List V → St → Hp → Prop, (∃ m, W 0 m ys σ H1) ∧ ∀ i m ys σ H, W i m ys σ H →
  (J.stop i H ∧ D.nx ys σ H) ∨ (J.go i H ∧ ∃ N : List V → St → Hp → Prop, (∀ ys' σ' H', N ys' σ' H' → ∃ m', m' < m ∧ W (i + 1) m' ys' σ' H') ∧ ∀ x H', J.yld i H x H' → g x σ H' fun σ2 H2 => tb { D with nx := N, ct := N, bk := D.nx } ys σ2 H2)
theorem gc_more {S : Addr} {ip : List (Addr × Obj)} {A : Around} {c : Code} {fs : List Frame} {gd : Bool → Bool} {pl : List (Addr × Obj)} (g : GC X S ip A c fs gd) (h : ∀ p ∈ pl, p.1 ≠ S) : GC X S (ip ++ pl) A c fs gd where
  pn := g.pn
  ip := fun p hp => (List.mem_append.mp hp).elim (g.ip p) (h p)
  apart := g.apart
  over := g.over
  split := g.split
  guard := g.guard
  gd := g.gd
theorem GI.unpinned {S : Addr} {ip pl : List (Addr × Obj)} {ys : List V} {σ : St} {H : Hp} {s : Shared} (h : GI X S (ip ++ pl) ys σ H s) : GI X S ip ys σ H s := by
  obtain ⟨acc, c, r, I⟩ := h
  exact ⟨acc, c, r, Inv.unpinned (pins := (S, lstObj acc c) :: ip) (pl := pl) I⟩
theorem GI.pin_at {S : Addr} {ip pl : List (Addr × Obj)} {ys : List V} {σ : St} {H : Hp} {s : Shared} (h : GI X S (ip ++ pl) ys σ H s) {p : Addr × Obj} (hp : p ∈ pl) : s.heap.get? p.1 = some p.2 ∧ H p.1 = none := by
  obtain ⟨acc, c, r, I⟩ := h
  have z := I.pin p (List.mem_append_right _ (List.mem_cons_of_mem _ (List.mem_append_right _ hp)))
  exact ⟨z.1, z.2.1⟩
theorem gs_for {tg iter : Expr} {body : List Stmt} {wi : TI} {g : TG} {tb : TGn} {pos : Pos} (hp : PassesOwn (model X.prog X.w) X.A X.env X.xe) (hc : X.calm = true) (hi : PI X tg iter wi) (hg : PG X tg g) (hb : GSs X body tb)
    (hs : ∀ x, foldedSetIterable iter X.env x = pure x := by intro _; rfl) : GS X (.For tg iter body [] pos) (tGFor wi g tb) := by
  refine ⟨fun A S ip R n ys s₀ c fs K J gd lv s σ H D gc hn k hI ht => ?_⟩
  obtain ⟨acc, cc, r, I⟩ := hI
  refine seg_For gc.over hs ?_
  refine wpAny_mono (hi.run _ s σ H _ I ht) (fun v s1 h1 => ?_) fun x s' hx => k.exc n s₀ x s' hx
  refine wpAny_mono h1 (fun itv s2 h2 => ?_) fun x s' hx => k.exc n s₀ x s' hx
  intro p
  obtain ⟨it, fp, tn, J', H2, e, I2, T, st2, f2, W, ⟨m0, w0⟩, turn⟩ := h2
  subst e
  have fS : ∀ b ∈ fp, b ≠ S := fun b hb z => (f2 b hb).2.2.2.2.2 (S, lstObj acc cc) (List.mem_append_right _ List.mem_cons_self) z.symm
  have stat : ∀ {H' : Hp} {acc' : Array Value} {cc' : Nat}, (∀ b ∈ fp, H' b = none) → ∀ b ∈ fp, FpOk X ((S, lstObj acc' cc') :: ip) H' b := fun {H' acc' cc'} hn b hb => by
    obtain ⟨_, a1, a2, a3, a4, a5⟩ := f2 b hb
    refine ⟨hn b hb, a1, a2, a3, a4, fun q hq => ?_⟩
    rcases List.mem_append.mp hq with hq | hq
    · exact a5 q (List.mem_append_left _ hq)
    · rcases List.mem_cons.mp hq with hq | hq
      · subst hq; exact Ne.symm (fS b hb)
      · exact a5 q (List.mem_append_right _ (List.mem_cons_of_mem _ hq))
  have gl := fun (c' : Code) (hw : c'.weight = 0) (hu : c'.cUnits = 0) (kk : Result → Sem PySem.Fin) => gc_loop (k := kk) (c' := c') (l := lv []) (kp := []) (p := p) gc hw hu
  have loop : ∀ (m i n : Nat) (ys : List V) (s₀ s : Shared) (σ : St) (H : Hp), n + ys.length = sizeLine → W i m ys σ H → GI X S ip ys σ H s → tn i s.heap → (∀ b ∈ fp, H b = none) →
      Seg (model X.prog X.w) A R (GY X S) n s₀ (.forLoop tg (.ref it) body [] X.env) ((model X.prog X.w).den (.forLoop tg (.ref it) body [] X.env))
        (.ret (fun r => ((match r with | .ok f => (.pure f : Sem Flow) | .error e => .raise e).onRaise (cameBack X.env)).wrap K J gd lv) none (gd false) (lv []) c p [] :: fs) s := by
    intro m
    induction m using Nat.strongRecOn with
    | ind m ih =>
      intro i n ys s₀ s σ H hn w hI st fr
      have ee : ∀ (n : Nat) (s₀ : Shared) (x : Value) (s' : Shared), X.xe x s' → Seg (model X.prog X.w) A R (GY X S) n s₀ (.forLoop tg (.ref it) body [] X.env) (notedTo x X.env)
          (.ret (fun r => ((match r with | .ok f => (.pure f : Sem Flow) | .error e => .raise e).onRaise (cameBack X.env)).wrap K J gd lv) none (gd false) (lv []) c p [] :: fs) s' := fun n s₀ x s' hx => by
        refine seg_wrap ?_
        rw [(gl (.forLoop tg (.ref it) body [] X.env) rfl rfl _).over]
        refine wpAny_bind (wpAny_mono (hp x s' hx) (fun _ s'' hcb => wpAny_theTreesLotGoes ?_) fun y s'' hcb => ?_)
        · exact seg_leaf (.error x) (seg_cameBack gc k hcb)
        · exact seg_leaf (.error y) (seg_cameBack gc k hcb)
      refine seg_forLoop ?_
      rw [(gl (.forLoop tg (.ref it) body [] X.env) rfl rfl _).over]
      obtain ⟨acc, cc, r, I⟩ := hI
      rcases turn i m ys σ H w with ⟨stop, qn⟩ | ⟨go, N, hN, step⟩
      · refine wpAny_mono (T.done X rfl rfl rfl hc i _ s σ H X.xe I (stat fr) st stop) (fun r' s4 hr => ?_) fun x s' hx => ee n s₀ x s' hx
        obtain ⟨hr, I4⟩ := hr
        subst hr
        refine seg_again rfl ?_
        refine seg_block_nil ?_
        exact seg_leaf (.ok .next) (k.ok n ys s₀ s4 .next hn ⟨σ, H, ⟨acc, cc, r, I4⟩, qn⟩)
      · refine wpAny_mono (T.item X rfl rfl rfl hc i _ s σ H X.xe I (stat fr) st go) (fun r' s4 hr => ?_) fun x s' hx => ee n s₀ x s' hx
        obtain ⟨u, hr, h4⟩ := hr
        subst hr
        refine wpAny_mono h4 (fun _ s5 h5 => ?_) fun x s' hx => ee n s₀ x s' hx
        obtain ⟨x, H5, I5, r5, y5, st5, fr5⟩ := h5
        have I5' := I5.pinned (stat fr5) (T.obj _ _ st5)
        refine wpAny_mono (hg.run _ s5 σ H5 x u _ I5' r5 (step x H5 y5)) (fun _ s6 h6 => ?_) fun x s' hx => ee n s₀ x s' hx
        obtain ⟨σ6, H6, I6, q6⟩ := h6
        have gl' := gc_more (pl := pinsAt fp s5.heap) (gl (.forLoop tg (.ref it) body [] X.env) rfl rfl (fun r => ((match r with | .ok f => (.pure f : Sem Flow) | .error e => .raise e).onRaise (cameBack X.env)).wrap K J gd lv)) fun q hq => fS q.1 (of_pinsAt hq).1
        have again : ∀ {ys7 : List V} {σ7 : St} {H7 : Hp} {s7 : Shared}, GI X S (ip ++ pinsAt fp s5.heap) ys7 σ7 H7 s7 → tn (i + 1) s7.heap ∧ ∀ b ∈ fp, H7 b = none := fun {ys7 σ7 H7 s7} I7 => by
          refine ⟨T.keep _ _ _ st5 fun b hb o e => (I7.pin_at (mem_pinsAt hb e)).1, fun b hb => ?_⟩
          obtain ⟨o, e, d⟩ := T.obj _ _ st5 b hb
          exact (I7.pin_at (mem_pinsAt hb e)).2
        refine hb.run A S (ip ++ pinsAt fp s5.heap) R n ys s₀ _ _ _ _ id id s6 σ6 H6 { D with nx := N, ct := N, bk := D.nx } gl' hn ⟨fun n' ys' s₀' s7 f hn' hs => ?_, fun n' s₀' x s7 hx => ee n' s₀' x s7 hx⟩ ⟨acc, cc, r, I6⟩ q6
        cases f with
        | next =>
          obtain ⟨σ7, H7, I7, n7⟩ := hs
          obtain ⟨m', hm, w7⟩ := hN ys' σ7 H7 n7
          exact seg_again rfl (ih m' hm (i + 1) n' ys' s₀' s7 σ7 H7 hn' w7 I7.unpinned (again I7).1 (again I7).2)
        | cont =>
          obtain ⟨σ7, H7, I7, n7⟩ := hs
          obtain ⟨m', hm, w7⟩ := hN ys' σ7 H7 n7
          exact seg_again rfl (ih m' hm (i + 1) n' ys' s₀' s7 σ7 H7 hn' w7 I7.unpinned (again I7).1 (again I7).2)
        | brk =>
          obtain ⟨σ7, H7, I7, q7⟩ := hs
          exact seg_leaf (.ok .next) (k.ok n' ys' s₀' s7 .next hn' ⟨σ7, H7, I7.unpinned, q7⟩)
        | ret v =>
          obtain ⟨x7, σ7, H7, I7, r7, q7⟩ := hs
          exact seg_leaf (.ok (.ret v)) (k.ok n' ys' s₀' s7 (.ret v) hn' ⟨x7, σ7, H7, I7.unpinned, r7, q7⟩)
  exact loop m0 0 n ys s₀ s2 σ H2 hn w0 ⟨acc, cc, r, I2⟩ st2 fun b hb => (f2 b hb).1
end
end L2
namespace OwC
open PySem L2 PySem.Spec PyProof.Rows

theorem notImp {z : V} {w : Value} {Q : Value → Shared → Prop} {s : Shared} (r : RelV z w) (h : Q w s) : PySem.W.CmpBack Q w s := by
  cases z with
  | non => cases (show w = Value.none from r); exact h
  | bl b => cases (show w = Value.bool b from r); exact h
  | int i => obtain ⟨t, e⟩ := (show ∃ t, w = Value.int i t from r); cases e; exact h
  | str x => obtain ⟨t, e⟩ := (show ∃ t, w = Value.str x t from r); cases e; exact h
  | byt b => obtain ⟨t, e⟩ := (show ∃ t, w = Value.bytes b t from r); cases e; exact h
  | flt b => obtain ⟨t, e⟩ := (show ∃ t, w = Value.float b t from r); cases e; exact h
  | ref a => cases (show w = Value.ref a from r); exact h
  | ty n => cases (show w = Value.type n from r); exact h

section
variable {X : Cx} {CX : CXT} {n : Nat} {C f : Addr} {fd : FuncData} {ps : List Str} {sp : Sp} {E : XK}
/-- a def is called by the machine with values that are known -/
theorem own_call {pins : List (Addr × Obj)} {σ : L2.St} {H : Hp} {s : Shared} {vs : List V} {us : List Value} {Q : VK} {R : Value → Shared → Prop} (F : FnOk X.prog X.w X.K X.mg X.base CX n f fd ps sp) (hb : Binds X.K fd ps []) (hr : Room n X.A) (hx : Passes CX X E)
    (I : Inv X pins σ H s) (r : Vals vs us) (h : sp vs H Q E) (hR : ∀ z w H' s', Inv X pins σ H' s' → RelV z w → Q z H' → R w s') :
    wpAny (model X.prog X.w) X.A (call (.ref f) us) R X.xe s := by
  have hl := F.len _ _ _ _ h
  refine wpAny_call (codeAny_mono (F.run X.A X.stack s H ⟨us, []⟩ us vs Q E hr I.env0 (by
    have := hb s us I.kIn (by simpa [r.length] using hl)
    simpa using this) r h) fun r s' hq => ?_)
  cases r with
  | error er => exact hx pins σ H s er s' I hq
  | ok fl =>
    cases fl with
    | ret w =>
      obtain ⟨z, H', I', rz, q⟩ := I.after hq
      exact hR z w H' s' I' rz q
    | next => exact False.elim hq
    | brk => exact False.elim hq
    | cont => exact False.elim hq

/-- x op y: two instances of the class at C, the class's own def -/
def rOwnB (C : Addr) (sp : Sp) (E : XK) : R2 := fun x y H Q => ∃ a b dx dy fs gs, x = .ref a ∧ y = .ref b ∧ H a = some (.ins C dx fs) ∧ H b = some (.ins C dy gs) ∧ sp [x, y] H Q E
theorem op_own {op : Operator} (F : FnOk X.prog X.w X.K X.mg X.base CX n f fd ps sp) (hc : PySem.W.selfFirst X.K C = true) (hs : PySem.W.findIn X.K (.ref C) (PySem.dunder op.info.2) = some (some (.ref f))) (hf : PySem.W.isFn X.K (.ref f) = true)
    (hb : Binds X.K fd ps []) (hr : Room n X.A) (hx : Passes CX X E) : OpR X (binaryOp op) (rOwnB C sp E) := by
  intro pins s σ H x y v u Q I rx ry hq; obtain ⟨a, b, dx, dy, fs, gs, rfl, rfl, ha, hb', q⟩ := hq
  cases rx
  cases ry
  obtain ⟨mA, J0, _⟩ := ins_get I.hok ha; obtain ⟨mB, J1, _⟩ := ins_get I.hok hb'
  obtain ⟨od, J, _⟩ := J0.look; obtain ⟨od', J', _⟩ := J1.look
  obtain ⟨m, hF⟩ := I.fr
  refine PySem.W.binop_K hF I.ok.mod.kin J J'.type hc hs hf ?_
  exact own_call (vs := [.ref a, .ref b]) F hb hr hx I (.cons rfl (.cons rfl .nil)) q fun z w H' s' I' rz qz => notImp rz ⟨z, H', I', rz, qz⟩

/-- x op k, k an int -/
def rOwnI (C : Addr) (sp : Sp) (E : XK) : R2 := fun x y H Q => ∃ a dx fs i, x = .ref a ∧ y = .int i ∧ H a = some (.ins C dx fs) ∧ sp [x, y] H Q E
theorem op_ownI {op : Operator} {fo ro rc : Option Value} (F : FnOk X.prog X.w X.K X.mg X.base CX n f fd ps sp) (hc : PySem.W.selfFirst X.K C = true) (hs : PySem.W.findIn X.K (.ref C) (PySem.dunder op.info.2) = some (some (.ref f))) (hf : PySem.W.isFn X.K (.ref f) = true)
    (hrr : PySem.W.findIn X.K (.ref C) (PySem.dunderR op.info.2) = some rc) (hp : rc = none ∨ ∃ g : Addr, rc = some (.ref g)) (h1 : PySem.W.findIn X.K (.type "int") (PySem.dunder op.info.2) = some fo) (h2 : PySem.W.findIn X.K (.type "int") (PySem.dunderR op.info.2) = some ro)
    (hsub : PySem.W.subIn X.K (.type "int") (.ref C) = some false)
    (hb : Binds X.K fd ps []) (hr : Room n X.A) (hx : Passes CX X E) : OpR X (binaryOp op) (rOwnI C sp E) := by
  intro pins s σ H x y v u Q I rx ry hq; obtain ⟨a, dx, fs, i, rfl, rfl, ha, q⟩ := hq
  cases rx
  obtain ⟨t, rfl⟩ := ry
  obtain ⟨mA, J0, _⟩ := ins_get I.hok ha; obtain ⟨od, J, _⟩ := J0.look
  obtain ⟨m, hF⟩ := I.fr
  refine PySem.W.ksp_binT (T := "int") hF I.ok.mod.kin J rfl hc hs hf hrr hp h1 h2 hsub ?_
  exact own_call (vs := [.ref a, .int i]) F hb hr hx I (.cons rfl (.cons ⟨_, rfl⟩ .nil)) q fun z w H' s' I' rz qz => notImp rz ⟨z, H', I', rz, qz⟩

/-- -x -/
def rOwnU (C : Addr) (sp : Sp) (E : XK) : V → Hp → VK → Prop := fun x H Q => ∃ a dx fs, x = .ref a ∧ H a = some (.ins C dx fs) ∧ sp [x] H Q E
theorem un_own (F : FnOk X.prog X.w X.K X.mg X.base CX n f fd ps sp) (hs : PySem.W.findIn X.K (.ref C) "__neg__" = some (some (.ref f))) (hf : PySem.W.isFn X.K (.ref f) = true)
    (hb : Binds X.K fd ps []) (hr : Room n X.A) (hx : Passes CX X E) : UnR X (unaryOp .USub) (rOwnU C sp E) := by
  intro pins s σ H x v Q I rx hq
  obtain ⟨a, dx, fs, rfl, ha, q⟩ := hq
  cases rx
  obtain ⟨mA, J0, _⟩ := ins_get I.hok ha; obtain ⟨od, J, _⟩ := J0.look
  obtain ⟨m, hF⟩ := I.fr
  refine PySem.W.ksp_neg hF I.ok.mod.kin J hs hf ?_
  exact own_call (vs := [.ref a]) F hb hr hx I (.cons rfl .nil) q fun z w H' s' I' rz qz => ⟨z, H', I', rz, qz⟩

/-- x == y -/
theorem op_ownEq (F : FnOk X.prog X.w X.K X.mg X.base CX n f fd ps sp) (hs : PySem.W.findIn X.K (.ref C) "__eq__" = some (some (.ref f))) (hf : PySem.W.isFn X.K (.ref f) = true)
    (hb : Binds X.K fd ps []) (hr : Room n X.A) (hx : Passes CX X E) : OpR X (compareOp .Eq) (rOwnB C sp E) := by
  intro pins s σ H x y v u Q I rx ry hq; obtain ⟨a, b, dx, dy, fs, gs, rfl, rfl, ha, hb', q⟩ := hq
  cases rx
  cases ry
  obtain ⟨mA, J0, _⟩ := ins_get I.hok ha; obtain ⟨mB, J1, _⟩ := ins_get I.hok hb'
  obtain ⟨od, J, _⟩ := J0.look; obtain ⟨od', J', _⟩ := J1.look
  obtain ⟨m, hF⟩ := I.fr
  show wpAny (model X.prog X.w) X.A (richCompare .Eq _ _) (EP X pins σ Q) X.xe s
  refine PySem.W.cmp_K (op := .Eq) (tb := .ref C) hr.units0 hF I.ok.mod.kin J J'.type (by simp [PySem.W.notFirst]) hs hf ?_
  exact own_call (vs := [.ref a, .ref b]) F hb hr hx I (.cons rfl (.cons rfl .nil)) q fun z w H' s' I' rz qz => notImp rz ⟨z, H', I', rz, qz⟩
end
end OwC
namespace OwC
open PySem L2 PySem.Spec PyProof.Rows
/-- what is written of a class with its own == and no != -/
structure NeTxt (K : PySem.W.Frag) (C f : Addr) : Prop where
  ex : ∃ (nm q : Str) (N : Addr) (bs : List Value) (hdct : Bool) (sn : List Str) (sub : List Value) (ab : Bool) (col : Option Bool) (dd : Option Addr) (k0 k1 k2 k3 k5 : Option Value) (newId : String) (oc : Value) (od : Option Addr) (es : Array DictEntry) (n : Nat) (osl : Array (Option Value)) (fo : Obj),
    K.lookup C = some (excClassObj nm q C N bs [.type "object"] hdct sn sub ab col dd k0 k1 k2 k3 k5 newId) ∧ K.lookup N = some ⟨oc, od, .dict es n, osl⟩ ∧ StrKeys es ∧ nsFind es "__eq__" = some (.ref f) ∧ nsFind es "__ne__" = none ∧ K.lookup f = some fo ∧ fo.cls = .type "function"
section
variable {X : Cx} {CX : CXT} {n : Nat} {C f : Addr} {fd : FuncData} {ps : List Str} {sp : Sp} {E : XK}
theorem room_lt {A : Around} (hr : Room n A) : A.units + 1 < cLine := hu_of hr
/-- a def is called by the machine, one level in -/
theorem own_call1 {pins : List (Addr × Obj)} {σ : L2.St} {H : Hp} {s : Shared} {vs : List V} {us : List Value} {Q : VK} {R : Value → Shared → Prop} (F : FnOk X.prog X.w X.K X.mg X.base CX n f fd ps sp) (hb : Binds X.K fd ps []) (hr : Room (n + 1) X.A) (hx : Passes CX X E)
    (I : Inv X pins σ H s) (r : Vals vs us) (h : sp vs H Q E) (hR : ∀ z w H' s', Inv X pins σ H' s' → RelV z w → Q z H' → R w s') :
    wpAny (model X.prog X.w) X.A.in1 (call (.ref f) us) R X.xe s := by
  have hl := F.len _ _ _ _ h
  refine wpAny_call (codeAny_mono (F.run X.A.in1 X.stack s H ⟨us, []⟩ us vs Q E hr.in1 I.env0.in1 (by
    have := hb s us I.kIn (by simpa [r.length] using hl)
    simpa using this) r h) fun r s' hq => ?_)
  cases r with
  | error er => exact hx pins σ H s er s' I hq
  | ok fl =>
    cases fl with
    | ret w =>
      obtain ⟨z, H', I', rz, q⟩ := I.after hq
      exact hR z w H' s' I' rz q
    | next => exact False.elim hq
    | brk => exact False.elim hq
    | cont => exact False.elim hq
/-- x != y by the class's own == (which hands back a bool) -/
def rOwnNe (C : Addr) (sp : Sp) (E : XK) : R2 := fun x y H Q => ∃ a b dx dy fs gs, x = .ref a ∧ y = .ref b ∧ H a = some (.ins C dx fs) ∧ H b = some (.ins C dy gs) ∧ sp [x, y] H (fun v H1 => ∃ c, v = .bl c ∧ Q (.bl (!c)) H1) E
theorem op_ownNe (F : FnOk X.prog X.w X.K X.mg X.base CX n f fd ps sp) (N : NeTxt X.K C f) (hb : Binds X.K fd ps []) (hr : Room (n + 1) X.A) (hx : Passes CX X E) : OpR X (compareOp .NotEq) (rOwnNe C sp E) := by
  intro pins s σ H x y v u Q I rx ry hq; obtain ⟨a, b, dx, dy, fs, gs, rfl, rfl, ha, hb', q⟩ := hq
  cases rx
  cases ry
  obtain ⟨mA, J0, _⟩ := ins_get I.hok ha; obtain ⟨mB, J1, _⟩ := ins_get I.hok hb'
  obtain ⟨od, J, _⟩ := J0.look; obtain ⟨od', J', _⟩ := J1.look
  obtain ⟨nm, q1, Na, bs, hdct, sn, sub, ab, col, dd, k0, k1, k2, k3, k5, newId, oc, od2, es, n2, osl, fo, hC, hN, hk, he, hne, hf, hfc⟩ := N.ex
  have hin := I.kIn
  have own : s.heap.OwnEqNoNe a C f "object" [.type "object"] :=
    ⟨_, fo, nm, q1, Na, bs, hdct, sn, sub, ab, col, dd, k0, k1, k2, k3, k5, newId, fun x => nsFind es x, _, J.1, J.cls, hin _ _ hC, ⟨_, es, n2, hin _ _ hN, rfl, hk, fun _ => rfl⟩, he, hin _ _ hf, hfc, PySem.F.mro_object, PySem.F.cmp_object.eq.lookup, hne⟩
  have go := own_call1 (R := fun v s' => ∃ b, v = .bool b ∧ EP X pins σ Q (.bool (!b)) s') (vs := [.ref a, .ref b]) F hb hr hx I (.cons rfl (.cons rfl .nil)) q fun z w H' s' I' rz ⟨c, hz, qz⟩ => by
    subst hz
    exact ⟨c, rz, .bl (!c), H', I', rfl, qz⟩
  have jo := J'.1; have jc := J'.cls
  clear I J J' J0 J1 ha hb' q hin
  obtain ⟨hp, g, dr, tk, os⟩ := s
  exact compareOp_ne_ownEq PySem.F.cmp_object own jo jc (room_lt hr) go
end
end OwC
namespace OwC
open PySem L2 PySem.Spec PyProof.Rows
section
variable {X : Cx} {CX : CXT} {n : Nat} {C f : Addr} {fd : FuncData} {ps : List Str} {sp : Sp} {E : XK}
theorem truthy_bl {M : Model} {A : Around} {c : Bool} {Q : Bool → Shared → Prop} {E : Value → Shared → Prop} {s : Shared} (h : Q c s) : wpAny M A (truthy (.bool c)) Q E s := wpAny_pure h
def rOwnIn (C : Addr) (sp : Sp) (E : XK) (neg : Bool) : R2 := fun x y H Q => ∃ a dx fs, y = .ref a ∧ H a = some (.ins C dx fs) ∧ sp [y, x] H (fun v H1 => ∃ c, v = .bl c ∧ Q (.bl (if neg = true then !c else c)) H1) E
theorem op_ownIn (F : FnOk X.prog X.w X.K X.mg X.base CX n f fd ps sp) (hs : PySem.W.findIn X.K (.ref C) "__contains__" = some (some (.ref f))) (hf : PySem.W.isFn X.K (.ref f) = true)
    (hb : Binds X.K fd ps []) (hr : Room n X.A) (hx : Passes CX X E) : OpR X (compareOp .In) (rOwnIn C sp E false) := by
  intro pins s σ H x y v u Q I rx ry hq; obtain ⟨a, dx, fs, rfl, ha, q⟩ := hq
  cases ry
  obtain ⟨mA, J0, _⟩ := ins_get I.hok ha; obtain ⟨od, J, _⟩ := J0.look
  obtain ⟨m, hF⟩ := I.fr
  refine PySem.W.in_K hF I.ok.mod.kin J hs hf ?_
  exact own_call (vs := [.ref a, x]) F hb hr hx I (.cons rfl (.cons rx .nil)) q fun z w H' s' I' rz ⟨c, hz, qz⟩ => by
    subst hz
    cases (show w = Value.bool c from rz)
    exact truthy_bl ⟨.bl c, H', I', rfl, qz⟩
theorem op_ownNotIn (F : FnOk X.prog X.w X.K X.mg X.base CX n f fd ps sp) (hs : PySem.W.findIn X.K (.ref C) "__contains__" = some (some (.ref f))) (hf : PySem.W.isFn X.K (.ref f) = true)
    (hb : Binds X.K fd ps []) (hr : Room n X.A) (hx : Passes CX X E) : OpR X (compareOp .NotIn) (rOwnIn C sp E true) := by
  intro pins s σ H x y v u Q I rx ry hq; obtain ⟨a, dx, fs, rfl, ha, q⟩ := hq
  cases ry
  obtain ⟨mA, J0, _⟩ := ins_get I.hok ha; obtain ⟨od, J, _⟩ := J0.look
  obtain ⟨m, hF⟩ := I.fr
  refine PySem.W.notIn_K hF I.ok.mod.kin J hs hf ?_
  exact own_call (vs := [.ref a, x]) F hb hr hx I (.cons rfl (.cons rx .nil)) q fun z w H' s' I' rz ⟨c, hz, qz⟩ => by
    subst hz
    cases (show w = Value.bool c from rz)
    exact truthy_bl ⟨.bl (!c), H', I', rfl, qz⟩
/-- what kind a thing is -/
inductive KindOf (K : PySem.W.Frag) (H : Hp) : V → Value → Prop where
  | non : KindOf K H .non (.type "NoneType")
  | bl (x : Bool) : KindOf K H (.bl x) (.type "bool")
  | int (i : Int) : KindOf K H (.int i) (.type "int")
  | str (x : Str) : KindOf K H (.str x) (.type "str")
  | lst {a : Addr} {xs : List V} (e : SqL K H a xs) : KindOf K H (.ref a) (.type "list")
  | tup {a : Addr} {xs : List V} (e : SqT K H a xs) : KindOf K H (.ref a) (.type "tuple")
  | ins {a D dx : Addr} {fs : List (Str × V)} (e : H a = some (.ins D dx fs)) : KindOf K H (.ref a) (.ref D)
theorem KindOf.looks {pins : List (Addr × Obj)} {σ : L2.St} {H : Hp} {s : Shared} {y : V} {u t : Value} (I : Inv X pins σ H s) (r : RelV y u) (k : KindOf X.K H y t) : PySem.W.Looks (model X.prog X.w) s.heap (typeOf u) t := by
  cases k with
  | non => cases (show u = Value.none from r); exact fun A Q E s k q => wpAny_pure q
  | bl x => cases (show u = Value.bool x from r); exact fun A Q E s k q => wpAny_pure q
  | int i => obtain ⟨t, rfl⟩ := (show ∃ t, u = Value.int i t from r); exact fun A Q E s k q => wpAny_pure q
  | str x => obtain ⟨t, rfl⟩ := (show ∃ t, u = Value.str x t from r); exact fun A Q E s k q => wpAny_pure q
  | lst e =>
    obtain rfl : u = Value.ref _ := r
    obtain ⟨its, rv, ⟨o, n, ho, hc, _, hd⟩, _⟩ := I.list e
    exact fun A Q E s k q => wpAny_typeOf_ref (k _ _ ho) (by rw [hc]; exact q)
  | tup e =>
    obtain rfl : u = Value.ref _ := r
    obtain ⟨its, rv, ⟨o, ho, hc, n, hd⟩, _⟩ := I.tuple e
    exact fun A Q E s k q => wpAny_typeOf_ref (k _ _ ho) (by rw [hc]; exact q)
  | ins e =>
    obtain rfl : u = Value.ref _ := r
    obtain ⟨mB, J1, _⟩ := ins_get I.hok e; obtain ⟨od', J', _⟩ := J1.look
    exact J'.type
/-- x == y, y of a kind that is no kind of x's class -/
def rOwnEqX (K : PySem.W.Frag) (C : Addr) (sp : Sp) (E : XK) : R2 := fun x y H Q => ∃ a dx fs t, x = .ref a ∧ H a = some (.ins C dx fs) ∧ KindOf K H y t ∧ PySem.W.notFirst K C t = true ∧ sp [x, y] H Q E
theorem op_ownEqX (F : FnOk X.prog X.w X.K X.mg X.base CX n f fd ps sp) (hs : PySem.W.findIn X.K (.ref C) "__eq__" = some (some (.ref f))) (hf : PySem.W.isFn X.K (.ref f) = true)
    (hb : Binds X.K fd ps []) (hr : Room n X.A) (hx : Passes CX X E) : OpR X (compareOp .Eq) (rOwnEqX X.K C sp E) := by
  intro pins s σ H x y v u Q I rx ry hq; obtain ⟨a, dx, fs, t, rfl, ha, hk, hn, q⟩ := hq
  cases rx
  obtain ⟨mA, J0, _⟩ := ins_get I.hok ha
  obtain ⟨od, J, _⟩ := J0.look
  obtain ⟨m, hF⟩ := I.fr
  show wpAny (model X.prog X.w) X.A (richCompare .Eq _ _) (EP X pins σ Q) X.xe s
  refine PySem.W.cmp_K (op := .Eq) (tb := t) hr.units0 hF I.ok.mod.kin J (hk.looks I ry) hn hs hf ?_
  exact own_call (vs := [.ref a, y]) F hb hr hx I (.cons rfl (.cons ry .nil)) q fun z w H' s' I' rz qz => notImp rz ⟨z, H', I', rz, qz⟩
end
end OwC
namespace OwC
open PySem L2 PySem.Spec PyProof.Rows
section
variable {X : Cx} {CX : CXT} {k : Nat} {g C : Addr} {fd : FuncData} {ps : List Str} {sp : Sp} {E : L2.St → XK} {fe e : PySem.Expr} {es : List PySem.Expr} {tf : TE} {t : TA} {pos : Pos}
theorem codeD {pins : List (Addr × Obj)} {σ : L2.St} {H : Hp} {s : Shared} {Q : VK} {us : List Value} {vs : List V} (F : FnOk X.prog X.w X.K X.mg X.base CX k g fd ps sp) (hr : Room k X.A) (hb : Binds X.K fd ps []) (hx : PassesAt CX X σ (E σ)) (I : Inv X pins σ H s) (r : Vals vs us) (h : sp vs H Q (E σ)) :
    codeAny (model X.prog X.w) X.A (.call (.ref g) ⟨us, []⟩) (fun r s' => match r with | .ok (.ret v) => EP X pins σ Q v s' | .ok _ => False | .error e => X.xe e s') s := by
  have hl := F.len _ _ _ _ h
  refine codeAny_mono (F.run X.A X.stack s H ⟨us, []⟩ us vs Q (E σ) hr I.env0 (by
    have := hb s us I.kIn (by simpa [r.length] using hl)
    simpa using this) r h) fun r s' hq => ?_
  cases r with
  | error er => exact hx pins H s er s' I hq
  | ok fl =>
    cases fl with
    | ret u => exact I.after hq
    | next => exact False.elim hq
    | brk => exact False.elim hq
    | cont => exact False.elim hq
/-- f(e, ..), f an object of C: what is raised is wished for at the caller's slots -/
def tCallOE (C : Addr) (sp : Sp) (E : L2.St → XK) (tf : TE) (t : TA) : TE := fun σ H Q => tf σ H fun y H1 => ∃ a, y = V.ref a ∧ t σ H1 fun vs H2 => (∃ dx fs, H2 a = some (.ins C dx fs)) ∧ sp (V.ref a :: vs) H2 Q (E σ)
theorem pe_callOE (hf : PE X fe tf) (c : StX.CallO X.K C g) (F : FnOk X.prog X.w X.K X.mg X.base CX k g fd ps sp) (hr : Room k X.A) (hb : Binds X.K fd ps []) (hx : ∀ σ, PassesAt CX X σ (E σ)) (ha : PA X (e :: es) t)
    (ht : eval (.Call fe (e :: es) [] pos) X.env = (do callWith pos (← eval fe X.env) [] (backTo pos (starEach (e :: es) X.env)) (backToKw pos (keywordEach [] X.env))) := by rfl)
    (he : starEach (e :: es) X.env = (false, eval e X.env) :: starEach es X.env := by rfl) (hpl : (backTo pos (starEach es X.env)).any (·.1) = false := by rfl) : PE X (.Call fe (e :: es) [] pos) (tCallOE C sp E tf t) := by
  refine ⟨fun pins s σ H Q I h => ?_⟩
  refine Call_ (thn (hf.run pins s σ H _ I h) fun u s1 ⟨y, H1, I1, ry, a, ey, q⟩ => ?_) ht
  subst ey
  obtain rfl : u = Value.ref a := ry
  refine StX.callO_with (thn (ha.run pos pins s1 σ H1 _ I1 q) fun us s2 ⟨vs, H2, I2, r, hi, q2⟩ => ?_) he hpl
  obtain ⟨ox, od, J, hd⟩ := StX.insC_at I2 (.inr hi)
  exact ⟨⟨C, ox, od, J, hd⟩, wpAny_call (PySem.W.kco_code I2.kIn J hd c.at_ c.fn c.fi (codeD (vs := .ref a :: vs) (us := .ref a :: us) F hr hb (hx σ) I2 (.cons rfl r) q2))⟩
end

/-! a class in a variable, called -/
def tMakeL (i : Nat) (C : Addr) (sp : Sp) (E : XK) (t : TA) : TE := fun σ H Q => σ[i]? = some (some (.ref C)) ∧ tMake C sp [] E t σ H Q
section
variable {X : Cx} {CX : CXT} {k i : Nat} {f C : Addr} {fd : FuncData} {ps : List Str} {sp : Sp} {E : XK} {x : Str} {p pos : Pos} {e : PySem.Expr} {es : List PySem.Expr} {t : TA}
theorem pe_makeL (M : Mk X.K C f) (F : FnOk X.prog X.w X.K X.mg X.base CX k f fd ps sp) (hr : Room (k + 1) X.A) (hN : X.N[i]? = some x) (hv : Vis X.env.scope x) (hb : Binds X.K fd ps []) (hx : Passes CX X E) (ha : PA X (e :: es) t)
    (hdb : (x == ("__debug__" : Str)) = false := by decide) (hcd : (x == ("__classdict__" : Str)) = false := by decide)
    (he : starEach (e :: es) X.env = (false, eval e X.env) :: starEach es X.env := by rfl) (hpl : (backTo pos (starEach es X.env)).any (·.1) = false := by rfl) : PE X (.Call (.Name x p) (e :: es) [] pos) (tMakeL i C sp E t) := by
  refine ⟨fun pins s σ H Q I h => ?_⟩
  obtain ⟨hs, ht⟩ := h
  refine wpAny_Call_Name_kw (thn ((pe_var (pos := p) hN hv hdb hcd).run pins s σ H (fun v H1 => v = .ref C ∧ H1 = H) I ⟨.ref C, hs, rfl, rfl⟩) fun u s1 ⟨v, H1, I1, r1, q1⟩ => ?_)
  obtain ⟨rfl, rfl⟩ := q1
  cases r1
  refine PySem.W.callWith_K (h₀ := X.base) I.ok.mod.kin M.kp (thn (ha.run pos pins s1 σ _ _ I1 ht) fun us s2 ⟨vs, H2, I2, r, q⟩ => ⟨I2.kIn, ?_⟩) he hpl
  exact run_make M F hr hb .nil hx I2 r q
end
end OwC
namespace K20
open PySem PySem.Spec PyProof.Rows L2 Evl RZ Ev2 TA5 Ow
abbrev s_is_line : Stmt := topS 18
abbrev N_is_line : List Str := ["value", "entry"]
theorem sc_is_line : FnScope N_is_line ["value"] (defScope s_is_line) := ⟨rfl, rfl, rfl, by decide +kernel, rfl, by decide +kernel, by decide +kernel⟩
abbrev s_is_grid : Stmt := topS 19
abbrev N_is_grid : List Str := ["value", "line"]
theorem sc_is_grid : FnScope N_is_grid ["value"] (defScope s_is_grid) := ⟨rfl, rfl, rfl, by decide +kernel, rfl, by decide +kernel, by decide +kernel⟩
abbrev s_grid_product : Stmt := topS 21
abbrev N_grid_product : List Str := ["one", "other", "line", "row", "a", "b"]
theorem sc_grid_product : FnScope N_grid_product ["one", "other"] (defScope s_grid_product) := ⟨rfl, rfl, rfl, by decide +kernel, rfl, by decide +kernel, by decide +kernel⟩
abbrev s_grid_turned : Stmt := topS 23
abbrev N_grid_turned : List Str := ["grid", "right", "line"]
theorem sc_grid_turned : FnScope N_grid_turned ["grid"] (defScope s_grid_turned) := ⟨rfl, rfl, rfl, by decide +kernel, rfl, by decide +kernel, by decide +kernel⟩
abbrev s_is_counts : Stmt := topS 25
abbrev N_is_counts : List Str := ["value", "line", "entry"]
theorem sc_is_counts : FnScope N_is_counts ["value"] (defScope s_is_counts) := ⟨rfl, rfl, rfl, by decide +kernel, rfl, by decide +kernel, by decide +kernel⟩
abbrev s_is_table : Stmt := topS 27
abbrev N_is_table : List Str := ["left", "right", "value"]
theorem sc_is_table : FnScope N_is_table ["left", "right", "value"] (defScope s_is_table) := ⟨rfl, rfl, rfl, by decide +kernel, rfl, by decide +kernel, by decide +kernel⟩
abbrev s_check_table : Stmt := topS 28
abbrev N_check_table : List Str := ["left", "right", "value"]
theorem sc_check_table : FnScope N_check_table ["left", "right", "value"] (defScope s_check_table) := ⟨rfl, rfl, rfl, by decide +kernel, rfl, by decide +kernel, by decide +kernel⟩
abbrev s_check_below : Stmt := topS 16
abbrev N_check_below : List Str := ["size", "value"]
theorem sc_check_below : FnScope N_check_below ["size", "value"] (defScope s_check_below) := ⟨rfl, rfl, rfl, by decide +kernel, rfl, by decide +kernel, by decide +kernel⟩
abbrev s_Table_init : Stmt := inClass (topS 29) 0
abbrev N_Table_init : List Str := ["self", "counts"]
theorem sc_Table_init : FnScope N_Table_init ["self", "counts"] (defScope s_Table_init) := ⟨rfl, rfl, rfl, by decide +kernel, rfl, by decide +kernel, by decide +kernel⟩
abbrev s_Table_counts : Stmt := inClass (topS 29) 2
abbrev N_Table_counts : List Str := ["self"]
theorem sc_Table_counts : FnScope N_Table_counts ["self"] (defScope s_Table_counts) := ⟨rfl, rfl, rfl, by decide +kernel, rfl, by decide +kernel, by decide +kernel⟩
abbrev s_Table_left : Stmt := inClass (topS 29) 3
abbrev N_Table_left : List Str := ["self"]
theorem sc_Table_left : FnScope N_Table_left ["self"] (defScope s_Table_left) := ⟨rfl, rfl, rfl, by decide +kernel, rfl, by decide +kernel, by decide +kernel⟩
abbrev s_Table_right : Stmt := inClass (topS 29) 4
abbrev N_Table_right : List Str := ["self"]
theorem sc_Table_right : FnScope N_Table_right ["self"] (defScope s_Table_right) := ⟨rfl, rfl, rfl, by decide +kernel, rfl, by decide +kernel, by decide +kernel⟩
abbrev s_Table_turned : Stmt := inClass (topS 29) 9
abbrev N_Table_turned : List Str := ["self"]
theorem sc_Table_turned : FnScope N_Table_turned ["self"] (defScope s_Table_turned) := ⟨rfl, rfl, rfl, by decide +kernel, rfl, by decide +kernel, by decide +kernel⟩
abbrev s_Question_init : Stmt := inClass (topS 40) 0
abbrev N_Question_init : List Str := ["self", "weights"]
theorem sc_Question_init : FnScope N_Question_init ["self", "weights"] (defScope s_Question_init) := ⟨rfl, rfl, rfl, by decide +kernel, rfl, by decide +kernel, by decide +kernel⟩
abbrev s_Question_weights : Stmt := inClass (topS 40) 3
abbrev N_Question_weights : List Str := ["self"]
theorem sc_Question_weights : FnScope N_Question_weights ["self"] (defScope s_Question_weights) := ⟨rfl, rfl, rfl, by decide +kernel, rfl, by decide +kernel, by decide +kernel⟩
abbrev s_Question_left : Stmt := inClass (topS 40) 4
abbrev N_Question_left : List Str := ["self"]
theorem sc_Question_left : FnScope N_Question_left ["self"] (defScope s_Question_left) := ⟨rfl, rfl, rfl, by decide +kernel, rfl, by decide +kernel, by decide +kernel⟩
abbrev s_Question_right : Stmt := inClass (topS 40) 5
abbrev N_Question_right : List Str := ["self"]
theorem sc_Question_right : FnScope N_Question_right ["self"] (defScope s_Question_right) := ⟨rfl, rfl, rfl, by decide +kernel, rfl, by decide +kernel, by decide +kernel⟩
abbrev s_Question_weight : Stmt := inClass (topS 40) 6
abbrev N_Question_weight : List Str := ["self", "left", "right"]
theorem sc_Question_weight : FnScope N_Question_weight ["self", "left", "right"] (defScope s_Question_weight) := ⟨rfl, rfl, rfl, by decide +kernel, rfl, by decide +kernel, by decide +kernel⟩
abbrev s_Question_turned : Stmt := inClass (topS 40) 7
abbrev N_Question_turned : List Str := ["self"]
theorem sc_Question_turned : FnScope N_Question_turned ["self"] (defScope s_Question_turned) := ⟨rfl, rfl, rfl, by decide +kernel, rfl, by decide +kernel, by decide +kernel⟩
abbrev s_Question_call : Stmt := inClass (topS 40) 8
abbrev N_Question_call : List Str := ["self", "table"]
theorem sc_Question_call : FnScope N_Question_call ["self", "table"] (defScope s_Question_call) := ⟨rfl, rfl, rfl, by decide +kernel, rfl, by decide +kernel, by decide +kernel⟩
abbrev s_Question_eq : Stmt := inClass (topS 40) 13
abbrev N_Question_eq : List Str := ["self", "other"]
theorem sc_Question_eq : FnScope N_Question_eq ["self", "other"] (defScope s_Question_eq) := ⟨rfl, rfl, rfl, by decide +kernel, rfl, by decide +kernel, by decide +kernel⟩
abbrev s_law_counts : Stmt := topS 48
abbrev N_law_counts : List Str := ["_law_state", "_law_left", "_law_right", "_law_most", "_law_one", "_law_other"]
theorem sc_law_counts : FnScope N_law_counts ["_law_state", "_law_left", "_law_right", "_law_most"] (defScope s_law_counts) := ⟨rfl, rfl, rfl, by decide +kernel, rfl, by decide +kernel, by decide +kernel⟩
abbrev s_law_weights : Stmt := topS 49
abbrev N_law_weights : List Str := ["_law_state", "_law_left", "_law_right", "_law_one", "_law_other"]
theorem sc_law_weights : FnScope N_law_weights ["_law_state", "_law_left", "_law_right"] (defScope s_law_weights) := ⟨rfl, rfl, rfl, by decide +kernel, rfl, by decide +kernel, by decide +kernel⟩
def Bd (i : Int) : Prop := -(2 ^ 64) < i ∧ i < 2 ^ 64
/-- the ints of a grid, one after the other -/
def flat (f : Nat → Nat → Int) (n : Nat) : Nat → List Int
  | 0 => []
  | i + 1 => flat f n i ++ (List.range n).map (f i)
theorem acc2_flat (f : Nat → Nat → Int) (n : Nat) : ∀ m, acc2 (fun i j => .int (f i j)) (fun _ => n) m = (flat f n m).map V.int
  | 0 => rfl
  | m + 1 => by simp [acc2, flat, acc2_flat f n m, List.map_map, Function.comp_def]
theorem acc2_true (n : Nat) : ∀ m, ∃ bs : List Bool, acc2 (fun _ _ => V.bl true) (fun _ => n) m = bs.map V.bl ∧ bs.all id = true
  | 0 => ⟨[], rfl, rfl⟩
  | m + 1 => by
    obtain ⟨bs, h1, h2⟩ := acc2_true n m
    exact ⟨bs ++ (List.range n).map (fun _ => true), by simp [acc2, h1, List.map_map, Function.comp_def], by rw [List.all_append, h2]; simp⟩
section
variable {P : Program} {w : World} {K : PySem.W.Frag} {mg : Str → Option Value} {base : Heap} {tk : Tok} {k : Nat}
theorem evp_all2 {σ : L2.St} {H : Hp} {te : TE} {n m : Nat} (h : EvP te σ H (fun v H1 => ∃ p, v = .ref p ∧ H1 p = some (.lst (acc2 (fun _ _ => V.bl true) (fun _ => n) m)))) : EvP (tCB (rAll K) (tCons te tNil)) σ H Tr := fun H1 e1 Q q => h H1 e1 _ fun v H2 e2 ⟨p, hv, hp⟩ => by
  obtain ⟨bs, hb1, hb2⟩ := acc2_true n m
  rw [hb1] at hp
  exact ⟨p, bs, by rw [hv], sq_of hp, by rw [hb2]; exact q _ H2 e2 rfl⟩
def spLine : Sp := fun vs H Q _ => ∃ (v : V) (n : Nat) (f : Nat → Int), vs = [v] ∧ TupP n (fun j => Is (.int (f j))) v H ∧ (1 ≤ n ∧ n ≤ 8) ∧ ∀ v H2, Evl.Ex H H2 → Tr v H2 → Q v H2
theorem ty_tup {n : Nat} {Pi : Nat → HP} {x : V} {H1 : Hp} (p : TupP n Pi x H1) : TyX K H1 x (.type "tuple") := by
  obtain ⟨p, ys, rfl, hp, _⟩ := p
  exact .base (.tup hp)
theorem ok_line {f f1 : Addr} {fd fd1 : FuncData} (D_is_whole : Df K mg "is_whole" s_is_whole ["value"] f1 fd1) (G_is_whole : FnOk P w K mg base CX0 (k + 1) f1 fd1 ["value"] spWhole) (T : Txt mg tk) (D : Df K mg "is_line" s_is_line ["value"] f fd) :
    FnOk P w K mg base CX0 (k + 2) f fd ["value"] spLine := by
  refine D.F.ok sc_is_line (fun vs H Q E h => ?_) (fun cdv A outer s H vs Q E hr h => ?_)
  · obtain ⟨v, n, g, rfl, _⟩ := h
    rfl
  · obtain ⟨v, n, g, rfl, hv, ⟨hn1, hn8⟩, q⟩ := h
    have nd := sc_is_line.nd
    refine ⟨_, (pss_cons (ps_if (PW.pt (pw_or (pt_not (pt_val (pe_callB (r := rIsi K) call_isi (by rfl) T.n_isinstance PyProof.Rows.boot_isinstance (pa_cons (pv 0) (pa_cons (pe_bltn (v := .ty "tuple") (by rfl) T.n_tuple PyProof.Rows.boot_tuple rfl) pa_nil))))) (pw_or1 (pt_not (pt_chain op_le op_le pe_int (pe_callB (r := rLenQ K) call_len_seq (by rfl) T.n_len PySem.boot_len (pa_cons (pv 0) pa_nil)) (pe_glob (v := .int 8) rfl T.c_MOST_VALUES ⟨_, rfl⟩)))))) (pss_one (ps_ret pe_bl)) pss_nil) (pss_one (ps_ret (pe_callB (r := rAll K) (cr_all rfl) (by rfl) T.n_all PyProof.Rows.boot_all (pa_cons (pe_lc (wi := iTup K _) (g := gName 1) (own := [("entry", 1)]) (by rfl) nd (pi_tup (pv 0)) (blkOk_by (by kernel_rfl)) (fun _ _ _ _ _ => (pg_name (i := 1) nd rfl (Or.inl rfl))) (fun _ _ _ _ _ => pts_nil) (fun _ _ _ _ _ => (pe_call G_is_whole (hr.mono (by omega)) (by rfl) D_is_whole.g D_is_whole.F.kp D_is_whole.b .nil pass0 (pa_cons (pv 1) pa_nil)))) pa_nil))))), ?_⟩
    have h0 : EvP (tVar 0) (start N_is_line [v]) H (TupP n (fun j => Is (.int (g j)))) := evp_var rfl hv mf_row.mono
    have hi : EvP _ (start N_is_line [v]) H (Is (.bl true)) := evp_isi (K := K) (t := .type "tuple") (b := true) h0 (fun x H1 p => ty_tup p) (.ty "tuple") (kit_ty (by decide +kernel))
    have hc : EvP _ (start N_is_line [v]) H (Is (.bl (true && true))) := evp_chain (g := fun i j => .bl (decide (i ≤ j))) (g' := fun i j => .bl (decide (i ≤ j))) (evp_c (v := .int 1)) (evp_len (K := K) h0) (evp_c (v := .int 8)) (by rw [decide_eq_true (by omega)]) (by rw [decide_eq_true (by omega)])
    refine q_when (b := false) (et_or (a := false) (b := false) (et_not (et_bl hi)) fun _ => et_not (et_tst hc)) (fun z => nomatch z) fun _ H1 e1 => ?_
    refine evp_all (n := n) (evp_lc (vs := [1]) (Sg := fun i σ2 H2 => σ2[1]? = some (some (.int (g i)))) (wi_tup (h0.mono e1) fun _ => mf_is) (by omega) (fun i x H2 hlt e2 it => g_name ⟨rfl, by cases (show x = .int (g i) from it); rfl⟩) (fun i σ2 H2 hlt e2 hs => ?_) fun _ => mf_is) H1 (Ex.refl _) _ fun v H2 e2 p => q v H2 (e1.trans e2) p
    exact evp_call (eap_one (evp_var hs rfl mono_is)) fun vs H1 ⟨x, e, hx⟩ Q q E => ⟨x, .int (g i), e, by rw [show x = .int (g i) from hx]; exact .flat rfl, fun v H2 e2 hv => q v H2 e2 hv⟩
def spGrid : Sp := fun vs H Q _ => ∃ (v : V) (m n : Nat) (f : Nat → Nat → Int), vs = [v] ∧ Grid m n f v H ∧ (1 ≤ m ∧ m ≤ 8) ∧ (1 ≤ n ∧ n ≤ 8) ∧ ∀ v H2, Evl.Ex H H2 → Tr v H2 → Q v H2
theorem ok_grid {f f1 : Addr} {fd fd1 : FuncData} (D_is_line : Df K mg "is_line" s_is_line ["value"] f1 fd1) (G_is_line : FnOk P w K mg base CX0 (k + 2) f1 fd1 ["value"] spLine) (T : Txt mg tk) (D : Df K mg "is_grid" s_is_grid ["value"] f fd) :
    FnOk P w K mg base CX0 (k + 3) f fd ["value"] spGrid := by
  refine D.F.ok sc_is_grid (fun vs H Q E h => ?_) (fun cdv A outer s H vs Q E hr h => ?_)
  · obtain ⟨v, m, n, g, rfl, _⟩ := h
    rfl
  · obtain ⟨v, m, n, g, rfl, hv, ⟨hm1, hm8⟩, hn, q⟩ := h
    have nd := sc_is_grid.nd
    refine ⟨_, (pss_cons (ps_if (PW.pt (pw_or (pt_not (pt_val (pe_callB (r := rIsi K) call_isi (by rfl) T.n_isinstance PyProof.Rows.boot_isinstance (pa_cons (pv 0) (pa_cons (pe_bltn (v := .ty "tuple") (by rfl) T.n_tuple PyProof.Rows.boot_tuple rfl) pa_nil))))) (pw_or1 (pt_not (pt_chain op_le op_le pe_int (pe_callB (r := rLenQ K) call_len_seq (by rfl) T.n_len PySem.boot_len (pa_cons (pv 0) pa_nil)) (pe_glob (v := .int 8) rfl T.c_MOST_VALUES ⟨_, rfl⟩)))))) (pss_one (ps_ret pe_bl)) pss_nil) (pss_cons (ps_if (pt_not (pt_val (pe_callB (r := rAll K) (cr_all rfl) (by rfl) T.n_all PyProof.Rows.boot_all (pa_cons (pe_lc (wi := iTup K _) (g := gName 1) (own := [("line", 1)]) (by rfl) nd (pi_tup (pv 0)) (blkOk_by (by kernel_rfl)) (fun _ _ _ _ _ => (pg_name (i := 1) nd rfl (Or.inl rfl))) (fun _ _ _ _ _ => pts_nil) (fun _ _ _ _ _ => (pe_call G_is_line (hr.mono (by omega)) (by rfl) D_is_line.g D_is_line.F.kp D_is_line.b .nil pass0 (pa_cons (pv 1) pa_nil)))) pa_nil)))) (pss_one (ps_ret pe_bl)) pss_nil) (pss_one (ps_ret (pe_callB (r := rAll K) (cr_all rfl) (by rfl) T.n_all PyProof.Rows.boot_all (pa_cons (pe_lc (wi := iTup K _) (g := gName 1) (own := [("line", 1)]) (by rfl) nd (pi_tup (pv 0)) (blkOk_by (by kernel_rfl)) (fun _ _ _ _ _ => (pg_name (i := 1) nd rfl (Or.inl rfl))) (fun _ _ _ _ _ => pts_nil) (fun _ _ _ _ _ => (pe_cmpR op_eq (pe_callB (r := rLenQ K) call_len_seq (by rfl) T.n_len PySem.boot_len (pa_cons (pv 1) pa_nil)) (pe_callB (r := rLenQ K) call_len_seq (by rfl) T.n_len PySem.boot_len (pa_cons (pe_ix (r := rIxT K) ix_tup (pv 0) pe_int (fun _ _ => rfl)) pa_nil)) (nomark _)))) pa_nil)))))), ?_⟩
    have h0 : EvP (tVar 0) (start N_is_grid [v]) H (Grid m n g) := evp_var rfl hv mf_grid.mono
    have hi : EvP _ (start N_is_grid [v]) H (Is (.bl true)) := evp_isi (K := K) (t := .type "tuple") (b := true) h0 (fun x H1 p => ty_tup p) (.ty "tuple") (kit_ty (by decide +kernel))
    have hc : EvP _ (start N_is_grid [v]) H (Is (.bl (true && true))) := evp_chain (g := fun i j => .bl (decide (i ≤ j))) (g' := fun i j => .bl (decide (i ≤ j))) (evp_c (v := .int 1)) (evp_len (K := K) h0) (evp_c (v := .int 8)) (by rw [decide_eq_true (by omega)]) (by rw [decide_eq_true (by omega)])
    refine q_when (b := false) (et_or (a := false) (b := false) (et_not (et_bl hi)) fun _ => et_not (et_tst hc)) (fun z => nomatch z) fun _ H1 e1 => ?_
    have ha : EvP _ (start N_is_grid [v]) H1 Tr := evp_all (K := K) (n := m) (evp_lc (vs := [1]) (g := gName 1) (Sg := fun i σ2 H2 => ∃ x, σ2[1]? = some (some x) ∧ TupP n (fun j => Is (.int (g i j))) x H2) (wi_tup (K := K) (h0.mono e1) fun _ => mf_row) (by omega) (fun i x H2 hlt e2 it => g_name ⟨rfl, x, rfl, it⟩)
      (fun i σ2 H2 hlt e2 ⟨x, hs, hx⟩ => evp_call (sp := spLine) (E := fun _ _ _ => False) (eap_one (evp_var hs hx mf_row.mono)) fun vs H1 ⟨x, e, hx⟩ Q q E => ⟨x, n, g i, e, hx, hn, q⟩) fun _ => mf_is)
    refine q_when (b := false) (et_not (et_bl ha)) (fun z => nomatch z) fun _ H2 e2 => ?_
    refine evp_all (n := m) (evp_lc (vs := [1]) (Sg := fun i σ2 H3 => ∃ x, σ2[1]? = some (some x) ∧ TupP n (fun j => Is (.int (g i j))) x H3 ∧ σ2[0]? = some (some v) ∧ Grid m n g v H3) (wi_tup (h0.mono (e1.trans e2)) fun _ => mf_row) (by omega) (fun i x H3 hlt e3 it => g_name ⟨rfl, x, rfl, it, rfl, mf_grid.mono _ _ _ ((e1.trans e2).trans e3) hv⟩)
      (fun i σ2 H3 hlt e3 ⟨x, hs, hx, hs0, hv3⟩ => ?_) fun _ => mf_is) H2 (Ex.refl _) _ fun v H3 e3 p => q v H3 ((e1.trans e2).trans e3) p
    refine evp_is (evp_eq (evp_len (K := K) (evp_var hs hx mf_row.mono)) (evp_len (K := K) (evp_ixT (K := K) (i := 0) (evp_var hs0 hv3 mf_grid.mono) evp_c (by omega) fun _ => mf_row)) rfl) ?_
    rw [decide_eq_true rfl]
def spGProd : Sp := fun vs H Q _ => ∃ (a b : V) (m n : Nat) (f g : Nat → Nat → Int), vs = [a, b] ∧ Grid m n f a H ∧ Grid m n g b H ∧ (m ≤ 8 ∧ n ≤ 8) ∧ (∀ i j, Bd (g i j)) ∧
  ∀ v H2, Evl.Ex H H2 → (∃ p, v = .ref p ∧ H2 p = some (.lst ((flat (fun i j => f i j * g i j) n m).map V.int))) → Q v H2
theorem ok_gprod {fa : Addr} {fd : FuncData} (T : Txt mg tk) (D : Df K mg "grid_product" s_grid_product ["one", "other"] fa fd) :
    FnOk P w K mg base CX0 (k + 1) fa fd ["one", "other"] spGProd := by
  refine D.F.ok sc_grid_product (fun vs H Q E h => ?_) (fun cdv A outer s H vs Q E hr h => ?_)
  · obtain ⟨a, b, m, n, f, g, rfl, _⟩ := h
    rfl
  · obtain ⟨a, b, m, n, f, g, rfl, hf, hg, ⟨hm, hn⟩, hb, q⟩ := h
    have nd := sc_grid_product.nd
    refine ⟨_, (pss_one (ps_ret (pe_lc2 (wi := iZipA K _) (g := gTup K 2 (gCons (gName 2) (gCons (gName 3) gNil))) (wi1 := iZipA K _) (g1 := gTup K 2 (gCons (gName 4) (gCons (gName 5) gNil))) (own := [("line", 2), ("row", 3), ("a", 4), ("b", 5)]) (vs1 := [4, 5]) (by rfl) nd (pi_zipA (by rfl) T.n_zip (pa_cons (pv 0) (pa_cons (pv 1) pa_nil))) (blkOk_by (by kernel_rfl)) (by decide) (fun _ _ _ _ _ => (pg_tup rfl (pgs_cons (pg_name (i := 2) nd rfl (Or.inl rfl)) (pgs_cons (pg_name (i := 3) nd rfl (Or.inl rfl)) pgs_nil)))) (fun _ _ _ _ _ => pts_nil) (fun _ _ _ _ _ => (pi_zipA (by rfl) T.n_zip (pa_cons (pv 2) (pa_cons (pv 3) pa_nil)))) (fun _ _ _ _ _ => (pg_tup rfl (pgs_cons (pg_name (i := 4) nd rfl (Or.inl rfl)) (pgs_cons (pg_name (i := 5) nd rfl (Or.inl rfl)) pgs_nil)))) (fun _ _ _ _ _ => pts_nil) (fun _ _ _ _ _ => (pe_op op_mul (pv 4) (pv 5)))))), ?_⟩
    have h0 : EvP (tVar 0) (start N_grid_product [a, b]) H (Grid m n f) := evp_var rfl hf mf_grid.mono
    have h1 : EvP (tVar 1) (start N_grid_product [a, b]) H (Grid m n g) := evp_var rfl hg mf_grid.mono
    refine evp_lc2 (n := m) (mm := fun _ => n) (vs := [2, 3, 4, 5]) (vs1 := [4, 5]) (f := fun i j => .int (f i j * g i j)) (Sg := fun i σ2 H2 => ∃ u w, σ2 = [some a, some b, some u, some w, none, none] ∧ TupP n (fun j => Is (.int (f i j))) u H2 ∧ TupP n (fun j => Is (.int (g i j))) w H2)
      (Sg1 := fun i j σ2 H2 => σ2[4]? = some (some (.int (f i j))) ∧ σ2[5]? = some (some (.int (g i j))))
      (wi_zip (K := K) h0 h1 (fun _ => mf_row) fun _ => mf_row) (by omega) (fun _ => by omega) (fun i x H2 hlt e2 ⟨T, u, w, hx, hT, hu, hw⟩ => g_pair' hx hT ⟨rfl, u, w, rfl, hu, hw⟩)
      (fun i σ2 H2 hlt e2 ⟨u, w, hs, hu, hw⟩ => wi_zip (K := K) (evp_var (by rw [hs]; rfl) hu mf_row.mono) (evp_var (by rw [hs]; rfl) hw mf_row.mono) (fun _ => mf_is) fun _ => mf_is)
      (fun i j σ2 x H2 H3 hlt hlt2 e2 ⟨u0, w0, hs, _, _⟩ fx ⟨T, u, w, hx, hT, hu, hw⟩ => g_pair' hx hT (by subst hs; exact ⟨rfl, by cases (show u = _ from hu); rfl, by cases (show w = _ from hw); rfl⟩))
      (fun i j σ3 H3 hlt hlt2 e3 ⟨hs1, hs2⟩ => (evp_I (C := CMul) (g := fun i j => .int (i * j)) (evp_var hs1 rfl mono_is) (evp_var hs2 rfl mono_is) (.inr (hb i j))).ev) H (Ex.refl H) _ fun v H2 e2 ⟨p, hv, hp⟩ => q v H2 e2 ⟨p, hv, ?_⟩
    rw [hp, acc2_flat]
def spCounts : Sp := fun vs H Q _ => ∃ (v : V) (m n : Nat) (f : Nat → Nat → Int), vs = [v] ∧ Grid m n f v H ∧ (1 ≤ m ∧ m ≤ 8) ∧ (1 ≤ n ∧ n ≤ 8) ∧ (∀ i j, 0 ≤ f i j) ∧ ∀ v H2, Evl.Ex H H2 → Tr v H2 → Q v H2
theorem ok_counts {fa f1 : Addr} {fd fd1 : FuncData} (D_is_grid : Df K mg "is_grid" s_is_grid ["value"] f1 fd1) (G_is_grid : FnOk P w K mg base CX0 (k + 3) f1 fd1 ["value"] spGrid) (T : Txt mg tk) (D : Df K mg "is_counts" s_is_counts ["value"] fa fd) :
    FnOk P w K mg base CX0 (k + 4) fa fd ["value"] spCounts := by
  refine D.F.ok sc_is_counts (fun vs H Q E h => ?_) (fun cdv A outer s H vs Q E hr h => ?_)
  · obtain ⟨v, m, n, g, rfl, _⟩ := h
    rfl
  · obtain ⟨v, m, n, g, rfl, hv, hm, hn, hpos, q⟩ := h
    have nd := sc_is_counts.nd
    refine ⟨_, (pss_one (ps_ret (pe_and (pe_call G_is_grid (hr.mono (by omega)) (by rfl) D_is_grid.g D_is_grid.F.kp D_is_grid.b .nil pass0 (pa_cons (pv 0) pa_nil)) (pe_one (pe_callB (r := rAll K) (cr_all rfl) (by rfl) T.n_all PyProof.Rows.boot_all (pa_cons (pe_lc2 (wi := iTup K _) (g := gName 1) (wi1 := iTup K _) (g1 := gName 2) (own := [("line", 1), ("entry", 2)]) (vs1 := [2]) (by rfl) nd (pi_tup (pv 0)) (blkOk_by (by kernel_rfl)) (by decide) (fun _ _ _ _ _ => (pg_name (i := 1) nd rfl (Or.inl rfl))) (fun _ _ _ _ _ => pts_nil) (fun _ _ _ _ _ => (pi_tup (pv 1))) (fun _ _ _ _ _ => (pg_name (i := 2) nd rfl (Or.inl rfl))) (fun _ _ _ _ _ => pts_nil) (fun _ _ _ _ _ => (pe_cmpR op_ge (pv 2) pe_int (nomark _)))) pa_nil)))))), ?_⟩
    have h0 : EvP (tVar 0) (start N_is_counts [v]) H (Grid m n g) := evp_var rfl hv mf_grid.mono
    refine evp_and (a := true) (b := true) (evp_call (eap_one h0) fun vs H1 ⟨x, e, hx⟩ Q q E => ⟨x, m, n, g, e, hx, hm, hn, q⟩) (fun _ => ?_) H (Ex.refl H) _ q
    have hl := evp_lc2 (te := tOp (rI0 fun i j => .bl (decide (j ≤ i))) (tVar 2) (tC (.int 0))) (σ := start N_is_counts [v]) (H := H) (wi := iTup K (tVar 0)) (wi1 := iTup K (tVar 1)) (g := gName 1) (g1 := gName 2) (n := m) (mm := fun _ => n) (vs := [1, 2]) (vs1 := [2]) (f := fun i j => .bl true) (Sg := fun i σ2 H2 => ∃ u, σ2 = [some v, some u, none] ∧ TupP n (fun j => Is (.int (g i j))) u H2)
      (Sg1 := fun i j σ2 H2 => σ2[2]? = some (some (.int (g i j))))
      (wi_tup (K := K) h0 (fun _ => mf_row)) (by omega) (fun _ => by omega) (fun i x H2 hlt e2 hx => g_name ⟨rfl, x, rfl, hx⟩)
      (fun i σ2 H2 hlt e2 ⟨u, hs, hu⟩ => wi_tup (K := K) (evp_var (by rw [hs]; rfl) hu mf_row.mono) (fun _ => mf_is))
      (fun i j σ2 x H2 H3 hlt hlt2 e2 ⟨u0, hs, _⟩ fx hx => g_name (by subst hs; exact ⟨rfl, by cases (show x = _ from hx); rfl⟩))
      (fun i j σ3 H3 hlt hlt2 e3 hs1 => (evp_is (evp_I0 (g := fun i j => .bl (decide (j ≤ i))) (evp_var hs1 rfl mono_is) (evp_c (v := .int 0))) (by rw [decide_eq_true (hpos i j)])).ev)
    exact evp_all2 (K := K) hl
end
def toI : V → Int
  | .int i => i
  | _ => 0
/-- ints found, by place -/
theorem row_of {c : Int → Prop} {n : Nat} {v : V} {H : Hp} (h0 : c 0) (h : TupP n (fun _ => BI c) v H) : ∃ f : Nat → Int, TupP n (fun j => Is (.int (f j))) v H ∧ ∀ j, c (f j) := by
  obtain ⟨p, ys, hv, hp, hl, hy⟩ := h
  refine ⟨fun j => toI (ys.getD j .non), ⟨p, ys, hv, hp, hl, fun j y hj => ?_⟩, fun j => ?_⟩
  · obtain ⟨i, e, hc⟩ := hy j y hj
    show y = .int (toI (ys.getD j .non))
    rw [List.getD_eq_getElem?_getD, hj]
    simp [e, toI]
  · show c (toI (ys.getD j .non))
    by_cases hj : j < ys.length
    · obtain ⟨i, e, hc⟩ := hy j _ (List.getElem?_eq_getElem hj)
      rw [List.getD_eq_getElem?_getD, List.getElem?_eq_getElem hj, e]
      exact hc
    · rw [List.getD_eq_getElem?_getD, List.getElem?_eq_none (by omega)]
      exact h0
theorem grid_of {c : Int → Prop} {m n : Nat} {v : V} {H : Hp} (h0 : c 0) (h : TupP m (fun _ => TupP n fun _ => BI c) v H) : ∃ f : Nat → Nat → Int, Grid m n f v H ∧ ∀ i j, c (f i j) := by
  obtain ⟨p, ys, hv, hp, hl, hy⟩ := h
  have hr : ∀ i, ∃ f : Nat → Int, (∀ y, ys[i]? = some y → TupP n (fun j => Is (.int (f j))) y H) ∧ ∀ j, c (f j) := fun i => by
    by_cases hi : i < ys.length
    · obtain ⟨f, h1, h2⟩ := row_of h0 (hy i _ (List.getElem?_eq_getElem hi))
      refine ⟨f, fun y e => ?_, h2⟩
      rw [List.getElem?_eq_getElem hi] at e
      cases e
      exact h1
    · exact ⟨fun _ => 0, ⟨fun y e => (by rw [List.getElem?_eq_none (by omega)] at e; cases e), fun _ => h0⟩⟩
  refine ⟨fun i => Classical.choose (hr i), ⟨p, ys, hv, hp, hl, fun i y e => (Classical.choose_spec (hr i)).1 y e⟩, fun i j => (Classical.choose_spec (hr i)).2 j⟩
theorem _root_.Ev2.EvAP.one' {ta : TA} {σ : L2.St} {H : Hp} {v : V} (h : EvAP ta σ H (fun vs H1 => ∃ x, vs = [x] ∧ Is v x H1)) : EvAP ta σ H (fun vs _ => vs = [v]) := fun H1 e Q q => h H1 e Q fun vs H2 e2 ⟨x, hv, hx⟩ => q vs H2 e2 (by rw [hv, show x = v from hx])
section
variable {P : Program} {w : World} {K : PySem.W.Frag} {mg : Str → Option Value} {base : Heap} {tk : Tok} {k : Nat}
def spGC : Sp := fun vs H Q _ => ∃ (s p : Addr) (xs : List Int) (l r : Nat) (m : Int), vs = [.ref s, .int (l : Int), .int (r : Int), .int m] ∧ Dr s p xs H ∧ (l ≤ 8 ∧ r ≤ 8) ∧ 0 ≤ m ∧
  ∀ v H2, Gs s H H2 → Dr s p xs H2 → (∃ f, Grid l r f v H2 ∧ ∀ i j, 0 ≤ f i j ∧ f i j ≤ m) → Q v H2
def spGW : Sp := fun vs H Q _ => ∃ (s p : Addr) (xs : List Int) (l r : Nat), vs = [.ref s, .int (l : Int), .int (r : Int)] ∧ Dr s p xs H ∧ (l ≤ 8 ∧ r ≤ 8) ∧
  ∀ v H2, Gs s H H2 → Dr s p xs H2 → (∃ f, Grid l r f v H2 ∧ ∀ i j, -3 ≤ f i j ∧ f i j ≤ 5) → Q v H2
theorem ok_gc {fa f1 : Addr} {fd fd1 : FuncData} (D__law_draw : Df K mg "_law_draw" s_law_draw ["_law_state", "_law_many"] f1 fd1) (G__law_draw : FnOk P w K mg base CX0 (k + 1) f1 fd1 ["_law_state", "_law_many"] spDraw) (T : Txt mg tk)
    (D : Df K mg "_law_counts" s_law_counts ["_law_state", "_law_left", "_law_right", "_law_most"] fa fd) : FnOk P w K mg base CX0 (k + 2) fa fd ["_law_state", "_law_left", "_law_right", "_law_most"] spGC := by
  refine D.F.ok sc_law_counts (fun vs H Q E h => ?_) (fun cdv A outer s H vs Q E hr h => ?_)
  · obtain ⟨s, p, xs, l, r, m, rfl, _⟩ := h
    rfl
  · obtain ⟨s, p, xs, l, r, m, rfl, d, ⟨hl, hr8⟩, hm, q⟩ := h
    have nd := sc_law_counts.nd
    refine ⟨_, (pss_one (ps_ret (pe_callTy (r := rTupQ K) call_tuple_of (by rfl) T.n_tuple PyProof.Rows.boot_tuple (pa_cons (pe_lc (wi := iRng1 _) (g := gName 4) (own := [("_law_one", 4)]) (by rfl) nd (pi_range1 (by rfl) T.n_range (pa_cons (pv 1) pa_nil)) (blkOk_by (by kernel_rfl)) (fun _ _ _ _ _ => (pg_name (i := 4) nd rfl (Or.inl rfl))) (fun _ _ _ _ _ => pts_nil) (fun _ _ _ _ _ => (pe_callTy (r := rTupQ K) call_tuple_of (by rfl) T.n_tuple PyProof.Rows.boot_tuple (pa_cons (pe_lc (wi := iRng1 _) (g := gName 5) (own := [("_law_other", 5)]) (by rfl) nd (pi_range1 (by rfl) T.n_range (pa_cons (pv 2) pa_nil)) (blkOk_by (by kernel_rfl)) (fun _ _ _ _ _ => (pg_name (i := 5) nd rfl (Or.inl rfl))) (fun _ _ _ _ _ => pts_nil) (fun _ _ _ _ _ => (pe_call G__law_draw (hr.mono (by omega)) (by rfl) D__law_draw.g D__law_draw.F.kp D__law_draw.b .nil pass0 (pa_cons (pv 0) (pa_cons (pe_op op_add (pv 3) pe_int) pa_nil))))) pa_nil)))) pa_nil)))), ?_⟩
    refine evd_tuple (K := K) (n := l) (Pi := fun _ => TupP r fun _ => BI fun x => 0 ≤ x ∧ x < m + 1) (H := H) (evd_lc (j := 4) (vs := [4]) (fun H1 => (eap_one (evp_var (v := .int (l : Int)) rfl rfl mono_is)).one') (by omega) (fun _ => rfl) (fun i hi => ?_) fun _ => mf_tup fun _ => mf_bi) (fun _ => mf_tup fun _ => mf_bi) H (Gs.refl _ _) d _ fun v H2 g2 d2 hv => ?_
    · refine evd_tuple (K := K) (evd_lc (j := 5) (vs := [5]) (fun H1 => (eap_one (evp_var (v := .int (r : Int)) rfl rfl mono_is)).one') (by omega) (fun _ => rfl) (fun j hj => ?_) fun _ => mf_bi) (fun _ => mf_bi)
      exact evd_draw rfl (fun H1 => evp_I0 (g := fun i j => .int (i + j)) (evp_var (v := .int m) rfl rfl mono_is) evp_c) (by omega)
    · obtain ⟨f, h1, h2⟩ := grid_of (c := fun x => 0 ≤ x ∧ x < m + 1) (by omega) hv
      exact q v H2 g2 d2 ⟨f, h1, fun i j => by have := h2 i j; omega⟩
theorem ok_gw {fa f1 : Addr} {fd fd1 : FuncData} (D__law_draw : Df K mg "_law_draw" s_law_draw ["_law_state", "_law_many"] f1 fd1) (G__law_draw : FnOk P w K mg base CX0 (k + 1) f1 fd1 ["_law_state", "_law_many"] spDraw) (T : Txt mg tk)
    (D : Df K mg "_law_weights" s_law_weights ["_law_state", "_law_left", "_law_right"] fa fd) : FnOk P w K mg base CX0 (k + 2) fa fd ["_law_state", "_law_left", "_law_right"] spGW := by
  refine D.F.ok sc_law_weights (fun vs H Q E h => ?_) (fun cdv A outer s H vs Q E hr h => ?_)
  · obtain ⟨s, p, xs, l, r, rfl, _⟩ := h
    rfl
  · obtain ⟨s, p, xs, l, r, rfl, d, ⟨hl, hr8⟩, q⟩ := h
    have nd := sc_law_weights.nd
    refine ⟨_, (pss_one (ps_ret (pe_callTy (r := rTupQ K) call_tuple_of (by rfl) T.n_tuple PyProof.Rows.boot_tuple (pa_cons (pe_lc (wi := iRng1 _) (g := gName 3) (own := [("_law_one", 3)]) (by rfl) nd (pi_range1 (by rfl) T.n_range (pa_cons (pv 1) pa_nil)) (blkOk_by (by kernel_rfl)) (fun _ _ _ _ _ => (pg_name (i := 3) nd rfl (Or.inl rfl))) (fun _ _ _ _ _ => pts_nil) (fun _ _ _ _ _ => (pe_callTy (r := rTupQ K) call_tuple_of (by rfl) T.n_tuple PyProof.Rows.boot_tuple (pa_cons (pe_lc (wi := iRng1 _) (g := gName 4) (own := [("_law_other", 4)]) (by rfl) nd (pi_range1 (by rfl) T.n_range (pa_cons (pv 2) pa_nil)) (blkOk_by (by kernel_rfl)) (fun _ _ _ _ _ => (pg_name (i := 4) nd rfl (Or.inl rfl))) (fun _ _ _ _ _ => pts_nil) (fun _ _ _ _ _ => (pe_op op_sub (pe_call G__law_draw (hr.mono (by omega)) (by rfl) D__law_draw.g D__law_draw.F.kp D__law_draw.b .nil pass0 (pa_cons (pv 0) (pa_cons pe_int pa_nil))) pe_int))) pa_nil)))) pa_nil)))), ?_⟩
    refine evd_tuple (K := K) (n := l) (Pi := fun _ => TupP r fun _ => BI fun x => -3 ≤ x ∧ x ≤ 5) (H := H) (evd_lc (j := 3) (vs := [3]) (fun H1 => (eap_one (evp_var (v := .int (l : Int)) rfl rfl mono_is)).one') (by omega) (fun _ => rfl) (fun i hi => ?_) fun _ => mf_tup fun _ => mf_bi) (fun _ => mf_tup fun _ => mf_bi) H (Gs.refl _ _) d _ fun v H2 g2 d2 hv => ?_
    · refine evd_tuple (K := K) (evd_lc (j := 4) (vs := [4]) (fun H1 => (eap_one (evp_var (v := .int (r : Int)) rfl rfl mono_is)).one') (by omega) (fun _ => rfl) (fun j hj => ?_) fun _ => mf_bi) (fun _ => mf_bi)
      exact fun H1 e d Q q => evd_draw (H := H1) rfl (fun H1 => evp_c (v := .int 9)) (by decide) H1 (Gs.refl _ _) d _ fun v H2 g2 d2 ⟨x, hx, hb⟩ => ⟨x, 3, hx, rfl, q _ H2 g2 d2 ⟨x - 3, rfl, by omega⟩⟩
    · obtain ⟨f, h1, h2⟩ := grid_of (c := fun x => -3 ≤ x ∧ x ≤ 5) (by omega) hv
      exact q v H2 g2 d2 ⟨f, h1, fun i j => by have := h2 i j; omega⟩
end
structure Kl (K : PySem.W.Frag) (mg : Str → Option Value) (x : Str) (C fI : Addr) (fld : Str) : Prop where
  cl : Cls K C
  nF : NoAttr K C fld
  gC : mg x = some (.ref C)
  mkc : Mk K C fI
  ha : PySem.W.findIn K (.ref C) "__class__" = some (some (.builtin "object.__class__"))
  hn : PySem.W.specialIn K (.builtin "object.__class__") "__get__" = some (some (.builtin "getset_descriptor.__get__"))
  htk : PySem.W.takesIn K (.builtin "object.__class__") = some true
  hm : PySem.W.mroIn K C (.type "object") = some true
/-- a method -/
structure Mf (K : PySem.W.Frag) (x qual : Str) (st : Stmt) (ps : List Str) (f : Addr) (fd : FuncData) : Prop where
  F : Fun K x qual st f fd
  b : Binds K fd ps []
/-- a property -/
structure Pf (K : PySem.W.Frag) (C : Addr) (x qual : Str) (st : Stmt) (p f : Addr) (fd : FuncData) : Prop where
  F : Fun K x qual st f fd
  b : Binds K fd ["self"] []
  hp : PropOf K C x p f
def Ins (C : Addr) (fld : Str) (m n : Nat) (f : Nat → Nat → Int) : HP := fun v H => ∃ a dx p, v = .ref a ∧ H a = some (.ins C dx [(fld, p)]) ∧ Grid m n f p H
theorem mf_ins {C : Addr} {fld : Str} {m n : Nat} {f : Nat → Nat → Int} : MonoF (Ins C fld m n f) := fun v H H' e ⟨a, dx, p, h1, h2, h3⟩ => ⟨a, dx, p, h1, e _ _ h2 (fun _ z => nomatch z), mf_grid _ _ _ e h3⟩
section
variable {K : PySem.W.Frag} {σ : L2.St} {H : Hp} {ta tb te : TE} {P S : HP} {C fI : Addr} {fld x : Str} {mg : Str → Option Value} {m n : Nat} {f : Nat → Nat → Int}
theorem look1 {p : V} : List.lookup fld [(fld, p)] = some p := by simp [List.lookup]
theorem evp_fld (B : Kl K mg x C fI fld) (h : EvP te σ H (Ins C fld m n f)) : EvP (tFld K te fld) σ H (Grid m n f) := fun H1 e Q q => h H1 e _ fun v H2 e2 ⟨a, dx, p, h1, h2, h3⟩ => ⟨a, C, dx, _, p, h1, h2, B.cl, B.nF, look1, q p H2 e2 h3⟩
theorem evp_prop {sp : Sp} {E : XK} (h : EvP te σ H (Ins C fld m n f)) (hs : SpP sp (fun vs H1 => ∃ v, vs = [v] ∧ Ins C fld m n f v H1) S) : EvP (tProp C sp [] E te) σ H S := fun H1 e Q q => h H1 e _ fun v H2 e2 ⟨a, dx, p, h1, h2, h3⟩ =>
  ⟨a, dx, _, h1, h2, hs _ H2 ⟨_, rfl, a, dx, p, rfl, h2, h3⟩ Q (fun v H3 e3 s => q v H3 (e2.trans e3) s) E⟩
theorem kit_me {K : PySem.W.Frag} {C : Addr} : PySem.W.kitOne K (.ref C) (.ref C) = some true := by
  unfold PySem.W.kitOne
  rw [if_pos (by simp)]
theorem ty_ins (B : Kl K mg x C fI fld) {v : V} (h : Ins C fld m n f v H) : TyX K H v (.ref C) := by
  obtain ⟨a, dx, p, rfl, h2, _⟩ := h
  exact .base (.ins h2 B.cl B.ha B.hn B.htk B.hm)
theorem evp_isiO (B : Kl K mg x C fI fld) (h : EvP te σ H (Ins C fld m n f)) : EvP (tCB (rIsi K) (tCons te (tCons (tC (.ref C)) tNil))) σ H (Is (.bl true)) := evp_isi (t := .ref C) (b := true) h (fun _ _ p => ty_ins B p) (.own C) kit_me
end
def dimOk (m n : Nat) : Prop := (1 ≤ m ∧ m ≤ 8) ∧ (1 ≤ n ∧ n ≤ 8)
def spInit (C : Addr) (fld : Str) (ok : (Nat → Nat → Int) → Prop) : Sp := fun vs H Q _ => ∃ (a dx : Addr) (v : V) (m n : Nat) (f : Nat → Nat → Int), vs = [.ref a, v] ∧ H a = some (.ins C dx []) ∧ Grid m n f v H ∧ dimOk m n ∧ ok f ∧
  ∀ H2, Evl.Ex (fun b => if b = a then none else H b) H2 → H2 a = some (.ins C dx [(fld, v)]) → Q .non H2
def spGet (C : Addr) (fld : Str) : Sp := fun vs H Q _ => ∃ (v : V) (m n : Nat) (f : Nat → Nat → Int), vs = [v] ∧ Ins C fld m n f v H ∧ ∀ w H2, Evl.Ex H H2 → Grid m n f w H2 → Q w H2
def spLeft (C : Addr) (fld : Str) : Sp := fun vs H Q _ => ∃ (v : V) (m n : Nat) (f : Nat → Nat → Int), vs = [v] ∧ Ins C fld m n f v H ∧ ∀ w H2, Evl.Ex H H2 → w = .int (m : Int) → Q w H2
def spRight (C : Addr) (fld : Str) : Sp := fun vs H Q _ => ∃ (v : V) (m n : Nat) (f : Nat → Nat → Int), vs = [v] ∧ Ins C fld m n f v H ∧ 1 ≤ m ∧ ∀ w H2, Evl.Ex H H2 → w = .int (n : Int) → Q w H2
section
variable {P : Program} {w : World} {K : PySem.W.Frag} {mg : Str → Option Value} {base : Heap} {tk : Tok} {k : Nat} {C fI p g f1 : Addr} {fd fd1 : FuncData}
theorem ok_Table_counts (BB : Kl K mg "Table" C fI "_counts") (T : Txt mg tk) (PP : Pf K C "counts" "Table.counts" s_Table_counts p g fd) : FnOk P w K mg base CX0 (k + 1) g fd ["self"] (spGet C "_counts") := by
  refine PP.F.ok sc_Table_counts (fun vs H Q E h => ?_) (fun cdv A outer s H vs Q E hr h => ?_)
  · obtain ⟨v, m, n, f, rfl, _⟩ := h
    rfl
  · obtain ⟨v, m, n, f, rfl, hv, q⟩ := h
    refine ⟨_, (pss_one (ps_ret (pe_fld (pv 0) rfl))), ?_⟩
    have h0 : EvP (tVar 0) (start N_Table_counts [v]) H (Ins C "_counts" m n f) := evp_var rfl hv mf_ins.mono
    exact evp_fld BB h0 H (Ex.refl H) _ q
theorem ok_Table_left (BB : Kl K mg "Table" C fI "_counts") (T : Txt mg tk) (PP : Pf K C "left" "Table.left" s_Table_left p g fd) : FnOk P w K mg base CX0 (k + 1) g fd ["self"] (spLeft C "_counts") := by
  refine PP.F.ok sc_Table_left (fun vs H Q E h => ?_) (fun cdv A outer s H vs Q E hr h => ?_)
  · obtain ⟨v, m, n, f, rfl, _⟩ := h
    rfl
  · obtain ⟨v, m, n, f, rfl, hv, q⟩ := h
    refine ⟨_, (pss_one (ps_ret (pe_callB (r := rLenQ K) call_len_seq (by rfl) T.n_len PySem.boot_len (pa_cons (pe_fld (pv 0) rfl) pa_nil)))), ?_⟩
    have h0 : EvP (tVar 0) (start N_Table_left [v]) H (Ins C "_counts" m n f) := evp_var rfl hv mf_ins.mono
    exact evp_len (K := K) (evp_fld BB h0) H (Ex.refl H) _ q
theorem ok_Table_right (BB : Kl K mg "Table" C fI "_counts") (T : Txt mg tk) (PP : Pf K C "right" "Table.right" s_Table_right p g fd) : FnOk P w K mg base CX0 (k + 1) g fd ["self"] (spRight C "_counts") := by
  refine PP.F.ok sc_Table_right (fun vs H Q E h => ?_) (fun cdv A outer s H vs Q E hr h => ?_)
  · obtain ⟨v, m, n, f, rfl, _⟩ := h
    rfl
  · obtain ⟨v, m, n, f, rfl, hv, hm, q⟩ := h
    refine ⟨_, (pss_one (ps_ret (pe_callB (r := rLenQ K) call_len_seq (by rfl) T.n_len PySem.boot_len (pa_cons (pe_ix (r := rIxT K) ix_tup (pe_fld (pv 0) rfl) pe_int (fun _ _ => rfl)) pa_nil)))), ?_⟩
    have h0 : EvP (tVar 0) (start N_Table_right [v]) H (Ins C "_counts" m n f) := evp_var rfl hv mf_ins.mono
    exact evp_len (K := K) (evp_ixT (K := K) (i := 0) (evp_fld BB h0) evp_c (by omega) fun _ => mf_row) H (Ex.refl H) _ q
theorem ok_Question_weights (BB : Kl K mg "Question" C fI "_weights") (T : Txt mg tk) (PP : Pf K C "weights" "Question.weights" s_Question_weights p g fd) : FnOk P w K mg base CX0 (k + 1) g fd ["self"] (spGet C "_weights") := by
  refine PP.F.ok sc_Question_weights (fun vs H Q E h => ?_) (fun cdv A outer s H vs Q E hr h => ?_)
  · obtain ⟨v, m, n, f, rfl, _⟩ := h
    rfl
  · obtain ⟨v, m, n, f, rfl, hv, q⟩ := h
    refine ⟨_, (pss_one (ps_ret (pe_fld (pv 0) rfl))), ?_⟩
    have h0 : EvP (tVar 0) (start N_Question_weights [v]) H (Ins C "_weights" m n f) := evp_var rfl hv mf_ins.mono
    exact evp_fld BB h0 H (Ex.refl H) _ q
theorem ok_Question_left (BB : Kl K mg "Question" C fI "_weights") (T : Txt mg tk) (PP : Pf K C "left" "Question.left" s_Question_left p g fd) : FnOk P w K mg base CX0 (k + 1) g fd ["self"] (spLeft C "_weights") := by
  refine PP.F.ok sc_Question_left (fun vs H Q E h => ?_) (fun cdv A outer s H vs Q E hr h => ?_)
  · obtain ⟨v, m, n, f, rfl, _⟩ := h
    rfl
  · obtain ⟨v, m, n, f, rfl, hv, q⟩ := h
    refine ⟨_, (pss_one (ps_ret (pe_callB (r := rLenQ K) call_len_seq (by rfl) T.n_len PySem.boot_len (pa_cons (pe_fld (pv 0) rfl) pa_nil)))), ?_⟩
    have h0 : EvP (tVar 0) (start N_Question_left [v]) H (Ins C "_weights" m n f) := evp_var rfl hv mf_ins.mono
    exact evp_len (K := K) (evp_fld BB h0) H (Ex.refl H) _ q
theorem ok_Question_right (BB : Kl K mg "Question" C fI "_weights") (T : Txt mg tk) (PP : Pf K C "right" "Question.right" s_Question_right p g fd) : FnOk P w K mg base CX0 (k + 1) g fd ["self"] (spRight C "_weights") := by
  refine PP.F.ok sc_Question_right (fun vs H Q E h => ?_) (fun cdv A outer s H vs Q E hr h => ?_)
  · obtain ⟨v, m, n, f, rfl, _⟩ := h
    rfl
  · obtain ⟨v, m, n, f, rfl, hv, hm, q⟩ := h
    refine ⟨_, (pss_one (ps_ret (pe_callB (r := rLenQ K) call_len_seq (by rfl) T.n_len PySem.boot_len (pa_cons (pe_ix (r := rIxT K) ix_tup (pe_fld (pv 0) rfl) pe_int (fun _ _ => rfl)) pa_nil)))), ?_⟩
    have h0 : EvP (tVar 0) (start N_Question_right [v]) H (Ins C "_weights" m n f) := evp_var rfl hv mf_ins.mono
    exact evp_len (K := K) (evp_ixT (K := K) (i := 0) (evp_fld BB h0) evp_c (by omega) fun _ => mf_row) H (Ex.refl H) _ q
theorem ok_Table_init (BB : Kl K mg "Table" C fI "_counts") (T : Txt mg tk) (D_is_counts : Df K mg "is_counts" s_is_counts ["value"] f1 fd1) (G_is_counts : FnOk P w K mg base CX0 (k + 4) f1 fd1 ["value"] spCounts) (M : Mf K "__init__" "Table.__init__" s_Table_init ["self", "counts"] fI fd) :
    FnOk P w K mg base CX0 (k + 5) fI fd ["self", "counts"] (spInit C "_counts" (fun f => ∀ i j, 0 ≤ f i j)) := by
  refine M.F.ok sc_Table_init (fun vs H Q E h => ?_) (fun cdv A outer s H vs Q E hr h => ?_)
  · obtain ⟨a, dx, v, m, n, f, rfl, _⟩ := h
    rfl
  · obtain ⟨a, dx, v, m, n, f, rfl, ha, hv, ⟨hm, hn⟩, hok, q⟩ := h
    refine ⟨_, (pss_cons (ps_if (pt_not (pt_val (pe_call G_is_counts (hr.mono (by omega)) (by rfl) D_is_counts.g D_is_counts.F.kp D_is_counts.b .nil pass0 (pa_cons (pv 1) pa_nil)))) (pss_one ps_never) pss_nil) (pss_one (ps_fld (pv 0) (pv 1) rfl))), ?_⟩
    have h1 : EvP (tVar 1) (start N_Table_init [.ref a, v]) H (Grid m n f) := evp_var rfl hv mf_grid.mono
    have hc : EvP _ (start N_Table_init [.ref a, v]) H (Is (.bl true)) := evp_call (sp := spCounts) (E := fun _ _ _ => False) (eap_one h1) fun vs H1 ⟨x, e, hx⟩ Q q E => ⟨x, m, n, f, e, hx, hm, hn, hok, q⟩
    refine q_when (b := false) (et_not (et_bl hc)) (fun z => nomatch z) fun _ H1 e1 => ?_
    refine ⟨v, rfl, .ref a, rfl, a, C, dx, [], rfl, e1 _ _ ha, BB.cl, BB.nF, (by show 0 < 1000; decide), q _ (fun b o hb => ?_) upd_same⟩
    dsimp only at hb
    by_cases hba : b = a
    · rw [if_pos hba] at hb; cases hb
    · rw [if_neg hba] at hb; rw [upd_ne hba]; exact e1 _ _ hb
theorem ok_Question_init (BB : Kl K mg "Question" C fI "_weights") (T : Txt mg tk) (D_is_grid : Df K mg "is_grid" s_is_grid ["value"] f1 fd1) (G_is_grid : FnOk P w K mg base CX0 (k + 4) f1 fd1 ["value"] spGrid) (M : Mf K "__init__" "Question.__init__" s_Question_init ["self", "weights"] fI fd) :
    FnOk P w K mg base CX0 (k + 5) fI fd ["self", "weights"] (spInit C "_weights" (fun _ => True)) := by
  refine M.F.ok sc_Question_init (fun vs H Q E h => ?_) (fun cdv A outer s H vs Q E hr h => ?_)
  · obtain ⟨a, dx, v, m, n, f, rfl, _⟩ := h
    rfl
  · obtain ⟨a, dx, v, m, n, f, rfl, ha, hv, ⟨hm, hn⟩, hok, q⟩ := h
    refine ⟨_, (pss_cons (ps_if (pt_not (pt_val (pe_call G_is_grid (hr.mono (by omega)) (by rfl) D_is_grid.g D_is_grid.F.kp D_is_grid.b .nil pass0 (pa_cons (pv 1) pa_nil)))) (pss_one ps_never) pss_nil) (pss_one (ps_fld (pv 0) (pv 1) rfl))), ?_⟩
    have h1 : EvP (tVar 1) (start N_Question_init [.ref a, v]) H (Grid m n f) := evp_var rfl hv mf_grid.mono
    have hc : EvP _ (start N_Question_init [.ref a, v]) H (Is (.bl true)) := evp_call (sp := spGrid) (E := fun _ _ _ => False) (eap_one h1) fun vs H1 ⟨x, e, hx⟩ Q q E => ⟨x, m, n, f, e, hx, hm, hn, q⟩
    refine q_when (b := false) (et_not (et_bl hc)) (fun z => nomatch z) fun _ H1 e1 => ?_
    refine ⟨v, rfl, .ref a, rfl, a, C, dx, [], rfl, e1 _ _ ha, BB.cl, BB.nF, (by show 0 < 1000; decide), q _ (fun b o hb => ?_) upd_same⟩
    dsimp only at hb
    by_cases hba : b = a
    · rw [if_pos hba] at hb; cases hb
    · rw [if_neg hba] at hb; rw [upd_ne hba]; exact e1 _ _ hb
def spTurned : Sp := fun vs H Q _ => ∃ (v : V) (m n : Nat) (f : Nat → Nat → Int), vs = [v] ∧ Grid m n f v H ∧ dimOk m n ∧ ∀ w H2, Evl.Ex H H2 → Grid n m (fun i j => f j i) w H2 → Q w H2
theorem ok_turned {fa : Addr} (T : Txt mg tk) (D : Df K mg "grid_turned" s_grid_turned ["grid"] fa fd) : FnOk P w K mg base CX0 (k + 1) fa fd ["grid"] spTurned := by
  refine D.F.ok sc_grid_turned (fun vs H Q E h => ?_) (fun cdv A outer s H vs Q E hr h => ?_)
  · obtain ⟨v, m, n, f, rfl, _⟩ := h
    rfl
  · obtain ⟨v, m, n, f, rfl, hv, ⟨⟨hm1, hm8⟩, hn1, hn8⟩, q⟩ := h
    have nd := sc_grid_turned.nd
    refine ⟨_, (pss_one (ps_ret (pe_callTy (r := rTupQ K) call_tuple_of (by rfl) T.n_tuple PyProof.Rows.boot_tuple (pa_cons (pe_lc (wi := iRng1 _) (g := gName 1) (own := [("right", 1)]) (by rfl) nd (pi_range1 (by rfl) T.n_range (pa_cons (pe_callB (r := rLenQ K) call_len_seq (by rfl) T.n_len PySem.boot_len (pa_cons (pe_ix (r := rIxT K) ix_tup (pv 0) pe_int (fun _ _ => rfl)) pa_nil)) pa_nil)) (blkOk_by (by kernel_rfl)) (fun _ _ _ _ _ => (pg_name (i := 1) nd rfl (Or.inr rfl))) (fun _ _ _ _ _ => pts_nil) (fun _ _ _ _ _ => (pe_callTy (r := rTupQ K) call_tuple_of (by rfl) T.n_tuple PyProof.Rows.boot_tuple (pa_cons (pe_lc (wi := iTup K _) (g := gName 2) (own := [("line", 2)]) (by rfl) nd (pi_tup (pv 0)) (blkOk_by (by kernel_rfl)) (fun _ _ _ _ _ => (pg_name (i := 2) nd rfl (Or.inl rfl))) (fun _ _ _ _ _ => pts_nil) (fun _ _ _ _ _ => (pe_ix (r := rIxT K) ix_tup (pv 2) (pv 1) (fun _ _ => rfl)))) pa_nil)))) pa_nil)))), ?_⟩
    have h0 : EvP (tVar 0) (start N_grid_turned [v]) H (Grid m n f) := evp_var rfl hv mf_grid.mono
    refine evp_tuple (K := K) (n := n) (Pi := fun i => TupP m fun j => Is (.int (f j i))) (evp_lc (vs := [1]) (g := gName 1) (wi_rng (ta := tCons (tCB (rLenQ K) (tCons (tOp (rIxT K) (tVar 0) (tC (.int ((0 : Nat) : Int)))) tNil)) tNil) (n := n) (EvAP.one' (eap_one (evp_len (K := K) (evp_ixT (K := K) (i := 0) h0 evp_c (by omega) fun _ => mf_row)))) (by omega)) (by omega)
      (Sg := fun i σ2 _ => σ2 = [some v, some (.int (i : Int)), none]) (fun i x H1 hi e1 hx => by subst hx; exact g_name (i := 1) ⟨rfl, rfl⟩) (fun i σ2 H1 hi e1 hs => ?_) fun _ => mf_row) (fun _ => mf_row.mono) H (Ex.refl H) _ q
    subst hs
    have hv1 := mf_grid.mono _ _ _ e1 hv
    exact evp_tuple (K := K) (evp_lc (vs := [2]) (g := gName 2) (wi_tup (K := K) (evp_var (i := 0) (v := v) rfl hv1 mf_grid.mono) fun _ => mf_row) (by omega)
      (Sg := fun j σ2 H2 => ∃ y, σ2 = [some v, some (.int (i : Int)), some y] ∧ TupP n (fun c => Is (.int (f j c))) y H2) (fun j x H2 hj e2 hx => g_name (i := 2) ⟨rfl, x, rfl, hx⟩) (fun j σ2 H2 hj e2 ⟨y, hs, hy⟩ => by
        subst hs
        exact evp_ixT (K := K) (i := i) (evp_var (i := 2) (v := y) rfl hy mf_row.mono) (evp_var (i := 1) rfl rfl mono_is) hi fun _ => mf_is) fun _ => mf_is) (fun _ => mf_is.mono)
end
def dat (m n : Nat) (f : Nat → Nat → Int) : PyData := .tuple ((List.range m).map fun i => .tuple ((List.range n).map fun j => .int (f i j)))
theorem dpAll_of {K : PySem.W.Frag} {H : Hp} : ∀ {ys : List V} {ds : List PyData}, ys.length = ds.length → (∀ (i : Nat) y d, ys[i]? = some y → ds[i]? = some d → Dp K H y d) → DpAll K H ys ds
  | [], [], _, _ => .nil
  | y :: ys, d :: ds, hl, h => .cons (h 0 y d rfl rfl) (dpAll_of (by simpa using hl) fun i y' d' h1 h2 => h (i + 1) y' d' h1 h2)
  | [], _ :: _, hl, _ => by simp at hl
  | _ :: _, [], hl, _ => by simp at hl
theorem dp_tup {K : PySem.W.Frag} {H : Hp} {n : Nat} {Pi : Nat → HP} {d : Nat → PyData} {v : V} (h : TupP n Pi v H) (hd : ∀ i x, i < n → Pi i x H → Dp K H x (d i)) : Dp K H v (.tuple ((List.range n).map d)) := by
  obtain ⟨p, ys, rfl, hp, hl, hy⟩ := h
  refine .tup (st_of hp) (dpAll_of (by simp [hl]) fun i y d' h1 h2 => ?_)
  have hi : i < n := by have := (List.getElem?_eq_some_iff.mp h1).1; omega
  rw [List.getElem?_map, List.getElem?_range hi] at h2
  cases h2
  exact hd i y hi (hy i y h1)
theorem dp_grid {K : PySem.W.Frag} {H : Hp} {m n : Nat} {f : Nat → Nat → Int} {v : V} (h : Grid m n f v H) : Dp K H v (dat m n f) :=
  dp_tup h fun i x _ hx => dp_tup hx fun j y _ hy => by rw [show y = .int (f i j) from hy]; exact .int _
theorem lay_allF {α : Type} (d : α → PyData) (h : ∀ x, (d x).canLay0 = true) : ∀ xs : List α, PyData.canLayAll0 (xs.map d) = true
  | [] => rfl
  | x :: xs => by simp [PyData.canLayAll0, h x, lay_allF d h xs]
theorem dep_allF {α : Type} (d : α → PyData) (c : Nat) (h : ∀ x, (d x).depth ≤ c) : ∀ xs : List α, PyData.depthAll (xs.map d) ≤ c
  | [] => by simp [PyData.depthAll]
  | x :: xs => by simp only [List.map_cons, PyData.depthAll]; exact Nat.max_le.mpr ⟨h x, dep_allF d c h xs⟩
theorem shaped_dat (m n : Nat) (f : Nat → Nat → Int) : SeqAt.shaped (dat m n f) = true := by
  unfold SeqAt.shaped dat
  have h1 : ∀ i, PyData.canLay0 (.tuple ((List.range n).map fun j => .int (f i j))) = true := fun i => by
    simp only [PyData.canLay0]; exact lay_allF _ (fun _ => rfl) _
  have h2 : ∀ i, PyData.depth (.tuple ((List.range n).map fun j => PyData.int (f i j))) ≤ 3 := fun i => by
    simp only [PyData.depth]; have := dep_allF (fun j => PyData.int (f i j)) 1 (fun _ => by simp [PyData.depth]) (List.range n); omega
  simp only [PyData.canLay0, Bool.and_eq_true, decide_eq_true_eq]
  refine ⟨lay_allF _ h1 _, ?_⟩
  simp only [PyData.depth]
  have := dep_allF _ 3 h2 (List.range m)
  omega
theorem evp_make {σ : L2.St} {H : Hp} {ta : TA} {C : Addr} {fld : Str} {ok : (Nat → Nat → Int) → Prop} {m n : Nat} {f : Nat → Nat → Int} {E : XK} (h : EvAP ta σ H (fun vs H1 => ∃ x, vs = [x] ∧ Grid m n f x H1)) (hd : dimOk m n) (hok : ok f) : EvP (tMake C (spInit C fld ok) [] E ta) σ H (Ins C fld m n f) := fun H1 e Q q =>
  h H1 e _ fun vs H2 e2 ⟨v, hv, hg⟩ x dx hx hdx hne => by
    subst hv
    have e3 : Evl.Ex H2 (upd (upd H2 dx (.own x)) x (.ins C dx [])) := (Ex.new hdx).trans (Ex.new (by rw [upd_ne hne.symm]; exact hx))
    refine ⟨x, dx, v, m, n, f, rfl, upd_same, mf_grid.mono _ _ _ e3 hg, hd, hok, fun H4 e4 h4 => ⟨rfl, ?_⟩⟩
    have e5 : Evl.Ex H2 H4 := fun b o hb => e4 b o (by
      have hbx : b ≠ x := fun z => by rw [z, hx] at hb; cases hb
      dsimp only
      rw [if_neg hbx, upd_ne hbx, upd_ne (fun z => by rw [z, hdx] at hb; cases hb)]
      exact hb)
    exact q _ H4 (e2.trans e5) ⟨x, dx, v, rfl, h4, mf_grid.mono _ _ _ e5 hg⟩

end K20
namespace K20
open PySem PySem.Spec PyProof.Rows L2 Evl RZ Ev2 TA5 Ow

section
variable {K : PySem.W.Frag} {σ : L2.St} {H : Hp} {ta tb te : TE} {C : Addr} {fld : Str} {m n : Nat} {f : Nat → Nat → Int} {E : XK}
theorem sp_one {S : HP} {sp : Sp} (hs : ∀ v H1, Ins C fld m n f v H1 → ∀ Q : VK, (∀ v H2, Evl.Ex H1 H2 → S v H2 → Q v H2) → ∀ E : XK, sp [v] H1 Q E) : SpP sp (fun vs H1 => ∃ v, vs = [v] ∧ Ins C fld m n f v H1) S := fun vs H1 ⟨v, e, hv⟩ Q q E => by
  rw [e]; exact hs v H1 hv Q q E
theorem ev_left (h : EvP te σ H (Ins C fld m n f)) : EvP (tProp C (spLeft C fld) [] E te) σ H (Is (.int (m : Int))) := evp_prop h (sp_one fun v H1 hv Q q E => ⟨v, m, n, f, rfl, hv, q⟩)
theorem ev_right (h : EvP te σ H (Ins C fld m n f)) (hm : 1 ≤ m) : EvP (tProp C (spRight C fld) [] E te) σ H (Is (.int (n : Int))) := evp_prop h (sp_one fun v H1 hv Q q E => ⟨v, m, n, f, rfl, hv, hm, q⟩)
theorem ev_get (h : EvP te σ H (Ins C fld m n f)) : EvP (tProp C (spGet C fld) [] E te) σ H (Grid m n f) := evp_prop h (sp_one fun v H1 hv Q q E => ⟨v, m, n, f, rfl, hv, q⟩)
theorem evp_cbL {r : List V → Hp → VK → Prop} {A : List V → Hp → Prop} {S : HP} {t : TA} (h : EvAP t σ H A) (hs : ∀ vs H1, A vs H1 → ∀ Q : VK, (∀ v H2, Evl.Ex H1 H2 → S v H2 → Q v H2) → r vs H1 Q) : EvP (tCB r t) σ H S := fun H1 e Q q => h H1 e _ fun vs H2 e2 a => hs vs H2 a Q fun v H3 e3 s => q v H3 (e2.trans e3) s
end
section
variable {P : Program} {w : World} {K : PySem.W.Frag} {mg : Str → Option Value} {base : Heap} {tk : Tok} {k : Nat} {CT fT CQ fQ : Addr}
def spOfT (C : Addr) (fld : Str) (z : V) : Sp := fun vs H Q _ => ∃ (v : V) (m n : Nat) (f : Nat → Nat → Int), vs = [.int (m : Int), .int (n : Int), v] ∧ Ins C fld m n f v H ∧ 1 ≤ m ∧ ∀ w H2, Evl.Ex H H2 → w = z → Q w H2
theorem ok_is_table {fa pl gl pr gr : Addr} {fd dl dr : FuncData} (BT : Kl K mg "Table" CT fT "_counts") (P_Tleft : Pf K CT "left" "Table.left" s_Table_left pl gl dl) (G_Tleft : FnOk P w K mg base CX0 (k + 1) gl dl ["self"] (spLeft CT "_counts"))
    (P_Tright : Pf K CT "right" "Table.right" s_Table_right pr gr dr) (G_Tright : FnOk P w K mg base CX0 (k + 1) gr dr ["self"] (spRight CT "_counts")) (T : Txt mg tk) (D : Df K mg "is_table" s_is_table ["left", "right", "value"] fa fd) :
    FnOk P w K mg base CX0 (k + 3) fa fd ["left", "right", "value"] (spOfT CT "_counts" (.bl true)) := by
  refine D.F.ok sc_is_table (fun vs H Q E hh => ?_) (fun cdv A outer s H vs Q E hr hh => ?_)
  · obtain ⟨v, m, n, f, rfl, _⟩ := hh
    rfl
  · obtain ⟨v, m, n, f, rfl, hv, hm, q⟩ := hh
    refine ⟨_, (pss_one (ps_ret (pe_and (pe_callB (r := rIsi K) call_isi (by rfl) T.n_isinstance PyProof.Rows.boot_isinstance (pa_cons (pv 2) (pa_cons (pe_glob (v := .ref CT) rfl BT.gC rfl) pa_nil))) (pe_and (pe_cmpR op_eq (pe_prop (pv 2) BT.cl P_Tleft.hp G_Tleft (hr.mono (by omega)) P_Tleft.b .nil pass0 rfl) (pv 0) (nomark _)) (pe_one (pe_cmpR op_eq (pe_prop (pv 2) BT.cl P_Tright.hp G_Tright (hr.mono (by omega)) P_Tright.b .nil pass0 rfl) (pv 1) (nomark _))))))), ?_⟩
    have h0 : EvP (tVar 0) (start N_is_table [.int (m : Int), .int (n : Int), v]) H (Is (.int (m : Int))) := evp_var rfl rfl mono_is
    have h1 : EvP (tVar 1) (start N_is_table [.int (m : Int), .int (n : Int), v]) H (Is (.int (n : Int))) := evp_var rfl rfl mono_is
    have h2 : EvP (tVar 2) (start N_is_table [.int (m : Int), .int (n : Int), v]) H (Ins CT "_counts" m n f) := evp_var rfl hv mf_ins.mono
    refine evp_and (a := true) (b := true) (evp_isiO BT h2) (fun _ => evp_and (a := true) (b := true) (evp_is (evp_eq (ev_left h2) h0 rfl) (by rw [decide_eq_true rfl])) fun _ => evp_is (evp_eq (ev_right h2 hm) h1 rfl) (by rw [decide_eq_true rfl])) H (Ex.refl H) _ fun v H2 e2 hv => q v H2 e2 hv
theorem ok_check_table {fa f1 : Addr} {fd d1 : FuncData} (D_is_table : Df K mg "is_table" s_is_table ["left", "right", "value"] f1 d1) (G_is_table : FnOk P w K mg base CX0 (k + 3) f1 d1 ["left", "right", "value"] (spOfT CT "_counts" (.bl true))) (D : Df K mg "check_table" s_check_table ["left", "right", "value"] fa fd) :
    FnOk P w K mg base CX0 (k + 4) fa fd ["left", "right", "value"] (spOfT CT "_counts" .non) := by
  refine D.F.ok sc_check_table (fun vs H Q E hh => ?_) (fun cdv A outer s H vs Q E hr hh => ?_)
  · obtain ⟨v, m, n, f, rfl, _⟩ := hh
    rfl
  · obtain ⟨v, m, n, f, rfl, hv, hm, q⟩ := hh
    refine ⟨_, (pss_one (ps_if (pt_not (pt_val (pe_call G_is_table (hr.mono (by omega)) (by rfl) D_is_table.g D_is_table.F.kp D_is_table.b .nil pass0 (pa_cons (pv 0) (pa_cons (pv 1) (pa_cons (pv 2) pa_nil)))))) (pss_one ps_never) pss_nil)), ?_⟩
    have h0 : EvP (tVar 0) (start N_check_table [.int (m : Int), .int (n : Int), v]) H (Is (.int (m : Int))) := evp_var rfl rfl mono_is
    have h1 : EvP (tVar 1) (start N_check_table [.int (m : Int), .int (n : Int), v]) H (Is (.int (n : Int))) := evp_var rfl rfl mono_is
    have h2 : EvP (tVar 2) (start N_check_table [.int (m : Int), .int (n : Int), v]) H (Ins CT "_counts" m n f) := evp_var rfl hv mf_ins.mono
    have hc : EvP _ (start N_check_table [.int (m : Int), .int (n : Int), v]) H (Is (.bl true)) := evp_call (sp := spOfT CT "_counts" (.bl true)) (E := fun _ _ _ => False) (eap_three h0 h1 h2 mono_is mono_is) fun vs H1 ⟨x, y, z, e, hx, hy, hz⟩ Q q E => ⟨z, m, n, f, by rw [e, show x = _ from hx, show y = _ from hy], hz, hm, q⟩
    exact s_when (D := { nx := fun _ H' => Q .non H', rt := Q }) (et_not (et_bl hc)) (fun z => nomatch z) (fun _ H1 e1 => q _ H1 e1 rfl)
def spChkB : Sp := fun vs H Q _ => ∃ n i : Int, vs = [.int n, .int i] ∧ (0 ≤ i ∧ i < n) ∧ ∀ v H2, Evl.Ex H H2 → v = .non → Q v H2
theorem ok_check_below {fa f1 : Addr} {fd d1 : FuncData} (D_is_below : Df K mg "is_below" s_is_below ["size", "value"] f1 d1) (G_is_below : FnOk P w K mg base CX0 (k + 2) f1 d1 ["size", "value"] spBelow) (D : Df K mg "check_below" s_check_below ["size", "value"] fa fd) :
    FnOk P w K mg base CX0 (k + 3) fa fd ["size", "value"] spChkB := by
  refine D.F.ok sc_check_below (fun vs H Q E h => ?_) (fun cdv A outer s H vs Q E hr h => ?_)
  · obtain ⟨n, i, rfl, _⟩ := h
    rfl
  · obtain ⟨n, i, rfl, hi, q⟩ := h
    refine ⟨_, (pss_one (ps_if (pt_not (pt_val (pe_call G_is_below (hr.mono (by omega)) (by rfl) D_is_below.g D_is_below.F.kp D_is_below.b .nil pass0 (pa_cons (pv 0) (pa_cons (pv 1) pa_nil))))) (pss_one ps_never) pss_nil)), ?_⟩
    refine s_when (σ := [some (.int n), some (.int i)]) (b := false) (et_is (et_not (et_bl (evp_call (E := E0) (sp := spBelow) (S := Is (.bl true)) (eap_two (P := Is (.int n)) (R := Is (.int i)) (evp_var (i := 0) rfl rfl mono_is) (evp_var (i := 1) rfl rfl mono_is) mono_is) fun vs H1 ⟨x, y, e, hx, hy⟩ Q q E => ⟨n, y, .int i, by rw [e, show x = _ from hx], by rw [show y = .int i from hy]; exact .flat rfl, fun v H2 e2 hv => q v H2 e2 (by rw [hv]; exact congrArg V.bl (isB_is hi))⟩))) rfl) (fun z => nomatch z) (fun _ H1 e1 => q _ H1 e1 rfl)
def spTTurned (C : Addr) : Sp := fun vs H Q _ => ∃ (v : V) (m n : Nat) (f : Nat → Nat → Int), vs = [v] ∧ Ins C "_counts" m n f v H ∧ dimOk m n ∧ (∀ i j, 0 ≤ f i j) ∧ ∀ w H2, Evl.Ex H H2 → Ins C "_counts" n m (fun i j => f j i) w H2 → Q w H2
def spQTurned (C : Addr) : Sp := fun vs H Q _ => ∃ (v : V) (m n : Nat) (f : Nat → Nat → Int), vs = [v] ∧ Ins C "_weights" m n f v H ∧ dimOk m n ∧ ∀ w H2, Evl.Ex H H2 → Ins C "_weights" n m (fun i j => f j i) w H2 → Q w H2
theorem ok_tturned {fa f1 : Addr} {fd d1 dT : FuncData} (BT : Kl K mg "Table" CT fT "_counts") (D_grid_turned : Df K mg "grid_turned" s_grid_turned ["grid"] f1 d1) (G_grid_turned : FnOk P w K mg base CX0 (k + 1) f1 d1 ["grid"] spTurned)
    (M_Tinit : Mf K "__init__" "Table.__init__" s_Table_init ["self", "counts"] fT dT) (G_Tinit : FnOk P w K mg base CX0 (k + 5) fT dT ["self", "counts"] (spInit CT "_counts" (fun f => ∀ i j, 0 ≤ f i j))) (M : Mf K "turned" "Table.turned" s_Table_turned ["self"] fa fd) : FnOk P w K mg base CX0 (k + 7) fa fd ["self"] (spTTurned CT) := by
  refine M.F.ok sc_Table_turned (fun vs H Q E h => ?_) (fun cdv A outer s H vs Q E hr h => ?_)
  · obtain ⟨v, m, n, f, rfl, _⟩ := h
    rfl
  · obtain ⟨v, m, n, f, rfl, hv, hd, hp, q⟩ := h
    refine ⟨_, (pss_one (ps_ret (pe_make BT.mkc G_Tinit (hr.mono (by omega)) (by rfl) BT.gC M_Tinit.b .nil pass0 (pa_cons (pe_call G_grid_turned (hr.mono (by omega)) (by rfl) D_grid_turned.g D_grid_turned.F.kp D_grid_turned.b .nil pass0 (pa_cons (pe_fld (pv 0) rfl) pa_nil)) pa_nil)))), ?_⟩
    have h0 : EvP (tVar 0) (start N_Table_turned [v]) H (Ins CT "_counts" m n f) := evp_var rfl hv mf_ins.mono
    exact evp_make (m := n) (n := m) (f := fun i j => f j i) (eap_one (evp_call (sp := spTurned) (E := E0) (eap_one (evp_fld BT h0)) fun vs H1 ⟨x, e, hx⟩ Q q E => ⟨x, m, n, f, e, hx, hd, q⟩)) ⟨hd.2, hd.1⟩ (fun i j => hp j i) H (Ex.refl H) _ q
theorem ok_qturned {fa f1 : Addr} {fd d1 dQ : FuncData} (BQ : Kl K mg "Question" CQ fQ "_weights") (D_grid_turned : Df K mg "grid_turned" s_grid_turned ["grid"] f1 d1) (G_grid_turned : FnOk P w K mg base CX0 (k + 1) f1 d1 ["grid"] spTurned)
    (M_Qinit : Mf K "__init__" "Question.__init__" s_Question_init ["self", "weights"] fQ dQ) (G_Qinit : FnOk P w K mg base CX0 (k + 5) fQ dQ ["self", "weights"] (spInit CQ "_weights" (fun _ => True))) (M : Mf K "turned" "Question.turned" s_Question_turned ["self"] fa fd) : FnOk P w K mg base CX0 (k + 7) fa fd ["self"] (spQTurned CQ) := by
  refine M.F.ok sc_Question_turned (fun vs H Q E h => ?_) (fun cdv A outer s H vs Q E hr h => ?_)
  · obtain ⟨v, m, n, f, rfl, _⟩ := h
    rfl
  · obtain ⟨v, m, n, f, rfl, hv, hd, q⟩ := h
    refine ⟨_, (pss_one (ps_ret (pe_make BQ.mkc G_Qinit (hr.mono (by omega)) (by rfl) BQ.gC M_Qinit.b .nil pass0 (pa_cons (pe_call G_grid_turned (hr.mono (by omega)) (by rfl) D_grid_turned.g D_grid_turned.F.kp D_grid_turned.b .nil pass0 (pa_cons (pe_fld (pv 0) rfl) pa_nil)) pa_nil)))), ?_⟩
    have h0 : EvP (tVar 0) (start N_Question_turned [v]) H (Ins CQ "_weights" m n f) := evp_var rfl hv mf_ins.mono
    exact evp_make (m := n) (n := m) (f := fun i j => f j i) (eap_one (evp_call (sp := spTurned) (E := E0) (eap_one (evp_fld BQ h0)) fun vs H1 ⟨x, e, hx⟩ Q q E => ⟨x, m, n, f, e, hx, hd, q⟩)) ⟨hd.2, hd.1⟩ trivial H (Ex.refl H) _ q
def spWeight (C : Addr) : Sp := fun vs H Q _ => ∃ (x : V) (i j m n : Nat) (f1 : Nat → Nat → Int), vs = [x, .int (i : Int), .int (j : Int)] ∧ Ins C "_weights" m n f1 x H ∧ (i < m ∧ j < n) ∧ ∀ v H2, Evl.Ex H H2 → v = .int (f1 i j) → Q v H2
theorem ok_weight {fa f1 pl gl pr gr : Addr} {fd d1 dl dr : FuncData} (BQ : Kl K mg "Question" CQ fQ "_weights") (D_check_below : Df K mg "check_below" s_check_below ["size", "value"] f1 d1) (G_check_below : FnOk P w K mg base CX0 (k + 3) f1 d1 ["size", "value"] spChkB)
    (P_Qleft : Pf K CQ "left" "Question.left" s_Question_left pl gl dl) (G_Qleft : FnOk P w K mg base CX0 (k + 1) gl dl ["self"] (spLeft CQ "_weights")) (P_Qright : Pf K CQ "right" "Question.right" s_Question_right pr gr dr) (G_Qright : FnOk P w K mg base CX0 (k + 1) gr dr ["self"] (spRight CQ "_weights"))
    (M : Mf K "weight" "Question.weight" s_Question_weight ["self", "left", "right"] fa fd) : FnOk P w K mg base CX0 (k + 5) fa fd ["self", "left", "right"] (spWeight CQ) := by
  refine M.F.ok sc_Question_weight (fun vs H Q E hh => ?_) (fun cdv A outer s H vs Q E hr hh => ?_)
  · obtain ⟨x, i, j, m, n, f, rfl, _⟩ := hh
    rfl
  · obtain ⟨x, i, j, m, n, f, rfl, hx, ⟨hi, hj⟩, q⟩ := hh
    refine ⟨_, (pss_cons (ps_expr (pe_call G_check_below (hr.mono (by omega)) (by rfl) D_check_below.g D_check_below.F.kp D_check_below.b .nil pass0 (pa_cons (pe_prop (pv 0) BQ.cl P_Qleft.hp G_Qleft (hr.mono (by omega)) P_Qleft.b .nil pass0 rfl) (pa_cons (pv 1) pa_nil)))) (pss_cons (ps_expr (pe_call G_check_below (hr.mono (by omega)) (by rfl) D_check_below.g D_check_below.F.kp D_check_below.b .nil pass0 (pa_cons (pe_prop (pv 0) BQ.cl P_Qright.hp G_Qright (hr.mono (by omega)) P_Qright.b .nil pass0 rfl) (pa_cons (pv 2) pa_nil)))) (pss_one (ps_ret (pe_ix (r := rIxT K) ix_tup (pe_ix (r := rIxT K) ix_tup (pe_fld (pv 0) rfl) (pv 1) (fun _ _ => rfl)) (pv 2) (fun _ _ => rfl)))))), ?_⟩
    have h0 : EvP (tVar 0) (start N_Question_weight [x, .int (i : Int), .int (j : Int)]) H (Ins CQ "_weights" m n f) := evp_var rfl hx mf_ins.mono
    have h1 : EvP (tVar 1) (start N_Question_weight [x, .int (i : Int), .int (j : Int)]) H (Is (.int (i : Int))) := evp_var rfl rfl mono_is
    have h2 : EvP (tVar 2) (start N_Question_weight [x, .int (i : Int), .int (j : Int)]) H (Is (.int (j : Int))) := evp_var rfl rfl mono_is
    refine q_drop (EvP.ev (evp_call (sp := spChkB) (E := fun _ _ _ => False) (S := Is .non) (eap_two (ev_left h0) h1 mono_is) fun vs H1 ⟨x, y, e, hx, hy⟩ Q q E => ⟨m, i, by rw [e, show x = _ from hx, show y = _ from hy], by omega, q⟩)) fun H1 e1 => ?_
    refine q_drop (EvP.ev (evp_call (sp := spChkB) (E := fun _ _ _ => False) (S := Is .non) (eap_two (ev_right (h0.mono e1) (by omega)) (h2.mono e1) mono_is) fun vs H1 ⟨x, y, e, hx, hy⟩ Q q E => ⟨n, j, by rw [e, show x = _ from hx, show y = _ from hy], by omega, q⟩)) fun H2 e2 => ?_
    have e12 := e1.trans e2
    exact evp_ixT (K := K) (i := j) (evp_ixT (K := K) (i := i) (evp_fld BQ (h0.mono e12)) (h1.mono e12) hi fun _ => mf_row) (h2.mono e12) hj (fun _ => mf_is) H2 (Ex.refl _) _ fun v H3 e3 hv => q v H3 (e12.trans e3) hv
def spCallQ (C D : Addr) : Sp := fun vs H Q _ => ∃ (x y : V) (m n : Nat) (f1 f2 : Nat → Nat → Int), vs = [x, y] ∧ Ins C "_weights" m n f1 x H ∧ Ins D "_counts" m n f2 y H ∧ dimOk m n ∧ (∀ i j, Bd (f2 i j)) ∧ ∀ v H2, Evl.Ex H H2 → v = .int (flat (fun i j => f1 i j * f2 i j) n m).sum → Q v H2
theorem ok_qcall {fa f1 f2 pl gl pr gr pc gc : Addr} {fd d1 d2 dl dr dc : FuncData} (n_sum : mg "sum" = none) (BT : Kl K mg "Table" CT fT "_counts") (BQ : Kl K mg "Question" CQ fQ "_weights") (D_check_table : Df K mg "check_table" s_check_table ["left", "right", "value"] f1 d1) (G_check_table : FnOk P w K mg base CX0 (k + 4) f1 d1 ["left", "right", "value"] (spOfT CT "_counts" .non))
    (D_grid_product : Df K mg "grid_product" s_grid_product ["one", "other"] f2 d2) (G_grid_product : FnOk P w K mg base CX0 (k + 1) f2 d2 ["one", "other"] spGProd)
    (P_Qleft : Pf K CQ "left" "Question.left" s_Question_left pl gl dl) (G_Qleft : FnOk P w K mg base CX0 (k + 1) gl dl ["self"] (spLeft CQ "_weights")) (P_Qright : Pf K CQ "right" "Question.right" s_Question_right pr gr dr) (G_Qright : FnOk P w K mg base CX0 (k + 1) gr dr ["self"] (spRight CQ "_weights"))
    (P_Tcounts : Pf K CT "counts" "Table.counts" s_Table_counts pc gc dc) (G_Tcounts : FnOk P w K mg base CX0 (k + 1) gc dc ["self"] (spGet CT "_counts"))
    (M : Mf K "__call__" "Question.__call__" s_Question_call ["self", "table"] fa fd) : FnOk P w K mg base CX0 (k + 6) fa fd ["self", "table"] (spCallQ CQ CT) := by
  refine M.F.ok sc_Question_call (fun vs H Q E hh => ?_) (fun cdv A outer s H vs Q E hr hh => ?_)
  · obtain ⟨x, y, m, n, f, g, rfl, _⟩ := hh
    rfl
  · obtain ⟨x, y, m, n, f, g, rfl, hx, hy, hd, hb, q⟩ := hh
    refine ⟨_, (pss_cons (ps_expr (pe_call G_check_table (hr.mono (by omega)) (by rfl) D_check_table.g D_check_table.F.kp D_check_table.b .nil pass0 (pa_cons (pe_prop (pv 0) BQ.cl P_Qleft.hp G_Qleft (hr.mono (by omega)) P_Qleft.b .nil pass0 rfl) (pa_cons (pe_prop (pv 0) BQ.cl P_Qright.hp G_Qright (hr.mono (by omega)) P_Qright.b .nil pass0 rfl) (pa_cons (pv 1) pa_nil))))) (pss_one (ps_ret (pe_callB (r := rSum K) (cr_sum rfl) (by rfl) n_sum PyProof.Rows.boot_sum (pa_cons (pe_call G_grid_product (hr.mono (by omega)) (by rfl) D_grid_product.g D_grid_product.F.kp D_grid_product.b .nil pass0 (pa_cons (pe_fld (pv 0) rfl) (pa_cons (pe_prop (pv 1) BT.cl P_Tcounts.hp G_Tcounts (hr.mono (by omega)) P_Tcounts.b .nil pass0 rfl) pa_nil))) pa_nil))))), ?_⟩
    have h0 : EvP (tVar 0) (start N_Question_call [x, y]) H (Ins CQ "_weights" m n f) := evp_var rfl hx mf_ins.mono
    have h1 : EvP (tVar 1) (start N_Question_call [x, y]) H (Ins CT "_counts" m n g) := evp_var rfl hy mf_ins.mono
    refine q_drop (EvP.ev (evp_call (sp := spOfT CT "_counts" .non) (E := fun _ _ _ => False) (S := Is .non) (eap_three (ev_left h0) (ev_right h0 hd.1.1) h1 mono_is mono_is) fun vs H1 ⟨x, y, z, e, hx, hy, hz⟩ Q q E => ⟨z, m, n, g, by rw [e, show x = _ from hx, show y = _ from hy], hz, hd.1.1, q⟩)) fun H1 e1 => ?_
    replace h0 := h0.mono e1
    replace h1 := h1.mono e1
    refine evp_cbL (S := Is (.int (flat (fun i j => f i j * g i j) n m).sum)) (eap_one (evp_call (sp := spGProd) (S := fun v H2 => ∃ p, v = .ref p ∧ H2 p = some (.lst ((flat (fun i j => f i j * g i j) n m).map V.int))) (eap_two (evp_fld BQ h0) (ev_get h1) mf_grid.mono) fun vs H1 ⟨x, y, e, hx, hy⟩ Q q E => ⟨x, y, m, n, f, g, e, hx, hy, ⟨hd.1.2, hd.2.2⟩, hb, q⟩))
      (fun vs H2 ⟨x, e, p, hx, hp⟩ Q q => ⟨p, _, by rw [e, hx], sq_of hp, q _ H2 (Ex.refl _) rfl⟩) H1 (Ex.refl _) _ fun v H2 e2 hv => q v H2 (e1.trans e2) hv
/-- x == y: y of the same class, or of a kind that is none of it -/
def spEqT (K : PySem.W.Frag) (C : Addr) (fld : Str) : Sp := fun vs H Q _ => ∃ (x y : V) (m n : Nat) (f : Nat → Nat → Int), vs = [x, y] ∧ Ins C fld m n f x H ∧
  ((∃ m' n' f', Ins C fld m' n' f' y H ∧ ∀ v H2, Evl.Ex H H2 → v = .bl (PyData.eqv (dat m n f) (dat m' n' f')) → Q v H2) ∨ (∃ t, (∀ H1, Evl.Ex H H1 → TyX K H1 y t) ∧ PySem.W.kitOne K t (.ref C) = some false ∧ ∀ v H2, Evl.Ex H H2 → v = .bl false → Q v H2))
theorem ok_qeq {g : Addr} {fd : FuncData} (BQ : Kl K mg "Question" CQ fQ "_weights") (T : Txt mg tk) (M : Mf K "__eq__" "Question.__eq__" s_Question_eq ["self", "other"] g fd) : FnOk P w K mg base CX0 (k + 1) g fd ["self", "other"] (spEqT K CQ "_weights") := by
  refine M.F.ok sc_Question_eq (fun vs H Q E hh => ?_) (fun cdv A outer s H vs Q E hr hh => ?_)
  · obtain ⟨x, y, m, n, f, rfl, _⟩ := hh
    rfl
  · obtain ⟨x, y, m, n, f, rfl, hx, h⟩ := hh
    refine ⟨_, (pss_one (ps_ret (pe_and (pe_callB (r := rIsi K) call_isi (by rfl) T.n_isinstance PyProof.Rows.boot_isinstance (pa_cons (pv 1) (pa_cons (pe_glob (v := .ref CQ) rfl BQ.gC rfl) pa_nil))) (pe_one (pe_cmpR (r := rEqD K) (op_eqD hr.units) (pe_fld (pv 0) rfl) (pe_fld (pv 1) rfl) (nomark _)))))), ?_⟩
    have h0 : EvP (tVar 0) (start N_Question_eq [x, y]) H (Ins CQ "_weights" m n f) := evp_var rfl hx mf_ins.mono
    rcases h with ⟨m', n', f', hy, q⟩ | ⟨t, ht, hk, q⟩
    · have h1 : EvP (tVar 1) (start N_Question_eq [x, y]) H (Ins CQ "_weights" m' n' f') := evp_var rfl hy mf_ins.mono
      exact evp_is (evp_and (a := true) (evp_isiO BQ h1) fun _ => evp_eqD (K := K) (evp_fld BQ h0) (evp_fld BQ h1) mf_grid.mono (fun _ _ h => dp_grid h) (fun _ _ h => dp_grid h) (shaped_dat _ _ _) (shaped_dat _ _ _)) (by rw [Bool.true_and]) H (Ex.refl H) _ q
    · have h1 : EvP (tVar 1) (start N_Question_eq [x, y]) H (fun v H1 => v = y ∧ Evl.Ex H H1) := fun H1 e Q q => ⟨y, rfl, q y H1 (Ex.refl _) ⟨rfl, e⟩⟩
      exact evp_is (evp_and (a := false) (b := false) (evp_isi (K := K) (t := t) (u := .ref CQ) h1 (fun v H1 ⟨e, ex⟩ => by rw [e]; exact ht H1 ex) (.own CQ) hk) fun z => nomatch z) rfl H (Ex.refl H) _ q
end
end K20
namespace K20
open PySem PySem.Spec PyProof.Rows L2 Evl RZ Ev2 TA5 Ow
abbrev s_where_grid : Stmt := topS 35
abbrev N_where_grid : List Str := ["left", "right", "where", "a", "b"]
theorem sc_where_grid : FnScope N_where_grid ["left", "right", "where"] (defScope s_where_grid) := ⟨rfl, rfl, rfl, by decide +kernel, rfl, by decide +kernel, by decide +kernel⟩
abbrev s_products : Stmt := topS 39
abbrev N_products : List Str := ["lefts", "rights", "a", "b"]
theorem sc_products : FnScope N_products ["lefts", "rights"] (defScope s_products) := ⟨rfl, rfl, rfl, by decide +kernel, rfl, by decide +kernel, by decide +kernel⟩
abbrev s_Question_at : Stmt := inClass (topS 40) 1
abbrev N_Question_at : List Str := ["cls", "left", "right", "where"]
theorem sc_Question_at : FnScope N_Question_at ["cls", "left", "right", "where"] (defScope s_Question_at) := ⟨rfl, rfl, rfl, by decide +kernel, rfl, by decide +kernel, by decide +kernel⟩
abbrev s_Question_between : Stmt := inClass (topS 40) 2
abbrev N_Question_between : List Str := ["cls", "lefts", "rights", "numbers"]
theorem sc_Question_between : FnScope N_Question_between ["cls", "lefts", "rights"] (defScope s_Question_between) := ⟨rfl, rfl, rfl, by decide +kernel, rfl, by decide +kernel, by decide +kernel⟩

section
variable {K : PySem.W.Frag} {σ : L2.St} {H : Hp} {ta tb te tl : TE} {ta' : TA}
theorem et_same {d : PyData} {Pa Pb : HP} (ha : EvP ta σ H Pa) (hb : EvP tb σ H Pb) (m : Mono Pa) (hp : ∀ v H1, Pa v H1 → Dp K H1 v d) (hr : ∀ v H1, Pb v H1 → Dp K H1 v d) (s1 : SeqAt.shaped d = true) (hl : d.canLay0 = true) : EvT (tTest (tOp (rNeD K) ta tb)) σ H false :=
  et_tst (evp_is (evp_neD (K := K) ha hb m hp hr s1 s1) (by rw [eqv_self _ hl]; rfl))
theorem any_pr {a b : Int} (cs : List (Int × Int)) : ((cs.map fun c => PyData.tuple [.int c.1, .int c.2]).any fun z => PyData.eqv z (.tuple [.int a, .int b])) = cs.any fun c => decide (c.1 = a) && decide (c.2 = b) := by
  rw [List.any_map]
  congr 1
  funext c
  exact eqv_pr
theorem rowP_any {F : Nat → Bool} {i m : Nat} {a b : Nat} : ((rowP F i m).any fun c => decide (c.1 = (a : Int)) && decide (c.2 = (b : Int))) = (decide (i = a) && (decide (b < m) && F b)) := by
  unfold rowP
  rw [List.any_map]
  cases h : decide (i = a) with
  | false =>
    rw [Bool.false_and]
    refine List.any_eq_false.mpr fun j _ => ?_
    have : ¬ (i : Int) = a := by have := of_decide_eq_false h; omega
    simp [this]
  | true =>
    have e := of_decide_eq_true h
    subst e
    rw [Bool.true_and]
    apply Bool.eq_iff_iff.mpr
    simp only [List.any_eq_true, List.mem_filter, List.mem_range, Function.comp, Bool.and_eq_true, decide_eq_true_eq]
    constructor
    · rintro ⟨j, ⟨h1, h2⟩, _, h3⟩
      have : j = b := by omega
      subst this
      exact ⟨h1, h2⟩
    · rintro ⟨h1, h2⟩
      exact ⟨b, ⟨h1, h2⟩, trivial, rfl⟩
theorem accP_any {F : Nat → Nat → Bool} {m a b : Nat} (hb : b < m) : ∀ l : Nat, ((accP F m l).any fun c => decide (c.1 = (a : Int)) && decide (c.2 = (b : Int))) = (decide (a < l) && F a b)
  | 0 => by simp [accP]
  | l + 1 => by
    show ((accP F m l ++ rowP (F l) l m).any _) = _
    rw [List.any_append, accP_any hb l, rowP_any]
    by_cases h1 : a < l
    · have : ¬ l = a := by omega
      have h2 : a < l + 1 := by omega
      simp [h1, this, h2]
    · by_cases h2 : l = a
      · subst h2
        simp [hb]
      · have : ¬ a < l + 1 := by omega
        simp [h1, h2, this]
theorem cs_sh {cs : List (Int × Int)} : SeqAt.shaped (cD cs) = true := sh_of (lay_all fun d hd => by
  obtain ⟨c, _, rfl⟩ := List.mem_map.mp hd
  rfl) (by
  show PyData.depthAll _ + 1 ≤ 64
  have : PyData.depthAll (cs.map fun c => PyData.tuple [.int c.1, .int c.2]) ≤ 1 := depth_all fun d hd => by
    obtain ⟨c, _, rfl⟩ := List.mem_map.mp hd
    exact Nat.le_refl _
  omega)
theorem et_inC {a b l r : Nat} {F : Nat → Nat → Bool} (hb : b < r) (ha' : a < l) (h1 : EvP ta σ H (Pr (a : Int) (b : Int))) (h2 : EvP tb σ H (Cs (accP F r l))) : EvT (tTest (tOp (rInD K) ta tb)) σ H (F a b) :=
  et_tst (evp_is (evp_op (S := Is (.bl ((accP F r l).any fun c => decide (c.1 = (a : Int)) && decide (c.2 = (b : Int))))) h1 h2 mono_pr fun x y H1 _ hx hy Q q => ⟨_, _, pr_dp hx, cs_dp hy, sh_pr, cs_sh, q _ H1 (Ex.refl _) (by rw [any_pr]; rfl)⟩) (by rw [accP_any hb l, decide_eq_true ha', Bool.true_and]))
theorem make_ex {H2 : Hp} {a dx C : Addr} {o : HO} (ha : H a = none) (hd : H dx = none) (hne : dx ≠ a) (e : Evl.Ex (fun b => if b = a then none else (upd (upd H dx (.own a)) a o) b) H2) : Evl.Ex H H2 := fun b o hb => e b o (by
  have hbx : b ≠ a := fun z => by rw [z, ha] at hb; cases hb
  dsimp only
  rw [if_neg hbx, upd_ne hbx, upd_ne (fun z => by rw [z, hd] at hb; cases hb)]
  exact hb)
def EvAll (P : HP) (ta : TA) (σ : L2.St) (H : Hp) (n : Nat) : Prop := EvAP ta σ H (fun vs H1 => vs.length = n ∧ ∀ v ∈ vs, P v H1)
theorem al_nil {P : HP} : EvAll P tNil σ H 0 := fun H1 e Q q => q [] H1 (Ex.refl _) ⟨rfl, fun v h => nomatch h⟩
theorem al_cons {P : HP} {n : Nat} (m : Mono P) (h : EvP te σ H P) (h2 : EvAll P ta' σ H n) : EvAll P (tCons te ta') σ H (n + 1) := fun H1 e Q q =>
  h H1 e _ fun v H2 e2 hv => h2 H2 (e.trans e2) _ fun vs H3 e3 ⟨hl, hvs⟩ => q (v :: vs) H3 (e2.trans e3) ⟨by rw [List.length_cons, hl], fun z hz => by
    rcases List.mem_cons.mp hz with rfl | hz
    · exact m _ _ _ e3 hv
    · exact hvs z hz⟩
/-- over a tuple that is written out -/
theorem q_forAllT {P : HP} {n j : Nat} {tu tz : TS} {D : Ends} (m : Mono P) (h : EvAll P ta' σ H n) (hn : n ≤ 1000) (I : L2.St → Hp → Prop) (h0 : ∀ H1, Evl.Ex H H1 → I σ H1)
    (hs : ∀ (J : L2.St → Hp → Prop) x σ' H', I σ' H' → P x H' → (∀ σ2 H2, Evl.Ex H' H2 → I σ2 H2 → J σ2 H2) → tu { D with nx := J, ct := J, bk := tz D } (σ'.set j (some x)) H') (hd : ∀ σ' H', I σ' H' → tz D σ' H') :
    tSeq (tFor (iTup K (tTup ta')) (gName j) tu) tz D σ H :=
  h H (Ex.refl _) _ fun vs H1 e1 ⟨hl, hv⟩ => ⟨sz_of (by omega), fun p hp => by
    have e2 : Evl.Ex H1 (upd H1 p (.tup vs)) := Ex.new hp
    have h2 : (upd H1 p (.tup vs)) p = some (.tup vs) := upd_same
    generalize upd H1 p (.tup vs) = H2 at e2 h2
    exact q_forT (K := K) (a := p) (xs := vs) (tl := tC (.ref p)) (g := gName j) (σ := σ) (H := H2) ev_c (st_of h2) (fun i σ' H' => I σ' H' ∧ Evl.Ex H2 H') (fun H3 e3 => ⟨h0 H3 ((e1.trans e2).trans e3), e3⟩) (fun i σ' H' _ ⟨_, e⟩ => st_of (e _ _ h2))
      (fun i x σ' H' hx ⟨hi, e⟩ => hs _ x σ' H' hi (m _ _ _ (e2.trans e) (hv x (List.mem_of_getElem? hx))) fun σ2 H3 e3 hi2 => ⟨hi2, e.trans e3⟩) fun σ' H' ⟨hi, _⟩ => hd σ' H' hi⟩
end
def covW (u : Wh) (i j : Nat) : Bool := cov (i : Int) (j : Int) (wD u)
/-- 1 in the cells of a where -/
def wgF (u : Wh) : Nat → Nat → Int := fun i j => if covW u i j = true then 1 else 0
section
variable {P : Program} {w : World} {K : PySem.W.Frag} {mg : Str → Option Value} {base : Heap} {tk : Tok} {k : Nat} {CV CQ fQ : Addr}
theorem wv_mono (u : Wh) : Mono (Wv u) := (mf_wv u).mono
def spWG : Sp := fun vs H Q _ => ∃ (z : V) (l r : Nat) (u : Wh), vs = [.int (l : Int), .int (r : Int), z] ∧ Wv u z H ∧ WhOk l r u ∧ dimOk l r ∧ ∀ v H2, Evl.Ex H H2 → Grid l r (wgF u) v H2 → Q v H2
theorem ok_wgrid {fa f1 : Addr} {fd d1 : FuncData} (D_covers : Df K mg "covers" s_covers ["where", "left", "right"] f1 d1) (G_covers : FnOk P w K mg base CX0 (k + 1) f1 d1 ["where", "left", "right"] spCovers) (T : Txt mg tk)
    (D : Df K mg "where_grid" s_where_grid ["left", "right", "where"] fa fd) : FnOk P w K mg base CX0 (k + 2) fa fd ["left", "right", "where"] spWG := by
  refine D.F.ok sc_where_grid (fun vs H Q E h => ?_) (fun cdv A outer s H vs Q E hr h => ?_)
  · obtain ⟨z, l, r, u, rfl, _⟩ := h
    rfl
  · obtain ⟨z, l, r, u, rfl, hz, hu, hd, q⟩ := h
    have nd := sc_where_grid.nd
    refine ⟨_, (pss_one (ps_ret (pe_callTy (r := rTupQ K) call_tuple_of (by rfl) T.n_tuple PyProof.Rows.boot_tuple (pa_cons (pe_lc (wi := iRng1 _) (g := gName 3) (own := [("a", 3)]) (by rfl) nd (pi_range1 (by rfl) T.n_range (pa_cons (pv 0) pa_nil)) (blkOk_by (by kernel_rfl)) (fun _ _ _ _ _ => (pg_name (i := 3) nd rfl (Or.inr rfl))) (fun _ _ _ _ _ => pts_nil) (fun _ _ _ _ _ => (pe_callTy (r := rTupQ K) call_tuple_of (by rfl) T.n_tuple PyProof.Rows.boot_tuple (pa_cons (pe_lc (wi := iRng1 _) (g := gName 4) (own := [("b", 4)]) (by rfl) nd (pi_range1 (by rfl) T.n_range (pa_cons (pv 1) pa_nil)) (blkOk_by (by kernel_rfl)) (fun _ _ _ _ _ => (pg_name (i := 4) nd rfl (Or.inl rfl))) (fun _ _ _ _ _ => pts_nil) (fun _ _ _ _ _ => (pe_ifExp (pt_val (pe_call G_covers (hr.mono (by omega)) (by rfl) D_covers.g D_covers.F.kp D_covers.b .nil pass0 (pa_cons (pv 2) (pa_cons (pv 3) (pa_cons (pv 4) pa_nil))))) pe_int pe_int))) pa_nil)))) pa_nil)))), ?_⟩
    have hl8 := hd.1.2
    have hr8 := hd.2.2
    refine evp_tuple (K := K) (n := l) (Pi := fun i => TupP r fun j => Is (.int (wgF u i j))) (evp_lc (vs := [3]) (g := gName 3) (wi_rng (ta := tCons (tVar 0) tNil) (n := l) (EvAP.one' (eap_one (evp_var rfl rfl mono_is))) (by omega)) (by omega)
      (Sg := fun i σ2 _ => σ2 = [some (.int (l : Int)), some (.int (r : Int)), some z, some (.int (i : Int)), none]) (fun i x H1 hi e1 hx => by subst hx; exact g_name (i := 3) ⟨rfl, rfl⟩) (fun i σ2 H1 hi e1 hs => ?_) fun _ => mf_row) (fun _ => mf_row.mono) H (Ex.refl H) _ q
    subst hs
    have hz1 := wv_mono u _ _ _ e1 hz
    exact evp_tuple (K := K) (n := r) (Pi := fun j => Is (.int (wgF u i j))) (evp_lc (vs := [4]) (g := gName 4) (wi_rng (ta := tCons (tVar 1) tNil) (n := r) (EvAP.one' (eap_one (evp_var rfl rfl mono_is))) (by omega)) (by omega)
      (Sg := fun j σ2 _ => σ2 = [some (.int (l : Int)), some (.int (r : Int)), some z, some (.int (i : Int)), some (.int (j : Int))]) (fun j x H2 hj e2 hx => by subst hx; exact g_name (i := 4) ⟨rfl, rfl⟩) (fun j σ2 H2 hj e2 hs => by
        subst hs
        exact evp_if (P := Is (.int (wgF u i j))) (b := covW u i j) (et_bl (evp_call (E := E0) (sp := spCovers) (S := Is (.bl (covW u i j))) (eap_three (P := Wv u) (R := Is (.int (i : Int))) (S := Is (.int (j : Int))) (evp_var (i := 2) rfl (wv_mono u _ _ _ e2 hz1) (wv_mono u)) (evp_var (i := 3) rfl rfl mono_is) (evp_var (i := 4) rfl rfl mono_is) (wv_mono u) mono_is) fun vs H1 ⟨a, b, c, hv, ha, hb, hc⟩ Q q E => ⟨l, r, i, j, a, wD u, by rw [hv, show b = _ from hb, show c = _ from hc], wv_va ha, wh_form hu, q⟩))
          (fun hb => by rw [show wgF u i j = 1 from if_pos hb]; exact evp_c) (fun hb => by rw [show wgF u i j = 0 from if_neg (by rw [hb]; decide)]; exact evp_c)) fun _ => mf_is) (fun _ => mf_is.mono)
def Row (n : Nat) (a : Nat → Int) : HP := TupP n fun j => Is (.int (a j))
theorem mf_Row {n : Nat} {a : Nat → Int} : MonoF (Row n a) := mf_row
def spProds : Sp := fun vs H Q _ => ∃ (x y : V) (m n : Nat) (a b : Nat → Int), vs = [x, y] ∧ Row m a x H ∧ Row n b y H ∧ dimOk m n ∧ (∀ j, Bd (b j)) ∧ ∀ v H2, Evl.Ex H H2 → Grid m n (fun i j => a i * b j) v H2 → Q v H2
theorem ok_products {fa : Addr} {fd : FuncData} (T : Txt mg tk) (D : Df K mg "products" s_products ["lefts", "rights"] fa fd) : FnOk P w K mg base CX0 (k + 1) fa fd ["lefts", "rights"] spProds := by
  refine D.F.ok sc_products (fun vs H Q E h => ?_) (fun cdv A outer s H vs Q E hr h => ?_)
  · obtain ⟨x, y, m, n, a, b, rfl, _⟩ := h
    rfl
  · obtain ⟨x, y, m, n, a, b, rfl, hx, hy, hd, hb, q⟩ := h
    have nd := sc_products.nd
    refine ⟨_, (pss_one (ps_ret (pe_callTy (r := rTupQ K) call_tuple_of (by rfl) T.n_tuple PyProof.Rows.boot_tuple (pa_cons (pe_lc (wi := iTup K _) (g := gName 2) (own := [("a", 2)]) (by rfl) nd (pi_tup (pv 0)) (blkOk_by (by kernel_rfl)) (fun _ _ _ _ _ => (pg_name (i := 2) nd rfl (Or.inr rfl))) (fun _ _ _ _ _ => pts_nil) (fun _ _ _ _ _ => (pe_callTy (r := rTupQ K) call_tuple_of (by rfl) T.n_tuple PyProof.Rows.boot_tuple (pa_cons (pe_lc (wi := iTup K _) (g := gName 3) (own := [("b", 3)]) (by rfl) nd (pi_tup (pv 1)) (blkOk_by (by kernel_rfl)) (fun _ _ _ _ _ => (pg_name (i := 3) nd rfl (Or.inl rfl))) (fun _ _ _ _ _ => pts_nil) (fun _ _ _ _ _ => (pe_op op_mul (pv 2) (pv 3)))) pa_nil)))) pa_nil)))), ?_⟩
    have hm8 := hd.1.2
    have hn8 := hd.2.2
    refine evp_tuple (K := K) (n := m) (Pi := fun i => TupP n fun j => Is (.int (a i * b j))) (evp_lc (vs := [2]) (g := gName 2) (wi_tup (K := K) (evp_var (i := 0) (v := x) rfl hx mf_row.mono) fun _ => mf_is) (by omega)
      (Sg := fun i σ2 _ => σ2 = [some x, some y, some (.int (a i)), none]) (fun i z H1 hi e1 hz => by cases (show z = .int (a i) from hz); exact g_name (i := 2) ⟨rfl, rfl⟩) (fun i σ2 H1 hi e1 hs => ?_) fun _ => mf_row) (fun _ => mf_row.mono) H (Ex.refl H) _ q
    subst hs
    have hy1 := mf_Row.mono _ _ _ e1 hy
    exact evp_tuple (K := K) (n := n) (Pi := fun j => Is (.int (a i * b j))) (evp_lc (vs := [3]) (g := gName 3) (wi_tup (K := K) (evp_var (i := 1) (v := y) rfl hy1 mf_row.mono) fun _ => mf_is) (by omega)
      (Sg := fun j σ2 _ => σ2 = [some x, some y, some (.int (a i)), some (.int (b j))]) (fun j z H2 hj e2 hz => by cases (show z = .int (b j) from hz); exact g_name (i := 3) ⟨rfl, rfl⟩) (fun j σ2 H2 hj e2 hs => by
        subst hs
        exact evp_I (C := CMul) (g := fun i j => .int (i * j)) (evp_var (i := 2) rfl rfl mono_is) (evp_var (i := 3) rfl rfl mono_is) (.inr (hb j))) fun _ => mf_is) (fun _ => mf_is.mono)
def spAt (C : Addr) : Sp := fun vs H Q _ => ∃ (z : V) (l r : Nat) (u : Wh), vs = [.ref C, .int (l : Int), .int (r : Int), z] ∧ Wv u z H ∧ WhOk l r u ∧ dimOk l r ∧ ∀ v H2, Evl.Ex H H2 → Ins C "_weights" l r (wgF u) v H2 → Q v H2
theorem evp_makeL {σ : L2.St} {H : Hp} {ta : TA} {i : Nat} {C : Addr} {fld : Str} {ok : (Nat → Nat → Int) → Prop} {m n : Nat} {f : Nat → Nat → Int} {E : XK} (hs : σ[i]? = some (some (.ref C))) (h : EvAP ta σ H (fun vs H1 => ∃ x, vs = [x] ∧ Grid m n f x H1)) (hd : dimOk m n) (hok : ok f) : EvP (OwC.tMakeL i C (spInit C fld ok) E ta) σ H (Ins C fld m n f) := fun H1 e Q q => ⟨hs, evp_make h hd hok H1 e Q q⟩
theorem ok_at {fa f1 f2 : Addr} {fd d1 d2 dQ : FuncData} (BQ : Kl K mg "Question" CQ fQ "_weights") (D_is_where : Df K mg "is_where" s_is_where ["left", "right", "value"] f1 d1) (G_is_where : FnOk P w K mg base (L2.CX P w) (k + 6) f1 d1 ["left", "right", "value"] (spIsWhere CV))
    (D_where_grid : Df K mg "where_grid" s_where_grid ["left", "right", "where"] f2 d2) (G_where_grid : FnOk P w K mg base CX0 (k + 2) f2 d2 ["left", "right", "where"] spWG)
    (M_Qinit : Mf K "__init__" "Question.__init__" s_Question_init ["self", "weights"] fQ dQ) (G_Qinit : FnOk P w K mg base CX0 (k + 5) fQ dQ ["self", "weights"] (spInit CQ "_weights" (fun _ => True)))
    (M : Mf K "at" "Question.at" s_Question_at ["cls", "left", "right", "where"] fa fd) : FnOk P w K mg base CX0 (k + 7) fa fd ["cls", "left", "right", "where"] (spAt CQ) := by
  refine M.F.ok sc_Question_at (fun vs H Q E h => ?_) (fun cdv A outer s H vs Q E hr h => ?_)
  · obtain ⟨z, l, r, u, rfl, _⟩ := h
    rfl
  · obtain ⟨z, l, r, u, rfl, hz, hu, hd, q⟩ := h
    refine ⟨_, (pss_cons (ps_if (pt_not (pt_val (pe_callS G_is_where (hr.mono (by omega)) (by rfl) D_is_where.g D_is_where.F.kp D_is_where.b (fun σ => passAt (W := fun _ _ _ _ => False) takes0 σ) (pa_cons (pv 1) (pa_cons (pv 2) (pa_cons (pv 3) pa_nil)))))) (pss_one ps_never) pss_nil) (pss_one (ps_ret (OwC.pe_makeL (i := 0) BQ.mkc G_Qinit (hr.mono (by omega)) rfl (.inl rfl) M_Qinit.b pass0 (pa_cons (pe_call G_where_grid (hr.mono (by omega)) (by rfl) D_where_grid.g D_where_grid.F.kp D_where_grid.b .nil pass0 (pa_cons (pv 1) (pa_cons (pv 2) (pa_cons (pv 3) pa_nil)))) pa_nil))))), ?_⟩
    have w1 : ∀ {H2 : Hp}, EvP (tVar 1) (start N_Question_at [.ref CQ, .int (l : Int), .int (r : Int), z]) H2 (Is (.int (l : Int))) := evp_var rfl rfl mono_is
    have w2 : ∀ {H2 : Hp}, EvP (tVar 2) (start N_Question_at [.ref CQ, .int (l : Int), .int (r : Int), z]) H2 (Is (.int (r : Int))) := evp_var rfl rfl mono_is
    have w3 : ∀ {H2 : Hp}, Evl.Ex H H2 → EvP (tVar 3) (start N_Question_at [.ref CQ, .int (l : Int), .int (r : Int), z]) H2 (fun v H => v = z ∧ Wv u z H) := fun e => evp_var rfl ⟨rfl, wv_mono u _ _ _ e hz⟩ (fun _ _ _ e ⟨a, b⟩ => ⟨a, wv_mono u _ _ _ e b⟩)
    refine q_when (b := false) (et_is (et_not (et_bl (is_du (CV := CV) (ds := wD u) hd.1 hd.2 (wh_okV hu) w1 w2 ((w3 (Ex.refl _)).imp fun _ _ _ h => ⟨h.1, wv_va h.2⟩)))) (by rw [wh_form hu]; rfl)) (fun z => nomatch z) fun _ H1 e1 => ?_
    exact evp_makeL (m := l) (n := r) (f := wgF u) (ok := fun _ => True) rfl (eap_one (evp_call (E := E0) (sp := spWG) (S := Grid l r (wgF u)) (eap_three w1 w2 (w3 e1) mono_is mono_is) fun vs H1 ⟨a, b, c, hv, ha, hb, hc⟩ Q q E => ⟨z, l, r, u, by rw [hv, show a = _ from ha, show b = _ from hb, hc.1], hc.2, hu, hd, q⟩)) hd trivial H1 (Ex.refl _) _ fun v H2 e2 hv => q v H2 (e1.trans e2) hv
def spBtw (C : Addr) : Sp := fun vs H Q _ => ∃ (x y : V) (m n : Nat) (a b : Nat → Int), vs = [.ref C, x, y] ∧ Row m a x H ∧ Row n b y H ∧ dimOk m n ∧ (∀ j, Bd (b j)) ∧ ∀ v H2, Evl.Ex H H2 → Ins C "_weights" m n (fun i j => a i * b j) v H2 → Q v H2
theorem ok_between {fa f1 f2 : Addr} {fd d1 d2 dQ : FuncData} (BQ : Kl K mg "Question" CQ fQ "_weights") (D_is_line : Df K mg "is_line" s_is_line ["value"] f1 d1) (G_is_line : FnOk P w K mg base CX0 (k + 2) f1 d1 ["value"] spLine)
    (D_products : Df K mg "products" s_products ["lefts", "rights"] f2 d2) (G_products : FnOk P w K mg base CX0 (k + 1) f2 d2 ["lefts", "rights"] spProds)
    (M_Qinit : Mf K "__init__" "Question.__init__" s_Question_init ["self", "weights"] fQ dQ) (G_Qinit : FnOk P w K mg base CX0 (k + 5) fQ dQ ["self", "weights"] (spInit CQ "_weights" (fun _ => True)))
    (M : Mf K "between" "Question.between" s_Question_between ["cls", "lefts", "rights"] fa fd) : FnOk P w K mg base CX0 (k + 7) fa fd ["cls", "lefts", "rights"] (spBtw CQ) := by
  refine M.F.ok sc_Question_between (fun vs H Q E h => ?_) (fun cdv A outer s H vs Q E hr h => ?_)
  · obtain ⟨x, y, m, n, a, b, rfl, _⟩ := h
    rfl
  · obtain ⟨x, y, m, n, a, b, rfl, hx, hy, hd, hb, q⟩ := h
    have nd := sc_Question_between.nd
    refine ⟨_, (pss_cons (ps_for PassesOwn.never rfl (pi_tup (pe_tup (pa_cons (pv 1) (pa_cons (pv 2) pa_nil)))) (pg_name (i := 3) nd rfl (Or.inl rfl)) (pss_one (ps_if (pt_not (pt_val (pe_call G_is_line (hr.mono (by omega)) (by rfl) D_is_line.g D_is_line.F.kp D_is_line.b .nil pass0 (pa_cons (pv 3) pa_nil)))) (pss_one ps_never) pss_nil))) (pss_one (ps_ret (OwC.pe_makeL (i := 0) BQ.mkc G_Qinit (hr.mono (by omega)) rfl (.inl rfl) M_Qinit.b pass0 (pa_cons (pe_call G_products (hr.mono (by omega)) (by rfl) D_products.g D_products.F.kp D_products.b .nil pass0 (pa_cons (pv 1) (pa_cons (pv 2) pa_nil))) pa_nil))))), ?_⟩
    have w1 : ∀ {σ2 : L2.St} {H2 : Hp}, σ2[1]? = some (some x) → Evl.Ex H H2 → EvP (tVar 1) σ2 H2 (Row m a) := fun h e => evp_var h (mf_Row.mono _ _ _ e hx) mf_Row.mono
    have w2 : ∀ {σ2 : L2.St} {H2 : Hp}, σ2[2]? = some (some y) → Evl.Ex H H2 → EvP (tVar 2) σ2 H2 (Row n b) := fun h e => evp_var h (mf_Row.mono _ _ _ e hy) mf_Row.mono
    have mP : Mono (fun v H2 => ∃ (c : Nat) (f : Nat → Int), (1 ≤ c ∧ c ≤ 8) ∧ Row c f v H2) := fun _ _ _ e ⟨c, f, h1, h2⟩ => ⟨c, f, h1, mf_Row.mono _ _ _ e h2⟩
    refine q_forAllT (σ := [some (.ref CQ), some x, some y, none]) (K := K) (n := 2) mP (al_cons mP ((w1 rfl (Ex.refl _)).imp fun _ _ _ h => ⟨m, a, hd.1, h⟩) (al_cons mP ((w2 rfl (Ex.refl _)).imp fun _ _ _ h => ⟨n, b, hd.2, h⟩) al_nil)) (by decide) (fun σ' H' => ∃ s3, σ' = [some (.ref CQ), some x, some y, s3] ∧ Evl.Ex H H') (fun H1 e1 => ⟨_, rfl, e1⟩)
      (fun J z σ' H' ⟨s3, hs, ex⟩ ⟨c, f, hc, hz⟩ hJ => ?_) (fun σ' H' ⟨s3, hs, ex⟩ => ?_)
    · subst hs
      exact s_when (b := false) (et_not (et_bl (evp_call (E := E0) (sp := spLine) (S := Is (.bl true)) (eap_one (evp_var (i := 3) rfl hz mf_Row.mono)) fun vs H1 ⟨x, e, hx⟩ Q q E => ⟨x, c, f, e, hx, hc, q⟩))) (fun z => nomatch z) (fun _ H1 e1 => hJ _ H1 e1 ⟨_, rfl, ex.trans e1⟩)
    · subst hs
      exact evp_makeL (m := m) (n := n) (f := fun i j => a i * b j) (ok := fun _ => True) rfl (eap_one (evp_call (E := E0) (sp := spProds) (S := Grid m n (fun i j => a i * b j)) (eap_two (w1 rfl ex) (w2 rfl ex) mf_Row.mono) fun vs H1 ⟨x, y, hv, h1, h2⟩ Q q E => ⟨x, y, m, n, a, b, hv, h1, h2, hd, hb, q⟩)) hd trivial H' (Ex.refl _) _ fun v H2 e2 hv => q v H2 (ex.trans e2) hv
end
end K20
namespace K20
open PySem PySem.Spec PyProof.Rows L2 Evl RZ Ev2 TA5 Ow
abbrev s_Table_each : Stmt := inClass (topS 29) 10
abbrev N_Table_each : List Str := ["self", "left", "line", "right", "many", "_"]
theorem sc_Table_each : GScope N_Table_each ["self"] (defScope s_Table_each) := ⟨rfl, rfl, rfl, by decide +kernel, rfl, by decide +kernel, by decide +kernel⟩

/-! the rows of a table, one by one -/
def eachR (g : Nat → Int) (i : Nat) : Nat → List (Int × Int)
  | 0 => []
  | j + 1 => eachR g i j ++ List.replicate (g j).toNat ((i : Int), (j : Int))
def eachL (g : Nat → Nat → Int) (n : Nat) : Nat → List (Int × Int)
  | 0 => []
  | i + 1 => eachL g n i ++ eachR (g i) i n
theorem eachR_len {g : Nat → Int} (hg : ∀ j, g j ≤ 100) (i : Nat) : ∀ j, (eachR g i j).length ≤ 100 * j
  | 0 => Nat.le_refl _
  | j + 1 => by
    have := eachR_len hg i j
    have := hg j
    rw [eachR, List.length_append, List.length_replicate]
    omega
theorem eachL_len {g : Nat → Nat → Int} {n : Nat} (hg : ∀ i j, g i j ≤ 100) (hn : n ≤ 8) : ∀ i, (eachL g n i).length ≤ 800 * i
  | 0 => Nat.le_refl _
  | i + 1 => by
    have := eachL_len hg hn i
    have := eachR_len (hg i) i n
    rw [eachL, List.length_append]
    omega
theorem sum_rep (a : Int) : ∀ n : Nat, (List.replicate n a).sum = a * (n : Int)
  | 0 => by simp
  | n + 1 => by
    rw [List.replicate_succ, List.sum_cons, sum_rep a n, Int.natCast_succ, Int.mul_add, Int.mul_one, Int.add_comm]
theorem eachR_sum {g : Nat → Int} (hg : ∀ j, 0 ≤ g j) (f : Nat → Nat → Int) (i : Nat) : ∀ j, ((eachR g i j).map fun c => f c.1.toNat c.2.toNat).sum = ((List.range j).map fun t => f i t * g t).sum
  | 0 => rfl
  | j + 1 => by
    rw [eachR, List.map_append, List.sum_append, eachR_sum hg f i j, List.map_replicate, sum_rep, List.range_succ, List.map_append, List.sum_append, Int.toNat_of_nonneg (hg j)]
    simp
theorem eachL_sum {g : Nat → Nat → Int} {n : Nat} (hg : ∀ i j, 0 ≤ g i j) (f : Nat → Nat → Int) : ∀ i, ((eachL g n i).map fun c => f c.1.toNat c.2.toNat).sum = (flat (fun i j => f i j * g i j) n i).sum
  | 0 => rfl
  | i + 1 => by rw [eachL, List.map_append, List.sum_append, eachL_sum hg f i, eachR_sum (hg i) f i n, flat, List.sum_append]
theorem eachR_mem {g : Nat → Int} {i : Nat} {c : Int × Int} : ∀ {j}, c ∈ eachR g i j → ∃ t, t < j ∧ c = ((i : Int), (t : Int))
  | 0, h => nomatch h
  | j + 1, h => by
    rcases List.mem_append.mp h with h | h
    · obtain ⟨t, h1, h2⟩ := eachR_mem h
      exact ⟨t, by omega, h2⟩
    · exact ⟨j, by omega, (List.mem_replicate.mp h).2⟩
theorem eachL_mem {g : Nat → Nat → Int} {n : Nat} {c : Int × Int} : ∀ {i}, c ∈ eachL g n i → ∃ s t, s < i ∧ t < n ∧ c = ((s : Int), (t : Int))
  | 0, h => nomatch h
  | i + 1, h => by
    rcases List.mem_append.mp h with h | h
    · obtain ⟨s, t, h1, h2, h3⟩ := eachL_mem h
      exact ⟨s, t, by omega, h2, h3⟩
    · obtain ⟨t, h1, h2⟩ := eachR_mem h
      exact ⟨i, t, by omega, h1, h2⟩
def PrL (H : Hp) (ys : List V) (cs : List (Int × Int)) : Prop := Paired (fun y c => Pr c.1 c.2 y H) ys cs
theorem PrL.ex {H H' : Hp} {ys : List V} {cs : List (Int × Int)} (h : PrL H ys cs) (e : Evl.Ex H H') : PrL H' ys cs := Paired.impl (fun _ _ h => mono_pr _ _ _ e h) h
section
variable {K : PySem.W.Frag} {σ : L2.St} {H : Hp} {ys : List V} {tb : TGn} {D : GEnds}
theorem g_one {t : TGn} (h : t D ys σ H) : tGThen t tG0 D ys σ H := h
theorem g_forEnT {m i j : Nat} {Pi : Nat → HP} {tl : TE} (h : EvP tl σ H (TupP m Pi)) (mP : ∀ i, Mono (Pi i)) (Pv : Nat → List V → L2.St → Hp → Prop) (h0 : ∀ H1, Evl.Ex H H1 → Pv 0 ys σ H1)
    (hs : ∀ (J : List V → L2.St → Hp → Prop) (n : Nat) x ys' σ' H' H'', n < m → Pv n ys' σ' H' → Evl.Ex H' H'' → Pi n x H'' → (∀ ys2 σ2 H3, Evl.Ex H'' H3 → Pv (n + 1) ys2 σ2 H3 → J ys2 σ2 H3) → tb { D with nx := J, ct := J, bk := D.nx } ys' ((σ'.set i (some (.int (n : Int)))).set j (some x)) H'')
    (hd : ∀ ys' σ' H', Pv m ys' σ' H' → D.nx ys' σ' H') : tGFor (iEnumT K (tCons tl tNil)) (gTup K 2 (gCons (gName i) (gCons (gName j) gNil))) tb D ys σ H :=
  h H (Ex.refl _) _ fun v H1 e1 ⟨p, zs, hv, hp, hl, hy⟩ => ⟨p, zs, by rw [hv], st_of hp, fun n k ys' σ' H' => k = m - n ∧ n ≤ m ∧ Pv n ys' σ' H' ∧ Evl.Ex H1 H', ⟨m, rfl, Nat.zero_le _, h0 H1 e1, Ex.refl _⟩, by
    rintro n k ys' σ' H' ⟨rfl, hn, pv, e⟩
    have hq := st_of (K := K) (e _ _ hp)
    by_cases hlt : n < m
    · refine .inr ⟨⟨zs, _, hq, List.getElem?_eq_getElem (by omega)⟩, fun ys2 σ2 H2 => Pv (n + 1) ys2 σ2 H2 ∧ Evl.Ex H1 H2, fun ys2 σ2 H2 ⟨a, b⟩ => ⟨m - (n + 1), by omega, rfl, by omega, a, b⟩, fun x H'' y => ?_⟩
      obtain ⟨T, z, rfl, hT, rfl, f1⟩ := y
      have hz := f1 zs hq
      have e2 : Evl.Ex H' (upd H' T (.tup [.int (n : Int), z])) := Ex.new hT
      have hTT : (upd H' T (.tup [.int (n : Int), z])) T = some (.tup [.int (n : Int), z]) := upd_same
      refine ⟨T, _, rfl, st_of hTT, rfl, _, _, rfl, _, _, rfl, rfl, ?_⟩
      exact hs _ n z ys' σ' H' _ hlt pv e2 (mP n _ _ _ (e.trans e2) (hy n z hz)) fun ys2 σ2 H3 e3 hv3 => ⟨hv3, (e.trans e2).trans e3⟩
    · have en : n = m := by omega
      subst en
      exact .inl ⟨⟨zs, hq, by omega⟩, hd ys' σ' H' pv⟩⟩
theorem g_forR1 {ta : TA} {j : Nat} {n : Int} (h : EvA ta σ H [.int n]) (hn : 0 ≤ n ∧ n ≤ 100000) (Pv : Nat → List V → L2.St → Hp → Prop) (h0 : ∀ H1, Evl.Ex H H1 → Pv 0 ys σ H1)
    (hs : ∀ (i : Nat) ys' σ' H', (i : Int) < n → Pv i ys' σ' H' → tb { D with nx := Pv (i + 1), ct := Pv (i + 1), bk := D.nx } ys' (σ'.set j (some (.int (i : Int)))) H') (hd : ∀ ys' σ' H', Pv n.toNat ys' σ' H' → D.nx ys' σ' H') : tGFor (iRng1 ta) (gName j) tb D ys σ H :=
  h H (Ex.refl H) _ fun H1 e => ⟨n, rfl, by omega, by omega, fun i k ys' σ' H' => k = n.toNat - i ∧ i ≤ n.toNat ∧ Pv i ys' σ' H', ⟨n.toNat, rfl, Nat.zero_le _, h0 H1 e⟩, by
    rintro i k ys' σ' H' ⟨rfl, hi, pv⟩
    by_cases hlt : i < n.toNat
    · refine .inr ⟨hlt, Pv (i + 1), fun ys2 σ2 H2 a => ⟨n.toNat - (i + 1), by omega, rfl, by omega, a⟩, fun x H'' y => ?_⟩
      obtain ⟨e1, e2⟩ := y
      subst e1 e2
      rw [show (0 : Int) + (i : Int) = (i : Int) from Int.zero_add _]
      exact hs i ys' σ' _ (by omega) pv
    · have en : i = n.toNat := by omega
      subst en
      exact .inl ⟨Nat.le_refl _, hd ys' σ' H' pv⟩⟩
end
theorem passE0 {X : Cx} : Passes (L2.CX X.prog X.w) X E0 := fun _ _ _ _ _ _ _ h => by
  obtain ⟨_, _, _, _, _, _, _, _, _, _, _, _, z⟩ := h
  exact z.elim
theorem nostop0 {K : PySem.W.Frag} : NoStop K E0 := fun _ _ _ z => z.elim
section
variable {P : Program} {w : World} {K : PySem.W.Frag} {mg : Str → Option Value} {base : Heap} {tk : Tok} {k : Nat} {CT fT : Addr}
def spEach (C : Addr) : SpG := fun vs H Q _ => ∃ (v : V) (m n : Nat) (g : Nat → Nat → Int), vs = [v] ∧ Ins C "_counts" m n g v H ∧ dimOk m n ∧ (∀ i j, 0 ≤ g i j ∧ g i j ≤ 100) ∧ ∀ ys H2, Evl.Ex H H2 → PrL H2 ys (eachL g n m) → Q ys H2
theorem gok_each {f : Addr} {fd : FuncData} (BT : Kl K mg "Table" CT fT "_counts") (T : Txt mg tk) (F : Fun K "each" "Table.each" s_Table_each f fd) : GFn P w K mg base (k + 1) f fd ["self"] (spEach CT) := by
  obtain ⟨oc, od, kV, doc, pm, an, cdv, ct, osl, rfl, lk, hcd⟩ := F.ex
  refine gfn_of lk hcd sc_Table_each (fun vs H Q E h => ?_) (fun A outer s H vs Q E pn hr h => ?_)
  · obtain ⟨x, m, n, g, rfl, _⟩ := h
    rfl
  · obtain ⟨x, m, n, g, rfl, hx, hd, hg, q⟩ := h
    have nd := sc_Table_each.nd
    refine ⟨_, gss_cons (gs_for owns_gcx rfl (pi_enumT (by rfl) T.n_enumerate (pa_cons (pe_fld (pv 0) rfl) pa_nil)) (pg_tup rfl (pgs_cons (pg_name (i := 1) nd rfl (Or.inl rfl)) (pgs_cons (pg_name (i := 2) nd rfl (Or.inl rfl)) pgs_nil))) (gss_cons (gs_for owns_gcx rfl (pi_enumT (by rfl) T.n_enumerate (pa_cons (pv 2) pa_nil)) (pg_tup rfl (pgs_cons (pg_name (i := 3) nd rfl (Or.inl rfl)) (pgs_cons (pg_name (i := 4) nd rfl (Or.inl rfl)) pgs_nil))) (gss_cons (gs_for owns_gcx rfl (pi_range1 (by rfl) T.n_range (pa_cons (pv 4) pa_nil)) (pg_name (i := 5) nd rfl (Or.inl rfl)) (gss_cons (gs_yield (pe_tup (pa_cons (pv 1) (pa_cons (pv 3) pa_nil)))) gss_nil)) gss_nil)) gss_nil)) gss_nil, ?_⟩
    have h0 : EvP (tVar 0) (start N_Table_each [x]) H (Ins CT "_counts" m n g) := evp_var rfl hx mf_ins.mono
    refine g_one (g_forEnT (K := K) (m := m) (Pi := fun i => TupP n fun j => Is (.int (g i j))) (evp_fld BT h0) (fun _ => mf_row.mono) (fun i ys σ' H' => PrL H' ys (eachL g n i) ∧ (∃ s1 s2 s3 s4 s5, σ' = [some x, s1, s2, s3, s4, s5]) ∧ Evl.Ex H H') (fun H1 e1 => ⟨.nil, ⟨_, _, _, _, _, rfl⟩, e1⟩)
      (fun J i z ys σ' H' H'' hi ⟨hp, ⟨s1, s2, s3, s4, s5, hs⟩, ex⟩ e2 hz hJ => ?_) (fun ys σ' H' ⟨hp, _, ex⟩ => q ys H' ex hp))
    subst hs
    simp only [List.set_cons_zero, List.set_cons_succ]
    refine g_one (g_forEnT (K := K) (m := n) (Pi := fun j => Is (.int (g i j))) (evp_var (i := 2) rfl hz mf_row.mono) (fun _ => mono_is) (fun j ys σ' H3 => PrL H3 ys (eachL g n i ++ eachR (g i) i j) ∧ (∃ s3 s4 s5, σ' = [some x, some (.int (i : Int)), some z, s3, s4, s5]) ∧ Evl.Ex H'' H3)
      (fun H3 e3 => ⟨by rw [show eachR (g i) i 0 = [] from rfl, List.append_nil]; exact hp.ex (e2.trans e3), ⟨_, _, _, rfl⟩, e3⟩)
      (fun J2 j t ys σ' H3 H4 hj ⟨hp, ⟨s3, s4, s5, hs⟩, ex3⟩ e4 ht hJ2 => ?_) (fun ys σ' H3 ⟨hp, ⟨s3, s4, s5, hs⟩, ex3⟩ => hJ ys σ' H3 ex3 ⟨hp, ⟨_, _, _, _, _, hs⟩, (ex.trans e2).trans ex3⟩))
    subst hs
    have ht' : t = .int (g i j) := ht
    subst ht'
    simp only [List.set_cons_zero, List.set_cons_succ]
    refine g_one (g_forR1 (n := g i j) (ea_cons (Evl.ev_var (i := 4) rfl) ea_nil) ⟨(hg i j).1, by have := (hg i j).2; omega⟩ (fun t ys σ' H5 => PrL H5 ys (eachL g n i ++ eachR (g i) i j ++ List.replicate t ((i : Int), (j : Int))) ∧ (∃ s5, σ' = [some x, some (.int (i : Int)), some z, some (.int (j : Int)), some (.int (g i j)), s5]) ∧ Evl.Ex H4 H5)
      (fun H5 e5 => ⟨by rw [List.replicate_zero, List.append_nil]; exact hp.ex (e4.trans e5), ⟨_, rfl⟩, e5⟩) (fun t ys σ' H5 ht ⟨hp, ⟨s5, hs⟩, ex5⟩ => ?_) (fun ys σ' H5 ⟨hp, ⟨s5, hs⟩, ex5⟩ => hJ2 ys σ' H5 ex5 ⟨by rw [List.append_assoc] at hp; exact hp, ⟨_, _, _, hs⟩, (ex3.trans e4).trans ex5⟩))
    subst hs
    refine g_one ⟨?_, ?_⟩
    · have h1 := Paired.len hp
      have h2 := eachL_len (g := g) (n := n) (fun i j => (hg i j).2) hd.2.2 i
      have h3 := eachR_len (g := g i) (fun j => (hg i j).2) i j
      have h4 := (hg i j).2
      have h5 := hd.1.2
      have h6 := hd.2.2
      rw [List.length_append, List.length_append, List.length_replicate] at h1
      exact sz_lt (by omega)
    · refine evp_pr (i := (i : Int)) (j := (j : Int)) (evp_var (i := 1) rfl rfl mono_is) (evp_var (i := 3) rfl rfl mono_is) H5 (Ex.refl _) _ fun v H6 e6 hv => ⟨?_, ⟨_, rfl⟩, ex5.trans e6⟩
      rw [List.replicate_succ', ← List.append_assoc]
      exact Paired.snoc (hp.ex e6) hv
end
end K20
namespace K20
open PySem PySem.Spec PyProof.Rows L2 Evl RZ Ev2 TA5 Ow
abbrev s_law_by_rows : Stmt := topS 50
abbrev N_law_by_rows : List Str := ["_law_weights_here", "_law_table", "_law_one", "_law_other"]
theorem sc_law_by_rows : FnScope N_law_by_rows ["_law_weights_here", "_law_table"] (defScope s_law_by_rows) := ⟨rfl, rfl, rfl, by decide +kernel, rfl, by decide +kernel, by decide +kernel⟩

theorem ints_of {H : Hp} {ys : List V} {is : List Int} (h : Paired (fun y (i : Int) => Is (.int i) y H) ys is) : ys = is.map V.int := by
  induction h with
  | nil => rfl
  | cons h t ih => rw [List.map_cons, ← ih]; congr 1
theorem evp_sumW {K : PySem.W.Frag} {σ : L2.St} {H : Hp} {te : TE} {is : List Int} (h : EvP te σ H (LsP (fun i => Is (.int i)) is)) : EvP (tCB (rSum K) (tCons te tNil)) σ H (Is (.int is.sum)) := fun H1 e Q q => h H1 e _ fun v H2 e2 ⟨p, ys, hv, hp, pr⟩ => ⟨p, is, by rw [hv], by rw [ints_of pr] at hp; exact sq_of hp, q _ H2 e2 rfl⟩
section
variable {P : Program} {w : World} {K : PySem.W.Frag} {mg : Str → Option Value} {base : Heap} {tk : Tok} {k : Nat} {CT fT ge : Addr} {de : FuncData}
theorem evp_each {σ : L2.St} {H : Hp} {te : TE} {m n : Nat} {g : Nat → Nat → Int} (hd : dimOk m n) (hg : ∀ i j, 0 ≤ g i j ∧ g i j ≤ 100) (h : EvP te σ H (Ins CT "_counts" m n g)) : EvP (tListG (tMethG CT "each" (spEach CT) [] E0 te tNil)) σ H (LsP (fun c : Int × Int => Pr c.1 c.2) (eachL g n m)) := fun H1 e Q q => h H1 e _ fun v H2 e2 hv => by
  obtain ⟨a, dx, p, rfl, ha, hp⟩ := id hv
  refine ⟨a, dx, _, rfl, ha, rfl, ?_⟩
  exact ⟨.ref a, m, n, g, rfl, hv, hd, hg, fun ys H3 e3 hP p hp => q _ _ (e2.trans (e3.trans (Ex.new hp))) ⟨p, ys, rfl, upd_same, hP.ex (Ex.new hp)⟩⟩
def spByRows (C : Addr) : Sp := fun vs H Q _ => ∃ (x y : V) (m n : Nat) (f g : Nat → Nat → Int), vs = [x, y] ∧ Grid m n f x H ∧ Ins C "_counts" m n g y H ∧ dimOk m n ∧ (∀ i j, 0 ≤ g i j ∧ g i j ≤ 100) ∧ ∀ v H2, Evl.Ex H H2 → v = .int (flat (fun i j => f i j * g i j) n m).sum → Q v H2
theorem ok_by_rows {fa : Addr} {fd : FuncData} (n_sum : mg "sum" = none) (BT : Kl K mg "Table" CT fT "_counts") (T : Txt mg tk) (W_each : Meth K CT "each" ge) (G_each : GFn P w K mg base (k + 1) ge de ["self"] (spEach CT)) (b_each : Binds K de ["self"] [])
    (D : Df K mg "_law_by_rows" s_law_by_rows ["_law_weights_here", "_law_table"] fa fd) : FnOk P w K mg base CX0 (k + 8) fa fd ["_law_weights_here", "_law_table"] (spByRows CT) := by
  refine D.F.ok sc_law_by_rows (fun vs H Q E h => ?_) (fun cdv A outer s H vs Q E hr h => ?_)
  · obtain ⟨x, y, m, n, f, g, rfl, _⟩ := h
    rfl
  · obtain ⟨x, y, m, n, f, g, rfl, hx, hy, hd, hg, q⟩ := h
    have nd := sc_law_by_rows.nd
    refine ⟨_, (pss_one (ps_ret (pe_callB (r := rSum K) (cr_sum rfl) (by rfl) n_sum PyProof.Rows.boot_sum (pa_cons (pe_lc (wi := iList K _) (g := gTup K 2 (gCons (gName 2) (gCons (gName 3) gNil))) (own := [("_law_one", 2), ("_law_other", 3)]) (by rfl) nd (pi_list (pe_listG (pgen_meth0 (E := E0) (pv 1) BT.cl W_each G_each (hr.mono (by omega)) b_each .nil) passE0 nostop0 (hr.mono (by omega)) (by rfl) T.n_list PyProof.Rows.boot_list)) (blkOk_by (by kernel_rfl)) (fun _ _ _ _ _ => (pg_tup rfl (pgs_cons (pg_name (i := 2) nd rfl (Or.inl rfl)) (pgs_cons (pg_name (i := 3) nd rfl (Or.inl rfl)) pgs_nil)))) (fun _ _ _ _ _ => pts_nil) (fun _ _ _ _ _ => (pe_ix (r := rIxT K) ix_tup (pe_ix (r := rIxT K) ix_tup (pv 0) (pv 2) (fun _ _ => rfl)) (pv 3) (fun _ _ => rfl)))) pa_nil)))), ?_⟩
    have hlen : (eachL g n m).length ≤ 40000 := by
      have h1 := eachL_len (g := g) (n := n) (fun i j => (hg i j).2) hd.2.2 m
      have := hd.1.2
      omega
    have hl := evp_lcW (σ := start N_law_by_rows [x, y]) (H := H) (vs := [2, 3]) (g := gTup K 2 (gCons (gName 2) (gCons (gName 3) gNil))) (te := tOp (rIxT K) (tOp (rIxT K) (tVar 0) (tVar 2)) (tVar 3)) (tt := tYes) (zs := eachL g n m) (b := fun _ => true) (f := fun c => f c.1.toNat c.2.toNat) (Ri := fun i => Is (.int i))
      (Sg := fun z σ2 _ => σ2 = [some x, some y, some (.int z.1), some (.int z.2)]) (wx_lsP (K := K) (fun _ => mono_pr) (evp_each (CT := CT) hd hg (evp_var (i := 1) rfl hy mf_ins.mono))) hlen
      (fun i z u H1 hz e ⟨z', hz', T', hx', hT'⟩ => by rw [hz] at hz'; cases hz'; exact g_pair' hx' hT' ⟨rfl, rfl⟩) (fun z σ2 H1 _ _ _ => et_yes)
      (fun z σ2 H1 hz e hs => by
        subst hs
        obtain ⟨a, b, ha, hb, rfl⟩ := eachL_mem hz
        exact evp_ixT (K := K) (i := b) (evp_ixT (K := K) (i := a) (evp_var (i := 0) rfl (mf_grid.mono _ _ _ e hx) mf_grid.mono) (evp_var (i := 2) rfl rfl mono_is) ha fun _ => mf_row) (evp_var (i := 3) rfl rfl mono_is) hb fun _ => mf_is) (fun _ => mf_is)
    rw [List.filter_eq_self.mpr (fun _ _ => rfl)] at hl
    exact evp_sumW (K := K) hl H (Ex.refl _) _ fun v H1 e1 hv => q v H1 e1 (by rw [show v = _ from hv, eachL_sum (fun i j => (hg i j).1)])
end
end K20
namespace K20
open PySem PySem.Spec PyProof.Rows L2 Evl RZ Ev2 TA5 Ow
theorem passA0 {X : Cx} {E : L2.St → XK} (σ : L2.St) : PassesAt CX0 X σ (E σ) := fun _ _ _ _ _ _ h => h.elim
theorem fnr_of {P : Program} {w : World} {K : PySem.W.Frag} {mg : Str → Option Value} {base : Heap} {k : Nat} {f : Addr} {fd : FuncData} {ps : List Str} {sp : Sp} (F : FnOk P w K mg base CX0 k f fd ps sp) (hb : Binds K fd ps []) : FnR P w K mg base CX0 k f sp :=
  (F.raw hb .nil).imp fun vs H Q E h => by rw [List.append_nil]; exact h
/-! sums of grids, either way -/
theorem flat_snoc (f : Nat → Nat → Int) (m : Nat) : ∀ n, (flat (fun i j => f j i) (m + 1) n).sum = (flat (fun i j => f j i) m n).sum + ((List.range n).map fun j => f m j).sum
  | 0 => rfl
  | n + 1 => by
    rw [flat, flat, List.sum_append, List.sum_append, flat_snoc f m n, List.range_succ, List.map_append, List.sum_append, List.range_succ, List.map_append, List.sum_append]
    simp
    omega
theorem flat_zero (f : Nat → Nat → Int) : ∀ n, (flat f 0 n).sum = 0
  | 0 => rfl
  | n + 1 => by rw [flat, List.sum_append, flat_zero f n]; rfl
theorem flat_swap (f : Nat → Nat → Int) (n : Nat) : ∀ m, (flat f n m).sum = (flat (fun i j => f j i) m n).sum
  | 0 => (flat_zero _ n).symm
  | m + 1 => by rw [flat, List.sum_append, flat_swap f n m, flat_snoc f m n]
section
variable {K : PySem.W.Frag} {σ : L2.St} {H : Hp} {ta tb te tf : TE} {ta' : TA} {C CT CQ : Addr} {fld : Str} {m n : Nat} {f : Nat → Nat → Int} {E : XK} {S : HP} {P : HP}
theorem evp_cmeth {sp : Sp} {A : List V → Hp → Prop} (h : EvP tf σ H (Is (.ref C))) (h2 : EvAP ta' σ H A) (hs : ∀ vs H1, A vs H1 → ∀ Q : VK, (∀ v H2, Evl.Ex H1 H2 → S v H2 → Q v H2) → sp (.ref C :: vs) H1 Q E) : EvP (ClX.tCMeth C sp E tf ta') σ H S := fun H1 e Q q =>
  h H1 e _ fun v H2 e2 hv => ⟨hv, h2 H2 (e.trans e2) _ fun vs H3 e3 a => hs vs H3 a Q fun v H4 e4 s => q v H4 ((e2.trans e3).trans e4) s⟩
theorem evp_qat {l r : Nat} {u : Wh} {t1 t2 t3 : TE} (hu : WhOk l r u) (hd : dimOk l r) (h1 : EvP t1 σ H (Is (.int (l : Int)))) (h2 : EvP t2 σ H (Is (.int (r : Int)))) (h3 : EvP t3 σ H (Wv u)) :
    EvP (ClX.tCMeth C (spAt C) E (tC (.ref C)) (tCons t1 (tCons t2 (tCons t3 tNil)))) σ H (Ins C "_weights" l r (wgF u)) :=
  evp_cmeth evp_c (eap_three h1 h2 h3 mono_is mono_is) fun vs H1 ⟨a, b, c, hv, ha, hb, hc⟩ Q q => ⟨c, l, r, u, by rw [hv, show a = _ from ha, show b = _ from hb], hc, hu, hd, q⟩
theorem evp_btw {a b : Nat → Int} {t1 t2 : TE} (hd : dimOk m n) (hb : ∀ j, Bd (b j)) (h1 : EvP t1 σ H (Row m a)) (h2 : EvP t2 σ H (Row n b)) :
    EvP (ClX.tCMeth C (spBtw C) E (tC (.ref C)) (tCons t1 (tCons t2 tNil))) σ H (Ins C "_weights" m n fun i j => a i * b j) :=
  evp_cmeth evp_c (eap_two h1 h2 mf_Row.mono) fun vs H1 ⟨x, y, hv, hx, hy⟩ Q q => ⟨x, y, m, n, a, b, by rw [hv], hx, hy, hd, hb, q⟩
theorem evp_meth {sp : Sp} {x : Str} {A : List V → Hp → Prop} (h : EvP te σ H (Ins C fld m n f)) (hx : (fld == x) = false) (h2 : EvAP ta' σ H A) (hs : ∀ v vs H1, Ins C fld m n f v H1 → A vs H1 → ∀ Q : VK, (∀ v H2, Evl.Ex H1 H2 → S v H2 → Q v H2) → sp (v :: vs) H1 Q E) : EvP (tMeth C x sp [] E te ta') σ H S := fun H1 e Q q =>
  h H1 e _ fun v H2 e2 hv => by
    obtain ⟨a, dx, p, rfl, h3, h4⟩ := id hv
    refine ⟨a, dx, _, rfl, h3, ?_, h2 H2 (e.trans e2) _ fun vs H3 e3 hA => ?_⟩
    · simp only [List.lookup]
      rw [show (x == fld) = false from by rw [BEq.comm]; exact hx]
    · rw [List.append_nil]
      exact hs _ vs H3 (mf_ins.mono _ _ _ e3 hv) hA Q fun v H4 e4 s => q v H4 ((e2.trans e3).trans e4) s
theorem evp_qturned (hd : dimOk m n) (h : EvP te σ H (Ins C "_weights" m n f)) : EvP (tMeth C "turned" (spQTurned C) [] E te tNil) σ H (Ins C "_weights" n m fun i j => f j i) :=
  evp_meth h (by decide) eap_nil fun v vs H1 hv e Q q => ⟨v, m, n, f, by rw [e], hv, hd, q⟩
theorem evp_tturned (hd : dimOk m n) (h0 : ∀ i j, 0 ≤ f i j) (h : EvP te σ H (Ins C "_counts" m n f)) : EvP (tMeth C "turned" (spTTurned C) [] E te tNil) σ H (Ins C "_counts" n m fun i j => f j i) :=
  evp_meth h (by decide) eap_nil fun v vs H1 hv e Q q => ⟨v, m, n, f, by rw [e], hv, hd, h0, q⟩
theorem evp_weight {i j : Nat} {t1 t2 : TE} (hi : i < m) (hj : j < n) (h : EvP te σ H (Ins C "_weights" m n f)) (h1 : EvP t1 σ H (Is (.int (i : Int)))) (h2 : EvP t2 σ H (Is (.int (j : Int)))) : EvP (tMeth C "weight" (spWeight C) [] E te (tCons t1 (tCons t2 tNil))) σ H (Is (.int (f i j))) :=
  evp_meth h (by decide) (eap_two h1 h2 mono_is) fun v vs H1 hv ⟨x, y, e, hx, hy⟩ Q q => ⟨v, i, j, m, n, f, by rw [e, show x = _ from hx, show y = _ from hy], hv, ⟨hi, hj⟩, q⟩
theorem evp_qcall {g : Nat → Nat → Int} {EE : L2.St → XK} (hd : dimOk m n) (hg : ∀ i j, Bd (g i j)) (h : EvP te σ H (Ins CQ "_weights" m n f)) (h2 : EvP ta σ H (Ins CT "_counts" m n g)) :
    EvP (OwC.tCallOE CQ (spCallQ CQ CT) EE te (tCons ta tNil)) σ H (Is (.int (flat (fun i j => f i j * g i j) n m).sum)) := fun H1 e Q q =>
  h H1 e _ fun v H2 e2 hv => by
    obtain ⟨a, dx, p, rfl, h3, h4⟩ := id hv
    exact ⟨a, rfl, eap_one h2 H2 (e.trans e2) _ fun vs H3 e3 ⟨x, hvs, hx⟩ => by
      subst hvs
      exact ⟨⟨dx, _, e3 _ _ h3⟩, .ref a, x, m, n, f, g, rfl, mf_ins.mono _ _ _ e3 hv, hx, hd, hg, fun v H4 e4 hv => q v H4 ((e2.trans e3).trans e4) hv⟩⟩
theorem evp_byrows {g : Nat → Nat → Int} (hd : dimOk m n) (hg : ∀ i j, 0 ≤ g i j ∧ g i j ≤ 100) (h : EvP te σ H (Grid m n f)) (h2 : EvP ta σ H (Ins CT "_counts" m n g)) :
    EvP (tCall (spByRows CT) [] E (tCons te (tCons ta tNil))) σ H (Is (.int (flat (fun i j => f i j * g i j) n m).sum)) :=
  evp_call (eap_two h h2 mf_grid.mono) fun vs H1 ⟨x, y, e, hx, hy⟩ Q q E => ⟨x, y, m, n, f, g, e, hx, hy, hd, hg, q⟩
/-! own == and != -/
theorem evp_neq (h1 : EvP ta σ H (Ins CQ "_weights" m n f)) (h2 : EvP tb σ H (Ins CQ "_weights" m n f)) : EvP (tOp (OwC.rOwnNe CQ (spEqT K CQ "_weights") E) ta tb) σ H (Is (.bl false)) :=
  evp_op h1 h2 mf_ins.mono fun x y H1 _ hx hy Q q => by
    obtain ⟨a, dx, p, ex, k2, k3⟩ := id hx
    obtain ⟨b, dy, r, ey, k4, k5⟩ := id hy
    refine ⟨a, b, dx, dy, _, _, ex, ey, k2, k4, x, y, m, n, f, rfl, hx, .inl ⟨m, n, f, hy, fun v H2 e2 hv => ⟨true, ?_, q _ H2 e2 rfl⟩⟩⟩
    rw [hv, SeqAt.eqv_refl _ (SeqAt.canLay_of_shaped (shaped_dat m n f))]
end
section
variable {K : PySem.W.Frag} {σ : L2.St} {H : Hp} {ta tb te tf : TE} {C CT CQ : Addr} {m n : Nat} {f : Nat → Nat → Int} {E : XK}
/-- what is written of a class beside the others -/
structure Apart (K : PySem.W.Frag) (C : Addr) (t : Value) : Prop where
  su : PySem.W.subIn K t (.ref C) = some false
  ne : (t == Value.ref C) = false
structure Tp (K : PySem.W.Frag) (C : Addr) : Prop where
  hd : PySem.W.hasDictIn K C = true
  ty : PySem.W.typeIn K (.ref C) = some (.type "type")
theorem kit_ap {t : Value} (h : Tp K C) (a : Apart K C t) : PySem.W.kitOne K t (.ref C) = some false := by
  have hc : (PySem.W.clsIn K C).isSome = true := by
    have := h.hd
    unfold PySem.W.hasDictIn at this
    cases hh : PySem.W.clsIn K C with
    | none => rw [hh] at this; cases this
    | some c => rfl
  unfold PySem.W.kitOne PySem.W.kitCls
  rw [a.ne, if_neg (by decide)]
  dsimp only
  rw [hc, h.ty, if_pos (by simp)]
  exact a.su
theorem first_ap {t : Value} (a : Apart K C t) : PySem.W.notFirst K C t = true := by
  unfold PySem.W.notFirst
  rw [a.su]; simp
theorem evp_qtup {m' n' : Nat} {f' : Nat → Nat → Int} (tq : Tp K CQ) (aq : Apart K CQ (.type "tuple")) (h1 : EvP ta σ H (Ins CQ "_weights" m n f)) (h2 : EvP tb σ H (Grid m' n' f')) : EvP (tOp (OwC.rOwnEqX K CQ (spEqT K CQ "_weights") E) ta tb) σ H (Is (.bl false)) :=
  evp_op h1 h2 mf_ins.mono fun x y H1 _ hx hy Q q => by
    obtain ⟨a, dx, p, ex, k2, k3⟩ := id hx
    obtain ⟨b, ys, ey, k4, k5⟩ := id hy
    subst ey
    exact ⟨a, dx, _, .type "tuple", ex, k2, .tup (st_of k4), first_ap aq, x, .ref b, m, n, f, rfl, hx, .inr ⟨.type "tuple", fun H2 e => .base (.tup (e _ _ k4)), kit_ap tq aq, fun v H2 e2 hv => q v H2 e2 hv⟩⟩
theorem evp_qtab {mg : Str → Option Value} {fI : Addr} {m' n' : Nat} {f' : Nat → Nat → Int} (BT : Kl K mg "Table" CT fI "_counts") (tq : Tp K CQ) (aq : Apart K CQ (.ref CT)) (h1 : EvP ta σ H (Ins CQ "_weights" m n f)) (h2 : EvP tb σ H (Ins CT "_counts" m' n' f')) : EvP (tOp (OwC.rOwnEqX K CQ (spEqT K CQ "_weights") E) ta tb) σ H (Is (.bl false)) :=
  evp_op h1 h2 mf_ins.mono fun x y H1 _ hx hy Q q => by
    obtain ⟨a, dx, p, ex, k2, k3⟩ := id hx
    obtain ⟨b, dy, r, ey, k4, k5⟩ := id hy
    subst ey
    exact ⟨a, dx, _, .ref CT, ex, k2, .ins k4, first_ap aq, x, .ref b, m, n, f, rfl, hx, .inr ⟨.ref CT, fun H2 e => .base (.ins (e _ _ k4) BT.cl BT.ha BT.hn BT.htk BT.hm), kit_ap tq aq, fun v H2 e2 hv => q v H2 e2 hv⟩⟩
/-! data -/
theorem dat_lay : (dat m n f).canLay0 = true := SeqAt.canLay_of_shaped (shaped_dat m n f)
theorem et_grids (ha : EvP ta σ H (Grid m n f)) (hb : EvP tb σ H (Grid m n f)) : EvT (tTest (tOp (rNeD K) ta tb)) σ H false :=
  et_same (K := K) (d := dat m n f) ha hb mf_grid.mono (fun _ _ h => dp_grid h) (fun _ _ h => dp_grid h) (shaped_dat _ _ _) dat_lay
def rowD (n : Nat) (a : Nat → Int) : PyData := .tuple ((List.range n).map fun j => .int (a j))
theorem row_dp {a : Nat → Int} {v : V} (h : Row n a v H) : Dp K H v (rowD n a) := dp_tup h fun j y _ hy => by rw [show y = .int (a j) from hy]; exact .int _
theorem row_lay {a : Nat → Int} : (rowD n a).canLay0 = true := lay_all fun d hd => by obtain ⟨j, _, rfl⟩ := List.mem_map.mp hd; rfl
theorem row_depth {a : Nat → Int} : (rowD n a).depth ≤ 1 := by
  show PyData.depthAll _ + 1 ≤ 1
  have := depth_all (n := 0) (ds := (List.range n).map fun j => PyData.int (a j)) fun d hd => by obtain ⟨j, _, rfl⟩ := List.mem_map.mp hd; exact Nat.le_refl _
  omega
theorem et_rows {a : Nat → Int} (ha : EvP ta σ H (Row n a)) (hb : EvP tb σ H (Row n a)) : EvT (tTest (tOp (rNeD K) ta tb)) σ H false :=
  et_same (K := K) (d := rowD n a) ha hb mf_Row.mono (fun _ _ h => row_dp h) (fun _ _ h => row_dp h) (sh_of row_lay (by have := @row_depth n a; omega)) row_lay
/-- (grid, left, right) -/
def Tr3 (m n : Nat) (f : Nat → Nat → Int) : HP := fun v H => ∃ t a, v = .ref t ∧ H t = some (.tup [a, .int (m : Int), .int (n : Int)]) ∧ Grid m n f a H
theorem mono_tr3 : Mono (Tr3 m n f) := fun _ _ _ e ⟨t, a, h1, h2, h3⟩ => ⟨t, a, h1, e _ _ h2, mf_grid.mono _ _ _ e h3⟩
theorem tr3_dp {v : V} (h : Tr3 m n f v H) : Dp K H v (.tuple [dat m n f, .int m, .int n]) := by
  obtain ⟨t, a, rfl, ht, ha⟩ := h
  exact .tup (st_of ht) (.cons (dp_grid ha) (.cons (.int _) (.cons (.int _) .nil)))
theorem evp_tr3 {t1 t2 t3 : TE} (h1 : EvP t1 σ H (Grid m n f)) (h2 : EvP t2 σ H (Is (.int (m : Int)))) (h3 : EvP t3 σ H (Is (.int (n : Int)))) : EvP (tTup (tCons t1 (tCons t2 (tCons t3 tNil)))) σ H (Tr3 m n f) := fun H1 e Q q =>
  eap_three h1 h2 h3 mf_grid.mono mono_is H1 e _ fun vs H2 e2 ⟨a, b, c, hv, ha, hb, hc⟩ => by
    rw [hv, show b = _ from hb, show c = _ from hc]
    exact ⟨sz_of (show 3 ≤ 100000 by decide), fun t ht => q _ _ (e2.trans (Ex.new ht)) ⟨t, a, rfl, upd_same, mf_grid.mono _ _ _ (Ex.new ht) ha⟩⟩
theorem tr3_lay : (PyData.tuple [dat m n f, .int m, .int n]).canLay0 = true := by
  show ((dat m n f).canLay0 && (true && (true && true))) = true
  rw [dat_lay]; rfl
theorem tr3_sh : SeqAt.shaped (.tuple [dat m n f, .int m, .int n]) = true := sh_of tr3_lay (by
  have h : (dat m n f).depth ≤ 2 := by
    show PyData.depthAll _ + 1 ≤ 2
    have := depth_all (n := 1) (ds := (List.range m).map fun i => rowD n (f i)) fun d hd => by obtain ⟨i, _, rfl⟩ := List.mem_map.mp hd; exact row_depth
    show PyData.depthAll ((List.range m).map fun i => rowD n (f i)) + 1 ≤ 2
    omega
  show max (dat m n f).depth (max 0 (max 0 0)) + 1 ≤ 64
  omega)
theorem et_tr3 (ha : EvP ta σ H (Tr3 m n f)) (hb : EvP tb σ H (Tr3 m n f)) : EvT (tTest (tOp (rNeD K) ta tb)) σ H false :=
  et_same (K := K) (d := .tuple [dat m n f, .int m, .int n]) ha hb mono_tr3 (fun _ _ h => tr3_dp h) (fun _ _ h => tr3_dp h) tr3_sh tr3_lay
def LsI (is : List Int) : HP := LsP (fun i => Is (.int i)) is
theorem lsI_dp {is : List Int} {v : V} (h : LsI is v H) : Dp K H v (.list (is.map PyData.int)) := by
  obtain ⟨p, ys, rfl, hp, pr⟩ := h
  rw [ints_of pr] at hp
  exact .lst (sq_of hp) (ints_dp is)
theorem et_lists {is : List Int} (ha : EvP ta σ H (LsI is)) (hb : EvP tb σ H (LsI is)) : EvT (tTest (tOp (rNeD K) ta tb)) σ H false :=
  et_same (K := K) (d := .list (is.map PyData.int)) ha hb (mono_lsP fun _ => mono_is) (fun _ _ h => lsI_dp h) (fun _ _ h => lsI_dp h) (ints_sh is) (ints_lay is)
/-! tuples that are repeated and joined -/
theorem evp_tup1 {P : HP} (m : Mono P) (h : EvP te σ H P) : EvP (tTup (tCons te tNil)) σ H (TupP 1 fun _ => P) := fun H1 e Q q => h H1 e _ fun v H2 e2 hv => ⟨sz_of (show 1 ≤ 100000 by decide), fun t ht => q _ _ (e2.trans (Ex.new ht)) ⟨t, [v], rfl, upd_same, rfl, fun i y hi => by
  match i, hi with
  | 0, hi => cases hi; exact m _ _ _ (Ex.new ht) hv
  | i + 1, hi => cases hi⟩⟩
theorem evp_rep {P : HP} {n : Nat} (mP : MonoF P) (h : EvP ta σ H (TupP 1 fun _ => P)) (hb : EvP tb σ H (Is (.int (n : Int)))) (hn : 2 ≤ n ∧ n ≤ 100) : EvP (tOp (rRepT K) ta tb) σ H (TupP n fun _ => P) :=
  evp_op h hb (mf_tup fun _ => mP).mono fun x y H1 _ ⟨p, ys, hv, hp, hl, hy⟩ hyv Q q => by
    have hyv' : y = .int (n : Int) := hyv
    subst hv
    subst hyv'
    match ys, hl with
    | [z], _ =>
    have hz : P z H1 := hy 0 z rfl
    refine ⟨p, (n : Int), [z], rfl, rfl, st_of hp, by simp, by omega, by omega, by show 1 ≤ 1000; decide, fun t ht => q _ _ (Ex.new ht) ⟨t, List.replicate n z, rfl, ?_, by simp, fun i y hi => ?_⟩⟩
    · rw [Int.toNat_natCast, List.flatten_replicate_singleton]; exact upd_same
    · rw [List.eq_of_mem_replicate (List.mem_of_getElem? hi)]
      exact mP.mono _ _ _ (Ex.new ht) hz
theorem evp_join {m : Nat} {a b : Int} (hm : 1 ≤ m ∧ m ≤ 100) (h : EvP ta σ H (TupP m fun _ => Is (.int a))) (hb : EvP tb σ H (TupP 1 fun _ => Is (.int b))) : EvP (tOp (rCatT K) ta tb) σ H (Row (m + 1) fun j => if j < m then a else b) :=
  evp_op h hb (mf_tup fun _ => mf_is).mono fun x y H1 _ ⟨p, ys, hv, hp, hl, hy⟩ ⟨p2, zs, hv2, hp2, hl2, hz2⟩ Q q => by
    subst hv
    subst hv2
    refine ⟨p, p2, ys, zs, rfl, rfl, st_of hp, st_of hp2, (fun z => by rw [z] at hl; simp at hl; omega), sz_of (by omega), (fun z => by rw [z] at hl2; cases hl2), fun _ t ht => q _ _ (Ex.new ht) ⟨t, ys ++ zs, rfl, upd_same, by rw [List.length_append]; omega, fun i y hi => ?_⟩⟩
    show y = .int (if i < m then a else b)
    by_cases h1 : i < m
    · rw [List.getElem?_append_left (by omega)] at hi
      rw [if_pos h1]
      exact hy i y hi
    · rw [List.getElem?_append_right (by omega)] at hi
      rw [if_neg h1]
      exact hz2 _ y hi
end
end K20
namespace K20
open PySem PySem.Spec PyProof.Rows L2 Evl RZ Ev2 TA5 Ow
abbrev s_law : Stmt := topS 51
abbrev N_law : List Str := ["_law_script", "_law_k", "_law_cell", "_law_state", "_law_turn", "_law_great", "_law_question", "_law_some", "_law_where", "_law_due", "_law_left", "_law_right", "_law_table", "_law_weights_here", "_law_pairs", "_law_lefts", "_law_rights", "_law_inside", "_law_at", "_law_one", "_law_pair", "_law_row", "_law_other"]
theorem sc_law : FnScope N_law ["_law_script"] (defScope s_law) := ⟨rfl, rfl, rfl, by decide +kernel, rfl, by decide +kernel, by decide +kernel⟩

def spLaw (K : PySem.W.Frag) : Sp := fun vs H Q _ => ∃ (a0 : Addr) (ns : List Int), vs = [.ref a0] ∧ SqL K H a0 (ns.map V.int) ∧ ns.length ≤ 63 ∧ ∀ H', Q (.bl true) H'
theorem dpAll_int2 {K : PySem.W.Frag} {H : Hp} : ∀ ns : List Int, DpAll K H (ns.map V.int) (ns.map PyData.int)
  | [] => .nil
  | n :: ns => .cons (.int n) (dpAll_int2 ns)
theorem shaped_int2 (is : List Int) : SeqAt.shaped (.list (is.map PyData.int)) = true := sh_of (ints_lay is) (by show PyData.depthAll _ + 1 ≤ 64; have := ints_depth is; omega)
theorem seq_at {K : PySem.W.Frag} {tl : TE} {g : TG} {tu tz : TS} {D : Ends} {σ : L2.St} {H : Hp} (h : tl σ H fun v H1 => tSeq (tFor (iList K (tC v)) g tu) tz D σ H1) : tSeq (tFor (iList K tl) g tu) tz D σ H := h
theorem q_parD {tz : TS} {D : Ends} {ta tb : TE} {i j : Nat} {σ : L2.St} {H : Hp} (h : ta σ H fun x H1 => tb σ H1 fun y H2 => ∃ v w, [x, y] = [v, w] ∧ tz D ((σ.set i (some v)).set j (some w)) H2) : tSeq (tPar i j (tCons ta (tCons tb tNil))) tz D σ H := h
theorem make_at {C : Addr} {sp : Sp} {E : XK} {t1 : TE} {σ : L2.St} {H : Hp} {Q : VK} (h : t1 σ H fun v H1 => tMake C sp [] E (tCons (tC v) tNil) σ H1 Q) : tMake C sp [] E (tCons t1 tNil) σ H Q := h
theorem grid_congr {m n : Nat} {f g : Nat → Nat → Int} {v : V} {H : Hp} (h : ∀ i, i < m → ∀ j, j < n → f i j = g i j) : Grid m n f v H → Grid m n g v H := fun ⟨p, ys, hv, hp, hl, hy⟩ => ⟨p, ys, hv, hp, hl, fun i y hi => by
  have hm : i < m := by have := (List.getElem?_eq_some_iff.mp hi).1; omega
  obtain ⟨p2, zs, h1, h2, h3, h4⟩ := hy i y hi
  refine ⟨p2, zs, h1, h2, h3, fun j z hj => ?_⟩
  have hn : j < n := by have := (List.getElem?_eq_some_iff.mp hj).1; omega
  show z = .int (g i j)
  rw [← h i hm j hn]
  exact h4 j z hj⟩
/-- every cell, by its number -/
def prsL (l r : Nat) : List (Nat × Nat) := (List.range (l * r)).map fun t => (t / r, t % r)
theorem prsL_mem {l r : Nat} {c : Nat × Nat} (h : c ∈ prsL l r) : c.1 < l ∧ c.2 < r := by
  obtain ⟨t, ht, rfl⟩ := List.mem_map.mp h
  have h1 := List.mem_range.mp ht
  have hr : 0 < r := by
    rcases Nat.eq_zero_or_pos r with h | h
    · rw [h, Nat.mul_zero] at h1; omega
    · exact h
  exact ⟨Nat.div_lt_of_lt_mul (by rw [Nat.mul_comm]; exact h1), Nat.mod_lt _ hr⟩
def PrN (c : Nat × Nat) : HP := Pr (c.1 : Int) (c.2 : Int)
theorem mono_prN : ∀ c, Mono (PrN c) := fun _ => mono_pr
section
variable {K : PySem.W.Frag} {σ : L2.St} {H : Hp} {ta tb te : TE} {a b l r : Nat} {E : XK} {CV CP : Addr}
theorem evp_inC {F : Nat → Nat → Bool} (hb : b < r) (ha' : a < l) (h1 : EvP ta σ H (Pr (a : Int) (b : Int))) (h2 : EvP tb σ H (Cs (accP F r l))) : EvP (tOp (rInD K) ta tb) σ H (Is (.bl (F a b))) :=
  evp_is (evp_op (S := Is (.bl ((accP F r l).any fun c => decide (c.1 = (a : Int)) && decide (c.2 = (b : Int))))) h1 h2 mono_pr fun x y H1 _ hx hy Q q => ⟨_, _, pr_dp hx, cs_dp hy, sh_pr, cs_sh, q _ H1 (Ex.refl _) (by rw [any_pr]; rfl)⟩) (by rw [accP_any hb l, decide_eq_true ha', Bool.true_and])
theorem evp_intB {x : Bool} (h : EvP te σ H (Is (.bl x))) : EvP (tCB rInt1 (tCons te tNil)) σ H (Is (.int (if x = true then 1 else 0))) := evp_cb (eap_one h) fun vs H1 ⟨y, e, hy⟩ Q q => .inr ⟨x, by rw [e, show y = .bl x from hy], q _ H1 (Ex.refl _) rfl⟩
theorem evp_cellsW {u : Wh} {t1 t2 t3 : TE} {EE : L2.St → XK} (hu : WhOk l r u) (hd : dimOk l r) (h1 : EvP t1 σ H (Is (.int (l : Int)))) (h2 : EvP t2 σ H (Is (.int (r : Int)))) (h3 : EvP t3 σ H (Wv u)) :
    EvP (tCallS (spCells CV CP) EE (tCons t1 (tCons t2 (tCons t3 tNil)))) σ H (Cs (accP (covW u) r l)) := fun H2 e2 Q q =>
  eap_three h1 h2 h3 mono_is mono_is H2 e2 (fun vs H3 => spCells CV CP vs H3 Q _) fun vs H3 e3 ⟨x1, x2, x3, hv, h1, h2, h3⟩ => by
    rw [hv, show x1 = _ from h1, show x2 = _ from h2]
    exact ⟨_, _, x3, .int (l : Int), .int (r : Int), rfl, .flat rfl, .flat rfl, (fun hb => by rw [isSz_nat hd.1.1 hd.1.2] at hb; cases hb), (fun _ hb => by rw [isSz_nat hd.2.1 hd.2.2] at hb; cases hb), fun _ _ => ⟨wD u, wv_va h3, (wh_okV hu).small, (fun hf => absurd ((show form (l : Int) (r : Int) (wD u) = false from hf).symm.trans (wh_form hu)) (by decide)), fun _ v H4 e4 hv => q v H4 (e3.trans e4) hv⟩⟩
theorem wx_rngN {ta : TA} {n m : Nat} (h : EvAP ta σ H (fun vs _ => vs = [.int (n : Int)])) (hn : n ≤ 100000) (hm : m = n) : WiX (iRng1 ta) σ H m (fun i x _ => x = .int (i : Int)) := fun H1 e R k =>
  h H1 e _ fun vs H2 e2 hv => by
    subst hv
    subst hm
    refine ⟨(m : Int), rfl, by omega, by omega, k _ H2 e2 fun i H3 e3 => ⟨fun hi => ?_, fun hi => ?_, fun hi x H' y => ?_⟩⟩
    · show i < (m : Int).toNat
      simpa using hi
    · show (m : Int).toNat ≤ i
      simpa using hi
    · obtain ⟨rfl, rfl⟩ := y
      exact ⟨Ex.refl _, by rw [Int.zero_add]⟩
theorem evp_tsC {ta' : TA} {xs : List V} (h : EvA ta' σ H xs) (hl : xs.length ≤ 100000) : EvP (tTup ta') σ H (Ts xs) := evp_ofU (eu_tup h hl)
theorem evp_rightC : EvP (tTup (tCons (tC (.str "right")) (tCons (tTup (tCons (tC (.int 7)) tNil)) tNil))) σ H (Wv (.right [7])) := fun H1 e Q q =>
  eap_two (P := Is (.str "right")) (R := Ts [.int 7]) evp_c (evp_tsC (ea_cons ev_c ea_nil) (by decide)) mono_is H1 e _ fun vs H2 e2 ⟨a, b, hv, ha, ⟨t, hb, ht⟩⟩ => by
    rw [hv, show a = _ from ha, hb]
    exact ⟨sz_of (show 2 ≤ 100000 by decide), fun p hp => q _ _ (e2.trans (Ex.new hp)) ⟨t, ⟨p, rfl, upd_same⟩, Ex.new hp _ _ ht⟩⟩
theorem evp_pw : EvP (tOp (rI CPow fun i j => .int (i ^ j.toNat)) (tC (.int 10)) (tC (.int 29))) σ H (Is (.int (10 ^ 29))) := evp_is (evp_I (C := CPow) (g := fun i j => .int (i ^ j.toNat)) evp_c evp_c ⟨by decide, by decide, by decide⟩) rfl
theorem evp_neg {i : Int} (h : EvP te σ H (Is (.int i))) : EvP (tUn (rU fun i => .int (-i)) te) σ H (Is (.int (-i))) := evp_of (ev_un h.ev ru_neg)
theorem evp_gridC {m n : Nat} {F : Nat → Nat → Int} {f : Nat → Int} (hF : ∀ i j, F i j = f j) (h : EvP te σ H (TupP m fun _ => Row n f)) : EvP te σ H (Grid m n F) := h.imp fun v H1 _ hv => grid_congr (f := fun _ j => f j) (fun i _ j _ => (hF i j).symm) hv
theorem wg7 : ∀ i, i < 8 → ∀ j, j < 8 → wgF (.right [7]) i j = if j < 7 then 0 else 1 := by decide +kernel
theorem ok7 : WhOk ((8 : Nat) : Int) ((8 : Nat) : Int) (.right [7]) := ⟨by simp, by simp, by simp, by decide⟩
theorem evp_row0 {i : Nat} {m n : Nat} {f : Nat → Nat → Int} (hi : i < m) (h : EvP ta σ H (Grid m n f)) (hb : EvP tb σ H (Is (.int (i : Int)))) : EvP (tOp (rIxT K) ta tb) σ H (Row n (f i)) := evp_ixT (K := K) (Pi := fun i => TupP n fun j => Is (.int (f i j))) h hb hi fun _ => mf_row
end
section
variable {P : Program} {w : World} {K : PySem.W.Frag} {mg : Str → Option Value} {base : Heap} {tk : Tok} {k : Nat} {CT CQ fT fQ CV CP : Addr}
set_option maxHeartbeats 32000000 in
theorem ok_law {fa f1 f2 f3 f4 f5 f6 f7 q1 q2 q3 g1 g2 g3 gc gt gw gb ga gq pa pb tt : Addr} {mc : Value} {fd d1 d2 d3 d4 d5 d6 d7 dT dQ e1 e2 e3 dc dt dw dq dtt : FuncData} (T : Txt mg tk) (BT : Kl K mg "Table" CT fT "_counts") (BQ : Kl K mg "Question" CQ fQ "_weights") (tq : Tp K CQ) (aqt : Apart K CQ (.type "tuple")) (aqT : Apart K CQ (.ref CT))
    (D__law_draw : Df K mg "_law_draw" s_law_draw ["_law_state", "_law_many"] f1 d1) (G__law_draw : FnOk P w K mg base CX0 (k + 1) f1 d1 ["_law_state", "_law_many"] spDraw)
    (D__law_pool : Df K mg "_law_pool" s_law_pool ["_law_cell", "_law_salt", "_law_many"] f2 d2) (G__law_pool : FnOk P w K mg base CX0 (k + 2) f2 d2 ["_law_cell", "_law_salt", "_law_many"] spPool)
    (D__law_wheres : Df K mg "_law_wheres" s_law_wheres ["_law_state", "_law_left", "_law_right"] f3 d3) (G__law_wheres : FnOk P w K mg base CX0 (k + 12) f3 d3 ["_law_state", "_law_left", "_law_right"] spWheres)
    (D__law_counts : Df K mg "_law_counts" s_law_counts ["_law_state", "_law_left", "_law_right", "_law_most"] f4 d4) (G__law_counts : FnOk P w K mg base CX0 (k + 2) f4 d4 ["_law_state", "_law_left", "_law_right", "_law_most"] spGC)
    (D__law_weights : Df K mg "_law_weights" s_law_weights ["_law_state", "_law_left", "_law_right"] f5 d5) (G__law_weights : FnOk P w K mg base CX0 (k + 2) f5 d5 ["_law_state", "_law_left", "_law_right"] spGW)
    (D__law_by_rows : Df K mg "_law_by_rows" s_law_by_rows ["_law_weights_here", "_law_table"] f6 d6) (G__law_by_rows : FnOk P w K mg base CX0 (k + 8) f6 d6 ["_law_weights_here", "_law_table"] (spByRows CT))
    (D_cells : Df K mg "cells" s_cells ["left", "right", "where"] f7 d7) (G_cells : FnOk P w K mg base (L2.CX P w) (k + 7) f7 d7 ["left", "right", "where"] (spCells CV CP))
    (M_Tinit : Mf K "__init__" "Table.__init__" s_Table_init ["self", "counts"] fT dT) (G_Tinit : FnOk P w K mg base CX0 (k + 5) fT dT ["self", "counts"] (spInit CT "_counts" (fun f => ∀ i j, 0 ≤ f i j)))
    (M_Qinit : Mf K "__init__" "Question.__init__" s_Question_init ["self", "weights"] fQ dQ) (G_Qinit : FnOk P w K mg base CX0 (k + 5) fQ dQ ["self", "weights"] (spInit CQ "_weights" (fun _ => True)))
    (P_Qweights : Pf K CQ "weights" "Question.weights" s_Question_weights q1 g1 e1) (G_Qweights : FnOk P w K mg base CX0 (k + 1) g1 e1 ["self"] (spGet CQ "_weights"))
    (P_Qleft : Pf K CQ "left" "Question.left" s_Question_left q2 g2 e2) (G_Qleft : FnOk P w K mg base CX0 (k + 1) g2 e2 ["self"] (spLeft CQ "_weights"))
    (P_Qright : Pf K CQ "right" "Question.right" s_Question_right q3 g3 e3) (G_Qright : FnOk P w K mg base CX0 (k + 1) g3 e3 ["self"] (spRight CQ "_weights"))
    (CO : StX.CallO K CQ gc) (G_call : FnOk P w K mg base CX0 (k + 6) gc dc ["self", "table"] (spCallQ CQ CT)) (b_call : Binds K dc ["self", "table"] [])
    (W_Qturned : Meth K CQ "turned" gt) (G_Qturned : FnOk P w K mg base CX0 (k + 7) gt dt ["self"] (spQTurned CQ)) (b_Qturned : Binds K dt ["self"] [])
    (W_Tturned : Meth K CT "turned" tt) (G_Tturned : FnOk P w K mg base CX0 (k + 7) tt dtt ["self"] (spTTurned CT)) (b_Tturned : Binds K dtt ["self"] [])
    (W_weight : Meth K CQ "weight" gw) (G_weight : FnOk P w K mg base CX0 (k + 5) gw dw ["self", "left", "right"] (spWeight CQ)) (b_weight : Binds K dw ["self", "left", "right"] [])
    (R_Q : ClX.CRead K CQ mc) (C_at : ClX.CMet K CQ mc "at" pa ga) (G_at : FnR P w K mg base CX0 (k + 7) ga (spAt CQ)) (C_between : ClX.CMet K CQ mc "between" pb gb) (G_between : FnR P w K mg base CX0 (k + 7) gb (spBtw CQ))
    (G_Qeq : FnOk P w K mg base CX0 (k + 1) gq dq ["self", "other"] (spEqT K CQ "_weights")) (a_eq : PySem.W.findIn K (.ref CQ) "__eq__" = some (some (.ref gq))) (i_eq : PySem.W.isFn K (.ref gq) = true) (b_eq : Binds K dq ["self", "other"] []) (NT : OwC.NeTxt K CQ gq)
    (D : Df K mg "law" s_law ["_law_script"] fa fd) : FnOk P w K mg base CX0 (k + 14) fa fd ["_law_script"] (spLaw K) := by
  refine D.F.ok sc_law (fun vs H Q E hh => ?_) (fun cdv A outer s0 H vs Q E hr hh => ?_)
  · obtain ⟨a0, ns, rfl, _⟩ := hh
    rfl
  · obtain ⟨a0, ns, rfl, hS, hlen, q⟩ := hh
    have nd := sc_law.nd
    refine ⟨_, (pss_cons (ps_for PassesOwn.never rfl (pi_enum (by rfl) T.n_enumerate (pa_cons (pe_op op_cat (pe_slice (r := rSlL K) sl_list (pv 0) po_none (po_some pe_int)) (pe_op op_rep (pe_lst (pa_cons pe_int pa_nil)) (pe_callTy call_int1 (by rfl) T.n_int PyProof.Rows.boot_int (pa_cons (pe_cmpR (r := rEqD K) (op_eqD hr.units) (pv 0) (pe_lst pa_nil) (nomark _)) pa_nil)))) pa_nil)) (pg_tup rfl (pgs_cons (pg_name (i := 1) nd rfl (Or.inl rfl)) (pgs_cons (pg_name (i := 2) nd rfl (Or.inl rfl)) pgs_nil))) (pss_cons (ps_set (i := 3) nd rfl (Or.inl rfl) (pe_call G__law_pool (hr.mono (by omega)) (by rfl) D__law_pool.g D__law_pool.F.kp D__law_pool.b .nil pass0 (pa_cons (pv 2) (pa_cons (pe_op op_add pe_int (pv 1)) (pa_cons pe_int pa_nil))))) (pss_cons (ps_for PassesOwn.never rfl (pi_range1 (by rfl) T.n_range (pa_cons pe_int pa_nil)) (pg_name (i := 4) nd rfl (Or.inl rfl)) (pss_cons (ps_asg (pe_tup (pa_cons (pe_op op_add pe_int (pe_call G__law_draw (hr.mono (by omega)) (by rfl) D__law_draw.g D__law_draw.F.kp D__law_draw.b .nil pass0 (pa_cons (pv 3) (pa_cons pe_int pa_nil)))) (pa_cons (pe_op op_add pe_int (pe_call G__law_draw (hr.mono (by omega)) (by rfl) D__law_draw.g D__law_draw.F.kp D__law_draw.b .nil pass0 (pa_cons (pv 3) (pa_cons pe_int pa_nil)))) pa_nil))) (pg_tup rfl (pgs_cons (pg_name (i := 10) nd rfl (Or.inl rfl)) (pgs_cons (pg_name (i := 11) nd rfl (Or.inr rfl)) pgs_nil)))) (pss_cons (ps_par (i := 12) (j := 13) rfl nd rfl rfl (by decide) rfl rfl (pa_cons (pe_make BT.mkc G_Tinit (hr.mono (by omega)) (by rfl) BT.gC M_Tinit.b .nil pass0 (pa_cons (pe_call G__law_counts (hr.mono (by omega)) (by rfl) D__law_counts.g D__law_counts.F.kp D__law_counts.b .nil pass0 (pa_cons (pv 3) (pa_cons (pv 10) (pa_cons (pv 11) (pa_cons pe_int pa_nil))))) pa_nil)) (pa_cons (pe_call G__law_weights (hr.mono (by omega)) (by rfl) D__law_weights.g D__law_weights.F.kp D__law_weights.b .nil pass0 (pa_cons (pv 3) (pa_cons (pv 10) (pa_cons (pv 11) pa_nil)))) pa_nil)) rfl) (pss_cons (ps_set (i := 6) nd rfl (Or.inl rfl) (pe_make BQ.mkc G_Qinit (hr.mono (by omega)) (by rfl) BQ.gC M_Qinit.b .nil pass0 (pa_cons (pv 13) pa_nil))) (pss_cons (ps_if (pt_cmpR (r := rNeD K) (op_neD hr.units) (pe_tup (pa_cons (pe_prop (pv 6) BQ.cl P_Qweights.hp G_Qweights (hr.mono (by omega)) P_Qweights.b .nil pass0 rfl) (pa_cons (pe_prop (pv 6) BQ.cl P_Qleft.hp G_Qleft (hr.mono (by omega)) P_Qleft.b .nil pass0 rfl) (pa_cons (pe_prop (pv 6) BQ.cl P_Qright.hp G_Qright (hr.mono (by omega)) P_Qright.b .nil pass0 rfl) pa_nil)))) (pe_tup (pa_cons (pv 13) (pa_cons (pv 10) (pa_cons (pv 11) pa_nil)))) (nomark _)) (pss_one (ps_ret pe_bl)) pss_nil) (pss_cons (ps_if (PW.pt (pw_or (pt_cmpR op_ne (OwC.pe_callOE (E := fun _ => E0) (pv 6) CO G_call (hr.mono (by omega)) b_call passA0 (pa_cons (pv 12) pa_nil)) (pe_call G__law_by_rows (hr.mono (by omega)) (by rfl) D__law_by_rows.g D__law_by_rows.F.kp D__law_by_rows.b .nil pass0 (pa_cons (pv 13) (pa_cons (pv 12) pa_nil))) (nomark _)) (pw_or1 (pt_cmpR op_ne (OwC.pe_callOE (E := fun _ => E0) (pe_meth0 (E := E0) (pv 6) BQ.cl W_Qturned G_Qturned (hr.mono (by omega)) b_Qturned .nil pass0) CO G_call (hr.mono (by omega)) b_call passA0 (pa_cons (pe_meth0 (E := E0) (pv 12) BT.cl W_Tturned G_Tturned (hr.mono (by omega)) b_Tturned .nil pass0) pa_nil)) (OwC.pe_callOE (E := fun _ => E0) (pv 6) CO G_call (hr.mono (by omega)) b_call passA0 (pa_cons (pv 12) pa_nil)) (nomark _))))) (pss_one (ps_ret pe_bl)) pss_nil) (pss_cons (ps_set (i := 7) nd rfl (Or.inr rfl) (ClX.pe_cmeth (E := E0) (pe_glob (v := .ref CQ) rfl BQ.gC rfl) R_Q C_at G_at (hr.mono (by omega)) pass0 (pa_cons (pv 10) (pa_cons (pv 11) (pa_cons (pe_tup (pa_cons pe_str pa_nil)) pa_nil))))) (pss_cons (ps_for PassesOwn.never rfl (pi_list (pe_call G__law_wheres (hr.mono (by omega)) (by rfl) D__law_wheres.g D__law_wheres.F.kp D__law_wheres.b .nil pass0 (pa_cons (pv 3) (pa_cons (pv 10) (pa_cons (pv 11) pa_nil))))) (pg_name (i := 8) nd rfl (Or.inl rfl)) (pss_cons (ps_asg (pe_tup (pa_cons (ClX.pe_cmeth (E := E0) (pe_glob (v := .ref CQ) rfl BQ.gC rfl) R_Q C_at G_at (hr.mono (by omega)) pass0 (pa_cons (pv 10) (pa_cons (pv 11) (pa_cons (pv 8) pa_nil)))) (pa_cons (pe_callS G_cells (hr.mono (by omega)) (by rfl) D_cells.g D_cells.F.kp D_cells.b (fun σ => passAt (W := fun _ _ _ _ => False) takes0 σ) (pa_cons (pv 10) (pa_cons (pv 11) (pa_cons (pv 8) pa_nil)))) pa_nil))) (pg_tup rfl (pgs_cons (pg_name (i := 7) nd rfl (Or.inr rfl)) (pgs_cons (pg_name (i := 17) nd rfl (Or.inr rfl)) pgs_nil)))) (pss_cons (ps_setLc (i := 14) (wi := iRng1 _) (g := gName 18) (own := [("_law_at", 18)]) (by rfl) nd rfl rfl (by rfl) (pi_range1 (by rfl) T.n_range (pa_cons (pe_op op_mul (pv 10) (pv 11)) pa_nil)) (blkOk_by (by kernel_rfl)) (fun _ _ _ _ _ => (pg_name (i := 18) nd rfl (Or.inl rfl))) (fun _ _ _ _ _ => pts_nil) (fun _ _ _ _ _ => (pe_tup (pa_cons (pe_op op_fdivN (pe_callTy call_int1 (by rfl) T.n_int PyProof.Rows.boot_int (pa_cons (pv 18) pa_nil)) (pv 11)) (pa_cons (pe_op op_modN (pe_callTy call_int1 (by rfl) T.n_int PyProof.Rows.boot_int (pa_cons (pv 18) pa_nil)) (pv 11)) pa_nil))))) (pss_one (ps_if (pt_cmpR (r := rNeD K) (op_neD hr.units) (pe_lc (wi := iList K _) (g := gName 20) (own := [("_law_pair", 20)]) (by rfl) nd (pi_list (pv 14)) (blkOk_by (by kernel_rfl)) (fun _ _ _ _ _ => (pg_name (i := 20) nd rfl (Or.inl rfl))) (fun _ _ _ _ _ => pts_nil) (fun _ _ _ _ _ => (pe_meth (E := E0) (pv 7) BQ.cl W_weight G_weight (hr.mono (by omega)) b_weight .nil pass0 (pa_cons (pe_ix (r := rIxT K) ix_tup (pv 20) pe_int (fun _ _ => rfl)) (pa_cons (pe_ix (r := rIxT K) ix_tup (pv 20) pe_int (fun _ _ => rfl)) pa_nil))))) (pe_lc (wi := iList K _) (g := gName 20) (own := [("_law_pair", 20)]) (by rfl) nd (pi_list (pv 14)) (blkOk_by (by kernel_rfl)) (fun _ _ _ _ _ => (pg_name (i := 20) nd rfl (Or.inl rfl))) (fun _ _ _ _ _ => pts_nil) (fun _ _ _ _ _ => (pe_callTy call_int1 (by rfl) T.n_int PyProof.Rows.boot_int (pa_cons (pe_cmpR (r := rInD K) (op_inD (u65 hr)) (pv 20) (pv 17) (by rfl)) pa_nil)))) (nomark _)) (pss_one (ps_ret pe_bl)) pss_nil))))) (pss_cons (ps_asg (pe_tup (pa_cons (pe_ix (r := rIxT K) ix_tup (pv 13) pe_int (fun _ _ => rfl)) (pa_cons (pe_callTy (r := rTupQ K) call_tuple_of (by rfl) T.n_tuple PyProof.Rows.boot_tuple (pa_cons (pe_lc (wi := iTup K _) (g := gName 21) (own := [("_law_row", 21)]) (by rfl) nd (pi_tup (pv 13)) (blkOk_by (by kernel_rfl)) (fun _ _ _ _ _ => (pg_name (i := 21) nd rfl (Or.inl rfl))) (fun _ _ _ _ _ => pts_nil) (fun _ _ _ _ _ => (pe_ix (r := rIxT K) ix_tup (pv 21) pe_int (fun _ _ => rfl)))) pa_nil)) pa_nil))) (pg_tup rfl (pgs_cons (pg_name (i := 15) nd rfl (Or.inr rfl)) (pgs_cons (pg_name (i := 16) nd rfl (Or.inl rfl)) pgs_nil)))) (pss_cons (ps_set (i := 9) nd rfl (Or.inl rfl) (pe_callTy (r := rTupQ K) call_tuple_of (by rfl) T.n_tuple PyProof.Rows.boot_tuple (pa_cons (pe_lc (wi := iTup K _) (g := gName 19) (own := [("_law_one", 19)]) (by rfl) nd (pi_tup (pv 16)) (blkOk_by (by kernel_rfl)) (fun _ _ _ _ _ => (pg_name (i := 19) nd rfl (Or.inr rfl))) (fun _ _ _ _ _ => pts_nil) (fun _ _ _ _ _ => (pe_callTy (r := rTupQ K) call_tuple_of (by rfl) T.n_tuple PyProof.Rows.boot_tuple (pa_cons (pe_lc (wi := iTup K _) (g := gName 22) (own := [("_law_other", 22)]) (by rfl) nd (pi_tup (pv 15)) (blkOk_by (by kernel_rfl)) (fun _ _ _ _ _ => (pg_name (i := 22) nd rfl (Or.inl rfl))) (fun _ _ _ _ _ => pts_nil) (fun _ _ _ _ _ => (pe_op op_mul (pv 19) (pv 22)))) pa_nil)))) pa_nil))) (pss_cons (ps_if (PW.pt (pw_or (pt_cmpR (r := rNeD K) (op_neD hr.units) (pe_prop (ClX.pe_cmeth (E := E0) (pe_glob (v := .ref CQ) rfl BQ.gC rfl) R_Q C_between G_between (hr.mono (by omega)) pass0 (pa_cons (pv 16) (pa_cons (pv 15) pa_nil))) BQ.cl P_Qweights.hp G_Qweights (hr.mono (by omega)) P_Qweights.b .nil pass0 rfl) (pv 9) (nomark _)) (pw_or1 (pt_cmpR (r := OwC.rOwnNe CQ (spEqT K CQ "_weights") E0) (OwC.op_ownNe G_Qeq NT b_eq (hr.mono (by omega)) pass0) (ClX.pe_cmeth (E := E0) (pe_glob (v := .ref CQ) rfl BQ.gC rfl) R_Q C_between G_between (hr.mono (by omega)) pass0 (pa_cons (pv 16) (pa_cons (pv 15) pa_nil))) (pe_make BQ.mkc G_Qinit (hr.mono (by omega)) (by rfl) BQ.gC M_Qinit.b .nil pass0 (pa_cons (pv 9) pa_nil)) (nomark _))))) (pss_one (ps_ret pe_bl)) pss_nil) (pss_cons (ps_if (PW.pt (pw_or (pt_cmpR (r := OwC.rOwnNe CQ (spEqT K CQ "_weights") E0) (OwC.op_ownNe G_Qeq NT b_eq (hr.mono (by omega)) pass0) (pe_meth0 (E := E0) (pe_meth0 (E := E0) (pv 6) BQ.cl W_Qturned G_Qturned (hr.mono (by omega)) b_Qturned .nil pass0) BQ.cl W_Qturned G_Qturned (hr.mono (by omega)) b_Qturned .nil pass0) (pv 6) (nomark _)) (pw_or1 (pt_cmpR (r := rNeD K) (op_neD hr.units) (pe_ix (r := rIxT K) ix_tup (pe_prop (pe_meth0 (E := E0) (pv 6) BQ.cl W_Qturned G_Qturned (hr.mono (by omega)) b_Qturned .nil pass0) BQ.cl P_Qweights.hp G_Qweights (hr.mono (by omega)) P_Qweights.b .nil pass0 rfl) pe_int (fun _ _ => rfl)) (pv 16) (nomark _))))) (pss_one (ps_ret pe_bl)) pss_nil) (pss_one (ps_if (PW.pt (pw_or (pt_cmpR (r := OwC.rOwnEqX K CQ (spEqT K CQ "_weights") E0) (OwC.op_ownEqX G_Qeq a_eq i_eq b_eq (hr.mono (by omega)) pass0) (pv 6) (pv 13) (nomark _)) (pw_or (pt_cmpR (r := OwC.rOwnEqX K CQ (spEqT K CQ "_weights") E0) (OwC.op_ownEqX G_Qeq a_eq i_eq b_eq (hr.mono (by omega)) pass0) (pv 6) (pv 12) (nomark _)) (pw_or1 (pt_cmpR (r := OwC.rOwnNe CQ (spEqT K CQ "_weights") E0) (OwC.op_ownNe G_Qeq NT b_eq (hr.mono (by omega)) pass0) (pe_make BQ.mkc G_Qinit (hr.mono (by omega)) (by rfl) BQ.gC M_Qinit.b .nil pass0 (pa_cons (pe_prop (pv 7) BQ.cl P_Qweights.hp G_Qweights (hr.mono (by omega)) P_Qweights.b .nil pass0 rfl) pa_nil)) (pv 7) (nomark _)))))) (pss_one (ps_ret pe_bl)) pss_nil)))))))))))))) (pss_cons (ps_set (i := 5) nd rfl (Or.inl rfl) (ClX.pe_cmeth (E := E0) (pe_glob (v := .ref CQ) rfl BQ.gC rfl) R_Q C_between G_between (hr.mono (by omega)) pass0 (pa_cons (pe_op op_repT (pe_tup (pa_cons (pe_op op_pow pe_int pe_int) pa_nil)) pe_int) (pa_cons (pe_op op_catT (pe_op op_repT (pe_tup (pa_cons pe_int pa_nil)) pe_int) (pe_tup (pa_cons (pe_un un_neg pe_int) pa_nil))) pa_nil)))) (pss_cons (ps_if (pt_cmpR (r := rNeD K) (op_neD hr.units) (pe_prop (pv 5) BQ.cl P_Qweights.hp G_Qweights (hr.mono (by omega)) P_Qweights.b .nil pass0 rfl) (pe_op op_repT (pe_tup (pa_cons (pe_op op_catT (pe_op op_repT (pe_tup (pa_cons (pe_op op_pow pe_int pe_int) pa_nil)) pe_int) (pe_tup (pa_cons (pe_op op_mul (pe_un un_neg pe_int) (pe_op op_pow pe_int pe_int)) pa_nil))) pa_nil)) pe_int) (nomark _)) (pss_one (ps_ret pe_bl)) pss_nil) (pss_one (ps_if (pt_cmpR (r := rNeD K) (op_neD hr.units) (pe_prop (ClX.pe_cmeth (E := E0) (pe_glob (v := .ref CQ) rfl BQ.gC rfl) R_Q C_at G_at (hr.mono (by omega)) pass0 (pa_cons pe_int (pa_cons pe_int (pa_cons (pe_tup (pa_cons pe_str (pa_cons (pe_tup (pa_cons pe_int pa_nil)) pa_nil))) pa_nil)))) BQ.cl P_Qweights.hp G_Qweights (hr.mono (by omega)) P_Qweights.b .nil pass0 rfl) (pe_op op_repT (pe_tup (pa_cons (pe_op op_catT (pe_op op_repT (pe_tup (pa_cons pe_int pa_nil)) pe_int) (pe_tup (pa_cons pe_int pa_nil))) pa_nil)) pe_int) (nomark _)) (pss_one (ps_ret pe_bl)) pss_nil))))))) (pss_one (ps_ret pe_bl))), ?_⟩
    -- the list that is walked
    refine ⟨.ref a0, rfl, 6, rfl, a0, _, rfl, hS, fun p1 hp1 => ?_⟩
    have e1 : Evl.Ex H (upd H p1 (.lst (cutV (ns.map V.int) none (some 6)))) := Ex.new hp1
    have l1 : (upd H p1 (.lst (cutV (ns.map V.int) none (some 6)))) p1 = some (.lst (cutV (ns.map V.int) none (some 6))) := upd_same
    generalize upd H p1 (.lst (cutV (ns.map V.int) none (some 6))) = H1 at e1 l1
    refine ⟨by decide, fun p2 hp2 => ?_⟩
    have e2 : Evl.Ex H1 (upd H1 p2 (.lst [.int 7])) := Ex.new hp2
    have l2 : (upd H1 p2 (.lst [.int 7])) p2 = some (.lst [.int 7]) := upd_same
    generalize upd H1 p2 (.lst [.int 7]) = H2 at e2 l2
    refine ⟨.ref a0, rfl, by decide, fun p3 hp3 => ?_⟩
    have e3 : Evl.Ex H2 (upd H2 p3 (.lst [])) := Ex.new hp3
    have l3 : (upd H2 p3 (.lst [])) p3 = some (.lst []) := upd_same
    generalize upd H2 p3 (.lst []) = H3 at e3 l3
    refine ⟨.list (ns.map PyData.int), .list [], .lst (ex_l ((e1.trans e2).trans e3) hS) (dpAll_int2 ns), .lst (sq_of l3) .nil, shaped_int2 ns, rfl, ?_⟩
    generalize PyData.eqv (.list (ns.map PyData.int)) (.list []) = bb
    refine .inr ⟨bb, rfl, p2, _, [.int 7], rfl, rfl, e3 _ _ l2, by cases bb <;> decide, by cases bb <;> decide, by cases bb <;> decide, fun p4 hp4 => ?_⟩
    have l4 : (upd H3 p4 (.lst (List.replicate (Int.toNat (if bb = true then 1 else 0)) [V.int 7]).flatten)) p4 = some (.lst (List.replicate (Int.toNat (if bb = true then 1 else 0)) [V.int 7]).flatten) := upd_same
    have e4 : Evl.Ex H3 (upd H3 p4 (.lst (List.replicate (Int.toNat (if bb = true then 1 else 0)) [V.int 7]).flatten)) := Ex.new hp4
    have hz4 : ∀ x ∈ (List.replicate (Int.toNat (if bb = true then 1 else 0)) [V.int 7]).flatten, ∃ c : Int, x = .int c := fun x hx => by
      cases bb <;> simp at hx; exact ⟨7, hx⟩
    have hl4 : (List.replicate (Int.toNat (if bb = true then 1 else 0)) [V.int 7]).flatten.length ≤ 1 := by cases bb <;> decide
    generalize (List.replicate (Int.toNat (if bb = true then 1 else 0)) [V.int 7]).flatten = zs4 at l4 e4 hz4 hl4
    generalize upd H3 p4 (.lst zs4) = H4 at l4 e4
    have hz1 : ∀ x ∈ cutV (ns.map V.int) none (some 6), ∃ c : Int, x = .int c := fun x hx => by
      have := List.mem_of_mem_drop (List.mem_of_mem_take hx)
      obtain ⟨c, _, e⟩ := List.mem_map.mp this
      exact ⟨c, e.symm⟩
    have hl1 : (cutV (ns.map V.int) none (some 6)).length ≤ 63 := by
      unfold cutV
      simp only [List.length_take, List.length_drop, List.length_map]
      omega
    generalize cutV (ns.map V.int) none (some 6) = zs1 at hz1 hl1 l1
    refine ⟨p1, p4, zs1, zs4, rfl, rfl, ((e2.trans e3).trans e4) _ _ l1, l4, sz_of (by omega), fun p5 hp5 => ?_⟩
    have l5 : (upd H4 p5 (.lst (zs1 ++ zs4))) p5 = some (.lst (zs1 ++ zs4)) := upd_same
    have hz5 : ∀ x ∈ zs1 ++ zs4, ∃ c : Int, x = .int c := fun x hx => (List.mem_append.mp hx).elim (hz1 x) (hz4 x)
    have hl5 : (zs1 ++ zs4).length ≤ 64 := by rw [List.length_append]; omega
    generalize zs1 ++ zs4 = zs at l5 hz5 hl5
    generalize upd H4 p5 (.lst zs) = H5 at l5
    refine ⟨p5, zs, rfl, sq_of l5, ?_⟩
    refine for_enum (fun i σ H' => ∃ s1 s2 s3 s4 s5 s6 s7 s8 s9 s10 s11 s12 s13 s14 s15 s16 s17, σ = [some (.ref a0), s1, s2, s3, s4, s5, s6, s7, s8, s9, s10, s11, s12, s13, s14, s15, s16, s17, none, none, none, none, none] ∧ H' p5 = some (.lst zs)) ⟨_, _, _, _, _, _, _, _, _, _, _, _, _, _, _, _, _, rfl, l5⟩ (fun i σ H' ⟨_, _, _, _, _, _, _, _, _, _, _, _, _, _, _, _, _, _, hl⟩ => sq_of hl) (fun i x T σ H' hx ⟨s1, s2, s3, s4, s5, s6, s7, s8, s9, s10, s11, s12, s13, s14, s15, s16, s17, hs, hl⟩ hT => ?_) (fun σ H' _ => q H')
    obtain ⟨c, rfl⟩ := hz5 x (List.mem_of_getElem? hx)
    subst hs
    have hi : i < 64 := by have := (List.getElem?_eq_some_iff.mp hx).1; omega
    have hTl : (upd H' T (.tup [.int (i : Int), .int c])) p5 = some (.lst zs) := Ex.new hT _ _ hl
    have hTT : (upd H' T (.tup [.int (i : Int), .int c])) T = some (.tup [.int (i : Int), .int c]) := upd_same
    generalize upd H' T (.tup [.int (i : Int), .int c]) = H6 at hTl hTT
    refine ⟨T, _, rfl, st_of hTT, rfl, _, _, rfl, _, _, rfl, rfl, ?_⟩
    -- the state
    refine ⟨_, rfl, _, rfl, 2500, (i : Int), rfl, rfl, c, 2500 + (i : Int), 320, rfl, ⟨by omega, by omega⟩, by decide, fun s H7 e7 hs0 ⟨p, xs, d7⟩ => ?_⟩
    have hps : p5 ≠ s := fun z => by rw [← z, hTl] at hs0; cases hs0
    have l7 := e7 _ _ hTl
    clear hT hTT hx hl hTl hs0
    refine q_forR1 (n := 4) (ea_cons ev_c ea_nil) (by decide) (fun j σ H' => ∃ s4 s5 s6 s7 s8 s9 s10 s11 s12 s13 s14 s15 s16 s17, σ = [some (.ref a0), some (.int (i : Int)), some (.int c), some (.ref s), s4, s5, s6, s7, s8, s9, s10, s11, s12, s13, s14, s15, s16, s17, none, none, none, none, none] ∧ Dr s p xs H' ∧ H' p5 = some (.lst zs))
      (fun H8 e8 => ⟨_, _, _, _, _, _, _, _, _, _, _, _, _, _, rfl, d7.ex e8, e8 _ _ l7⟩) (fun j σ H8 hj ⟨s4, s5, s6, s7, s8, s9, s10, s11, s12, s13, s14, s15, s16, s17, hs, d8, l8⟩ => ?_) (fun σ H8 ⟨s4, s5, s6, s7, s8, s9, s10, s11, s12, s13, s14, s15, s16, s17, hs, d8, l8⟩ => ?_)
    · subst hs
      -- the sizes
      refine q_asgG (tup2 (opD (draw_i (i := 3) (p := p) (xs := xs) (m := 5) rfl evp_c (by decide) d8 fun a H9 g9 d9 ha0 ha5 => ⟨1, a, rfl, rfl, opD (draw_i (i := 3) (p := p) (xs := xs) (m := 5) rfl evp_c (by decide) d9 fun b H10 g10 d10 hb0 hb5 => ⟨1, b, rfl, rfl, by show 2 ≤ sizeLine; decide, fun t ht => ?_⟩)⟩)))
      obtain ⟨l, hl⟩ : ∃ l : Nat, (1 + a : Int) = l := ⟨(1 + a).toNat, by omega⟩
      obtain ⟨r, hr0⟩ : ∃ r : Nat, (1 + b : Int) = r := ⟨(1 + b).toNat, by omega⟩
      have hl15 : 1 ≤ l ∧ l ≤ 5 := by omega
      have hr15 : 1 ≤ r ∧ r ≤ 5 := by omega
      have hd : dimOk l r := ⟨by omega, by omega⟩
      have hd' : dimOk r l := ⟨by omega, by omega⟩
      dsimp only
      rw [hl, hr0]
      have l10 := g10 _ _ hps (g9 _ _ hps l8)
      have e11 : Evl.Ex H10 (upd H10 t (.tup [.int (l : Int), .int (r : Int)])) := Ex.new ht
      have t11 : (upd H10 t (.tup [.int (l : Int), .int (r : Int)])) t = some (.tup [.int (l : Int), .int (r : Int)]) := upd_same
      generalize upd H10 t (.tup [.int (l : Int), .int (r : Int)]) = H11 at e11 t11
      have d11 := d10.ex e11
      have l11 := e11 _ _ l10
      clear g9 d9 g10 d10 l8 d8 l10 hl hr0 ha0 ha5 hb0 hb5 e11 ht
      refine ⟨t, _, rfl, st_of t11, rfl, _, _, rfl, _, _, rfl, rfl, ?_⟩
      clear t11
      simp only [List.set_cons_zero, List.set_cons_succ]
      -- the table and the weights
      refine q_parD (make_at (show tCall spGC [] E0 _ _ H11 _ from ⟨.ref s, rfl, .int (l : Int), rfl, .int (r : Int), rfl, s, p, xs, l, r, 3, rfl, d11, ⟨by omega, by omega⟩, by decide, fun x12 H12 g12 d12 ⟨g, hg, hgb⟩ => ?_⟩))
      have l12 := g12 _ _ hps l11
      clear g12 d11 l11
      have hg0 : ∀ i j, 0 ≤ g i j := fun i j => (hgb i j).1
      have hgB : ∀ i j, Bd (g i j) := fun i j => by have := hgb i j; exact ⟨by omega, by omega⟩
      have hg100 : ∀ i j, 0 ≤ g i j ∧ g i j ≤ 100 := fun i j => by have := hgb i j; omega
      refine evp_make (C := CT) (fld := "_counts") (E := E0) (ok := fun f => ∀ i j, 0 ≤ f i j) (eap_one (evp_c.imp fun v H2 e2 ev => by rw [show v = x12 from ev]; exact mf_grid.mono _ _ _ e2 hg)) hd hg0 H12 (Ex.refl _) _ fun v12 H13 e13 h12 => ?_
      have d13 := d12.ex e13
      have l13 := e13 _ _ l12
      clear d12 l12 hg e13
      refine (show tCall spGW [] E0 _ _ H13 _ from ⟨.ref s, rfl, .int (l : Int), rfl, .int (r : Int), rfl, s, p, xs, l, r, rfl, d13, ⟨by omega, by omega⟩, fun v13 H14 g14 d14 ⟨f, hf, hfb⟩ => ⟨v12, v13, rfl, ?_⟩⟩)
      have l14 := g14 _ _ hps l13
      have h12 := mf_ins _ _ _ (Gs.fx g14 d13) h12
      clear d13 l13 g14
      have hfB : ∀ i j, Bd (f i j) := fun i j => by have := hfb i j; exact ⟨by omega, by omega⟩
      simp only [List.set_cons_zero, List.set_cons_succ]
      -- the question
      refine q_asgP (P := Ins CQ "_weights" l r f) (evp_make (ok := fun _ => True) (eap_one (evp_var (i := 13) rfl hf mf_grid.mono)) hd trivial) fun v6 H15 e15 h6 => ?_
      have h12 := mf_ins.mono _ _ _ e15 h12
      have hf := mf_grid.mono _ _ _ e15 hf
      have d15 := d14.ex e15
      have l15 := e15 _ _ l14
      clear d14 l14 e15
      simp only [List.set_cons_zero, List.set_cons_succ]
      have w6 : ∀ {σ2 : L2.St} {H2 : Hp}, σ2[6]? = some (some v6) → Fx H15 H2 → EvP (tVar 6) σ2 H2 (Ins CQ "_weights" l r f) := fun h e => evp_var h (mf_ins _ _ _ e h6) mf_ins.mono
      have w12 : ∀ {σ2 : L2.St} {H2 : Hp}, σ2[12]? = some (some v12) → Fx H15 H2 → EvP (tVar 12) σ2 H2 (Ins CT "_counts" l r g) := fun h e => evp_var h (mf_ins _ _ _ e h12) mf_ins.mono
      have w13 : ∀ {σ2 : L2.St} {H2 : Hp}, σ2[13]? = some (some v13) → Fx H15 H2 → EvP (tVar 13) σ2 H2 (Grid l r f) := fun h e => evp_var h (mf_grid _ _ _ e hf) mf_grid.mono
      have wl : ∀ {σ2 : L2.St} {H2 : Hp}, σ2[10]? = some (some (.int (l : Int))) → EvP (tVar 10) σ2 H2 (Is (.int (l : Int))) := fun h => evp_var h rfl mono_is
      have wr : ∀ {σ2 : L2.St} {H2 : Hp}, σ2[11]? = some (some (.int (r : Int))) → EvP (tVar 11) σ2 H2 (Is (.int (r : Int))) := fun h => evp_var h rfl mono_is
      have fx0 : Fx H15 H15 := Fx.of (Ex.refl _)
      refine q_when (b := false) (et_tr3 (K := K) (evp_tr3 (ev_get (w6 rfl fx0)) (ev_left (w6 rfl fx0)) (ev_right (w6 rfl fx0) hl15.1)) (evp_tr3 (w13 rfl fx0) (wl rfl) (wr rfl))) (fun z => nomatch z) fun _ H16 e16 => ?_
      have fx16 : Fx H15 H16 := Fx.of e16
      have d16 := d15.ex e16
      have l16 := e16 _ _ l15
      clear d15 l15 e16 fx0
      -- its number
      refine q_when (b := false) (et_is (et_or (a := false) (b := false) (et_tst (evp_is (evp_ne (evp_qcall hd hgB (w6 rfl fx16) (w12 rfl fx16)) (evp_byrows hd hg100 (w13 rfl fx16) (w12 rfl fx16)) rfl) (by simp))) fun _ =>
          et_tst (evp_is (evp_ne (evp_qcall hd' (fun i j => hgB j i) (evp_qturned hd (w6 rfl fx16)) (evp_tturned hd hg0 (w12 rfl fx16))) (evp_qcall hd hgB (w6 rfl fx16) (w12 rfl fx16)) rfl) (by rw [flat_swap (fun i j => f i j * g i j) r l]; simp))) rfl) (fun z => nomatch z) fun _ H17 e17 => ?_
      have fx17 : Fx H15 H17 := Fx.trans fx16 (Fx.of e17)
      have d17 := d16.ex e17
      have l17 := e17 _ _ l16
      clear d16 l16 e17 fx16
      -- all
      refine q_asgP (P := Ins CQ "_weights" l r (wgF .all)) (evp_qat (u := .all) trivial hd (wl rfl) (wr rfl) (evp_tsC (xs := [.str "all"]) (ea_cons ev_c ea_nil) (by decide))) fun v7 H18 e18 h7 => ?_
      have fx18 : Fx H15 H18 := Fx.trans fx17 (Fx.of e18)
      have d18 := d17.ex e18
      have l18 := e18 _ _ l17
      clear d17 l17 e18 fx17
      simp only [List.set_cons_zero, List.set_cons_succ]
      -- the wheres
      refine seq_at (show tCall spWheres [] E0 _ _ H18 _ from ⟨.ref s, rfl, .int (l : Int), rfl, .int (r : Int), rfl, s, p, xs, l, r, rfl, d18, hd.1, hd.2, fun v8 H19 ws g19 d19 hW hw1 hw40 hv8 => ?_⟩)
      have fx19 : Fx H15 H19 := Fx.trans fx18 (Gs.fx g19 d18)
      have h7 := mf_ins _ _ _ (Gs.fx g19 d18) h7
      have l19 := g19 _ _ hps l18
      clear g19 d18 l18 fx18
      obtain ⟨p8, y8, rfl, hp8, pr8⟩ := hv8
      refine q_forLn (K := K) (a := p8) (xs := y8) ev_c (sq_of hp8) (fun t σ' H' => ∃ s8 s14 s17 v7 F, σ' = [some (.ref a0), some (.int (i : Int)), some (.int c), some (.ref s), some (.int (j : Int)), s5, some v6, some v7, s8, s9, some (.int (l : Int)), some (.int (r : Int)), some v12, some v13, s14, s15, s16, s17, none, none, none, none, none] ∧ Ins CQ "_weights" l r F v7 H' ∧ Evl.Ex H19 H')
        (fun H1 e1 => ⟨_, _, _, _, _, rfl, mf_ins.mono _ _ _ e1 h7, e1⟩) (fun t σ' H' _ ⟨_, _, _, _, _, _, _, e⟩ => sq_of (e _ _ hp8)) (fun t x σ' H' hx ⟨s8, s14, s17, v7, F, hs, h7, ex⟩ => ?_) (fun σ' H' ⟨s8, s14, s17, v7, F, hs, h7, ex⟩ => ?_)
      · subst hs
        obtain ⟨u, hu, hxu⟩ := paired_idx pr8 hx
        have huo := hW.1 u (List.mem_of_getElem? hu)
        have hxu := wv_mono u _ _ _ ex hxu
        simp only [List.set_cons_zero, List.set_cons_succ]
        have w8 : ∀ {σ2 : L2.St} {H2 : Hp}, σ2[8]? = some (some x) → Evl.Ex H' H2 → EvP (tVar 8) σ2 H2 (Wv u) := fun h e => evp_var h (wv_mono u _ _ _ e hxu) (wv_mono u)
        refine q_asgG (eap_two (evp_qat (C := CQ) (E := E0) huo hd (wl rfl) (wr rfl) (w8 rfl (Ex.refl _))) (evp_cellsW (CV := CV) (CP := CP) huo hd (wl rfl) (wr rfl) (w8 rfl (Ex.refl _))) mf_ins.mono H' (Ex.refl _) _ fun vs H1 e1 ⟨v7', v17, hv, hq7, hc17⟩ => ?_)
        subst hv
        refine ⟨by show 2 ≤ sizeLine; decide, fun t9 ht9 => ?_⟩
        have e2 : Evl.Ex H1 (upd H1 t9 (.tup [v7', v17])) := Ex.new ht9
        have h2 : (upd H1 t9 (.tup [v7', v17])) t9 = some (.tup [v7', v17]) := upd_same
        generalize upd H1 t9 (.tup [v7', v17]) = H2 at e2 h2
        refine ⟨t9, _, rfl, st_of h2, rfl, _, _, rfl, _, _, rfl, rfl, ?_⟩
        simp only [List.set_cons_zero, List.set_cons_succ]
        have hq7 := mf_ins.mono _ _ _ e2 hq7
        have hc17 := cs_mono _ _ _ e2 hc17
        have ex2 := ex.trans (e1.trans e2)
        -- the cells by their numbers
        have hE := evp_lcW (σ := [some (.ref a0), some (.int (i : Int)), some (.int c), some (.ref s), some (.int (j : Int)), s5, some v6, some v7', some x, s9, some (.int (l : Int)), some (.int (r : Int)), some v12, some v13, s14, s15, s16, some v17, none, none, none, none, none]) (H := H2) (vs := [18]) (g := gName 18) (te := tTup (tCons (tOp (rI CDivN fun i j => .int (i.fdiv j)) (tCB rInt1 (tCons (tVar 18) tNil)) (tVar 11)) (tCons (tOp (rI (fun _ j => j ≠ 0) fun i j => .int (i.fmod j)) (tCB rInt1 (tCons (tVar 18) tNil)) (tVar 11)) tNil))) (tt := tYes) (wi := iRng1 (tCons (tOp (rI CMul fun i j => .int (i * j)) (tVar 10) (tVar 11)) tNil)) (zs := List.range (l * r)) (item := fun t x _ => x = .int (t : Int)) (b := fun _ => true) (f := fun t => (t / r, t % r)) (Ri := PrN)
          (Sg := fun t σ2 H5 => σ2 = [some (.ref a0), some (.int (i : Int)), some (.int c), some (.ref s), some (.int (j : Int)), s5, some v6, some v7', some x, s9, some (.int (l : Int)), some (.int (r : Int)), some v12, some v13, s14, s15, s16, some v17, some (.int (t : Int)), none, none, none, none]) (wx_rngN (EvAP.one' (eap_one (evp_is (evp_I (C := CMul) (g := fun i j => .int (i * j)) (wl rfl) (wr rfl) (.inl ⟨by omega, by omega⟩)) (by rw [Int.natCast_mul])))) (Nat.le_trans (Nat.mul_le_mul hl15.2 hr15.2) (by decide)) (by rw [List.length_range])) (by rw [List.length_range]; exact Nat.le_trans (Nat.mul_le_mul hl15.2 hr15.2) (by decide))
          (fun n t x H5 hz e5 hx => by
            rw [List.getElem?_eq_some_iff] at hz
            obtain ⟨_, hz⟩ := hz
            rw [List.getElem_range] at hz
            subst hz
            rw [hx]
            exact g_name (i := 18) ⟨rfl, rfl⟩) (fun t σ2 H5 hz e5 _ => et_yes) (fun t σ2 H5 hz e5 hs => by
            subst hs
            exact evp_fdm (by omega) (by omega) (evp_int1 (evp_var (i := 18) rfl rfl mono_is)) (wr rfl) (evp_int1 (evp_var (i := 18) rfl rfl mono_is)) (wr rfl)) fun c => mf_pr
        rw [List.filter_eq_self.mpr (fun _ _ => rfl)] at hE
        refine q_asgP (P := LsP PrN (prsL l r)) hE fun v14 H3 e3 h14 => ?_
        simp only [List.set_cons_zero, List.set_cons_succ]
        have hq7 := mf_ins.mono _ _ _ e3 hq7
        have hc17 := cs_mono _ _ _ e3 hc17
        have w7 : ∀ {σ2 : L2.St} {H2 : Hp}, σ2[7]? = some (some v7') → Evl.Ex H3 H2 → EvP (tVar 7) σ2 H2 (Ins CQ "_weights" l r (wgF u)) := fun h e => evp_var h (mf_ins.mono _ _ _ e hq7) mf_ins.mono
        have w14 : ∀ {σ2 : L2.St} {H2 : Hp}, σ2[14]? = some (some v14) → Evl.Ex H3 H2 → EvP (tVar 14) σ2 H2 (LsP PrN (prsL l r)) := fun h e => evp_var h (mono_lsP mono_prN _ _ _ e h14) (mono_lsP mono_prN)
        have w17 : ∀ {σ2 : L2.St} {H2 : Hp}, σ2[17]? = some (some v17) → Evl.Ex H3 H2 → EvP (tVar 17) σ2 H2 (Cs (accP (covW u) r l)) := fun h e => evp_var h (cs_mono _ _ _ e hc17) cs_mono
        have hlen : (prsL l r).length ≤ 40000 := by rw [prsL, List.length_map, List.length_range]; exact Nat.le_trans (Nat.mul_le_mul hl15.2 hr15.2) (by decide)
        have hA := evp_lcW (σ := [some (.ref a0), some (.int (i : Int)), some (.int c), some (.ref s), some (.int (j : Int)), s5, some v6, some v7', some x, s9, some (.int (l : Int)), some (.int (r : Int)), some v12, some v13, some v14, s15, s16, some v17, none, none, none, none, none]) (H := H3) (vs := [20]) (g := gName 20) (te := tMeth CQ "weight" (spWeight CQ) [] E0 (tVar 7) (tCons (tOp (rIxT K) (tVar 20) (tC (.int 0))) (tCons (tOp (rIxT K) (tVar 20) (tC (.int 1))) tNil))) (tt := tYes) (b := fun _ => true) (f := fun cc : Nat × Nat => wgF u cc.1 cc.2) (Ri := fun i => Is (.int i))
          (Sg := fun cc σ2 H5 => ∃ y, PrN cc y H5 ∧ σ2 = [some (.ref a0), some (.int (i : Int)), some (.int c), some (.ref s), some (.int (j : Int)), s5, some v6, some v7', some x, s9, some (.int (l : Int)), some (.int (r : Int)), some v12, some v13, some v14, s15, s16, some v17, none, none, some y, none, none]) (wx_lsP (K := K) mono_prN (w14 rfl (Ex.refl _))) hlen
          (fun n cc y H5 hz e5 ⟨c', hc', hy⟩ => g_name (i := 20) ⟨rfl, y, by rw [hz] at hc'; cases hc'; exact hy, rfl⟩) (fun t σ2 H5 hz e5 _ => et_yes) (fun cc σ2 H5 hz e5 ⟨y, hy, hs⟩ => by
            subst hs
            obtain ⟨h1, h2⟩ := prsL_mem hz
            have hy2 := evp_var (σ := [some (.ref a0), some (.int (i : Int)), some (.int c), some (.ref s), some (.int (j : Int)), s5, some v6, some v7', some x, s9, some (.int (l : Int)), some (.int (r : Int)), some v12, some v13, some v14, s15, s16, some v17, none, none, some y, none, none]) (i := 20) rfl hy (mono_prN cc)
            exact evp_weight h1 h2 (w7 rfl e5) (evp_pr0 (K := K) hy2) (evp_pr1 (K := K) hy2)) fun _ => mf_is
        have hB := evp_lcW (σ := [some (.ref a0), some (.int (i : Int)), some (.int c), some (.ref s), some (.int (j : Int)), s5, some v6, some v7', some x, s9, some (.int (l : Int)), some (.int (r : Int)), some v12, some v13, some v14, s15, s16, some v17, none, none, none, none, none]) (H := H3) (vs := [20]) (g := gName 20) (te := tCB rInt1 (tCons (tOp (rInD K) (tVar 20) (tVar 17)) tNil)) (tt := tYes) (b := fun _ => true) (f := fun cc : Nat × Nat => wgF u cc.1 cc.2) (Ri := fun i => Is (.int i))
          (Sg := fun cc σ2 H5 => ∃ y, PrN cc y H5 ∧ σ2 = [some (.ref a0), some (.int (i : Int)), some (.int c), some (.ref s), some (.int (j : Int)), s5, some v6, some v7', some x, s9, some (.int (l : Int)), some (.int (r : Int)), some v12, some v13, some v14, s15, s16, some v17, none, none, some y, none, none]) (wx_lsP (K := K) mono_prN (w14 rfl (Ex.refl _))) hlen
          (fun n cc y H5 hz e5 ⟨c', hc', hy⟩ => g_name (i := 20) ⟨rfl, y, by rw [hz] at hc'; cases hc'; exact hy, rfl⟩) (fun t σ2 H5 hz e5 _ => et_yes) (fun cc σ2 H5 hz e5 ⟨y, hy, hs⟩ => by
            subst hs
            obtain ⟨h1, h2⟩ := prsL_mem hz
            exact evp_intB (evp_inC (K := K) (F := covW u) h2 h1 (evp_var (i := 20) rfl hy (mono_prN cc)) (w17 rfl e5))) fun _ => mf_is
        rw [List.filter_eq_self.mpr (fun _ _ => rfl)] at hA hB
        exact s_when (b := false) (et_lists (K := K) hA hB) (fun z => nomatch z) fun _ H4 e4 => ⟨_, _, _, _, _, rfl, mf_ins.mono _ _ _ e4 hq7, ex2.trans (e3.trans e4)⟩
      subst hs
      have fxE : Fx H15 H' := Fx.trans fx19 (Fx.of ex)
      have dE := d19.ex ex
      have lE := ex _ _ l19
      clear hp8 pr8 d19 l19 fx19
      have w7 : ∀ {σ2 : L2.St} {H2 : Hp}, σ2[7]? = some (some v7) → Evl.Ex H' H2 → EvP (tVar 7) σ2 H2 (Ins CQ "_weights" l r F) := fun h e => evp_var h (mf_ins.mono _ _ _ e h7) mf_ins.mono
      -- lefts and rights
      have hR := evp_tuple (K := K) (n := l) (Pi := fun i => Is (.int (f i 0))) (evp_lc (σ := [some (.ref a0), some (.int (i : Int)), some (.int c), some (.ref s), some (.int (j : Int)), s5, some v6, some v7, s8, s9, some (.int (l : Int)), some (.int (r : Int)), some v12, some v13, s14, s15, s16, s17, none, none, none, none, none]) (H := H') (vs := [21]) (g := gName 21) (te := tOp (rIxT K) (tVar 21) (tC (.int 0))) (wi_tup (K := K) (Pi := fun i => TupP r fun j => Is (.int (f i j))) (w13 rfl fxE) fun _ => mf_row) (by omega)
        (Sg := fun t σ2 H5 => ∃ y, Row r (f t) y H5 ∧ σ2 = [some (.ref a0), some (.int (i : Int)), some (.int c), some (.ref s), some (.int (j : Int)), s5, some v6, some v7, s8, s9, some (.int (l : Int)), some (.int (r : Int)), some v12, some v13, s14, s15, s16, s17, none, none, none, some y, none]) (fun t y H5 _ e5 hy => g_name (i := 21) ⟨rfl, y, hy, rfl⟩) (fun t σ2 H5 ht e5 ⟨y, hy, hs⟩ => by
          subst hs
          exact evp_ixT (K := K) (i := 0) (Pi := fun j => Is (.int (f t j))) (evp_var (i := 21) rfl hy mf_Row.mono) evp_c (by omega) fun _ => mf_is) fun _ => mf_is) (fun _ => mf_is.mono)
      refine q_asgG (eap_two (P := Row r (f 0)) (R := Row l fun i => f i 0) (evp_row0 (K := K) (i := 0) (by omega) (w13 rfl fxE) evp_c) hR mf_Row.mono H' (Ex.refl _) _ fun vs H1 e1 ⟨v15, v16, hv, h15, h16⟩ => ?_)
      subst hv
      refine ⟨by show 2 ≤ sizeLine; decide, fun t9 ht9 => ?_⟩
      have e2 : Evl.Ex H1 (upd H1 t9 (.tup [v15, v16])) := Ex.new ht9
      have h2 : (upd H1 t9 (.tup [v15, v16])) t9 = some (.tup [v15, v16]) := upd_same
      generalize upd H1 t9 (.tup [v15, v16]) = H2 at e2 h2
      refine ⟨t9, _, rfl, st_of h2, rfl, _, _, rfl, _, _, rfl, rfl, ?_⟩
      simp only [List.set_cons_zero, List.set_cons_succ]
      have h15 := mf_Row.mono _ _ _ e2 h15
      have h16 := mf_Row.mono _ _ _ e2 h16
      have eA := e1.trans e2
      have w15 : ∀ {σ2 : L2.St} {H3 : Hp}, σ2[15]? = some (some v15) → Evl.Ex H2 H3 → EvP (tVar 15) σ2 H3 (Row r (f 0)) := fun h e => evp_var h (mf_Row.mono _ _ _ e h15) mf_Row.mono
      have w16 : ∀ {σ2 : L2.St} {H3 : Hp}, σ2[16]? = some (some v16) → Evl.Ex H2 H3 → EvP (tVar 16) σ2 H3 (Row l fun i => f i 0) := fun h e => evp_var h (mf_Row.mono _ _ _ e h16) mf_Row.mono
      -- the products
      have hG := evp_tuple (K := K) (n := l) (Pi := fun i => TupP r fun j => Is (.int (f i 0 * f 0 j))) (evp_lc (σ := [some (.ref a0), some (.int (i : Int)), some (.int c), some (.ref s), some (.int (j : Int)), s5, some v6, some v7, s8, s9, some (.int (l : Int)), some (.int (r : Int)), some v12, some v13, s14, some v15, some v16, s17, none, none, none, none, none]) (H := H2) (vs := [19]) (g := gName 19) (te := tCB (rTupQ K) (tCons (tLc (iTup K (tVar 15)) (gName 22) tYes (tOp (rI CMul fun i j => .int (i * j)) (tVar 19) (tVar 22)) [22]) tNil)) (wi_tup (K := K) (Pi := fun i => Is (.int (f i 0))) (w16 rfl (Ex.refl _)) fun _ => mf_is) (by omega)
        (Sg := fun t σ2 H5 => σ2 = [some (.ref a0), some (.int (i : Int)), some (.int c), some (.ref s), some (.int (j : Int)), s5, some v6, some v7, s8, s9, some (.int (l : Int)), some (.int (r : Int)), some v12, some v13, s14, some v15, some v16, s17, none, some (.int (f t 0)), none, none, none]) (fun t y H5 _ e5 hy => by cases (show y = .int (f t 0) from hy); exact g_name (i := 19) ⟨rfl, rfl⟩) (fun t σ2 H5 ht e5 hs => by
          subst hs
          exact evp_tuple (K := K) (n := r) (Pi := fun j => Is (.int (f t 0 * f 0 j))) (evp_lc (vs := [22]) (g := gName 22) (wi_tup (K := K) (Pi := fun j => Is (.int (f 0 j))) (w15 rfl e5) fun _ => mf_is) (by omega)
            (Sg := fun jj σ2 _ => σ2 = [some (.ref a0), some (.int (i : Int)), some (.int c), some (.ref s), some (.int (j : Int)), s5, some v6, some v7, s8, s9, some (.int (l : Int)), some (.int (r : Int)), some v12, some v13, s14, some v15, some v16, s17, none, some (.int (f t 0)), none, none, some (.int (f 0 jj))]) (fun jj z H2 hj e2 hz => by cases (show z = .int (f 0 jj) from hz); exact g_name (i := 22) ⟨rfl, rfl⟩) (fun jj σ2 H2 hj e2 hs => by
              subst hs
              exact evp_I (C := CMul) (g := fun i j => .int (i * j)) (evp_var (i := 19) rfl rfl mono_is) (evp_var (i := 22) rfl rfl mono_is) (.inr (hfB 0 jj))) fun _ => mf_is) (fun _ => mf_is.mono)) fun _ => mf_row) (fun _ => mf_row.mono)
      refine q_asgP (P := Grid l r fun i j => f i 0 * f 0 j) hG fun v9 H3 e3 h9 => ?_
      simp only [List.set_cons_zero, List.set_cons_succ]
      have w9 : ∀ {σ2 : L2.St} {H4 : Hp}, σ2[9]? = some (some v9) → Evl.Ex H3 H4 → EvP (tVar 9) σ2 H4 (Grid l r fun i j => f i 0 * f 0 j) := fun h e => evp_var h (mf_grid.mono _ _ _ e h9) mf_grid.mono
      have fx3 : Fx H15 H3 := Fx.trans fxE (Fx.of (eA.trans e3))
      refine q_when (b := false) (et_is (et_or (a := false) (b := false) (et_grids (K := K) (ev_get (evp_btw hd (hfB 0) (w16 rfl e3) (w15 rfl e3))) (w9 rfl (Ex.refl _))) fun _ =>
          et_tst (evp_neq (K := K) (evp_btw hd (hfB 0) (w16 rfl e3) (w15 rfl e3)) (evp_make (ok := fun _ => True) (eap_one (w9 rfl (Ex.refl _))) hd trivial))) rfl) (fun z => nomatch z) fun _ H4 e4 => ?_
      have fx4 := Fx.trans fx3 (Fx.of e4)
      refine q_when (b := false) (et_is (et_or (a := false) (b := false) (et_tst (evp_neq (K := K) (evp_qturned hd' (evp_qturned hd (w6 rfl fx4))) (w6 rfl fx4))) fun _ =>
          et_rows (K := K) (evp_row0 (K := K) (i := 0) (f := fun i j => f j i) (by omega) (ev_get (evp_qturned hd (w6 rfl fx4))) evp_c) (w16 rfl (e3.trans e4))) rfl) (fun z => nomatch z) fun _ H5 e5 => ?_
      have fx5 := Fx.trans fx4 (Fx.of e5)
      have ex5 := eA.trans (e3.trans (e4.trans e5))
      refine s_when (b := false) (et_is (et_or (a := false) (b := false) (et_tst (evp_qtup (K := K) tq aqt (w6 rfl fx5) (w13 rfl fx5))) fun _ => et_or (a := false) (b := false) (et_tst (evp_qtab (K := K) BT tq aqT (w6 rfl fx5) (w12 rfl fx5))) fun _ =>
          et_tst (evp_neq (K := K) (evp_make (ok := fun _ => True) (eap_one (ev_get (w7 rfl ex5))) hd trivial) (w7 rfl ex5))) rfl) (fun z => nomatch z) fun _ H6 e6 => ?_
      exact ⟨_, _, _, _, _, _, _, _, _, _, _, _, _, _, rfl, dE.ex (ex5.trans e6), (ex5.trans e6) _ _ lE⟩
    subst hs
    -- great numbers
    have hr8 : EvP (tOp (rRepT K) (tTup (tCons (tOp (rI CPow fun i j => .int (i ^ j.toNat)) (tC (.int 10)) (tC (.int 29))) tNil)) (tC (.int 8))) [some (.ref a0), some (.int (i : Int)), some (.int c), some (.ref s), s4, s5, s6, s7, s8, s9, s10, s11, s12, s13, s14, s15, s16, s17, none, none, none, none, none] H8 (Row 8 fun _ => 10 ^ 29) :=
      evp_rep (K := K) (n := 8) mf_is (evp_tup1 mono_is (evp_pw)) evp_c (by decide)
    have hd8 : dimOk 8 8 := ⟨⟨by decide, by decide⟩, ⟨by decide, by decide⟩⟩
    have hb8 : EvP (tOp (rCatT K) (tOp (rRepT K) (tTup (tCons (tC (.int 1)) tNil)) (tC (.int 7))) (tTup (tCons (tUn (rU fun i => .int (-i)) (tC (.int 2))) tNil))) [some (.ref a0), some (.int (i : Int)), some (.int c), some (.ref s), s4, s5, s6, s7, s8, s9, s10, s11, s12, s13, s14, s15, s16, s17, none, none, none, none, none] H8 (Row 8 fun j => if j < 7 then 1 else -2) :=
      evp_join (K := K) (m := 7) (by decide) (evp_rep (K := K) (n := 7) mf_is (evp_tup1 mono_is evp_c) evp_c (by decide)) (evp_tup1 mono_is (evp_neg (i := 2) evp_c))
    refine q_asgP (P := Ins CQ "_weights" 8 8 fun i j => 10 ^ 29 * (if j < 7 then 1 else -2)) (evp_btw (a := fun _ => 10 ^ 29) (b := fun j => if j < 7 then 1 else -2) hd8 (fun j => by show Bd (if j < 7 then 1 else -2); split <;> exact ⟨by omega, by omega⟩) hr8 hb8) fun v5 H1 e1 h5 => ?_
    simp only [List.set_cons_zero, List.set_cons_succ]
    have w5 : ∀ {σ2 : L2.St} {H2 : Hp}, σ2[5]? = some (some v5) → Evl.Ex H1 H2 → EvP (tVar 5) σ2 H2 (Ins CQ "_weights" 8 8 fun i j => 10 ^ 29 * (if j < 7 then 1 else -2)) := fun h e => evp_var h (mf_ins.mono _ _ _ e h5) mf_ins.mono
    refine q_when (b := false) (et_grids (K := K) (ev_get (w5 rfl (Ex.refl _))) (evp_gridC (f := fun j => if j < 7 then 10 ^ 29 else -2 * 10 ^ 29) (fun i j => by split <;> decide) (evp_rep (K := K) (n := 8) mf_Row (evp_tup1 mf_Row.mono (evp_join (K := K) (m := 7) (by decide) (evp_rep (K := K) (n := 7) mf_is (evp_tup1 mono_is evp_pw) evp_c (by decide)) (evp_tup1 mono_is (evp_I (C := CMul) (g := fun i j => .int (i * j)) (evp_neg (i := 2) evp_c) evp_pw (.inl (by decide)))))) evp_c (by decide)))) (fun z => nomatch z) fun _ H2 e2 => ?_
    have ex2 := e1.trans e2
    exact s_when (b := false) (et_grids (K := K) (f := fun _ j => if j < 7 then 0 else 1) ((ev_get (evp_qat (C := CQ) (E := E0) (u := .right [7]) (l := 8) (r := 8) ok7 hd8 (evp_is evp_c rfl) (evp_is evp_c rfl) evp_rightC)).imp fun v H3 _ hv => grid_congr wg7 hv) (evp_gridC (f := fun j => if j < 7 then 0 else 1) (fun _ _ => rfl) (evp_rep (K := K) (n := 8) mf_Row (evp_tup1 mf_Row.mono (evp_join (K := K) (m := 7) (by decide) (evp_rep (K := K) (n := 7) mf_is (evp_tup1 mono_is evp_c) evp_c (by decide)) (evp_tup1 mono_is evp_c))) evp_c (by decide)))) (fun z => nomatch z) fun _ H3 e3 => ⟨_, _, _, _, _, _, _, _, _, _, _, _, _, _, _, _, _, rfl, (ex2.trans e3) _ _ l8⟩
end
end K20
namespace K20
open PySem PySem.Spec PyProof.Rows L2 Evl RZ Ev2 TA5 Ow
def strKeysB (es : Array DictEntry) : Bool := es.toList.all fun e => match e.key with | .str _ _ => true | _ => false
theorem strKeys_of {es : Array DictEntry} (h : strKeysB es = true) : StrKeys es := fun e he => by
  have := List.all_eq_true.mp h e (Array.mem_toList_iff.mpr he)
  cases hk : e.key <;> rw [hk] at this <;> first | exact ⟨_, _, rfl⟩ | cases this
theorem nsFind_of {K : PySem.W.Frag} {N : Addr} {oc : Value} {od : Option Addr} {es : Array DictEntry} {n : Nat} {sl : Array (Option Value)} {x : Str} {r : Option Value} (hl : K.lookup N = some ⟨oc, od, .dict es n, sl⟩) (e : PySem.W.nsIn K N x = some r) : nsFind es x = r := by
  obtain ⟨l⟩ := es
  unfold PySem.W.nsIn at e
  rw [hl] at e
  unfold nsFind findBy
  dsimp only at e ⊢
  rw [List.find?_toArray]
  split at e
  · rename_i e' h'; rw [h']; exact Option.some.inj e
  · rename_i h'
    rw [h']
    split at e
    · cases e
    · exact Option.some.inj e
theorem all_mk {l : PySem.W.OpenLaw} {w : World} {K : PySem.W.Frag} {h : Heap} {mg : Str → Option Value} {fa : Addr} (X : K.In h) (G : h.Ns mainGlobals mg) (hfa : mg "law" = some (.ref fa))
    {CT CQ NQ : Addr}
    {tk : Tok}
    {f_is_whole : Addr} {od_is_whole an_is_whole : Option Addr} {sl_is_whole : Array (Option Value)} {oc_is_whole kV_is_whole dc_is_whole pm_is_whole cd_is_whole ct_is_whole : Value}
    {f_is_below : Addr} {od_is_below an_is_below : Option Addr} {sl_is_below : Array (Option Value)} {oc_is_below kV_is_below dc_is_below pm_is_below cd_is_below ct_is_below : Value}
    {f_is_ascending : Addr} {od_is_ascending an_is_ascending : Option Addr} {sl_is_ascending : Array (Option Value)} {oc_is_ascending kV_is_ascending dc_is_ascending pm_is_ascending cd_is_ascending ct_is_ascending : Value}
    {f_is_size : Addr} {od_is_size an_is_size : Option Addr} {sl_is_size : Array (Option Value)} {oc_is_size kV_is_size dc_is_size pm_is_size cd_is_size ct_is_size : Value}
    {f_check_sizes : Addr} {od_check_sizes an_check_sizes : Option Addr} {sl_check_sizes : Array (Option Value)} {oc_check_sizes kV_check_sizes dc_check_sizes pm_check_sizes cd_check_sizes ct_check_sizes : Value}
    {f_check_below : Addr} {od_check_below an_check_below : Option Addr} {sl_check_below : Array (Option Value)} {oc_check_below kV_check_below dc_check_below pm_check_below cd_check_below ct_check_below : Value}
    {f_is_line : Addr} {od_is_line an_is_line : Option Addr} {sl_is_line : Array (Option Value)} {oc_is_line kV_is_line dc_is_line pm_is_line cd_is_line ct_is_line : Value}
    {f_is_grid : Addr} {od_is_grid an_is_grid : Option Addr} {sl_is_grid : Array (Option Value)} {oc_is_grid kV_is_grid dc_is_grid pm_is_grid cd_is_grid ct_is_grid : Value}
    {f_grid_product : Addr} {od_grid_product an_grid_product : Option Addr} {sl_grid_product : Array (Option Value)} {oc_grid_product kV_grid_product dc_grid_product pm_grid_product cd_grid_product ct_grid_product : Value}
    {f_grid_turned : Addr} {od_grid_turned an_grid_turned : Option Addr} {sl_grid_turned : Array (Option Value)} {oc_grid_turned kV_grid_turned dc_grid_turned pm_grid_turned cd_grid_turned ct_grid_turned : Value}
    {f_is_counts : Addr} {od_is_counts an_is_counts : Option Addr} {sl_is_counts : Array (Option Value)} {oc_is_counts kV_is_counts dc_is_counts pm_is_counts cd_is_counts ct_is_counts : Value}
    {f_is_table : Addr} {od_is_table an_is_table : Option Addr} {sl_is_table : Array (Option Value)} {oc_is_table kV_is_table dc_is_table pm_is_table cd_is_table ct_is_table : Value}
    {f_check_table : Addr} {od_check_table an_check_table : Option Addr} {sl_check_table : Array (Option Value)} {oc_check_table kV_check_table dc_check_table pm_check_table cd_check_table ct_check_table : Value}
    {f_is_values : Addr} {od_is_values an_is_values : Option Addr} {sl_is_values : Array (Option Value)} {oc_is_values kV_is_values dc_is_values pm_is_values cd_is_values ct_is_values : Value}
    {f_has_where_form : Addr} {od_has_where_form an_has_where_form : Option Addr} {sl_has_where_form : Array (Option Value)} {oc_has_where_form kV_has_where_form dc_has_where_form pm_has_where_form cd_has_where_form ct_has_where_form : Value}
    {f_is_where : Addr} {od_is_where an_is_where : Option Addr} {sl_is_where : Array (Option Value)} {oc_is_where kV_is_where dc_is_where pm_is_where cd_is_where ct_is_where : Value}
    {f_covers : Addr} {od_covers an_covers : Option Addr} {sl_covers : Array (Option Value)} {oc_covers kV_covers dc_covers pm_covers cd_covers ct_covers : Value}
    {f_where_grid : Addr} {od_where_grid an_where_grid : Option Addr} {sl_where_grid : Array (Option Value)} {oc_where_grid kV_where_grid dc_where_grid pm_where_grid cd_where_grid ct_where_grid : Value}
    {f_cells : Addr} {od_cells an_cells : Option Addr} {sl_cells : Array (Option Value)} {oc_cells kV_cells dc_cells pm_cells cd_cells ct_cells : Value}
    {f_products : Addr} {od_products an_products : Option Addr} {sl_products : Array (Option Value)} {oc_products kV_products dc_products pm_products cd_products ct_products : Value}
    {f_law_numbers : Addr} {od_law_numbers an_law_numbers : Option Addr} {sl_law_numbers : Array (Option Value)} {oc_law_numbers kV_law_numbers dc_law_numbers pm_law_numbers cd_law_numbers ct_law_numbers : Value}
    {f_law_draw : Addr} {od_law_draw an_law_draw : Option Addr} {sl_law_draw : Array (Option Value)} {oc_law_draw kV_law_draw dc_law_draw pm_law_draw cd_law_draw ct_law_draw : Value}
    {f_law_pool : Addr} {od_law_pool an_law_pool : Option Addr} {sl_law_pool : Array (Option Value)} {oc_law_pool kV_law_pool dc_law_pool pm_law_pool cd_law_pool ct_law_pool : Value}
    {f_law_order : Addr} {od_law_order an_law_order : Option Addr} {sl_law_order : Array (Option Value)} {oc_law_order kV_law_order dc_law_order pm_law_order cd_law_order ct_law_order : Value}
    {f_law_family : Addr} {od_law_family an_law_family : Option Addr} {sl_law_family : Array (Option Value)} {oc_law_family kV_law_family dc_law_family pm_law_family cd_law_family ct_law_family : Value}
    {f_law_wheres : Addr} {od_law_wheres an_law_wheres : Option Addr} {sl_law_wheres : Array (Option Value)} {oc_law_wheres kV_law_wheres dc_law_wheres pm_law_wheres cd_law_wheres ct_law_wheres : Value}
    {f_law_counts : Addr} {od_law_counts an_law_counts : Option Addr} {sl_law_counts : Array (Option Value)} {oc_law_counts kV_law_counts dc_law_counts pm_law_counts cd_law_counts ct_law_counts : Value}
    {f_law_weights : Addr} {od_law_weights an_law_weights : Option Addr} {sl_law_weights : Array (Option Value)} {oc_law_weights kV_law_weights dc_law_weights pm_law_weights cd_law_weights ct_law_weights : Value}
    {f_law_by_rows : Addr} {od_law_by_rows an_law_by_rows : Option Addr} {sl_law_by_rows : Array (Option Value)} {oc_law_by_rows kV_law_by_rows dc_law_by_rows pm_law_by_rows cd_law_by_rows ct_law_by_rows : Value}
    {f_law : Addr} {od_law an_law : Option Addr} {sl_law : Array (Option Value)} {oc_law kV_law dc_law pm_law cd_law ct_law : Value}
    {f_Table_counts : Addr} {od_Table_counts an_Table_counts : Option Addr} {sl_Table_counts : Array (Option Value)} {oc_Table_counts kV_Table_counts dc_Table_counts pm_Table_counts cd_Table_counts ct_Table_counts : Value}
    {p_Table_counts : Addr} {r_Table_counts : List Value}
    {f_Table_left : Addr} {od_Table_left an_Table_left : Option Addr} {sl_Table_left : Array (Option Value)} {oc_Table_left kV_Table_left dc_Table_left pm_Table_left cd_Table_left ct_Table_left : Value}
    {p_Table_left : Addr} {r_Table_left : List Value}
    {f_Table_right : Addr} {od_Table_right an_Table_right : Option Addr} {sl_Table_right : Array (Option Value)} {oc_Table_right kV_Table_right dc_Table_right pm_Table_right cd_Table_right ct_Table_right : Value}
    {p_Table_right : Addr} {r_Table_right : List Value}
    {f_Question_weights : Addr} {od_Question_weights an_Question_weights : Option Addr} {sl_Question_weights : Array (Option Value)} {oc_Question_weights kV_Question_weights dc_Question_weights pm_Question_weights cd_Question_weights ct_Question_weights : Value}
    {p_Question_weights : Addr} {r_Question_weights : List Value}
    {f_Question_left : Addr} {od_Question_left an_Question_left : Option Addr} {sl_Question_left : Array (Option Value)} {oc_Question_left kV_Question_left dc_Question_left pm_Question_left cd_Question_left ct_Question_left : Value}
    {p_Question_left : Addr} {r_Question_left : List Value}
    {f_Question_right : Addr} {od_Question_right an_Question_right : Option Addr} {sl_Question_right : Array (Option Value)} {oc_Question_right kV_Question_right dc_Question_right pm_Question_right cd_Question_right ct_Question_right : Value}
    {p_Question_right : Addr} {r_Question_right : List Value}
    {f_Table_init : Addr} {od_Table_init an_Table_init : Option Addr} {sl_Table_init : Array (Option Value)} {oc_Table_init kV_Table_init dc_Table_init pm_Table_init cd_Table_init ct_Table_init : Value}
    {f_Table_turned : Addr} {od_Table_turned an_Table_turned : Option Addr} {sl_Table_turned : Array (Option Value)} {oc_Table_turned kV_Table_turned dc_Table_turned pm_Table_turned cd_Table_turned ct_Table_turned : Value}
    {f_Table_each : Addr} {od_Table_each an_Table_each : Option Addr} {sl_Table_each : Array (Option Value)} {oc_Table_each kV_Table_each dc_Table_each pm_Table_each cd_Table_each ct_Table_each : Value}
    {f_Question_init : Addr} {od_Question_init an_Question_init : Option Addr} {sl_Question_init : Array (Option Value)} {oc_Question_init kV_Question_init dc_Question_init pm_Question_init cd_Question_init ct_Question_init : Value}
    {f_Question_weight : Addr} {od_Question_weight an_Question_weight : Option Addr} {sl_Question_weight : Array (Option Value)} {oc_Question_weight kV_Question_weight dc_Question_weight pm_Question_weight cd_Question_weight ct_Question_weight : Value}
    {f_Question_turned : Addr} {od_Question_turned an_Question_turned : Option Addr} {sl_Question_turned : Array (Option Value)} {oc_Question_turned kV_Question_turned dc_Question_turned pm_Question_turned cd_Question_turned ct_Question_turned : Value}
    {f_Question_call : Addr} {od_Question_call an_Question_call : Option Addr} {sl_Question_call : Array (Option Value)} {oc_Question_call kV_Question_call dc_Question_call pm_Question_call cd_Question_call ct_Question_call : Value}
    {f_Question_eq : Addr} {od_Question_eq an_Question_eq : Option Addr} {sl_Question_eq : Array (Option Value)} {oc_Question_eq kV_Question_eq dc_Question_eq pm_Question_eq cd_Question_eq ct_Question_eq : Value}
    {f_Question_at : Addr} {od_Question_at an_Question_at : Option Addr} {sl_Question_at : Array (Option Value)} {oc_Question_at kV_Question_at dc_Question_at pm_Question_at cd_Question_at ct_Question_at : Value}
    {p_Question_at : Addr} {r_Question_at : List Value}
    {f_Question_between : Addr} {od_Question_between an_Question_between : Option Addr} {sl_Question_between : Array (Option Value)} {oc_Question_between kV_Question_between dc_Question_between pm_Question_between cd_Question_between ct_Question_between : Value}
    {p_Question_between : Addr} {r_Question_between : List Value}
    {nmT qT : Str} {nw : String} {bsT subT : List Value} {hdcT abT : Bool} {snT : List Str} {colT : Option Bool} {ddT : Option Addr} {k0 k1 k2 k3 k5 : Option Value} {ocN : Value} {odN : Option Addr} {es : Array DictEntry} {nN : Nat} {slN : Array (Option Value)}
    {CP NP iP : Addr} {nmP qP : Str} {bsP subP : List Value} {abP : Bool} {snP : List Str} {colP : Option Bool} {ddP : Option Addr} {k0P k1P k2P k3P k5P : Option Value} {ocP dcP pmP cdP ctP : Value} {odP anP : Option Addr} {slP : Array (Option Value)} {p1P p2P q1P q2P q3P q4P : Pos} {SP : Addr}
    {CV NV iV : Addr} {nmV qV : Str} {bsV subV : List Value} {abV : Bool} {snV : List Str} {colV : Option Bool} {ddV : Option Addr} {k0V k1V k2V k3V k5V : Option Value} {ocV dcV pmV cdV ctV : Value} {odV anV : Option Addr} {slV : Array (Option Value)} {p1V p2V q1V q2V q3V q4V : Pos}
    (aT : PySem.W.nsIn K mainGlobals "Table" = some (some (.ref CT)))
    (aQ : PySem.W.nsIn K mainGlobals "Question" = some (some (.ref CQ)))
    (z_isinstance : PySem.W.nsIn K mainGlobals "isinstance" = some none)
    (z_int : PySem.W.nsIn K mainGlobals "int" = some none)
    (z_bool : PySem.W.nsIn K mainGlobals "bool" = some none)
    (z_tuple : PySem.W.nsIn K mainGlobals "tuple" = some none)
    (z_len : PySem.W.nsIn K mainGlobals "len" = some none)
    (z_all : PySem.W.nsIn K mainGlobals "all" = some none)
    (z_zip : PySem.W.nsIn K mainGlobals "zip" = some none)
    (z_range : PySem.W.nsIn K mainGlobals "range" = some none)
    (z_enumerate : PySem.W.nsIn K mainGlobals "enumerate" = some none)
    (z_max : PySem.W.nsIn K mainGlobals "max" = some none)
    (z_str : PySem.W.nsIn K mainGlobals "str" = some none)
    (z_list : PySem.W.nsIn K mainGlobals "list" = some none)
    (z_sorted : PySem.W.nsIn K mainGlobals "sorted" = some none)
    (z_set : PySem.W.nsIn K mainGlobals "set" = some none)
    (z_sum : PySem.W.nsIn K mainGlobals "sum" = some none)
    (z_MV : PySem.W.nsIn K mainGlobals "MOST_VALUES" = some (some (.int 8 tk)))
    (a_is_whole : PySem.W.nsIn K mainGlobals "is_whole" = some (some (.ref f_is_whole)))
    (l_is_whole : K.lookup f_is_whole = some ⟨oc_is_whole, od_is_whole, .func (PySem.W.fnOf "is_whole" "is_whole" (defArgs s_is_whole) (defBody s_is_whole) (defScope s_is_whole) .none kV_is_whole dc_is_whole pm_is_whole an_is_whole cd_is_whole ct_is_whole), sl_is_whole⟩)
    (c_is_whole : PySem.W.codeIn K cd_is_whole "is_whole" = true)
    (k_is_whole : PySem.W.keepIn K (.ref f_is_whole) = true)
    (a_is_below : PySem.W.nsIn K mainGlobals "is_below" = some (some (.ref f_is_below)))
    (l_is_below : K.lookup f_is_below = some ⟨oc_is_below, od_is_below, .func (PySem.W.fnOf "is_below" "is_below" (defArgs s_is_below) (defBody s_is_below) (defScope s_is_below) .none kV_is_below dc_is_below pm_is_below an_is_below cd_is_below ct_is_below), sl_is_below⟩)
    (c_is_below : PySem.W.codeIn K cd_is_below "is_below" = true)
    (k_is_below : PySem.W.keepIn K (.ref f_is_below) = true)
    (a_is_ascending : PySem.W.nsIn K mainGlobals "is_ascending" = some (some (.ref f_is_ascending)))
    (l_is_ascending : K.lookup f_is_ascending = some ⟨oc_is_ascending, od_is_ascending, .func (PySem.W.fnOf "is_ascending" "is_ascending" (defArgs s_is_ascending) (defBody s_is_ascending) (defScope s_is_ascending) .none kV_is_ascending dc_is_ascending pm_is_ascending an_is_ascending cd_is_ascending ct_is_ascending), sl_is_ascending⟩)
    (c_is_ascending : PySem.W.codeIn K cd_is_ascending "is_ascending" = true)
    (k_is_ascending : PySem.W.keepIn K (.ref f_is_ascending) = true)
    (a_is_size : PySem.W.nsIn K mainGlobals "is_size" = some (some (.ref f_is_size)))
    (l_is_size : K.lookup f_is_size = some ⟨oc_is_size, od_is_size, .func (PySem.W.fnOf "is_size" "is_size" (defArgs s_is_size) (defBody s_is_size) (defScope s_is_size) .none kV_is_size dc_is_size pm_is_size an_is_size cd_is_size ct_is_size), sl_is_size⟩)
    (c_is_size : PySem.W.codeIn K cd_is_size "is_size" = true)
    (k_is_size : PySem.W.keepIn K (.ref f_is_size) = true)
    (a_check_sizes : PySem.W.nsIn K mainGlobals "check_sizes" = some (some (.ref f_check_sizes)))
    (l_check_sizes : K.lookup f_check_sizes = some ⟨oc_check_sizes, od_check_sizes, .func (PySem.W.fnOf "check_sizes" "check_sizes" (defArgs s_check_sizes) (defBody s_check_sizes) (defScope s_check_sizes) .none kV_check_sizes dc_check_sizes pm_check_sizes an_check_sizes cd_check_sizes ct_check_sizes), sl_check_sizes⟩)
    (c_check_sizes : PySem.W.codeIn K cd_check_sizes "check_sizes" = true)
    (k_check_sizes : PySem.W.keepIn K (.ref f_check_sizes) = true)
    (a_check_below : PySem.W.nsIn K mainGlobals "check_below" = some (some (.ref f_check_below)))
    (l_check_below : K.lookup f_check_below = some ⟨oc_check_below, od_check_below, .func (PySem.W.fnOf "check_below" "check_below" (defArgs s_check_below) (defBody s_check_below) (defScope s_check_below) .none kV_check_below dc_check_below pm_check_below an_check_below cd_check_below ct_check_below), sl_check_below⟩)
    (c_check_below : PySem.W.codeIn K cd_check_below "check_below" = true)
    (k_check_below : PySem.W.keepIn K (.ref f_check_below) = true)
    (a_is_line : PySem.W.nsIn K mainGlobals "is_line" = some (some (.ref f_is_line)))
    (l_is_line : K.lookup f_is_line = some ⟨oc_is_line, od_is_line, .func (PySem.W.fnOf "is_line" "is_line" (defArgs s_is_line) (defBody s_is_line) (defScope s_is_line) .none kV_is_line dc_is_line pm_is_line an_is_line cd_is_line ct_is_line), sl_is_line⟩)
    (c_is_line : PySem.W.codeIn K cd_is_line "is_line" = true)
    (k_is_line : PySem.W.keepIn K (.ref f_is_line) = true)
    (a_is_grid : PySem.W.nsIn K mainGlobals "is_grid" = some (some (.ref f_is_grid)))
    (l_is_grid : K.lookup f_is_grid = some ⟨oc_is_grid, od_is_grid, .func (PySem.W.fnOf "is_grid" "is_grid" (defArgs s_is_grid) (defBody s_is_grid) (defScope s_is_grid) .none kV_is_grid dc_is_grid pm_is_grid an_is_grid cd_is_grid ct_is_grid), sl_is_grid⟩)
    (c_is_grid : PySem.W.codeIn K cd_is_grid "is_grid" = true)
    (k_is_grid : PySem.W.keepIn K (.ref f_is_grid) = true)
    (a_grid_product : PySem.W.nsIn K mainGlobals "grid_product" = some (some (.ref f_grid_product)))
    (l_grid_product : K.lookup f_grid_product = some ⟨oc_grid_product, od_grid_product, .func (PySem.W.fnOf "grid_product" "grid_product" (defArgs s_grid_product) (defBody s_grid_product) (defScope s_grid_product) .none kV_grid_product dc_grid_product pm_grid_product an_grid_product cd_grid_product ct_grid_product), sl_grid_product⟩)
    (c_grid_product : PySem.W.codeIn K cd_grid_product "grid_product" = true)
    (k_grid_product : PySem.W.keepIn K (.ref f_grid_product) = true)
    (a_grid_turned : PySem.W.nsIn K mainGlobals "grid_turned" = some (some (.ref f_grid_turned)))
    (l_grid_turned : K.lookup f_grid_turned = some ⟨oc_grid_turned, od_grid_turned, .func (PySem.W.fnOf "grid_turned" "grid_turned" (defArgs s_grid_turned) (defBody s_grid_turned) (defScope s_grid_turned) .none kV_grid_turned dc_grid_turned pm_grid_turned an_grid_turned cd_grid_turned ct_grid_turned), sl_grid_turned⟩)
    (c_grid_turned : PySem.W.codeIn K cd_grid_turned "grid_turned" = true)
    (k_grid_turned : PySem.W.keepIn K (.ref f_grid_turned) = true)
    (a_is_counts : PySem.W.nsIn K mainGlobals "is_counts" = some (some (.ref f_is_counts)))
    (l_is_counts : K.lookup f_is_counts = some ⟨oc_is_counts, od_is_counts, .func (PySem.W.fnOf "is_counts" "is_counts" (defArgs s_is_counts) (defBody s_is_counts) (defScope s_is_counts) .none kV_is_counts dc_is_counts pm_is_counts an_is_counts cd_is_counts ct_is_counts), sl_is_counts⟩)
    (c_is_counts : PySem.W.codeIn K cd_is_counts "is_counts" = true)
    (k_is_counts : PySem.W.keepIn K (.ref f_is_counts) = true)
    (a_is_table : PySem.W.nsIn K mainGlobals "is_table" = some (some (.ref f_is_table)))
    (l_is_table : K.lookup f_is_table = some ⟨oc_is_table, od_is_table, .func (PySem.W.fnOf "is_table" "is_table" (defArgs s_is_table) (defBody s_is_table) (defScope s_is_table) .none kV_is_table dc_is_table pm_is_table an_is_table cd_is_table ct_is_table), sl_is_table⟩)
    (c_is_table : PySem.W.codeIn K cd_is_table "is_table" = true)
    (k_is_table : PySem.W.keepIn K (.ref f_is_table) = true)
    (a_check_table : PySem.W.nsIn K mainGlobals "check_table" = some (some (.ref f_check_table)))
    (l_check_table : K.lookup f_check_table = some ⟨oc_check_table, od_check_table, .func (PySem.W.fnOf "check_table" "check_table" (defArgs s_check_table) (defBody s_check_table) (defScope s_check_table) .none kV_check_table dc_check_table pm_check_table an_check_table cd_check_table ct_check_table), sl_check_table⟩)
    (c_check_table : PySem.W.codeIn K cd_check_table "check_table" = true)
    (k_check_table : PySem.W.keepIn K (.ref f_check_table) = true)
    (a_is_values : PySem.W.nsIn K mainGlobals "is_values" = some (some (.ref f_is_values)))
    (l_is_values : K.lookup f_is_values = some ⟨oc_is_values, od_is_values, .func (PySem.W.fnOf "is_values" "is_values" (defArgs s_is_values) (defBody s_is_values) (defScope s_is_values) .none kV_is_values dc_is_values pm_is_values an_is_values cd_is_values ct_is_values), sl_is_values⟩)
    (c_is_values : PySem.W.codeIn K cd_is_values "is_values" = true)
    (k_is_values : PySem.W.keepIn K (.ref f_is_values) = true)
    (a_has_where_form : PySem.W.nsIn K mainGlobals "has_where_form" = some (some (.ref f_has_where_form)))
    (l_has_where_form : K.lookup f_has_where_form = some ⟨oc_has_where_form, od_has_where_form, .func (PySem.W.fnOf "has_where_form" "has_where_form" (defArgs s_has_where_form) (defBody s_has_where_form) (defScope s_has_where_form) .none kV_has_where_form dc_has_where_form pm_has_where_form an_has_where_form cd_has_where_form ct_has_where_form), sl_has_where_form⟩)
    (c_has_where_form : PySem.W.codeIn K cd_has_where_form "has_where_form" = true)
    (k_has_where_form : PySem.W.keepIn K (.ref f_has_where_form) = true)
    (a_is_where : PySem.W.nsIn K mainGlobals "is_where" = some (some (.ref f_is_where)))
    (l_is_where : K.lookup f_is_where = some ⟨oc_is_where, od_is_where, .func (PySem.W.fnOf "is_where" "is_where" (defArgs s_is_where) (defBody s_is_where) (defScope s_is_where) .none kV_is_where dc_is_where pm_is_where an_is_where cd_is_where ct_is_where), sl_is_where⟩)
    (c_is_where : PySem.W.codeIn K cd_is_where "is_where" = true)
    (k_is_where : PySem.W.keepIn K (.ref f_is_where) = true)
    (a_covers : PySem.W.nsIn K mainGlobals "covers" = some (some (.ref f_covers)))
    (l_covers : K.lookup f_covers = some ⟨oc_covers, od_covers, .func (PySem.W.fnOf "covers" "covers" (defArgs s_covers) (defBody s_covers) (defScope s_covers) .none kV_covers dc_covers pm_covers an_covers cd_covers ct_covers), sl_covers⟩)
    (c_covers : PySem.W.codeIn K cd_covers "covers" = true)
    (k_covers : PySem.W.keepIn K (.ref f_covers) = true)
    (a_where_grid : PySem.W.nsIn K mainGlobals "where_grid" = some (some (.ref f_where_grid)))
    (l_where_grid : K.lookup f_where_grid = some ⟨oc_where_grid, od_where_grid, .func (PySem.W.fnOf "where_grid" "where_grid" (defArgs s_where_grid) (defBody s_where_grid) (defScope s_where_grid) .none kV_where_grid dc_where_grid pm_where_grid an_where_grid cd_where_grid ct_where_grid), sl_where_grid⟩)
    (c_where_grid : PySem.W.codeIn K cd_where_grid "where_grid" = true)
    (k_where_grid : PySem.W.keepIn K (.ref f_where_grid) = true)
    (a_cells : PySem.W.nsIn K mainGlobals "cells" = some (some (.ref f_cells)))
    (l_cells : K.lookup f_cells = some ⟨oc_cells, od_cells, .func (PySem.W.fnOf "cells" "cells" (defArgs s_cells) (defBody s_cells) (defScope s_cells) .none kV_cells dc_cells pm_cells an_cells cd_cells ct_cells), sl_cells⟩)
    (c_cells : PySem.W.codeIn K cd_cells "cells" = true)
    (k_cells : PySem.W.keepIn K (.ref f_cells) = true)
    (a_products : PySem.W.nsIn K mainGlobals "products" = some (some (.ref f_products)))
    (l_products : K.lookup f_products = some ⟨oc_products, od_products, .func (PySem.W.fnOf "products" "products" (defArgs s_products) (defBody s_products) (defScope s_products) .none kV_products dc_products pm_products an_products cd_products ct_products), sl_products⟩)
    (c_products : PySem.W.codeIn K cd_products "products" = true)
    (k_products : PySem.W.keepIn K (.ref f_products) = true)
    (a_law_numbers : PySem.W.nsIn K mainGlobals "_law_numbers" = some (some (.ref f_law_numbers)))
    (l_law_numbers : K.lookup f_law_numbers = some ⟨oc_law_numbers, od_law_numbers, .func (PySem.W.fnOf "_law_numbers" "_law_numbers" (defArgs s_law_numbers) (defBody s_law_numbers) (defScope s_law_numbers) .none kV_law_numbers dc_law_numbers pm_law_numbers an_law_numbers cd_law_numbers ct_law_numbers), sl_law_numbers⟩)
    (c_law_numbers : PySem.W.codeIn K cd_law_numbers "_law_numbers" = true)
    (k_law_numbers : PySem.W.keepIn K (.ref f_law_numbers) = true)
    (a_law_draw : PySem.W.nsIn K mainGlobals "_law_draw" = some (some (.ref f_law_draw)))
    (l_law_draw : K.lookup f_law_draw = some ⟨oc_law_draw, od_law_draw, .func (PySem.W.fnOf "_law_draw" "_law_draw" (defArgs s_law_draw) (defBody s_law_draw) (defScope s_law_draw) .none kV_law_draw dc_law_draw pm_law_draw an_law_draw cd_law_draw ct_law_draw), sl_law_draw⟩)
    (c_law_draw : PySem.W.codeIn K cd_law_draw "_law_draw" = true)
    (k_law_draw : PySem.W.keepIn K (.ref f_law_draw) = true)
    (a_law_pool : PySem.W.nsIn K mainGlobals "_law_pool" = some (some (.ref f_law_pool)))
    (l_law_pool : K.lookup f_law_pool = some ⟨oc_law_pool, od_law_pool, .func (PySem.W.fnOf "_law_pool" "_law_pool" (defArgs s_law_pool) (defBody s_law_pool) (defScope s_law_pool) .none kV_law_pool dc_law_pool pm_law_pool an_law_pool cd_law_pool ct_law_pool), sl_law_pool⟩)
    (c_law_pool : PySem.W.codeIn K cd_law_pool "_law_pool" = true)
    (k_law_pool : PySem.W.keepIn K (.ref f_law_pool) = true)
    (a_law_order : PySem.W.nsIn K mainGlobals "_law_order" = some (some (.ref f_law_order)))
    (l_law_order : K.lookup f_law_order = some ⟨oc_law_order, od_law_order, .func (PySem.W.fnOf "_law_order" "_law_order" (defArgs s_law_order) (defBody s_law_order) (defScope s_law_order) .none kV_law_order dc_law_order pm_law_order an_law_order cd_law_order ct_law_order), sl_law_order⟩)
    (c_law_order : PySem.W.codeIn K cd_law_order "_law_order" = true)
    (k_law_order : PySem.W.keepIn K (.ref f_law_order) = true)
    (a_law_family : PySem.W.nsIn K mainGlobals "_law_family" = some (some (.ref f_law_family)))
    (l_law_family : K.lookup f_law_family = some ⟨oc_law_family, od_law_family, .func (PySem.W.fnOf "_law_family" "_law_family" (defArgs s_law_family) (defBody s_law_family) (defScope s_law_family) .none kV_law_family dc_law_family pm_law_family an_law_family cd_law_family ct_law_family), sl_law_family⟩)
    (c_law_family : PySem.W.codeIn K cd_law_family "_law_family" = true)
    (k_law_family : PySem.W.keepIn K (.ref f_law_family) = true)
    (a_law_wheres : PySem.W.nsIn K mainGlobals "_law_wheres" = some (some (.ref f_law_wheres)))
    (l_law_wheres : K.lookup f_law_wheres = some ⟨oc_law_wheres, od_law_wheres, .func (PySem.W.fnOf "_law_wheres" "_law_wheres" (defArgs s_law_wheres) (defBody s_law_wheres) (defScope s_law_wheres) .none kV_law_wheres dc_law_wheres pm_law_wheres an_law_wheres cd_law_wheres ct_law_wheres), sl_law_wheres⟩)
    (c_law_wheres : PySem.W.codeIn K cd_law_wheres "_law_wheres" = true)
    (k_law_wheres : PySem.W.keepIn K (.ref f_law_wheres) = true)
    (a_law_counts : PySem.W.nsIn K mainGlobals "_law_counts" = some (some (.ref f_law_counts)))
    (l_law_counts : K.lookup f_law_counts = some ⟨oc_law_counts, od_law_counts, .func (PySem.W.fnOf "_law_counts" "_law_counts" (defArgs s_law_counts) (defBody s_law_counts) (defScope s_law_counts) .none kV_law_counts dc_law_counts pm_law_counts an_law_counts cd_law_counts ct_law_counts), sl_law_counts⟩)
    (c_law_counts : PySem.W.codeIn K cd_law_counts "_law_counts" = true)
    (k_law_counts : PySem.W.keepIn K (.ref f_law_counts) = true)
    (a_law_weights : PySem.W.nsIn K mainGlobals "_law_weights" = some (some (.ref f_law_weights)))
    (l_law_weights : K.lookup f_law_weights = some ⟨oc_law_weights, od_law_weights, .func (PySem.W.fnOf "_law_weights" "_law_weights" (defArgs s_law_weights) (defBody s_law_weights) (defScope s_law_weights) .none kV_law_weights dc_law_weights pm_law_weights an_law_weights cd_law_weights ct_law_weights), sl_law_weights⟩)
    (c_law_weights : PySem.W.codeIn K cd_law_weights "_law_weights" = true)
    (k_law_weights : PySem.W.keepIn K (.ref f_law_weights) = true)
    (a_law_by_rows : PySem.W.nsIn K mainGlobals "_law_by_rows" = some (some (.ref f_law_by_rows)))
    (l_law_by_rows : K.lookup f_law_by_rows = some ⟨oc_law_by_rows, od_law_by_rows, .func (PySem.W.fnOf "_law_by_rows" "_law_by_rows" (defArgs s_law_by_rows) (defBody s_law_by_rows) (defScope s_law_by_rows) .none kV_law_by_rows dc_law_by_rows pm_law_by_rows an_law_by_rows cd_law_by_rows ct_law_by_rows), sl_law_by_rows⟩)
    (c_law_by_rows : PySem.W.codeIn K cd_law_by_rows "_law_by_rows" = true)
    (k_law_by_rows : PySem.W.keepIn K (.ref f_law_by_rows) = true)
    (a_law : PySem.W.nsIn K mainGlobals "law" = some (some (.ref f_law)))
    (l_law : K.lookup f_law = some ⟨oc_law, od_law, .func (PySem.W.fnOf "law" "law" (defArgs s_law) (defBody s_law) (defScope s_law) .none kV_law dc_law pm_law an_law cd_law ct_law), sl_law⟩)
    (c_law : PySem.W.codeIn K cd_law "law" = true)
    (k_law : PySem.W.keepIn K (.ref f_law) = true)
    (a_Table_counts : PySem.W.findIn K (.ref CT) "counts" = some (some (.ref p_Table_counts)))
    (r1_Table_counts : PySem.W.recIn K p_Table_counts "property" = some (.ref f_Table_counts :: r_Table_counts))
    (g_Table_counts : PySem.W.specialIn K (.ref p_Table_counts) "__get__" = some (some (.builtin "property.__get__")))
    (t_Table_counts : PySem.W.takesIn K (.ref p_Table_counts) = some true)
    (l_Table_counts : K.lookup f_Table_counts = some ⟨oc_Table_counts, od_Table_counts, .func (PySem.W.fnOf "counts" "Table.counts" (defArgs s_Table_counts) (defBody s_Table_counts) (defScope s_Table_counts) .none kV_Table_counts dc_Table_counts pm_Table_counts an_Table_counts cd_Table_counts ct_Table_counts), sl_Table_counts⟩)
    (c_Table_counts : PySem.W.codeIn K cd_Table_counts "Table.counts" = true)
    (k_Table_counts : PySem.W.keepIn K (.ref f_Table_counts) = true)
    (a_Table_left : PySem.W.findIn K (.ref CT) "left" = some (some (.ref p_Table_left)))
    (r1_Table_left : PySem.W.recIn K p_Table_left "property" = some (.ref f_Table_left :: r_Table_left))
    (g_Table_left : PySem.W.specialIn K (.ref p_Table_left) "__get__" = some (some (.builtin "property.__get__")))
    (t_Table_left : PySem.W.takesIn K (.ref p_Table_left) = some true)
    (l_Table_left : K.lookup f_Table_left = some ⟨oc_Table_left, od_Table_left, .func (PySem.W.fnOf "left" "Table.left" (defArgs s_Table_left) (defBody s_Table_left) (defScope s_Table_left) .none kV_Table_left dc_Table_left pm_Table_left an_Table_left cd_Table_left ct_Table_left), sl_Table_left⟩)
    (c_Table_left : PySem.W.codeIn K cd_Table_left "Table.left" = true)
    (k_Table_left : PySem.W.keepIn K (.ref f_Table_left) = true)
    (a_Table_right : PySem.W.findIn K (.ref CT) "right" = some (some (.ref p_Table_right)))
    (r1_Table_right : PySem.W.recIn K p_Table_right "property" = some (.ref f_Table_right :: r_Table_right))
    (g_Table_right : PySem.W.specialIn K (.ref p_Table_right) "__get__" = some (some (.builtin "property.__get__")))
    (t_Table_right : PySem.W.takesIn K (.ref p_Table_right) = some true)
    (l_Table_right : K.lookup f_Table_right = some ⟨oc_Table_right, od_Table_right, .func (PySem.W.fnOf "right" "Table.right" (defArgs s_Table_right) (defBody s_Table_right) (defScope s_Table_right) .none kV_Table_right dc_Table_right pm_Table_right an_Table_right cd_Table_right ct_Table_right), sl_Table_right⟩)
    (c_Table_right : PySem.W.codeIn K cd_Table_right "Table.right" = true)
    (k_Table_right : PySem.W.keepIn K (.ref f_Table_right) = true)
    (a_Question_weights : PySem.W.findIn K (.ref CQ) "weights" = some (some (.ref p_Question_weights)))
    (r1_Question_weights : PySem.W.recIn K p_Question_weights "property" = some (.ref f_Question_weights :: r_Question_weights))
    (g_Question_weights : PySem.W.specialIn K (.ref p_Question_weights) "__get__" = some (some (.builtin "property.__get__")))
    (t_Question_weights : PySem.W.takesIn K (.ref p_Question_weights) = some true)
    (l_Question_weights : K.lookup f_Question_weights = some ⟨oc_Question_weights, od_Question_weights, .func (PySem.W.fnOf "weights" "Question.weights" (defArgs s_Question_weights) (defBody s_Question_weights) (defScope s_Question_weights) .none kV_Question_weights dc_Question_weights pm_Question_weights an_Question_weights cd_Question_weights ct_Question_weights), sl_Question_weights⟩)
    (c_Question_weights : PySem.W.codeIn K cd_Question_weights "Question.weights" = true)
    (k_Question_weights : PySem.W.keepIn K (.ref f_Question_weights) = true)
    (a_Question_left : PySem.W.findIn K (.ref CQ) "left" = some (some (.ref p_Question_left)))
    (r1_Question_left : PySem.W.recIn K p_Question_left "property" = some (.ref f_Question_left :: r_Question_left))
    (g_Question_left : PySem.W.specialIn K (.ref p_Question_left) "__get__" = some (some (.builtin "property.__get__")))
    (t_Question_left : PySem.W.takesIn K (.ref p_Question_left) = some true)
    (l_Question_left : K.lookup f_Question_left = some ⟨oc_Question_left, od_Question_left, .func (PySem.W.fnOf "left" "Question.left" (defArgs s_Question_left) (defBody s_Question_left) (defScope s_Question_left) .none kV_Question_left dc_Question_left pm_Question_left an_Question_left cd_Question_left ct_Question_left), sl_Question_left⟩)
    (c_Question_left : PySem.W.codeIn K cd_Question_left "Question.left" = true)
    (k_Question_left : PySem.W.keepIn K (.ref f_Question_left) = true)
    (a_Question_right : PySem.W.findIn K (.ref CQ) "right" = some (some (.ref p_Question_right)))
    (r1_Question_right : PySem.W.recIn K p_Question_right "property" = some (.ref f_Question_right :: r_Question_right))
    (g_Question_right : PySem.W.specialIn K (.ref p_Question_right) "__get__" = some (some (.builtin "property.__get__")))
    (t_Question_right : PySem.W.takesIn K (.ref p_Question_right) = some true)
    (l_Question_right : K.lookup f_Question_right = some ⟨oc_Question_right, od_Question_right, .func (PySem.W.fnOf "right" "Question.right" (defArgs s_Question_right) (defBody s_Question_right) (defScope s_Question_right) .none kV_Question_right dc_Question_right pm_Question_right an_Question_right cd_Question_right ct_Question_right), sl_Question_right⟩)
    (c_Question_right : PySem.W.codeIn K cd_Question_right "Question.right" = true)
    (k_Question_right : PySem.W.keepIn K (.ref f_Question_right) = true)
    (a_Table_init : PySem.W.findIn K (.ref CT) "__init__" = some (some (.ref f_Table_init)))
    (l_Table_init : K.lookup f_Table_init = some ⟨oc_Table_init, od_Table_init, .func (PySem.W.fnOf "__init__" "Table.__init__" (defArgs s_Table_init) (defBody s_Table_init) (defScope s_Table_init) .none kV_Table_init dc_Table_init pm_Table_init an_Table_init cd_Table_init ct_Table_init), sl_Table_init⟩)
    (c_Table_init : PySem.W.codeIn K cd_Table_init "Table.__init__" = true)
    (k_Table_init : PySem.W.keepIn K (.ref f_Table_init) = true)
    (i_Table_init : PySem.W.isFn K (.ref f_Table_init) = true)
    (a_Table_turned : PySem.W.findIn K (.ref CT) "turned" = some (some (.ref f_Table_turned)))
    (l_Table_turned : K.lookup f_Table_turned = some ⟨oc_Table_turned, od_Table_turned, .func (PySem.W.fnOf "turned" "Table.turned" (defArgs s_Table_turned) (defBody s_Table_turned) (defScope s_Table_turned) .none kV_Table_turned dc_Table_turned pm_Table_turned an_Table_turned cd_Table_turned ct_Table_turned), sl_Table_turned⟩)
    (c_Table_turned : PySem.W.codeIn K cd_Table_turned "Table.turned" = true)
    (k_Table_turned : PySem.W.keepIn K (.ref f_Table_turned) = true)
    (i_Table_turned : PySem.W.isFn K (.ref f_Table_turned) = true)
    (a_Table_each : PySem.W.findIn K (.ref CT) "each" = some (some (.ref f_Table_each)))
    (l_Table_each : K.lookup f_Table_each = some ⟨oc_Table_each, od_Table_each, .func (PySem.W.fnOf "each" "Table.each" (defArgs s_Table_each) (defBody s_Table_each) (defScope s_Table_each) .none kV_Table_each dc_Table_each pm_Table_each an_Table_each cd_Table_each ct_Table_each), sl_Table_each⟩)
    (c_Table_each : PySem.W.codeIn K cd_Table_each "Table.each" = true)
    (k_Table_each : PySem.W.keepIn K (.ref f_Table_each) = true)
    (i_Table_each : PySem.W.isFn K (.ref f_Table_each) = true)
    (a_Question_init : PySem.W.findIn K (.ref CQ) "__init__" = some (some (.ref f_Question_init)))
    (l_Question_init : K.lookup f_Question_init = some ⟨oc_Question_init, od_Question_init, .func (PySem.W.fnOf "__init__" "Question.__init__" (defArgs s_Question_init) (defBody s_Question_init) (defScope s_Question_init) .none kV_Question_init dc_Question_init pm_Question_init an_Question_init cd_Question_init ct_Question_init), sl_Question_init⟩)
    (c_Question_init : PySem.W.codeIn K cd_Question_init "Question.__init__" = true)
    (k_Question_init : PySem.W.keepIn K (.ref f_Question_init) = true)
    (i_Question_init : PySem.W.isFn K (.ref f_Question_init) = true)
    (a_Question_weight : PySem.W.findIn K (.ref CQ) "weight" = some (some (.ref f_Question_weight)))
    (l_Question_weight : K.lookup f_Question_weight = some ⟨oc_Question_weight, od_Question_weight, .func (PySem.W.fnOf "weight" "Question.weight" (defArgs s_Question_weight) (defBody s_Question_weight) (defScope s_Question_weight) .none kV_Question_weight dc_Question_weight pm_Question_weight an_Question_weight cd_Question_weight ct_Question_weight), sl_Question_weight⟩)
    (c_Question_weight : PySem.W.codeIn K cd_Question_weight "Question.weight" = true)
    (k_Question_weight : PySem.W.keepIn K (.ref f_Question_weight) = true)
    (i_Question_weight : PySem.W.isFn K (.ref f_Question_weight) = true)
    (a_Question_turned : PySem.W.findIn K (.ref CQ) "turned" = some (some (.ref f_Question_turned)))
    (l_Question_turned : K.lookup f_Question_turned = some ⟨oc_Question_turned, od_Question_turned, .func (PySem.W.fnOf "turned" "Question.turned" (defArgs s_Question_turned) (defBody s_Question_turned) (defScope s_Question_turned) .none kV_Question_turned dc_Question_turned pm_Question_turned an_Question_turned cd_Question_turned ct_Question_turned), sl_Question_turned⟩)
    (c_Question_turned : PySem.W.codeIn K cd_Question_turned "Question.turned" = true)
    (k_Question_turned : PySem.W.keepIn K (.ref f_Question_turned) = true)
    (i_Question_turned : PySem.W.isFn K (.ref f_Question_turned) = true)
    (a_Question_call : PySem.W.findIn K (.ref CQ) "__call__" = some (some (.ref f_Question_call)))
    (l_Question_call : K.lookup f_Question_call = some ⟨oc_Question_call, od_Question_call, .func (PySem.W.fnOf "__call__" "Question.__call__" (defArgs s_Question_call) (defBody s_Question_call) (defScope s_Question_call) .none kV_Question_call dc_Question_call pm_Question_call an_Question_call cd_Question_call ct_Question_call), sl_Question_call⟩)
    (c_Question_call : PySem.W.codeIn K cd_Question_call "Question.__call__" = true)
    (k_Question_call : PySem.W.keepIn K (.ref f_Question_call) = true)
    (i_Question_call : PySem.W.isFn K (.ref f_Question_call) = true)
    (fi_Question_call : PySem.W.fnIn K f_Question_call = true)
    (a_Question_eq : PySem.W.findIn K (.ref CQ) "__eq__" = some (some (.ref f_Question_eq)))
    (l_Question_eq : K.lookup f_Question_eq = some ⟨oc_Question_eq, od_Question_eq, .func (PySem.W.fnOf "__eq__" "Question.__eq__" (defArgs s_Question_eq) (defBody s_Question_eq) (defScope s_Question_eq) .none kV_Question_eq dc_Question_eq pm_Question_eq an_Question_eq cd_Question_eq ct_Question_eq), sl_Question_eq⟩)
    (c_Question_eq : PySem.W.codeIn K cd_Question_eq "Question.__eq__" = true)
    (k_Question_eq : PySem.W.keepIn K (.ref f_Question_eq) = true)
    (i_Question_eq : PySem.W.isFn K (.ref f_Question_eq) = true)
    (a_Question_at : PySem.W.findCls K (.ref CQ) (.type "type") "at" = some (.get (.builtin "classmethod.__get__") (.ref p_Question_at) .none (.ref CQ)))
    (r1_Question_at : PySem.W.recIn K p_Question_at "classmethod" = some (.ref f_Question_at :: r_Question_at))
    (fi_Question_at : PySem.W.fnIn K f_Question_at = true)
    (l_Question_at : K.lookup f_Question_at = some ⟨oc_Question_at, od_Question_at, .func (PySem.W.fnOf "at" "Question.at" (defArgs s_Question_at) (defBody s_Question_at) (defScope s_Question_at) .none kV_Question_at dc_Question_at pm_Question_at an_Question_at cd_Question_at ct_Question_at), sl_Question_at⟩)
    (c_Question_at : PySem.W.codeIn K cd_Question_at "Question.at" = true)
    (k_Question_at : PySem.W.keepIn K (.ref f_Question_at) = true)
    (a_Question_between : PySem.W.findCls K (.ref CQ) (.type "type") "between" = some (.get (.builtin "classmethod.__get__") (.ref p_Question_between) .none (.ref CQ)))
    (r1_Question_between : PySem.W.recIn K p_Question_between "classmethod" = some (.ref f_Question_between :: r_Question_between))
    (fi_Question_between : PySem.W.fnIn K f_Question_between = true)
    (l_Question_between : K.lookup f_Question_between = some ⟨oc_Question_between, od_Question_between, .func (PySem.W.fnOf "between" "Question.between" (defArgs s_Question_between) (defBody s_Question_between) (defScope s_Question_between) .none kV_Question_between dc_Question_between pm_Question_between an_Question_between cd_Question_between ct_Question_between), sl_Question_between⟩)
    (c_Question_between : PySem.W.codeIn K cd_Question_between "Question.between" = true)
    (k_Question_between : PySem.W.keepIn K (.ref f_Question_between) = true)
    (pgT : PySem.W.plainGet K CT Str.empty = true)
    (hdT : PySem.W.hasDictIn K CT = true)
    (poT : PySem.W.plainOver K CT = true)
    (saT : PySem.W.findIn K (.ref CT) "__setattr__" = some (some (.builtin "object.__setattr__")))
    (mkT : PySem.W.makesIn K CT = true)
    (kcT : PySem.W.keepIn K (.ref CT) = true)
    (nfT : PySem.W.findIn K (.ref CT) "_counts" = some none)
    (haT : PySem.W.findIn K (.ref CT) "__class__" = some (some (.builtin "object.__class__")))
    (hmT : PySem.W.mroIn K CT (.type "object") = some true)
    (tyT : PySem.W.typeIn K (.ref CT) = some (.type "type"))
    (pgQ : PySem.W.plainGet K CQ Str.empty = true)
    (hdQ : PySem.W.hasDictIn K CQ = true)
    (poQ : PySem.W.plainOver K CQ = true)
    (saQ : PySem.W.findIn K (.ref CQ) "__setattr__" = some (some (.builtin "object.__setattr__")))
    (mkQ : PySem.W.makesIn K CQ = true)
    (kcQ : PySem.W.keepIn K (.ref CQ) = true)
    (nfQ : PySem.W.findIn K (.ref CQ) "_weights" = some none)
    (haQ : PySem.W.findIn K (.ref CQ) "__class__" = some (some (.builtin "object.__class__")))
    (hmQ : PySem.W.mroIn K CQ (.type "object") = some true)
    (tyQ : PySem.W.typeIn K (.ref CQ) = some (.type "type"))
    (su_T : PySem.W.subIn K (.ref CT) (.ref CQ) = some false)
    (su_tuple : PySem.W.subIn K (.type "tuple") (.ref CQ) = some false)
    (nTQ : (Value.ref CT == Value.ref CQ) = false)
    (hn : PySem.W.specialIn K (.builtin "object.__class__") "__get__" = some (some (.builtin "getset_descriptor.__get__")))
    (htk : PySem.W.takesIn K (.builtin "object.__class__") = some true)
    (rdQ : PySem.W.readsIn K CQ (.type "type") = true)
    (gaQ : PySem.W.specialIn K (.ref CQ) "__getattribute__" = some (some (.builtin "type.__getattribute__")))
    (xL : K.lookup CQ = some (excClassObj nmT qT CQ NQ bsT [.type "object"] hdcT snT subT abT colT ddT k0 k1 k2 k3 k5 nw))
    (nL : K.lookup NQ = some ⟨ocN, odN, .dict es nN, slN⟩)
    (sk : strKeysB es = true)
    (n1 : PySem.W.nsIn K NQ "__eq__" = some (some (.ref f_Question_eq)))
    (n2 : PySem.W.nsIn K NQ "__ne__" = some none)
    (oq : oc_Question_eq = .type "function")
    (a_CP : PySem.W.nsIn K mainGlobals "InvalidFact" = some (some (.ref CP)))
    (x_CP : K.lookup CP = some (excClassObj nmP qP CP NP bsP [.ref SP, .type "Exception", .type "BaseException", .type "object"] true snP subP abP colP ddP k0P k1P k2P k3P k5P "Exception.__new__"))
    (sa_CP : PySem.W.findIn K (.ref CP) "__setattr__" = some (some (.builtin "object.__setattr__")))
    (ga_CP : PySem.W.findIn K (.ref CP) "__getattribute__" = some (some (.builtin "BaseException.__getattribute__")))
    (gg_CP : PySem.W.findIn K (.ref CP) "__getattr__" = some none)
    (no_CP : PySem.W.findIn K (.ref CP) "place" = some none)
    (ic_CP : PySem.W.findIn K (.ref CP) "__init__" = some (some (.ref iP)))
    (tc_CP : PySem.W.typeIn K (.ref iP) = some (.type "function"))
    (kc_CP : PySem.W.keepIn K (.ref CP) = true)
    (ex_CP : PySem.W.subIn K (.ref CP) (.type "BaseException") = some true)
    (ty_CP : PySem.W.typeIn K (.ref CP) = some (.type "type"))
    (hd_CP : PySem.W.hasDictIn K CP = true)
    (te_CP : PySem.W.subIn K (.ref CP) (.ref CP) = some true)
    (l_CP : K.lookup iP = some ⟨ocP, odP, .func (PySem.W.fnOf "__init__" "InvalidFact.__init__" (PySem.ErrP.iA p1P p2P) (PySem.ErrP.iB q1P q2P q3P q4P) PySem.ErrP.iS .none .none dcP pmP anP cdP ctP), slP⟩)
    (c_CP : PySem.W.codeIn K cdP "InvalidFact.__init__" = true)
    (a_CV : PySem.W.nsIn K mainGlobals "InvalidNumber" = some (some (.ref CV)))
    (x_CV : K.lookup CV = some (excClassObj nmV qV CV NV bsV [.type "ValueError", .type "Exception", .type "BaseException", .type "object"] true snV subV abV colV ddV k0V k1V k2V k3V k5V "ValueError.__new__"))
    (sa_CV : PySem.W.findIn K (.ref CV) "__setattr__" = some (some (.builtin "object.__setattr__")))
    (ga_CV : PySem.W.findIn K (.ref CV) "__getattribute__" = some (some (.builtin "BaseException.__getattribute__")))
    (gg_CV : PySem.W.findIn K (.ref CV) "__getattr__" = some none)
    (no_CV : PySem.W.findIn K (.ref CV) "value" = some none)
    (ic_CV : PySem.W.findIn K (.ref CV) "__init__" = some (some (.ref iV)))
    (tc_CV : PySem.W.typeIn K (.ref iV) = some (.type "function"))
    (kc_CV : PySem.W.keepIn K (.ref CV) = true)
    (ex_CV : PySem.W.subIn K (.ref CV) (.type "BaseException") = some true)
    (ty_CV : PySem.W.typeIn K (.ref CV) = some (.type "type"))
    (hd_CV : PySem.W.hasDictIn K CV = true)
    (te_CV : PySem.W.subIn K (.ref CV) (.ref CV) = some true)
    (l_CV : K.lookup iV = some ⟨ocV, odV, .func (PySem.W.fnOf "__init__" "InvalidNumber.__init__" (PySem.ErrV.iA p1V p2V) (PySem.ErrV.iB q1V q2V q3V q4V) PySem.ErrV.iS .none .none dcV pmV anV cdV ctV), slV⟩)
    (c_CV : PySem.W.codeIn K cdV "InvalidNumber.__init__" = true) :
    ∃ fd : FuncData, (∀ (s : Shared) (v : Value), BindsTo s fd ⟨[v], []⟩ [("_law_script", v)]) ∧ ∀ base : Heap, K.In base → base.Ns mainGlobals mg → FnOk l.prog w K mg base CX0 14 fa fd ["_law_script"] (spLaw K) := by
  have e := hfa.symm.trans (PySem.W.mg_of X G a_law)
  cases e
  have F_is_whole := fun_mk (st := s_is_whole) l_is_whole c_is_whole k_is_whole
  have b_is_whole := F_is_whole.binds (ps := ["value"]) fun _ _ _ _ _ _ us hl => match us, hl with | [_], _ => rfl
  have D_is_whole : Df K mg "is_whole" s_is_whole ["value"] _ _ := ⟨F_is_whole, b_is_whole, PySem.W.mg_of X G a_is_whole⟩
  have F_is_below := fun_mk (st := s_is_below) l_is_below c_is_below k_is_below
  have b_is_below := F_is_below.binds (ps := ["size", "value"]) fun _ _ _ _ _ _ us hl => match us, hl with | [_, _], _ => rfl
  have D_is_below : Df K mg "is_below" s_is_below ["size", "value"] _ _ := ⟨F_is_below, b_is_below, PySem.W.mg_of X G a_is_below⟩
  have F_is_ascending := fun_mk (st := s_is_ascending) l_is_ascending c_is_ascending k_is_ascending
  have b_is_ascending := F_is_ascending.binds (ps := ["size", "value"]) fun _ _ _ _ _ _ us hl => match us, hl with | [_, _], _ => rfl
  have D_is_ascending : Df K mg "is_ascending" s_is_ascending ["size", "value"] _ _ := ⟨F_is_ascending, b_is_ascending, PySem.W.mg_of X G a_is_ascending⟩
  have F_is_size := fun_mk (st := s_is_size) l_is_size c_is_size k_is_size
  have b_is_size := F_is_size.binds (ps := ["value"]) fun _ _ _ _ _ _ us hl => match us, hl with | [_], _ => rfl
  have D_is_size : Df K mg "is_size" s_is_size ["value"] _ _ := ⟨F_is_size, b_is_size, PySem.W.mg_of X G a_is_size⟩
  have F_check_sizes := fun_mk (st := s_check_sizes) l_check_sizes c_check_sizes k_check_sizes
  have b_check_sizes := F_check_sizes.binds (ps := ["left", "right"]) fun _ _ _ _ _ _ us hl => match us, hl with | [_, _], _ => rfl
  have D_check_sizes : Df K mg "check_sizes" s_check_sizes ["left", "right"] _ _ := ⟨F_check_sizes, b_check_sizes, PySem.W.mg_of X G a_check_sizes⟩
  have F_check_below := fun_mk (st := s_check_below) l_check_below c_check_below k_check_below
  have b_check_below := F_check_below.binds (ps := ["size", "value"]) fun _ _ _ _ _ _ us hl => match us, hl with | [_, _], _ => rfl
  have D_check_below : Df K mg "check_below" s_check_below ["size", "value"] _ _ := ⟨F_check_below, b_check_below, PySem.W.mg_of X G a_check_below⟩
  have F_is_line := fun_mk (st := s_is_line) l_is_line c_is_line k_is_line
  have b_is_line := F_is_line.binds (ps := ["value"]) fun _ _ _ _ _ _ us hl => match us, hl with | [_], _ => rfl
  have D_is_line : Df K mg "is_line" s_is_line ["value"] _ _ := ⟨F_is_line, b_is_line, PySem.W.mg_of X G a_is_line⟩
  have F_is_grid := fun_mk (st := s_is_grid) l_is_grid c_is_grid k_is_grid
  have b_is_grid := F_is_grid.binds (ps := ["value"]) fun _ _ _ _ _ _ us hl => match us, hl with | [_], _ => rfl
  have D_is_grid : Df K mg "is_grid" s_is_grid ["value"] _ _ := ⟨F_is_grid, b_is_grid, PySem.W.mg_of X G a_is_grid⟩
  have F_grid_product := fun_mk (st := s_grid_product) l_grid_product c_grid_product k_grid_product
  have b_grid_product := F_grid_product.binds (ps := ["one", "other"]) fun _ _ _ _ _ _ us hl => match us, hl with | [_, _], _ => rfl
  have D_grid_product : Df K mg "grid_product" s_grid_product ["one", "other"] _ _ := ⟨F_grid_product, b_grid_product, PySem.W.mg_of X G a_grid_product⟩
  have F_grid_turned := fun_mk (st := s_grid_turned) l_grid_turned c_grid_turned k_grid_turned
  have b_grid_turned := F_grid_turned.binds (ps := ["grid"]) fun _ _ _ _ _ _ us hl => match us, hl with | [_], _ => rfl
  have D_grid_turned : Df K mg "grid_turned" s_grid_turned ["grid"] _ _ := ⟨F_grid_turned, b_grid_turned, PySem.W.mg_of X G a_grid_turned⟩
  have F_is_counts := fun_mk (st := s_is_counts) l_is_counts c_is_counts k_is_counts
  have b_is_counts := F_is_counts.binds (ps := ["value"]) fun _ _ _ _ _ _ us hl => match us, hl with | [_], _ => rfl
  have D_is_counts : Df K mg "is_counts" s_is_counts ["value"] _ _ := ⟨F_is_counts, b_is_counts, PySem.W.mg_of X G a_is_counts⟩
  have F_is_table := fun_mk (st := s_is_table) l_is_table c_is_table k_is_table
  have b_is_table := F_is_table.binds (ps := ["left", "right", "value"]) fun _ _ _ _ _ _ us hl => match us, hl with | [_, _, _], _ => rfl
  have D_is_table : Df K mg "is_table" s_is_table ["left", "right", "value"] _ _ := ⟨F_is_table, b_is_table, PySem.W.mg_of X G a_is_table⟩
  have F_check_table := fun_mk (st := s_check_table) l_check_table c_check_table k_check_table
  have b_check_table := F_check_table.binds (ps := ["left", "right", "value"]) fun _ _ _ _ _ _ us hl => match us, hl with | [_, _, _], _ => rfl
  have D_check_table : Df K mg "check_table" s_check_table ["left", "right", "value"] _ _ := ⟨F_check_table, b_check_table, PySem.W.mg_of X G a_check_table⟩
  have F_is_values := fun_mk (st := s_is_values) l_is_values c_is_values k_is_values
  have b_is_values := F_is_values.binds (ps := ["size", "value"]) fun _ _ _ _ _ _ us hl => match us, hl with | [_, _], _ => rfl
  have D_is_values : Df K mg "is_values" s_is_values ["size", "value"] _ _ := ⟨F_is_values, b_is_values, PySem.W.mg_of X G a_is_values⟩
  have F_has_where_form := fun_mk (st := s_has_where_form) l_has_where_form c_has_where_form k_has_where_form
  have b_has_where_form := F_has_where_form.binds (ps := ["left", "right", "value"]) fun _ _ _ _ _ _ us hl => match us, hl with | [_, _, _], _ => rfl
  have D_has_where_form : Df K mg "has_where_form" s_has_where_form ["left", "right", "value"] _ _ := ⟨F_has_where_form, b_has_where_form, PySem.W.mg_of X G a_has_where_form⟩
  have F_is_where := fun_mk (st := s_is_where) l_is_where c_is_where k_is_where
  have b_is_where := F_is_where.binds (ps := ["left", "right", "value"]) fun _ _ _ _ _ _ us hl => match us, hl with | [_, _, _], _ => rfl
  have D_is_where : Df K mg "is_where" s_is_where ["left", "right", "value"] _ _ := ⟨F_is_where, b_is_where, PySem.W.mg_of X G a_is_where⟩
  have F_covers := fun_mk (st := s_covers) l_covers c_covers k_covers
  have b_covers := F_covers.binds (ps := ["where", "left", "right"]) fun _ _ _ _ _ _ us hl => match us, hl with | [_, _, _], _ => rfl
  have D_covers : Df K mg "covers" s_covers ["where", "left", "right"] _ _ := ⟨F_covers, b_covers, PySem.W.mg_of X G a_covers⟩
  have F_where_grid := fun_mk (st := s_where_grid) l_where_grid c_where_grid k_where_grid
  have b_where_grid := F_where_grid.binds (ps := ["left", "right", "where"]) fun _ _ _ _ _ _ us hl => match us, hl with | [_, _, _], _ => rfl
  have D_where_grid : Df K mg "where_grid" s_where_grid ["left", "right", "where"] _ _ := ⟨F_where_grid, b_where_grid, PySem.W.mg_of X G a_where_grid⟩
  have F_cells := fun_mk (st := s_cells) l_cells c_cells k_cells
  have b_cells := F_cells.binds (ps := ["left", "right", "where"]) fun _ _ _ _ _ _ us hl => match us, hl with | [_, _, _], _ => rfl
  have D_cells : Df K mg "cells" s_cells ["left", "right", "where"] _ _ := ⟨F_cells, b_cells, PySem.W.mg_of X G a_cells⟩
  have F_products := fun_mk (st := s_products) l_products c_products k_products
  have b_products := F_products.binds (ps := ["lefts", "rights"]) fun _ _ _ _ _ _ us hl => match us, hl with | [_, _], _ => rfl
  have D_products : Df K mg "products" s_products ["lefts", "rights"] _ _ := ⟨F_products, b_products, PySem.W.mg_of X G a_products⟩
  have F_law_numbers := fun_mk (st := s_law_numbers) l_law_numbers c_law_numbers k_law_numbers
  have b_law_numbers := F_law_numbers.binds (ps := ["_law_cell", "_law_salt", "_law_sizes"]) fun _ _ _ _ _ _ us hl => match us, hl with | [_, _, _], _ => rfl
  have D_law_numbers : Df K mg "_law_numbers" s_law_numbers ["_law_cell", "_law_salt", "_law_sizes"] _ _ := ⟨F_law_numbers, b_law_numbers, PySem.W.mg_of X G a_law_numbers⟩
  have F_law_draw := fun_mk (st := s_law_draw) l_law_draw c_law_draw k_law_draw
  have b_law_draw := F_law_draw.binds (ps := ["_law_state", "_law_many"]) fun _ _ _ _ _ _ us hl => match us, hl with | [_, _], _ => rfl
  have D_law_draw : Df K mg "_law_draw" s_law_draw ["_law_state", "_law_many"] _ _ := ⟨F_law_draw, b_law_draw, PySem.W.mg_of X G a_law_draw⟩
  have F_law_pool := fun_mk (st := s_law_pool) l_law_pool c_law_pool k_law_pool
  have b_law_pool := F_law_pool.binds (ps := ["_law_cell", "_law_salt", "_law_many"]) fun _ _ _ _ _ _ us hl => match us, hl with | [_, _, _], _ => rfl
  have D_law_pool : Df K mg "_law_pool" s_law_pool ["_law_cell", "_law_salt", "_law_many"] _ _ := ⟨F_law_pool, b_law_pool, PySem.W.mg_of X G a_law_pool⟩
  have F_law_order := fun_mk (st := s_law_order) l_law_order c_law_order k_law_order
  have b_law_order := F_law_order.binds (ps := ["_law_state", "_law_size"]) fun _ _ _ _ _ _ us hl => match us, hl with | [_, _], _ => rfl
  have D_law_order : Df K mg "_law_order" s_law_order ["_law_state", "_law_size"] _ _ := ⟨F_law_order, b_law_order, PySem.W.mg_of X G a_law_order⟩
  have F_law_family := fun_mk (st := s_law_family) l_law_family c_law_family k_law_family
  have b_law_family := F_law_family.binds (ps := ["_law_state", "_law_values"]) fun _ _ _ _ _ _ us hl => match us, hl with | [_, _], _ => rfl
  have D_law_family : Df K mg "_law_family" s_law_family ["_law_state", "_law_values"] _ _ := ⟨F_law_family, b_law_family, PySem.W.mg_of X G a_law_family⟩
  have F_law_wheres := fun_mk (st := s_law_wheres) l_law_wheres c_law_wheres k_law_wheres
  have b_law_wheres := F_law_wheres.binds (ps := ["_law_state", "_law_left", "_law_right"]) fun _ _ _ _ _ _ us hl => match us, hl with | [_, _, _], _ => rfl
  have D_law_wheres : Df K mg "_law_wheres" s_law_wheres ["_law_state", "_law_left", "_law_right"] _ _ := ⟨F_law_wheres, b_law_wheres, PySem.W.mg_of X G a_law_wheres⟩
  have F_law_counts := fun_mk (st := s_law_counts) l_law_counts c_law_counts k_law_counts
  have b_law_counts := F_law_counts.binds (ps := ["_law_state", "_law_left", "_law_right", "_law_most"]) fun _ _ _ _ _ _ us hl => match us, hl with | [_, _, _, _], _ => rfl
  have D_law_counts : Df K mg "_law_counts" s_law_counts ["_law_state", "_law_left", "_law_right", "_law_most"] _ _ := ⟨F_law_counts, b_law_counts, PySem.W.mg_of X G a_law_counts⟩
  have F_law_weights := fun_mk (st := s_law_weights) l_law_weights c_law_weights k_law_weights
  have b_law_weights := F_law_weights.binds (ps := ["_law_state", "_law_left", "_law_right"]) fun _ _ _ _ _ _ us hl => match us, hl with | [_, _, _], _ => rfl
  have D_law_weights : Df K mg "_law_weights" s_law_weights ["_law_state", "_law_left", "_law_right"] _ _ := ⟨F_law_weights, b_law_weights, PySem.W.mg_of X G a_law_weights⟩
  have F_law_by_rows := fun_mk (st := s_law_by_rows) l_law_by_rows c_law_by_rows k_law_by_rows
  have b_law_by_rows := F_law_by_rows.binds (ps := ["_law_weights_here", "_law_table"]) fun _ _ _ _ _ _ us hl => match us, hl with | [_, _], _ => rfl
  have D_law_by_rows : Df K mg "_law_by_rows" s_law_by_rows ["_law_weights_here", "_law_table"] _ _ := ⟨F_law_by_rows, b_law_by_rows, PySem.W.mg_of X G a_law_by_rows⟩
  have F_law := fun_mk (st := s_law) l_law c_law k_law
  have b_law := F_law.binds (ps := ["_law_script"]) fun _ _ _ _ _ _ us hl => match us, hl with | [_], _ => rfl
  have F_Table_counts := fun_mk (st := s_Table_counts) l_Table_counts c_Table_counts k_Table_counts
  have b_Table_counts := F_Table_counts.binds (ps := ["self"]) fun _ _ _ _ _ _ us hl => match us, hl with | [_], _ => rfl
  have P_Table_counts : Pf K CT "counts" "Table.counts" s_Table_counts _ _ _ := ⟨F_Table_counts, b_Table_counts, ⟨a_Table_counts, g_Table_counts, t_Table_counts, ⟨_, r1_Table_counts⟩⟩⟩
  have F_Table_left := fun_mk (st := s_Table_left) l_Table_left c_Table_left k_Table_left
  have b_Table_left := F_Table_left.binds (ps := ["self"]) fun _ _ _ _ _ _ us hl => match us, hl with | [_], _ => rfl
  have P_Table_left : Pf K CT "left" "Table.left" s_Table_left _ _ _ := ⟨F_Table_left, b_Table_left, ⟨a_Table_left, g_Table_left, t_Table_left, ⟨_, r1_Table_left⟩⟩⟩
  have F_Table_right := fun_mk (st := s_Table_right) l_Table_right c_Table_right k_Table_right
  have b_Table_right := F_Table_right.binds (ps := ["self"]) fun _ _ _ _ _ _ us hl => match us, hl with | [_], _ => rfl
  have P_Table_right : Pf K CT "right" "Table.right" s_Table_right _ _ _ := ⟨F_Table_right, b_Table_right, ⟨a_Table_right, g_Table_right, t_Table_right, ⟨_, r1_Table_right⟩⟩⟩
  have F_Question_weights := fun_mk (st := s_Question_weights) l_Question_weights c_Question_weights k_Question_weights
  have b_Question_weights := F_Question_weights.binds (ps := ["self"]) fun _ _ _ _ _ _ us hl => match us, hl with | [_], _ => rfl
  have P_Question_weights : Pf K CQ "weights" "Question.weights" s_Question_weights _ _ _ := ⟨F_Question_weights, b_Question_weights, ⟨a_Question_weights, g_Question_weights, t_Question_weights, ⟨_, r1_Question_weights⟩⟩⟩
  have F_Question_left := fun_mk (st := s_Question_left) l_Question_left c_Question_left k_Question_left
  have b_Question_left := F_Question_left.binds (ps := ["self"]) fun _ _ _ _ _ _ us hl => match us, hl with | [_], _ => rfl
  have P_Question_left : Pf K CQ "left" "Question.left" s_Question_left _ _ _ := ⟨F_Question_left, b_Question_left, ⟨a_Question_left, g_Question_left, t_Question_left, ⟨_, r1_Question_left⟩⟩⟩
  have F_Question_right := fun_mk (st := s_Question_right) l_Question_right c_Question_right k_Question_right
  have b_Question_right := F_Question_right.binds (ps := ["self"]) fun _ _ _ _ _ _ us hl => match us, hl with | [_], _ => rfl
  have P_Question_right : Pf K CQ "right" "Question.right" s_Question_right _ _ _ := ⟨F_Question_right, b_Question_right, ⟨a_Question_right, g_Question_right, t_Question_right, ⟨_, r1_Question_right⟩⟩⟩
  have F_Table_init := fun_mk (st := s_Table_init) l_Table_init c_Table_init k_Table_init
  have b_Table_init := F_Table_init.binds (ps := ["self", "counts"]) fun _ _ _ _ _ _ us hl => match us, hl with | [_, _], _ => rfl
  have M_Table_init : Mf K "__init__" "Table.__init__" s_Table_init ["self", "counts"] _ _ := ⟨F_Table_init, b_Table_init⟩
  have W_Table_init : Meth K CT "__init__" f_Table_init := ⟨a_Table_init, i_Table_init, k_Table_init⟩
  have F_Table_turned := fun_mk (st := s_Table_turned) l_Table_turned c_Table_turned k_Table_turned
  have b_Table_turned := F_Table_turned.binds (ps := ["self"]) fun _ _ _ _ _ _ us hl => match us, hl with | [_], _ => rfl
  have M_Table_turned : Mf K "turned" "Table.turned" s_Table_turned ["self"] _ _ := ⟨F_Table_turned, b_Table_turned⟩
  have W_Table_turned : Meth K CT "turned" f_Table_turned := ⟨a_Table_turned, i_Table_turned, k_Table_turned⟩
  have F_Table_each := fun_mk (st := s_Table_each) l_Table_each c_Table_each k_Table_each
  have b_Table_each := F_Table_each.binds (ps := ["self"]) fun _ _ _ _ _ _ us hl => match us, hl with | [_], _ => rfl
  have M_Table_each : Mf K "each" "Table.each" s_Table_each ["self"] _ _ := ⟨F_Table_each, b_Table_each⟩
  have W_Table_each : Meth K CT "each" f_Table_each := ⟨a_Table_each, i_Table_each, k_Table_each⟩
  have F_Question_init := fun_mk (st := s_Question_init) l_Question_init c_Question_init k_Question_init
  have b_Question_init := F_Question_init.binds (ps := ["self", "weights"]) fun _ _ _ _ _ _ us hl => match us, hl with | [_, _], _ => rfl
  have M_Question_init : Mf K "__init__" "Question.__init__" s_Question_init ["self", "weights"] _ _ := ⟨F_Question_init, b_Question_init⟩
  have W_Question_init : Meth K CQ "__init__" f_Question_init := ⟨a_Question_init, i_Question_init, k_Question_init⟩
  have F_Question_weight := fun_mk (st := s_Question_weight) l_Question_weight c_Question_weight k_Question_weight
  have b_Question_weight := F_Question_weight.binds (ps := ["self", "left", "right"]) fun _ _ _ _ _ _ us hl => match us, hl with | [_, _, _], _ => rfl
  have M_Question_weight : Mf K "weight" "Question.weight" s_Question_weight ["self", "left", "right"] _ _ := ⟨F_Question_weight, b_Question_weight⟩
  have W_Question_weight : Meth K CQ "weight" f_Question_weight := ⟨a_Question_weight, i_Question_weight, k_Question_weight⟩
  have F_Question_turned := fun_mk (st := s_Question_turned) l_Question_turned c_Question_turned k_Question_turned
  have b_Question_turned := F_Question_turned.binds (ps := ["self"]) fun _ _ _ _ _ _ us hl => match us, hl with | [_], _ => rfl
  have M_Question_turned : Mf K "turned" "Question.turned" s_Question_turned ["self"] _ _ := ⟨F_Question_turned, b_Question_turned⟩
  have W_Question_turned : Meth K CQ "turned" f_Question_turned := ⟨a_Question_turned, i_Question_turned, k_Question_turned⟩
  have F_Question_call := fun_mk (st := s_Question_call) l_Question_call c_Question_call k_Question_call
  have b_Question_call := F_Question_call.binds (ps := ["self", "table"]) fun _ _ _ _ _ _ us hl => match us, hl with | [_, _], _ => rfl
  have M_Question_call : Mf K "__call__" "Question.__call__" s_Question_call ["self", "table"] _ _ := ⟨F_Question_call, b_Question_call⟩
  have W_Question_call : Meth K CQ "__call__" f_Question_call := ⟨a_Question_call, i_Question_call, k_Question_call⟩
  have F_Question_eq := fun_mk (st := s_Question_eq) l_Question_eq c_Question_eq k_Question_eq
  have b_Question_eq := F_Question_eq.binds (ps := ["self", "other"]) fun _ _ _ _ _ _ us hl => match us, hl with | [_, _], _ => rfl
  have M_Question_eq : Mf K "__eq__" "Question.__eq__" s_Question_eq ["self", "other"] _ _ := ⟨F_Question_eq, b_Question_eq⟩
  have W_Question_eq : Meth K CQ "__eq__" f_Question_eq := ⟨a_Question_eq, i_Question_eq, k_Question_eq⟩
  have F_Question_at := fun_mk (st := s_Question_at) l_Question_at c_Question_at k_Question_at
  have b_Question_at := F_Question_at.binds (ps := ["cls", "left", "right", "where"]) fun _ _ _ _ _ _ us hl => match us, hl with | [_, _, _, _], _ => rfl
  have M_Question_at : Mf K "at" "Question.at" s_Question_at ["cls", "left", "right", "where"] _ _ := ⟨F_Question_at, b_Question_at⟩
  have C_at : ClX.CMet K CQ (.type "type") "at" p_Question_at f_Question_at := ⟨a_Question_at, ⟨_, r1_Question_at⟩, fi_Question_at⟩
  have F_Question_between := fun_mk (st := s_Question_between) l_Question_between c_Question_between k_Question_between
  have b_Question_between := F_Question_between.binds (ps := ["cls", "lefts", "rights"]) fun _ _ _ _ _ _ us hl => match us, hl with | [_, _, _], _ => rfl
  have M_Question_between : Mf K "between" "Question.between" s_Question_between ["cls", "lefts", "rights"] _ _ := ⟨F_Question_between, b_Question_between⟩
  have C_between : ClX.CMet K CQ (.type "type") "between" p_Question_between f_Question_between := ⟨a_Question_between, ⟨_, r1_Question_between⟩, fi_Question_between⟩
  have BT : Kl K mg "Table" CT f_Table_init "_counts" := { cl := ⟨pgT, hdT, poT, saT⟩, nF := nfT, gC := PySem.W.mg_of X G aT, mkc := ⟨mkT, a_Table_init, i_Table_init, kcT⟩, ha := haT, hn := hn, htk := htk, hm := hmT }
  have BQ : Kl K mg "Question" CQ f_Question_init "_weights" := { cl := ⟨pgQ, hdQ, poQ, saQ⟩, nF := nfQ, gC := PySem.W.mg_of X G aQ, mkc := ⟨mkQ, a_Question_init, i_Question_init, kcQ⟩, ha := haQ, hn := hn, htk := htk, hm := hmQ }
  have EP : PySem.ErrP.ErrTxt K mg "InvalidFact" "InvalidFact.__init__" CP iP := { gC := PySem.W.mg_of X G a_CP, cls := ⟨_, _, _, _, _, _, _, _, _, _, _, _, _, _, _, _, x_CP, tail_ex⟩, sa := sa_CP, ga := ga_CP, gg := gg_CP, noN := no_CP, iC := ic_CP, tC := tc_CP, kC := kc_CP, exC := ex_CP, tyC := ty_CP, hdC := hd_CP, te := PySem.W.exm_ref ex_CP hd_CP ty_CP te_CP, fn := ⟨_, _, _, _, _, _, _, _, _, _, _, _, _, _, l_CP, c_CP⟩ }
  have EV : PySem.ErrV.ErrTxt K mg "InvalidNumber" "InvalidNumber.__init__" CV iV := { gC := PySem.W.mg_of X G a_CV, cls := ⟨_, _, _, _, _, _, _, _, _, _, _, _, _, _, _, _, x_CV, tail_ve⟩, sa := sa_CV, ga := ga_CV, gg := gg_CV, noN := no_CV, iC := ic_CV, tC := tc_CV, kC := kc_CV, exC := ex_CV, tyC := ty_CV, hdC := hd_CV, te := PySem.W.exm_ref ex_CV hd_CV ty_CV te_CV, fn := ⟨_, _, _, _, _, _, _, _, _, _, _, _, _, _, l_CV, c_CV⟩ }
  have T : Txt mg tk := { n_isinstance := PySem.W.mg_none_of X G z_isinstance, n_int := PySem.W.mg_none_of X G z_int, n_bool := PySem.W.mg_none_of X G z_bool, n_tuple := PySem.W.mg_none_of X G z_tuple, n_len := PySem.W.mg_none_of X G z_len, n_all := PySem.W.mg_none_of X G z_all, n_zip := PySem.W.mg_none_of X G z_zip, n_range := PySem.W.mg_none_of X G z_range, n_enumerate := PySem.W.mg_none_of X G z_enumerate, n_max := PySem.W.mg_none_of X G z_max, n_str := PySem.W.mg_none_of X G z_str, n_list := PySem.W.mg_none_of X G z_list, n_sorted := PySem.W.mg_none_of X G z_sorted, n_set := PySem.W.mg_none_of X G z_set, c_MOST_VALUES := PySem.W.mg_of X G z_MV }
  have n_sum := PySem.W.mg_none_of X G z_sum
  have NE : OwC.NeTxt K CQ f_Question_eq := ⟨nmT, qT, NQ, bsT, hdcT, snT, subT, abT, colT, ddT, k0, k1, k2, k3, k5, nw, ocN, odN, es, nN, slN, _, xL, nL, strKeys_of sk, nsFind_of nL n1, nsFind_of nL n2, l_Question_eq, oq⟩
  have CO : StX.CallO K CQ f_Question_call := ⟨a_Question_call, i_Question_call, fi_Question_call⟩
  refine ⟨PySem.W.fnOf "law" "law" (defArgs s_law) (defBody s_law) (defScope s_law) .none kV_law dc_law pm_law an_law cd_law ct_law, fun s v => .of_eq rfl, fun base _ _ => ?_⟩
  have G1 := ok_whole (P := l.prog) (w := w) (base := base) (k := 0) T D_is_whole
  have G1' := ok_whole (P := l.prog) (w := w) (base := base) (k := 1) T D_is_whole
  have G2 := ok_below (k := 0) D_is_whole G1 T D_is_below
  have G3 := ok_size (k := 0) D_is_whole G1 T D_is_size
  have G4 := ok_check_sizes (k := 0) EV D_is_size G3 T D_check_sizes
  have G50 := ok_asc (k := 0) D_is_below G2 T D_is_ascending
  have G5 := ok_values (k := 0) D_is_ascending G50 T D_is_values
  have G6 := ok_form (k := 0) D_is_below G2 D_is_values G5 T D_has_where_form
  have G7 := ok_is_where (k := 0) D_check_sizes G4 D_has_where_form G6 T D_is_where
  have G8 := ok_covers (P := l.prog) (w := w) (base := base) (k := 0) D_covers
  have G9 := ok_cells (k := 0) EP D_is_where G7 D_covers G8 T D_cells
  have GB := ok_check_below (k := 0) D_is_below G2 D_check_below
  have T1 := ok_line (k := 0) D_is_whole G1 T D_is_line
  have T1' := ok_line (k := 1) D_is_whole G1' T D_is_line
  have T2 := ok_grid (k := 0) D_is_line T1 T D_is_grid
  have T2' := ok_grid (k := 1) D_is_line T1' T D_is_grid
  have T3 := ok_counts (k := 0) D_is_grid T2 T D_is_counts
  have p1 := ok_Table_counts (P := l.prog) (w := w) (base := base) (k := 0) BT T P_Table_counts
  have p2 := ok_Table_left (P := l.prog) (w := w) (base := base) (k := 0) BT T P_Table_left
  have p3 := ok_Table_right (P := l.prog) (w := w) (base := base) (k := 0) BT T P_Table_right
  have r1 := ok_Question_weights (P := l.prog) (w := w) (base := base) (k := 0) BQ T P_Question_weights
  have r2 := ok_Question_left (P := l.prog) (w := w) (base := base) (k := 0) BQ T P_Question_left
  have r3 := ok_Question_right (P := l.prog) (w := w) (base := base) (k := 0) BQ T P_Question_right
  have T4 := ok_Table_init (k := 0) BT T D_is_counts T3 M_Table_init
  have Q4 := ok_Question_init (k := 0) BQ T D_is_grid T2' M_Question_init
  have T5 := ok_is_table (k := 0) BT P_Table_left p2 P_Table_right p3 T D_is_table
  have T6 := ok_check_table (k := 0) D_is_table T5 D_check_table
  have X1 := ok_gprod (P := l.prog) (w := w) (base := base) (k := 0) T D_grid_product
  have X2 := ok_turned (P := l.prog) (w := w) (base := base) (k := 0) T D_grid_turned
  have X3 := ok_tturned (k := 0) BT D_grid_turned X2 M_Table_init T4 M_Table_turned
  have X4 := ok_qturned (k := 0) BQ D_grid_turned X2 M_Question_init Q4 M_Question_turned
  have X5 := ok_weight (k := 0) BQ D_check_below GB P_Question_left r2 P_Question_right r3 M_Question_weight
  have X6 := ok_qcall (k := 0) n_sum BT BQ D_check_table T6 D_grid_product X1 P_Question_left r2 P_Question_right r3 P_Table_counts p1 M_Question_call
  have X7 := ok_qeq (P := l.prog) (w := w) (base := base) (k := 0) BQ T M_Question_eq
  have X8 := ok_wgrid (k := 0) D_covers G8 T D_where_grid
  have X9 := ok_products (P := l.prog) (w := w) (base := base) (k := 0) T D_products
  have Y1 := ok_at (k := 0) BQ D_is_where G7 D_where_grid X8 M_Question_init Q4 M_Question_at
  have Y2 := ok_between (k := 0) BQ D_is_line T1 D_products X9 M_Question_init Q4 M_Question_between
  have Y3 := gok_each (P := l.prog) (w := w) (base := base) (k := 0) BT T F_Table_each
  have g1 := ok_num (P := l.prog) (w := w) (base := base) (k := 0) T D_law_numbers
  have g2 := ok_draw (P := l.prog) (w := w) (base := base) (k := 0) T D_law_draw
  have g3 := ok_pool (k := 0) D_law_numbers g1 T D_law_pool
  have g4 := ok_order (k := 0) D_law_draw g2 T D_law_order
  have g5 := ok_family (k := 0) D_law_draw g2 T D_law_family 9
  have g6 := ok_wheres (k := 0) D_law_draw g2 D_law_order g4 D_law_family g5 T D_law_wheres
  have g7 := ok_gc (k := 0) D_law_draw g2 T D_law_counts
  have g8 := ok_gw (k := 0) D_law_draw g2 T D_law_weights
  have g9 := ok_by_rows (k := 0) n_sum BT T W_Table_each Y3 b_Table_each D_law_by_rows
  exact ok_law (k := 0) T BT BQ ⟨hdQ, tyQ⟩ ⟨su_tuple, rfl⟩ ⟨su_T, nTQ⟩ D_law_draw g2 D_law_pool g3 D_law_wheres g6 D_law_counts g7 D_law_weights g8 D_law_by_rows g9 D_cells G9 M_Table_init T4 M_Question_init Q4 P_Question_weights r1 P_Question_left r2 P_Question_right r3 CO X6 b_Question_call W_Question_turned X4 b_Question_turned W_Table_turned X3 b_Table_turned W_Question_weight X5 b_Question_weight ⟨rdQ, gaQ⟩ C_at (fnr_of Y1 b_Question_at) C_between (fnr_of Y2 b_Question_between) X7 a_Question_eq i_Question_eq b_Question_eq NE ⟨F_law, b_law, hfa⟩
theorem walk {l : PySem.W.OpenLaw} {q : Program} {loose : List Str} {XP : (Str → Option Value) → Heap → Prop} {YP : World → Heap → Prop} {d : DefRec} {K : Params → PySem.W.Frag} (hn : l.most = some 63) (hdf : d.params.defaults = [])
    (hY : ∀ (w : World) (h : Heap), YP w h → (K w.params).In h)
    (F : ∀ (w : World) (mg : Str → Option Value) (fa : Addr) (h : Heap), (K w.params).In h → h.Ns mainGlobals mg → mg d.name = some (.ref fa) →
      ∃ fd : FuncData, (∀ (s : Shared) (u : Value), BindsTo s fd ⟨[u], []⟩ [("_law_script", u)]) ∧ ∀ base : Heap, (K w.params).In base → base.Ns mainGlobals mg → FnOk l.prog w (K w.params) mg base CX0 14 fa fd ["_law_script"] (spLaw (K w.params))) :
    PySem.W.WalkO q loose XP YP l.row.toRowW d [] (fun f vs => PySem.call f vs) :=
  L2.walk_ofK (n := 63) (k := 14) (x := "_law_script") (CX := CX0) (sp := spLaw) hn (by decide) hdf ⟨rfl, by decide, by decide⟩ hY F (fun K H a ns hl _ hS => ⟨a, ns, rfl, hS, hl, fun _ => rfl⟩) fun _ _ _ _ z => z
end K20
open PySem PySem.W PyProof.Rows
set_option maxRecDepth 100000 in
set_option maxHeartbeats 0 in
theorem PySem.Challenge.cw_surecounts_k25_questions_holds : PySem.Challenge.rw_surecounts_k25_questions.Holds := by
  w_on; o_law; k_head; (case hw => w_witness2)
  k_fill
  refine K20.walk (l := PySem.Challenge.rw_surecounts_k25_questions) rfl rfl (fun w h Y => PySem.W.kIn_of Y) ?F
  case F =>
    intro w mg fa h KX G hmg
    refine' K20.all_mk KX G hmg ?aT ?aQ ?z_isinstance ?z_int ?z_bool ?z_tuple ?z_len ?z_all ?z_zip ?z_range ?z_enumerate ?z_max ?z_str ?z_list ?z_sorted ?z_set ?z_sum ?z_MV ?a_is_whole ?l_is_whole ?c_is_whole ?k_is_whole ?a_is_below ?l_is_below ?c_is_below ?k_is_below ?a_is_ascending ?l_is_ascending ?c_is_ascending ?k_is_ascending ?a_is_size ?l_is_size ?c_is_size ?k_is_size ?a_check_sizes ?l_check_sizes ?c_check_sizes ?k_check_sizes ?a_check_below ?l_check_below ?c_check_below ?k_check_below ?a_is_line ?l_is_line ?c_is_line ?k_is_line ?a_is_grid ?l_is_grid ?c_is_grid ?k_is_grid ?a_grid_product ?l_grid_product ?c_grid_product ?k_grid_product ?a_grid_turned ?l_grid_turned ?c_grid_turned ?k_grid_turned ?a_is_counts ?l_is_counts ?c_is_counts ?k_is_counts ?a_is_table ?l_is_table ?c_is_table ?k_is_table ?a_check_table ?l_check_table ?c_check_table ?k_check_table ?a_is_values ?l_is_values ?c_is_values ?k_is_values ?a_has_where_form ?l_has_where_form ?c_has_where_form ?k_has_where_form ?a_is_where ?l_is_where ?c_is_where ?k_is_where ?a_covers ?l_covers ?c_covers ?k_covers ?a_where_grid ?l_where_grid ?c_where_grid ?k_where_grid ?a_cells ?l_cells ?c_cells ?k_cells ?a_products ?l_products ?c_products ?k_products ?a_law_numbers ?l_law_numbers ?c_law_numbers ?k_law_numbers ?a_law_draw ?l_law_draw ?c_law_draw ?k_law_draw ?a_law_pool ?l_law_pool ?c_law_pool ?k_law_pool ?a_law_order ?l_law_order ?c_law_order ?k_law_order ?a_law_family ?l_law_family ?c_law_family ?k_law_family ?a_law_wheres ?l_law_wheres ?c_law_wheres ?k_law_wheres ?a_law_counts ?l_law_counts ?c_law_counts ?k_law_counts ?a_law_weights ?l_law_weights ?c_law_weights ?k_law_weights ?a_law_by_rows ?l_law_by_rows ?c_law_by_rows ?k_law_by_rows ?a_law ?l_law ?c_law ?k_law ?a_Table_counts ?r1_Table_counts ?g_Table_counts ?t_Table_counts ?l_Table_counts ?c_Table_counts ?k_Table_counts ?a_Table_left ?r1_Table_left ?g_Table_left ?t_Table_left ?l_Table_left ?c_Table_left ?k_Table_left ?a_Table_right ?r1_Table_right ?g_Table_right ?t_Table_right ?l_Table_right ?c_Table_right ?k_Table_right ?a_Question_weights ?r1_Question_weights ?g_Question_weights ?t_Question_weights ?l_Question_weights ?c_Question_weights ?k_Question_weights ?a_Question_left ?r1_Question_left ?g_Question_left ?t_Question_left ?l_Question_left ?c_Question_left ?k_Question_left ?a_Question_right ?r1_Question_right ?g_Question_right ?t_Question_right ?l_Question_right ?c_Question_right ?k_Question_right ?a_Table_init ?l_Table_init ?c_Table_init ?k_Table_init ?i_Table_init ?a_Table_turned ?l_Table_turned ?c_Table_turned ?k_Table_turned ?i_Table_turned ?a_Table_each ?l_Table_each ?c_Table_each ?k_Table_each ?i_Table_each ?a_Question_init ?l_Question_init ?c_Question_init ?k_Question_init ?i_Question_init ?a_Question_weight ?l_Question_weight ?c_Question_weight ?k_Question_weight ?i_Question_weight ?a_Question_turned ?l_Question_turned ?c_Question_turned ?k_Question_turned ?i_Question_turned ?a_Question_call ?l_Question_call ?c_Question_call ?k_Question_call ?i_Question_call ?fi_Question_call ?a_Question_eq ?l_Question_eq ?c_Question_eq ?k_Question_eq ?i_Question_eq ?a_Question_at ?r1_Question_at ?fi_Question_at ?l_Question_at ?c_Question_at ?k_Question_at ?a_Question_between ?r1_Question_between ?fi_Question_between ?l_Question_between ?c_Question_between ?k_Question_between ?pgT ?hdT ?poT ?saT ?mkT ?kcT ?nfT ?haT ?hmT ?tyT ?pgQ ?hdQ ?poQ ?saQ ?mkQ ?kcQ ?nfQ ?haQ ?hmQ ?tyQ ?su_T ?su_tuple ?nTQ ?hn ?htk ?rdQ ?gaQ ?xL ?nL ?sk ?n1 ?n2 ?oq ?a_CP ?x_CP ?sa_CP ?ga_CP ?gg_CP ?no_CP ?ic_CP ?tc_CP ?kc_CP ?ex_CP ?ty_CP ?hd_CP ?te_CP ?l_CP ?c_CP ?a_CV ?x_CV ?sa_CV ?ga_CV ?gg_CV ?no_CV ?ic_CV ?tc_CV ?kc_CV ?ex_CV ?ty_CV ?hd_CV ?te_CV ?l_CV ?c_CV
    (case aT => k_is)
    (case aQ => k_is)
    (case z_isinstance => k_is)
    (case z_int => k_is)
    (case z_bool => k_is)
    (case z_tuple => k_is)
    (case z_len => k_is)
    (case z_all => k_is)
    (case z_zip => k_is)
    (case z_range => k_is)
    (case z_enumerate => k_is)
    (case z_max => k_is)
    (case z_str => k_is)
    (case z_list => k_is)
    (case z_sorted => k_is)
    (case z_set => k_is)
    (case z_sum => k_is)
    (case z_MV => k_is)
    (case a_is_whole => k_is)
    (case l_is_whole => k_is)
    (case c_is_whole => k_is)
    (case k_is_whole => k_is)
    (case a_is_below => k_is)
    (case l_is_below => k_is)
    (case c_is_below => k_is)
    (case k_is_below => k_is)
    (case a_is_ascending => k_is)
    (case l_is_ascending => k_is)
    (case c_is_ascending => k_is)
    (case k_is_ascending => k_is)
    (case a_is_size => k_is)
    (case l_is_size => k_is)
    (case c_is_size => k_is)
    (case k_is_size => k_is)
    (case a_check_sizes => k_is)
    (case l_check_sizes => k_is)
    (case c_check_sizes => k_is)
    (case k_check_sizes => k_is)
    (case a_check_below => k_is)
    (case l_check_below => k_is)
    (case c_check_below => k_is)
    (case k_check_below => k_is)
    (case a_is_line => k_is)
    (case l_is_line => k_is)
    (case c_is_line => k_is)
    (case k_is_line => k_is)
    (case a_is_grid => k_is)
    (case l_is_grid => k_is)
    (case c_is_grid => k_is)
    (case k_is_grid => k_is)
    (case a_grid_product => k_is)
    (case l_grid_product => k_is)
    (case c_grid_product => k_is)
    (case k_grid_product => k_is)
    (case a_grid_turned => k_is)
    (case l_grid_turned => k_is)
    (case c_grid_turned => k_is)
    (case k_grid_turned => k_is)
    (case a_is_counts => k_is)
    (case l_is_counts => k_is)
    (case c_is_counts => k_is)
    (case k_is_counts => k_is)
    (case a_is_table => k_is)
    (case l_is_table => k_is)
    (case c_is_table => k_is)
    (case k_is_table => k_is)
    (case a_check_table => k_is)
    (case l_check_table => k_is)
    (case c_check_table => k_is)
    (case k_check_table => k_is)
    (case a_is_values => k_is)
    (case l_is_values => k_is)
    (case c_is_values => k_is)
    (case k_is_values => k_is)
    (case a_has_where_form => k_is)
    (case l_has_where_form => k_is)
    (case c_has_where_form => k_is)
    (case k_has_where_form => k_is)
    (case a_is_where => k_is)
    (case l_is_where => k_is)
    (case c_is_where => k_is)
    (case k_is_where => k_is)
    (case a_covers => k_is)
    (case l_covers => k_is)
    (case c_covers => k_is)
    (case k_covers => k_is)
    (case a_where_grid => k_is)
    (case l_where_grid => k_is)
    (case c_where_grid => k_is)
    (case k_where_grid => k_is)
    (case a_cells => k_is)
    (case l_cells => k_is)
    (case c_cells => k_is)
    (case k_cells => k_is)
    (case a_products => k_is)
    (case l_products => k_is)
    (case c_products => k_is)
    (case k_products => k_is)
    (case a_law_numbers => k_is)
    (case l_law_numbers => k_is)
    (case c_law_numbers => k_is)
    (case k_law_numbers => k_is)
    (case a_law_draw => k_is)
    (case l_law_draw => k_is)
    (case c_law_draw => k_is)
    (case k_law_draw => k_is)
    (case a_law_pool => k_is)
    (case l_law_pool => k_is)
    (case c_law_pool => k_is)
    (case k_law_pool => k_is)
    (case a_law_order => k_is)
    (case l_law_order => k_is)
    (case c_law_order => k_is)
    (case k_law_order => k_is)
    (case a_law_family => k_is)
    (case l_law_family => k_is)
    (case c_law_family => k_is)
    (case k_law_family => k_is)
    (case a_law_wheres => k_is)
    (case l_law_wheres => k_is)
    (case c_law_wheres => k_is)
    (case k_law_wheres => k_is)
    (case a_law_counts => k_is)
    (case l_law_counts => k_is)
    (case c_law_counts => k_is)
    (case k_law_counts => k_is)
    (case a_law_weights => k_is)
    (case l_law_weights => k_is)
    (case c_law_weights => k_is)
    (case k_law_weights => k_is)
    (case a_law_by_rows => k_is)
    (case l_law_by_rows => k_is)
    (case c_law_by_rows => k_is)
    (case k_law_by_rows => k_is)
    (case a_law => k_is)
    (case l_law => k_is)
    (case c_law => k_is)
    (case k_law => k_is)
    (case a_Table_counts => k_is)
    (case r1_Table_counts => k_is)
    (case g_Table_counts => k_is)
    (case t_Table_counts => k_is)
    (case l_Table_counts => k_is)
    (case c_Table_counts => k_is)
    (case k_Table_counts => k_is)
    (case a_Table_left => k_is)
    (case r1_Table_left => k_is)
    (case g_Table_left => k_is)
    (case t_Table_left => k_is)
    (case l_Table_left => k_is)
    (case c_Table_left => k_is)
    (case k_Table_left => k_is)
    (case a_Table_right => k_is)
    (case r1_Table_right => k_is)
    (case g_Table_right => k_is)
    (case t_Table_right => k_is)
    (case l_Table_right => k_is)
    (case c_Table_right => k_is)
    (case k_Table_right => k_is)
    (case a_Question_weights => k_is)
    (case r1_Question_weights => k_is)
    (case g_Question_weights => k_is)
    (case t_Question_weights => k_is)
    (case l_Question_weights => k_is)
    (case c_Question_weights => k_is)
    (case k_Question_weights => k_is)
    (case a_Question_left => k_is)
    (case r1_Question_left => k_is)
    (case g_Question_left => k_is)
    (case t_Question_left => k_is)
    (case l_Question_left => k_is)
    (case c_Question_left => k_is)
    (case k_Question_left => k_is)
    (case a_Question_right => k_is)
    (case r1_Question_right => k_is)
    (case g_Question_right => k_is)
    (case t_Question_right => k_is)
    (case l_Question_right => k_is)
    (case c_Question_right => k_is)
    (case k_Question_right => k_is)
    (case a_Table_init => k_is)
    (case l_Table_init => k_is)
    (case c_Table_init => k_is)
    (case k_Table_init => k_is)
    (case i_Table_init => k_is)
    (case a_Table_turned => k_is)
    (case l_Table_turned => k_is)
    (case c_Table_turned => k_is)
    (case k_Table_turned => k_is)
    (case i_Table_turned => k_is)
    (case a_Table_each => k_is)
    (case l_Table_each => k_is)
    (case c_Table_each => k_is)
    (case k_Table_each => k_is)
    (case i_Table_each => k_is)
    (case a_Question_init => k_is)
    (case l_Question_init => k_is)
    (case c_Question_init => k_is)
    (case k_Question_init => k_is)
    (case i_Question_init => k_is)
    (case a_Question_weight => k_is)
    (case l_Question_weight => k_is)
    (case c_Question_weight => k_is)
    (case k_Question_weight => k_is)
    (case i_Question_weight => k_is)
    (case a_Question_turned => k_is)
    (case l_Question_turned => k_is)
    (case c_Question_turned => k_is)
    (case k_Question_turned => k_is)
    (case i_Question_turned => k_is)
    (case a_Question_call => k_is)
    (case l_Question_call => k_is)
    (case c_Question_call => k_is)
    (case k_Question_call => k_is)
    (case i_Question_call => k_is)
    (case fi_Question_call => k_is)
    (case a_Question_eq => k_is)
    (case l_Question_eq => k_is)
    (case c_Question_eq => k_is)
    (case k_Question_eq => k_is)
    (case i_Question_eq => k_is)
    (case a_Question_at => k_is)
    (case r1_Question_at => k_is)
    (case fi_Question_at => k_is)
    (case l_Question_at => k_is)
    (case c_Question_at => k_is)
    (case k_Question_at => k_is)
    (case a_Question_between => k_is)
    (case r1_Question_between => k_is)
    (case fi_Question_between => k_is)
    (case l_Question_between => k_is)
    (case c_Question_between => k_is)
    (case k_Question_between => k_is)
    (case pgT => k_is)
    (case hdT => k_is)
    (case poT => k_is)
    (case saT => k_is)
    (case mkT => k_is)
    (case kcT => k_is)
    (case nfT => k_is)
    (case haT => k_is)
    (case hmT => k_is)
    (case tyT => k_is)
    (case pgQ => k_is)
    (case hdQ => k_is)
    (case poQ => k_is)
    (case saQ => k_is)
    (case mkQ => k_is)
    (case kcQ => k_is)
    (case nfQ => k_is)
    (case haQ => k_is)
    (case hmQ => k_is)
    (case tyQ => k_is)
    (case su_T => k_is)
    (case su_tuple => k_is)
    (case nTQ => first | rfl | decide +kernel | k_is)
    (case hn => k_is)
    (case htk => k_is)
    (case rdQ => k_is)
    (case gaQ => k_is)
    (case xL => k_is)
    (case nL => k_is)
    (case sk => first | rfl | decide +kernel)
    (case n1 => k_is)
    (case n2 => k_is)
    (case oq => first | rfl | k_is)
    (case a_CP => k_is)
    (case x_CP => k_is)
    (case sa_CP => k_is)
    (case ga_CP => k_is)
    (case gg_CP => k_is)
    (case no_CP => k_is)
    (case ic_CP => k_is)
    (case tc_CP => k_is)
    (case kc_CP => k_is)
    (case ex_CP => k_is)
    (case ty_CP => k_is)
    (case hd_CP => k_is)
    (case te_CP => k_is)
    (case l_CP => k_is)
    (case c_CP => k_is)
    (case a_CV => k_is)
    (case x_CV => k_is)
    (case sa_CV => k_is)
    (case ga_CV => k_is)
    (case gg_CV => k_is)
    (case no_CV => k_is)
    (case ic_CV => k_is)
    (case tc_CV => k_is)
    (case kc_CV => k_is)
    (case ex_CV => k_is)
    (case ty_CV => k_is)
    (case hd_CV => k_is)
    (case te_CV => k_is)
    (case l_CV => k_is)
    (case c_CV => k_is)
