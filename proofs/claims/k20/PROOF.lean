import PyProof.Rows.All
import Wide.All
import OpenK.AllK
import Wide.FinOn
import PyProof.EqAt
import PyProof.EqKinds
import PyProof.TupleCall
import PySem.Challenge.RW_surecounts_k20_wheres
import HandS.ForMost
import HandS.Exc
import HandS.ExcOwn
import HandS.TryOnly
import HandS.WordsExc
import HandS.Zip
import HandS.Conv
import HandS.IsInst
import HandS.Deep
import HandS.TupAny
import HandS.Strs
import HandS.SetFor
import HandS.Evl
import HandS.Style
import HandS.ExcIs
set_option Elab.async false
set_option linter.all false
set_option maxRecDepth 100000
set_option maxHeartbeats 2100000
/-! several clauses «except X as n», one after the other -/
namespace TA5
open PySem L2 PySem.Spec PyProof.Rows
abbrev TSx := Addr → Value → Option Addr → TS
def wAll (K : PySem.W.Frag) (Wout : WX) (D : Ends) : List (Value × Nat × TSx) → WX
  | [] => Wout
  | (c, i, ts) :: r => fun cls d σ H => ∃ b, PySem.W.exmOne K cls c = some b ∧
    (b = true → ∀ a, H a = none → ts a cls d { nx := fun σ' H' => D.nx (σ'.set i none) H', rt := D.rt, bk := fun σ' H' => D.bk (σ'.set i none) H', ct := fun σ' H' => D.ct (σ'.set i none) H' } (σ.set i (some (.ref a))) H) ∧ (b = false → wAll K Wout D r cls d σ H)
inductive Hds (X : Cx) : List ExceptHandler → List (Value × Nat × TSx) → Prop
  | nil : Hds X [] []
  | cons {x n : Str} {i : Nat} {c : Value} {ts : TSx} {b₀ : Stmt} {suite : List Stmt} {np pos' : Pos} {hds : List ExceptHandler} {l : List (Value × Nat × TSx)} (hi : X.N[i]? = some n) (hln : X.env.kindOf n = some .local) (hc : Names X x c)
      (hsu : ∀ (a : Addr) (oe : Obj) (cls : Value) (d : Option Addr) (pn : List (Addr × Obj)), Zc cls d oe → (∃ vs, oe.data = .fields vs) → PSs (X.suite a ((a, oe) :: pn)) (b₀ :: suite) (ts a cls d)) (r : Hds X hds l) :
      Hds X (.ExceptHandler (some (.Name x np)) (some n) (b₀ :: suite) pos' :: hds) ((c, i, ts) :: l)
section
variable {X : Cx} {body : List Stmt} {h₀ : ExceptHandler} {hds : List ExceptHandler} {l : List (Value × Nat × TSx)} {pos : Pos} {tb : WX → TS} {Wout : WX}
theorem ps_try_all (hs : X.stack = X.env :: X.outer) (hf : X.env.frame = some X.env.locals) (hN : X.N.Nodup) (tk : Takes X Wout)
    (hb : ∀ (W : WX) (pn : List (Addr × Obj)) (xe : Value → Shared → Prop), Takes (X.tr pn xe) W → PassesOwn (model X.prog X.w) X.A X.env xe → PSs (X.tr pn xe) body (tb W))
    (hh : Hds X (h₀ :: hds) l) : PS X (.Try body (h₀ :: hds) [] [] pos) (fun D σ H => tb (wAll X.K Wout D l) D σ H) := by
  refine ⟨fun pins s σ H D I h => ?_⟩
  have ok := I.ok; have hfr : X.A.frames = some (X.env :: X.outer) := by rw [I.ok.frames, hs]
  refine wpAny_Try_except ?_
  refine wpAny_mono ((hb (wAll X.K Wout D l) (X.pn ++ pins) (fun e s₁ => wpAny (model X.prog X.w) X.A (noteFrame e X.env) (fun _ s₂ => wpAny (model X.prog X.w) X.A (setFlight e none) (fun _ s₃ =>
    wpAny (model X.prog X.w) X.A (handleBy e X.env (h₀ :: hds)) (SP X pins D) X.xe s₃) X.xe s₂) X.xe s₁) (fun u s' xx => ?_) PassesOwn.looking).run [] s σ H D (I.toTry _) h) (fun f s1 hsp => ?_) (fun e s1 he => he)
  · obtain ⟨a, B, sI, pins', σ', H', cls, d, rfl, J', nb, up, sky, na, os, ag, w⟩ := xx
    have J : Inv X pins σ' H' sI := J'.ofTry ok; have sky' : Sky B (X.env :: X.outer) a (Zc cls d) X.env.locals s'.heap := by rw [← hs]; exact sky
    show wpAny (model X.prog X.w) X.A (noteFrame (.ref a) X.env) _ _ _
    refine Sky.land Zc.steady hfr hf sky' fun h3 fl3 up3 => ?_
    have J3 : Inv X pins σ' H' { s' with heap := h3 } := J.landed nb fl3.1 (up.trans up3) os ag; obtain ⟨oe3, vs3, he3, hz3, hd3⟩ := fl3.there
    have notFr : ∀ {hq : Heap} {oq : Obj} {vq : Array Value}, hq.FunFrames B (X.env :: X.outer) → hq.get? a = some oq → oq.data = .fields vq → a ∉ frs (X.env :: X.outer) := fun {hq oq vq} ff e dd hm => by
      obtain ⟨_, o', e', hnf⟩ := ff.mem hm; rw [e] at e'; cases e'
      exact hnf _ dd
    have nfr := notFr fl3.2.2.1 he3 hd3
    have nL : a ≠ X.env.locals := fun z => nfr (List.mem_filterMap.mpr ⟨X.env, List.mem_cons_self, by rw [hf, z]⟩); have nF : a ∉ X.fs := fun hm => by
      obtain ⟨e, he, q⟩ := List.mem_filterMap.mp hm; exact nfr (List.mem_filterMap.mpr ⟨e, List.mem_cons_of_mem _ he, q⟩)
    have S3 := J3.suite he3 hd3 na nL nF
    have go : ∀ {hds' : List ExceptHandler} {l' : List (Value × Nat × TSx)}, Hds X hds' l' → wAll X.K Wout D l' cls d σ' H' → wpAny (model X.prog X.w) X.A (handleBy (.ref a) X.env hds') (SP X pins D) X.xe { s' with heap := h3 } := by
      intro hds' l' hk
      induction hk with
      | nil =>
        intro w
        refine wpAny_handleBy_nil ?_
        obtain ⟨k1, k2, k3, oe, vs, T, oT, ts', he, hz, hd, h1, hr⟩ := id fl3
        unfold PySem.passOn
        refine wpAny_bind (wpAny_field he hd h1 ?_); rw [if_neg (show ¬ ((Value.ref T == Value.none) = true) from by simp)]
        have fin : wpAny (model X.prog X.w) X.A (setFlight (.ref a) X.env.frame) (fun _ s4 => wpAny (model X.prog X.w) X.A (throw (.ref a) : Sem Flow) (SP X pins D) X.xe s4) X.xe { s' with heap := h3 } := by
          rw [hf]
          refine HandSPX.setFlight_upZ fl3 fun h4 hh4 up4 => wpAny_throw (tk _ _ ?_)
          exact ⟨a, B, sI, pins, σ', H', cls, d, rfl, J, nb, (up.trans up3).trans up4, .inr (.inr (by rw [hs]; exact hh4)), na, os, ag, w⟩
        first
          | exact wpAny_bind (wpAny_pure (wpAny_bind fin))
          | exact wpAny_bind fin
      | @cons x n i c ts b₀ suite np pos' hds2 l2 hi hln hc hsu r ih =>
        intro w
        obtain ⟨b, hb1, hyes, hno⟩ := w
        refine wpAny_handleBy_cons (codeAny_handlers_test ?_) (by intro q; cases q)
        have LT : PySem.W.Looks (model X.prog X.w) h3 (typeOf (.ref a)) cls := fun A Q E s k q => wpAny_typeOf_ref (k _ _ he3) (by rw [hz3.1]; exact q)
        have LM := PySem.W.exm_one (M := model X.prog X.w) (J3.kIn) LT hb1
        have test : ∀ {Q : Value → Shared → Prop} {E : Value → Shared → Prop}, Q c { s' with heap := h3 } → wpAny (model X.prog X.w) (X.A.mark (some (.ref a))) (eval (.Name x np) X.env) Q E { s' with heap := h3 } := fun {Q E} q => by
          obtain ⟨hg, hdbg, hm | ⟨hm, hv, hnn⟩⟩ := hc
          · exact ld_glob (X := X.suite a ((a, oe3) :: (X.pn ++ pins))) S3 hg hm q hdbg
          · exact ld_blt (X := X.suite a ((a, oe3) :: (X.pn ++ pins))) S3 hg hm hv q hnn hdbg
        refine test (LM.here ?_)
        cases b with
        | true =>
          refine codeAny_handlers_suite_as ?_
          refine HandSPX.lands_againZ fl3 fun h4 fl4 up4 => ?_
          have J4 : Inv X pins σ' H' { s' with heap := h4 } := J.landed nb fl4.1 ((up.trans up3).trans up4) os ag
          obtain ⟨oe4, vs4, he4, hz4, hd4⟩ := fl4.there
          have S4 := J4.suite he4 hd4 na nL nF
          refine store_ok (X := X.suite a ((a, oe4) :: (X.pn ++ pins))) (v := .ref a) S4 hN hi (.inl hln) rfl (fun s5 S5 => ?_) (.inr hln)
          refine wpAny_mono ((hsu a oe4 cls d (X.pn ++ pins) hz4 ⟨_, hd4⟩).run [] s5 _ H' _ S5 (hyes rfl a na)) (fun f s6 hsp => ?_) (fun _ _ z => False.elim z)
          have end_ : ∀ {σ6 : L2.St} {H6 : Hp} {Q : Shared → Prop}, Inv (X.suite a ((a, oe4) :: (X.pn ++ pins))) [] σ6 H6 s6 → (∀ s7, Inv X pins (σ6.set i none) H6 s7 → Q s7) →
              wpAny (model X.prog X.w) X.A (do bindName X.env n .none; unbindBehindTheSuite X.env n pos') (fun _ s7 => Q s7) X.xe s6 := fun {σ6 H6 Q} S6 hq => gone_ok (S6.unsuite ok) hN hi hln hq
          cases f with
          | next => obtain ⟨σ6, H6, S6, q6⟩ := hsp; exact end_ S6 fun s7 J7 => ⟨_, _, J7, q6⟩
          | brk => obtain ⟨σ6, H6, S6, q6⟩ := hsp; exact end_ S6 fun s7 J7 => ⟨_, _, J7, q6⟩
          | cont => obtain ⟨σ6, H6, S6, q6⟩ := hsp; exact end_ S6 fun s7 J7 => ⟨_, _, J7, q6⟩
          | ret u => obtain ⟨v6, σ6, H6, S6, r6, q6⟩ := hsp; exact end_ S6 fun s7 J7 => ⟨_, _, _, J7, r6, q6⟩
        | false =>
          show wpAny _ X.A (handleBy (.ref a) X.env hds2) _ _ _
          exact ih (hno rfl)
    exact go hh w
  · cases f with
    | next => obtain ⟨σ', H', J', q⟩ := hsp; exact wpAny_execs_nil ⟨σ', H', J'.ofTry ok, q⟩
    | brk => obtain ⟨σ', H', J', q⟩ := hsp; exact ⟨σ', H', J'.ofTry ok, q⟩
    | cont => obtain ⟨σ', H', J', q⟩ := hsp; exact ⟨σ', H', J'.ofTry ok, q⟩
    | ret u => obtain ⟨v, σ', H', J', r, q⟩ := hsp; exact ⟨v, σ', H', J'.ofTry ok, r, q⟩
end
end TA5

namespace PySem
open Builtin
/-- a class's chain behind itself: own classes, then a base's -/
structure Tail (bm : List Value) (newId : String) : Prop where
  base : ∃ B initId tail, ExcBaseFacts B newId initId tail ∧ ∀ X : String, bm.contains (.type X) = tail.contains (.type X)
  pass : ∀ self C, refuseLoop self "__setattr__" (.ref C :: bm) = pure ()
  obj : bm.contains (.type "object") = true
end PySem
namespace TA5
open PySem PySem.W PySem.Calls PyProof.Rows PySem.HandSPX PySem.Builtin PySem.Builtin.ObjectAttr
theorem tail_ve : Tail [.type "ValueError", .type "Exception", .type "BaseException", .type "object"] "ValueError.__new__" := ⟨⟨_, _, _, PySem.F.excBase_ValueError, fun _ => rfl⟩, fun self C => by rw [refuseLoop_ref]; exact PySem.F.store_ValueError.passes self, rfl⟩
theorem tail_ex {S : Addr} : Tail [.ref S, .type "Exception", .type "BaseException", .type "object"] "Exception.__new__" := ⟨⟨_, _, _, PySem.F.excBase_Exception, fun X => by rw [List.contains_cons]; rfl⟩, fun self C => by rw [refuseLoop_ref, refuseLoop_ref]; exact PySem.F.store_Exception.passes self, rfl⟩
theorem one_size (v : Value) : [v].length ≤ sizeLine := by
  rw [sizeLine_eq]
  exact (by decide : 1 ≤ 16777216)
theorem ldC {M : Model} {s : Shared} {name : Str} {scope : Scope} {L a : Addr} {cd : Value} {m : Str → Option Value} {x : Str} {pos : Pos} {v : Value} {Q : Value → Shared → Prop} {A : Around} {E : Value → Shared → Prop} (hn : s.heap.Ns L m) (hv : m x = some v) (h : Q v s)
    (hk : scope.kind = .function := by rfl) (hl : (envOfC name scope L a cd).kindOf x = some .local := by rfl) (hd : (x == ("__debug__" : Str)) = false := by decide) :
    wpAny M A (eval (.Name x pos) (envOfC name scope L a cd)) Q E s := wpAny_Name (wpAny_loadName_local hk hl hn hv h) hd
section
variable {prog : Program} {w : World} {A : Around} {R : Result → Shared → Prop} {hp : Heap} {g : Array GenState} {d : Drawn} {t : Nat} {os : OsState}
theorem exc_osaT {K : W.Frag} {name : Str} {tk : Tok} {v : Value} {x C : Addr} {fv : Array Value} {cd : ClassData} {bm : List Value}
    (X : K.In hp) (hx : hp.get? x = some { cls := .ref C, data := .fields fv }) (hcd : W.clsIn K C = some cd) (hps : ∀ self C, refuseLoop self "__setattr__" (.ref C :: bm) = pure ()) (hobj : bm.contains (.type "object") = true) (hmro : cd.mro = .ref C :: bm) (ha : W.findIn K (.ref C) name = some none)
    (hq : ∀ h' tk' dx, (∀ b o, b ≠ x → hp.get? b = some o → h'.get? b = some o) → hp.objs.size ≤ dx → dx ≠ x → h'.get? x = some { cls := .ref C, dict := some dx, data := .fields fv } →
      h'.Ns1 dx (fun y => if y = name then some v else none) → R (.ok (.ret .none)) ⟨h', g, d, tk', os⟩) (hh : cd.hasDict = true := by rfl) :
    codeAny (model prog w) A (.call (.builtin "object.__setattr__") ⟨[.ref x, .str name tk, v], []⟩) R ⟨hp, g, d, t, os⟩ := by
  have I : W.InstAt hp x { cls := .ref C, data := .fields fv } C none := ⟨hx, rfl, rfl, trivial⟩
  have SF := F.store_object
  have ne : cd.mro.isEmpty = false := by rw [hmro] <;> rfl
  have hob : cd.mro.contains (.type "object") = true := by rw [hmro, List.contains_cons, hobj, Bool.or_true]
  have hxs : x ≠ hp.objs.size := Nat.ne_of_lt (Heap.lt_size hx)
  have sub : W.Looks (model prog w) hp (isInstance (.ref x) (.type "object")) true := I.type.andThen (W.looks_mroIn X (by unfold W.mroIn; rw [hcd, Option.bind_some, if_neg (by rw [ne]; decide), hob]))
  refine codeAny_call_builtin SF.slot.plain SF.entry (@W.check_slot (model prog w) _ _ ⟨hp, g, d, t, os⟩ "object.__setattr__" "object" "__setattr__" (.ref x) [.str name tk, v] [] _ SF.kind SF.split sub (SF.args (.ref x) (.str name tk) v) ?_)
  have hmr : W.Looks (model prog w) hp (mroOf (.ref C)) cd.mro := (W.looks_clsIn X hcd).andThen .now
  have L3 : W.Looks (model prog w) hp (storeTaker? none) none := .now
  have hcls : W.Looks (model prog w) hp (classData C) cd := W.looks_clsIn X hcd
  rw [W.osa_eq, refuse_eq]
  refine wpAny_bind (wpAny_bind (I.type.at (wpAny_bind (hmr.at ?_))))
  rw [hmro, hps]
  refine wpAny_pure (wpAny_bind (I.type.at (wpAny_bind ((W.looks_findIn X ha).at (wpAny_bind (L3.at ?_))))))
  show wpAny _ _ (storeInOwnDict (.ref x) (.ref C) (.str name tk) name v false) _ _ _
  clear hmro ne hob hmr sub
  obtain ⟨nm, bs, mro, ns, qn, hd, sn, sb, ab, col, del⟩ := cd
  dsimp only at hh
  subst hh
  unfold storeInOwnDict ownDictForStores
  repeat (first | with_reducible refine store_in_new ?_ ?_ | with_reducible refine wpAny_loadPart_at hx ?_ | with_reducible refine hcls.at ?_ | wp_step)
  · exact ⟨_, #[], _, (Heap.get?_update_ne _ _ _ _ hxs.symm).trans (Heap.get?_push_at rfl rfl), rfl, fun e he => absurd he (by simp), fun _ => rfl⟩
  · intro h' tk' hn' hs
    have hx₁ : (hp.push { cls := .type "dict", data := .dict #[] }).get? x = some { cls := .ref C, data := .fields fv } := Heap.get?_push_of_some _ hx
    refine hq h' tk' hp.objs.size (fun b o hb ho => ?_) (Nat.le_refl _) hxs.symm ?_ hn'
    · exact (hs.2 b (Nat.ne_of_lt (Heap.lt_size ho))).trans ((Heap.get?_update_ne _ _ _ _ hb).trans (Heap.get?_push_of_some _ ho))
    · exact (hs.2 x hxs).trans (Heap.get?_update_self _ hx₁ rfl)
end
end TA5

namespace PySem
namespace ErrP
open PySem.W PySem.Calls PyProof.Rows PySem.HandSPX
def iA (p1 p2 : Pos) : Arguments := { posonlyargs := [], args := [{ arg := "self", annotation := none, pos := p1 }, { arg := "place", annotation := none, pos := p2 }], vararg := none, kwonlyargs := [], kw_defaults := [], kwarg := none, defaults := [] }
def iB (q1 q2 q3 q4 : Pos) : List Stmt := [.Assign [.Attribute (.Name "self" q1) "place" q2] (.Name "place" q3) q4]
def iS : Scope := { kind := .function, names := [(PySem.Str.ofString "self", .local), (PySem.Str.ofString "place", .local)], isGenerator := false, isCoroutine := false, more := [] }
/-- what the written part says of the error class x, at C, and of its __init__, at fI -/
structure ErrTxt (K : Frag) (mg : Str → Option Value) (x q : Str) (C fI : Addr) : Prop where
  gC : mg x = some (.ref C)
  cls : ∃ nm qq N bs bm sn sub ab col dd k0 k1 k2 k3 k5 newId, K.lookup C = some (excClassObj nm qq C N bs bm true sn sub ab col dd k0 k1 k2 k3 k5 newId) ∧ Tail bm newId
  sa : findIn K (.ref C) "__setattr__" = some (some (.builtin "object.__setattr__"))
  ga : findIn K (.ref C) "__getattribute__" = some (some (.builtin "BaseException.__getattribute__"))
  gg : findIn K (.ref C) "__getattr__" = some none
  noN : findIn K (.ref C) "place" = some none
  iC : findIn K (.ref C) "__init__" = some (some (.ref fI))
  tC : typeIn K (.ref fI) = some (.type "function")
  kC : keepIn K (.ref C) = true
  exC : subIn K (.ref C) (.type "BaseException") = some true
  tyC : typeIn K (.ref C) = some (.type "type")
  hdC : hasDictIn K C = true
  te : exmOne K (.ref C) (.ref C) = some true
  fn : ∃ (oc : Value) (od : Option Addr) (doc pm : Value) (an : Option Addr) (cdv ct : Value) (osl : Array (Option Value)) (p1 p2 q1 q2 q3 q4 : Pos),
    K.lookup fI = some ⟨oc, od, .func (fnOf "__init__" q (iA p1 p2) (iB q1 q2 q3 q4) iS .none .none doc pm an cdv ct), osl⟩ ∧ codeIn K cdv q = true
structure InitEnd (h h' : Heap) (x C dx t1 : Addr) (v : Value) : Prop where
  keep : ∀ b o, b ≠ x → h.get? b = some o → h'.get? b = some o
  obj : h'.get? x = some { cls := .ref C, dict := some dx, data := .fields #[.ref t1, .none, .none, .none, .bool false, .none] }
  dbig : h.objs.size ≤ dx
  dne : dx ≠ x
  ns : h'.Ns1 dx (fun y => if y = "place" then some v else none)
structure OwnMade (h h' : Heap) (e C d : Addr) (v : Value) : Prop where
  keep : ∀ b o, h.get? b = some o → h'.get? b = some o
  new : h.objs.size ≤ e
  obj : ∃ oe vs, h'.get? e = some oe ∧ oe.cls = .ref C ∧ oe.dict = some d ∧ oe.data = .fields vs ∧ vs[1]? = some .none
  dbig : h.objs.size ≤ d
  dne : d ≠ e
  ns : h'.Ns1 d (fun y => if y = "place" then some v else none)
section
variable {prog : Program} {w : World} {A : Around} {E : Value → Shared → Prop} {R : Result → Shared → Prop} {s : Shared} {K : Frag} {mg : Str → Option Value} {C fI : Addr} {xn q : Str}
theorem err_init (T : ErrTxt K mg xn q C fI) {x t0 : Addr} {v : Value} (X : K.In s.heap) (hlim : s.heap.NoLimit) (hx : s.heap.get? x = some (excO C t0)) (hnx : K.lookup x = none) (hroom : A.depth < recursionLimit)
    (hq : ∀ h' tk dx, InitEnd s.heap h' x C dx t0 v → R (.ok (.ret .none)) { s with heap := h', toks := tk }) :
    codeAny (model prog w) A (.call (.ref fI) ⟨[.ref x, v], []⟩) R s := by
  obtain ⟨oc, od, doc, pm, an, cdv, ct, osl, p1, p2, q1, q2, q3, q4, ho, hcd⟩ := T.fn
  obtain ⟨nm, qq, N, bs, bm, sn, sub, ab, col, dd, k0, k1, k2, k3, k5, newId, hC, hbm⟩ := T.cls
  have hcl : clsIn K C = some { name := nm, bases := bs, mro := .ref C :: bm, ns := N, qualname := qq, hasDict := true, slotNames := sn, subclasses := sub, abstract := ab, collection := col, hasDel := false } := by unfold clsIn; rw [hC] <;> rfl
  refine Att.call_fn (binds := [("self", .ref x), ("place", v)]) X hlim ho hcd hroom (BindsTo.of_eq (by first | rfl | with_unfolding_all rfl)) (by first | rfl | decide | with_unfolding_all rfl) (fun s₁ IC => ?_) rfl rfl rfl
  obtain ⟨h₁, tk₁, rfl⟩ := IC.toInCall.same
  have k : ∀ b o, s.heap.get? b = some o → h₁.get? b = some o := IC.toInCall.keep
  have hn := IC.toInCall.ns
  have hxL : s.heap.objs.size ≠ x := Nat.ne_of_gt (Heap.lt_size hx)
  have X₁ : K.In h₁ := X.keeps k
  have hx₁ := k _ _ hx
  show wpAny _ _ (execs _ _) _ _ _
  refine wpAny_execs_cons (plainObj_wpAny_Assign_Attribute ?_)
  refine TA5.ldC (v := v) hn (by first | rfl | with_unfolding_all rfl | kernel_rfl) (TA5.ldC (v := .ref x) hn (by first | rfl | with_unfolding_all rfl | kernel_rfl) ?_)
  refine set_plain X₁ (ox := excO C t0) (od := none) ⟨hx₁, rfl, rfl, trivial⟩ T.sa ?_
  refine TA5.exc_osaT X₁ hx₁ hcl hbm.pass hbm.obj rfl T.noN (fun h₃ tk₃ dx k₃ dn dne hx₃ hn₃ => ?_)
  show wpAny _ _ (execs _ _) _ _ _
  have z : s.heap.objs.size < h₁.objs.size := hn.lt
  exact wpAny_execs_nil (hq h₃ tk₃ dx ⟨fun b o hb e => k₃ b o hb (k b o e), hx₃, Nat.le_of_lt (Nat.lt_of_lt_of_le z dn), dne, hn₃⟩)
theorem err_made (T : ErrTxt K mg xn q C fI) {v : Value} (X : K.In s.heap) (hlim : s.heap.NoLimit) (hroom : A.depth + 1 < recursionLimit)
    (hq : ∀ h' tk e d, OwnMade s.heap h' e C d v → R (.ok (.ret (.ref e))) { s with heap := h', toks := tk }) :
    codeAny (model prog w) A (.call (.ref C) ⟨[v], []⟩) R s := by
  obtain ⟨nm, qq, N, bs, bm, sn, sub, ab, col, dd, k0, k1, k2, k3, k5, newId, hC, hbm⟩ := T.cls
  obtain ⟨B, initId, tail, F, hT⟩ := hbm.base
  obtain ⟨hp, g, dr, tk, os⟩ := s
  have k : ∀ b o, hp.get? b = some o → ((hp.push (kdv_tup [v])).push (excO C hp.objs.size)).get? b = some o := fun b o e => Heap.get?_push_of_some _ (Heap.get?_push_of_some _ e)
  have hget : ((hp.push (kdv_tup [v])).push (excO C hp.objs.size)).get? (hp.objs.size + 1) = some (excO C hp.objs.size) := by heap_get
  have hnx : K.lookup (hp.objs.size + 1) = none := by
    cases e : K.lookup (hp.objs.size + 1) with
    | none => rfl
    | some o =>
      have z : hp.get? (hp.objs.size + 1) = some o := X _ _ e
      exact absurd (Nat.lt_of_succ_lt (Heap.lt_size z)) (Nat.lt_irrefl _)
  refine call_own F hT (X _ _ hC) (looks_findIn X T.iC) (fun self => bind_fn X self T.tC) (TA5.one_size v) ?_
  refine err_init (s := ⟨(hp.push (kdv_tup [v])).push (excO C hp.objs.size), g, dr, tk, os⟩) T (X.keeps k) (hlim.keeps k) hget hnx ?_ fun h' tk' dx ⟨k', hx, dn, dne, hns⟩ => ?_
  · show A.depth + 1 < recursionLimit
    exact hroom
  · have old : ∀ b o, hp.get? b = some o → h'.get? b = some o := fun b o e => k' b o (Nat.ne_of_lt (Nat.lt_succ_of_lt (Heap.lt_size e))) (k b o e)
    have z : hp.objs.size + 1 + 1 ≤ dx := by
      first
        | (simpa only [Heap.size_push] using dn)
        | exact dn
        | (have q := dn; rw [Heap.size_push, Heap.size_push] at q; exact q)
    exact ⟨rfl, hq h' tk' (hp.objs.size + 1) dx ⟨old, Nat.le_succ _, ⟨_, _, hx, rfl, rfl, rfl, rfl⟩, Nat.le_trans (Nat.le_trans (Nat.le_succ _) (Nat.le_succ _)) z, dne, hns⟩⟩
end
end ErrP
end PySem
namespace ErrPL
open PySem L2 PySem.Spec PyProof.Rows
theorem relO_err {v : V} {v' : Value} (r : RelV v v') (f : Str) : RelO (List.lookup f [(("place" : Str), v)]) (if f = "place" then some v' else none) := by
  by_cases hw : f = "place"
  · subst hw
    rw [if_pos rfl]
    have q : List.lookup ("place" : Str) [(("place" : Str), v)] = some v := by simp [List.lookup]
    rw [q]
    exact r
  · rw [if_neg hw]
    have qw : (f == ("place" : Str)) = false := by simpa using hw
    have q2 : List.lookup f [(("place" : Str), v)] = none := by simp [List.lookup, qw]
    rw [q2]
    trivial
section
variable {X : Cx} {C fI : Addr} {xn q : Str}
def tMkErr (C : Addr) (ta : TA) : L2.St → Hp → XK → Prop := fun σ H Q => ta σ H fun vs H1 => ∃ v, vs = [v] ∧ ∀ d, H1 d = none → Q (.ref C) (some d) (upd H1 d (.xd [(("place" : Str), v)]))
theorem pmk_err {a : Expr} {ta : TA} {p pos : Pos} {k : Nat} (T : PySem.ErrP.ErrTxt X.K X.mg xn q C fI) (hr : Room k X.A) (ha : PA X [a] ta) (hg : Gl X xn := by rfl) (hdb : (xn == ("__debug__" : Str)) = false := by decide)
    (he : starEach (a :: []) X.env = (false, eval a X.env) :: starEach [] X.env := by rfl) (hpl : (backTo pos (starEach [] X.env)).any (·.1) = false := by rfl) :
    PMk X (.Call (.Name xn p) [a] [] pos) (tMkErr C ta) := by
  intro pins s σ H Q I h
  refine wpAny_Call_Name_kw (ld_glob I hg T.gC ?_ hdb)
  refine PySem.W.callWith_K (h₀ := X.base) I.ok.mod.kin T.kC (thn (ha.run pos pins s σ H _ I h) fun us s1 hh => ?_) he hpl
  obtain ⟨vs, H1, I1, r1, v, ev, q1⟩ := hh
  subst ev
  refine ⟨I1.kIn, ?_⟩
  cases r1 with
  | cons rv rn =>
    rename_i v' us'
    cases rn
    show wpAny _ _ (call (.ref C) [v']) _ _ _
    have hlim := I1.nolimit
    obtain ⟨hp, g, dr, tk, os⟩ := s1
    refine wpAny_call (PySem.ErrP.err_made T I1.kIn hlim (by have := hr.dp; omega) fun h' tk' e d M => ?_)
    show MkP X pins σ Q (.ref e) ⟨h', g, dr, tk', os⟩
    obtain ⟨oe, fv, hoe, hc, hd, hdat, h1⟩ := M.obj
    have hns := M.ns
    obtain ⟨G', g1, g2⟩ := restrict h' fun b => decide (b ≠ e)
    have gk : ∀ b, b ≠ e → G'.get? b = h'.get? b := fun b hb => g1 b (decide_eq_true hb)
    have ge : G'.get? e = none := g2 e (by simp)
    have old : ∀ b o, hp.get? b = some o → G'.get? b = some o := fun b o q => (gk b (Nat.ne_of_lt (Nat.lt_of_lt_of_le (Heap.lt_size q) M.new))).trans (M.keep b o q)
    have ob : ObjOk X.prog X.w (upd H1 d (.xd [(("place" : Str), v)])) G' d (.xd [(("place" : Str), v)]) :=
      ⟨_, hns.at (fun o q => (gk d M.dne).trans q), fun f => relO_err rv f⟩
    have J : Inv X pins σ (upd H1 d (.xd [(("place" : Str), v)])) ⟨G', g, dr, tk', os⟩ := I1.laid (t' := tk') old M.dbig ob
    refine ⟨e, oe, fv, ⟨G', g, dr, tk', os⟩, _, .ref C, some d, rfl, J, fun b o q => ?_, ge, hoe, ⟨hc, hd⟩, hdat, h1, ?_, rfl, I1.bare, raises_own T.exC T.tyC, q1 d (I1.hok.fresh M.dbig)⟩
    · by_cases hb : b = e
      · have q' : G'.get? b = some o := q
        rw [hb, ge] at q'; cases q'
      · exact (gk b hb).symm.trans q
    · rw [upd_ne (Ne.symm M.dne)]
      exact I1.hok.fresh M.new
def tRaiseErr (C : Addr) (W : WX) (ta : TA) : TS := fun _ σ H => tMkErr C ta σ H fun cls d H' => W cls d σ H'
theorem ps_raiseErr {a : Expr} {ta : TA} {W : WX} {p pos pos2 : Pos} {k : Nat} (hc : X.calm = true) (T : PySem.ErrP.ErrTxt X.K X.mg xn q C fI) (hr : Room k X.A) (tk : Takes X W) (ha : PA X [a] ta) (hg : Gl X xn := by rfl) (hdb : (xn == ("__debug__" : Str)) = false := by decide)
    (he : starEach (a :: []) X.env = (false, eval a X.env) :: starEach [] X.env := by rfl) (hpl : (backTo pos (starEach [] X.env)).any (·.1) = false := by rfl) :
    PS X (.Raise (some (.Call (.Name xn p) [a] [] pos)) none pos2) (tRaiseErr C W ta) := ps_raise hc tk (pmk_err T hr ha hg hdb he hpl)
def tFldErr (C : Addr) (a : Addr) (cls : Value) (d : Option Addr) (te : TE) : TE := fun σ H Q => te σ H fun x H1 => x = .ref a ∧ cls = .ref C ∧ ∃ (dd : Addr) (v : V), d = some dd ∧ H1 dd = some (.xd [(("place" : Str), v)]) ∧ Q v H1
theorem pe_fldErr {a : Addr} {oe : Obj} {cls : Value} {d : Option Addr} {pn : List (Addr × Obj)} {e : Expr} {te : TE} {pos : Pos} (T : PySem.ErrP.ErrTxt X.K X.mg xn q C fI) (hz : Zc cls d oe) (hf : ∃ vs, oe.data = .fields vs) (he : PE (X.suite a ((a, oe) :: pn)) e te)
    (hb : attributeBase e "place" X.env (eval e X.env) = eval e X.env := by rfl) :
    PE (X.suite a ((a, oe) :: pn)) (.Attribute e "place" pos) (tFldErr C a cls d te) := by
  refine ⟨fun pins s σ H Q I h => ?_⟩
  refine attr_of hb (thn (he.run pins s σ H _ I h) fun u s1 hh => ?_)
  obtain ⟨x, H1, I1, rx, ex, ec, dd, v, ed, ea, q⟩ := hh
  subst ex
  obtain rfl : u = Value.ref a := rx
  subst ec
  subst ed
  obtain ⟨ha, _⟩ := I1.pin (a, oe) (List.mem_append_left _ List.mem_cons_self)
  obtain ⟨vs, hd⟩ := hf
  have hx : ObjOk X.prog X.w H1 s1.heap dd (.xd [(("place" : Str), v)]) := I1.hok dd _ ea
  obtain ⟨mA, hns, hr⟩ := hx
  obtain ⟨od, ho, hl⟩ := lookIn_ns hns
  have l : List.lookup ("place" : Str) [(("place" : Str), v)] = some v := by simp [List.lookup]
  obtain ⟨u, hu, ru⟩ := RelO.some_of (v := v) (o := mA "place") (by rw [← l]; exact hr "place")
  have J : PySem.W.InstAt s1.heap a oe C (some od) := ⟨ha, hz.1, by unfold PySem.W.notCls; rw [hd] <;> rfl, by rw [hz.2]; exact ho⟩
  exact HandSPX.exc_get I1.kIn J T.ga T.gg T.exC (PySem.W.findObj_own T.hdC T.noN rfl (by rw [hl, hu])) (handed_of ru) ⟨v, H1, I1.tok _, ru, q⟩
end
end ErrPL

namespace PySem
namespace ErrV
open PySem.W PySem.Calls PyProof.Rows PySem.HandSPX
def iA (p1 p2 : Pos) : Arguments := { posonlyargs := [], args := [{ arg := "self", annotation := none, pos := p1 }, { arg := "value", annotation := none, pos := p2 }], vararg := none, kwonlyargs := [], kw_defaults := [], kwarg := none, defaults := [] }
def iB (q1 q2 q3 q4 : Pos) : List Stmt := [.Assign [.Attribute (.Name "self" q1) "value" q2] (.Name "value" q3) q4]
def iS : Scope := { kind := .function, names := [(PySem.Str.ofString "self", .local), (PySem.Str.ofString "value", .local)], isGenerator := false, isCoroutine := false, more := [] }
/-- what the written part says of the error class x, at C, and of its __init__, at fI -/
structure ErrTxt (K : Frag) (mg : Str → Option Value) (x q : Str) (C fI : Addr) : Prop where
  gC : mg x = some (.ref C)
  cls : ∃ nm qq N bs bm sn sub ab col dd k0 k1 k2 k3 k5 newId, K.lookup C = some (excClassObj nm qq C N bs bm true sn sub ab col dd k0 k1 k2 k3 k5 newId) ∧ Tail bm newId
  sa : findIn K (.ref C) "__setattr__" = some (some (.builtin "object.__setattr__"))
  ga : findIn K (.ref C) "__getattribute__" = some (some (.builtin "BaseException.__getattribute__"))
  gg : findIn K (.ref C) "__getattr__" = some none
  noN : findIn K (.ref C) "value" = some none
  iC : findIn K (.ref C) "__init__" = some (some (.ref fI))
  tC : typeIn K (.ref fI) = some (.type "function")
  kC : keepIn K (.ref C) = true
  exC : subIn K (.ref C) (.type "BaseException") = some true
  tyC : typeIn K (.ref C) = some (.type "type")
  hdC : hasDictIn K C = true
  te : exmOne K (.ref C) (.ref C) = some true
  fn : ∃ (oc : Value) (od : Option Addr) (doc pm : Value) (an : Option Addr) (cdv ct : Value) (osl : Array (Option Value)) (p1 p2 q1 q2 q3 q4 : Pos),
    K.lookup fI = some ⟨oc, od, .func (fnOf "__init__" q (iA p1 p2) (iB q1 q2 q3 q4) iS .none .none doc pm an cdv ct), osl⟩ ∧ codeIn K cdv q = true
structure InitEnd (h h' : Heap) (x C dx t1 : Addr) (v : Value) : Prop where
  keep : ∀ b o, b ≠ x → h.get? b = some o → h'.get? b = some o
  obj : h'.get? x = some { cls := .ref C, dict := some dx, data := .fields #[.ref t1, .none, .none, .none, .bool false, .none] }
  dbig : h.objs.size ≤ dx
  dne : dx ≠ x
  ns : h'.Ns1 dx (fun y => if y = "value" then some v else none)
structure OwnMade (h h' : Heap) (e C d : Addr) (v : Value) : Prop where
  keep : ∀ b o, h.get? b = some o → h'.get? b = some o
  new : h.objs.size ≤ e
  obj : ∃ oe vs, h'.get? e = some oe ∧ oe.cls = .ref C ∧ oe.dict = some d ∧ oe.data = .fields vs ∧ vs[1]? = some .none
  dbig : h.objs.size ≤ d
  dne : d ≠ e
  ns : h'.Ns1 d (fun y => if y = "value" then some v else none)
section
variable {prog : Program} {w : World} {A : Around} {E : Value → Shared → Prop} {R : Result → Shared → Prop} {s : Shared} {K : Frag} {mg : Str → Option Value} {C fI : Addr} {xn q : Str}
theorem err_init (T : ErrTxt K mg xn q C fI) {x t0 : Addr} {v : Value} (X : K.In s.heap) (hlim : s.heap.NoLimit) (hx : s.heap.get? x = some (excO C t0)) (hnx : K.lookup x = none) (hroom : A.depth < recursionLimit)
    (hq : ∀ h' tk dx, InitEnd s.heap h' x C dx t0 v → R (.ok (.ret .none)) { s with heap := h', toks := tk }) :
    codeAny (model prog w) A (.call (.ref fI) ⟨[.ref x, v], []⟩) R s := by
  obtain ⟨oc, od, doc, pm, an, cdv, ct, osl, p1, p2, q1, q2, q3, q4, ho, hcd⟩ := T.fn
  obtain ⟨nm, qq, N, bs, bm, sn, sub, ab, col, dd, k0, k1, k2, k3, k5, newId, hC, hbm⟩ := T.cls
  have hcl : clsIn K C = some { name := nm, bases := bs, mro := .ref C :: bm, ns := N, qualname := qq, hasDict := true, slotNames := sn, subclasses := sub, abstract := ab, collection := col, hasDel := false } := by unfold clsIn; rw [hC] <;> rfl
  refine Att.call_fn (binds := [("self", .ref x), ("value", v)]) X hlim ho hcd hroom (BindsTo.of_eq (by first | rfl | with_unfolding_all rfl)) (by first | rfl | decide | with_unfolding_all rfl) (fun s₁ IC => ?_) rfl rfl rfl
  obtain ⟨h₁, tk₁, rfl⟩ := IC.toInCall.same
  have k : ∀ b o, s.heap.get? b = some o → h₁.get? b = some o := IC.toInCall.keep
  have hn := IC.toInCall.ns
  have hxL : s.heap.objs.size ≠ x := Nat.ne_of_gt (Heap.lt_size hx)
  have X₁ : K.In h₁ := X.keeps k
  have hx₁ := k _ _ hx
  show wpAny _ _ (execs _ _) _ _ _
  refine wpAny_execs_cons (plainObj_wpAny_Assign_Attribute ?_)
  refine TA5.ldC (v := v) hn (by first | rfl | with_unfolding_all rfl | kernel_rfl) (TA5.ldC (v := .ref x) hn (by first | rfl | with_unfolding_all rfl | kernel_rfl) ?_)
  refine set_plain X₁ (ox := excO C t0) (od := none) ⟨hx₁, rfl, rfl, trivial⟩ T.sa ?_
  refine TA5.exc_osaT X₁ hx₁ hcl hbm.pass hbm.obj rfl T.noN (fun h₃ tk₃ dx k₃ dn dne hx₃ hn₃ => ?_)
  show wpAny _ _ (execs _ _) _ _ _
  have z : s.heap.objs.size < h₁.objs.size := hn.lt
  exact wpAny_execs_nil (hq h₃ tk₃ dx ⟨fun b o hb e => k₃ b o hb (k b o e), hx₃, Nat.le_of_lt (Nat.lt_of_lt_of_le z dn), dne, hn₃⟩)
theorem err_made (T : ErrTxt K mg xn q C fI) {v : Value} (X : K.In s.heap) (hlim : s.heap.NoLimit) (hroom : A.depth + 1 < recursionLimit)
    (hq : ∀ h' tk e d, OwnMade s.heap h' e C d v → R (.ok (.ret (.ref e))) { s with heap := h', toks := tk }) :
    codeAny (model prog w) A (.call (.ref C) ⟨[v], []⟩) R s := by
  obtain ⟨nm, qq, N, bs, bm, sn, sub, ab, col, dd, k0, k1, k2, k3, k5, newId, hC, hbm⟩ := T.cls
  obtain ⟨B, initId, tail, F, hT⟩ := hbm.base
  obtain ⟨hp, g, dr, tk, os⟩ := s
  have k : ∀ b o, hp.get? b = some o → ((hp.push (kdv_tup [v])).push (excO C hp.objs.size)).get? b = some o := fun b o e => Heap.get?_push_of_some _ (Heap.get?_push_of_some _ e)
  have hget : ((hp.push (kdv_tup [v])).push (excO C hp.objs.size)).get? (hp.objs.size + 1) = some (excO C hp.objs.size) := by heap_get
  have hnx : K.lookup (hp.objs.size + 1) = none := by
    cases e : K.lookup (hp.objs.size + 1) with
    | none => rfl
    | some o =>
      have z : hp.get? (hp.objs.size + 1) = some o := X _ _ e
      exact absurd (Nat.lt_of_succ_lt (Heap.lt_size z)) (Nat.lt_irrefl _)
  refine call_own F hT (X _ _ hC) (looks_findIn X T.iC) (fun self => bind_fn X self T.tC) (TA5.one_size v) ?_
  refine err_init (s := ⟨(hp.push (kdv_tup [v])).push (excO C hp.objs.size), g, dr, tk, os⟩) T (X.keeps k) (hlim.keeps k) hget hnx ?_ fun h' tk' dx ⟨k', hx, dn, dne, hns⟩ => ?_
  · show A.depth + 1 < recursionLimit
    exact hroom
  · have old : ∀ b o, hp.get? b = some o → h'.get? b = some o := fun b o e => k' b o (Nat.ne_of_lt (Nat.lt_succ_of_lt (Heap.lt_size e))) (k b o e)
    have z : hp.objs.size + 1 + 1 ≤ dx := by
      first
        | (simpa only [Heap.size_push] using dn)
        | exact dn
        | (have q := dn; rw [Heap.size_push, Heap.size_push] at q; exact q)
    exact ⟨rfl, hq h' tk' (hp.objs.size + 1) dx ⟨old, Nat.le_succ _, ⟨_, _, hx, rfl, rfl, rfl, rfl⟩, Nat.le_trans (Nat.le_trans (Nat.le_succ _) (Nat.le_succ _)) z, dne, hns⟩⟩
end
end ErrV
end PySem
namespace ErrVL
open PySem L2 PySem.Spec PyProof.Rows
theorem relO_err {v : V} {v' : Value} (r : RelV v v') (f : Str) : RelO (List.lookup f [(("value" : Str), v)]) (if f = "value" then some v' else none) := by
  by_cases hw : f = "value"
  · subst hw
    rw [if_pos rfl]
    have q : List.lookup ("value" : Str) [(("value" : Str), v)] = some v := by simp [List.lookup]
    rw [q]
    exact r
  · rw [if_neg hw]
    have qw : (f == ("value" : Str)) = false := by simpa using hw
    have q2 : List.lookup f [(("value" : Str), v)] = none := by simp [List.lookup, qw]
    rw [q2]
    trivial
section
variable {X : Cx} {C fI : Addr} {xn q : Str}
def tMkErr (C : Addr) (ta : TA) : L2.St → Hp → XK → Prop := fun σ H Q => ta σ H fun vs H1 => ∃ v, vs = [v] ∧ ∀ d, H1 d = none → Q (.ref C) (some d) (upd H1 d (.xd [(("value" : Str), v)]))
theorem pmk_err {a : Expr} {ta : TA} {p pos : Pos} {k : Nat} (T : PySem.ErrV.ErrTxt X.K X.mg xn q C fI) (hr : Room k X.A) (ha : PA X [a] ta) (hg : Gl X xn := by rfl) (hdb : (xn == ("__debug__" : Str)) = false := by decide)
    (he : starEach (a :: []) X.env = (false, eval a X.env) :: starEach [] X.env := by rfl) (hpl : (backTo pos (starEach [] X.env)).any (·.1) = false := by rfl) :
    PMk X (.Call (.Name xn p) [a] [] pos) (tMkErr C ta) := by
  intro pins s σ H Q I h
  refine wpAny_Call_Name_kw (ld_glob I hg T.gC ?_ hdb)
  refine PySem.W.callWith_K (h₀ := X.base) I.ok.mod.kin T.kC (thn (ha.run pos pins s σ H _ I h) fun us s1 hh => ?_) he hpl
  obtain ⟨vs, H1, I1, r1, v, ev, q1⟩ := hh
  subst ev
  refine ⟨I1.kIn, ?_⟩
  cases r1 with
  | cons rv rn =>
    rename_i v' us'
    cases rn
    show wpAny _ _ (call (.ref C) [v']) _ _ _
    have hlim := I1.nolimit
    obtain ⟨hp, g, dr, tk, os⟩ := s1
    refine wpAny_call (PySem.ErrV.err_made T I1.kIn hlim (by have := hr.dp; omega) fun h' tk' e d M => ?_)
    show MkP X pins σ Q (.ref e) ⟨h', g, dr, tk', os⟩
    obtain ⟨oe, fv, hoe, hc, hd, hdat, h1⟩ := M.obj
    have hns := M.ns
    obtain ⟨G', g1, g2⟩ := restrict h' fun b => decide (b ≠ e)
    have gk : ∀ b, b ≠ e → G'.get? b = h'.get? b := fun b hb => g1 b (decide_eq_true hb)
    have ge : G'.get? e = none := g2 e (by simp)
    have old : ∀ b o, hp.get? b = some o → G'.get? b = some o := fun b o q => (gk b (Nat.ne_of_lt (Nat.lt_of_lt_of_le (Heap.lt_size q) M.new))).trans (M.keep b o q)
    have ob : ObjOk X.prog X.w (upd H1 d (.xd [(("value" : Str), v)])) G' d (.xd [(("value" : Str), v)]) :=
      ⟨_, hns.at (fun o q => (gk d M.dne).trans q), fun f => relO_err rv f⟩
    have J : Inv X pins σ (upd H1 d (.xd [(("value" : Str), v)])) ⟨G', g, dr, tk', os⟩ := I1.laid (t' := tk') old M.dbig ob
    refine ⟨e, oe, fv, ⟨G', g, dr, tk', os⟩, _, .ref C, some d, rfl, J, fun b o q => ?_, ge, hoe, ⟨hc, hd⟩, hdat, h1, ?_, rfl, I1.bare, raises_own T.exC T.tyC, q1 d (I1.hok.fresh M.dbig)⟩
    · by_cases hb : b = e
      · have q' : G'.get? b = some o := q
        rw [hb, ge] at q'; cases q'
      · exact (gk b hb).symm.trans q
    · rw [upd_ne (Ne.symm M.dne)]
      exact I1.hok.fresh M.new
def tRaiseErr (C : Addr) (W : WX) (ta : TA) : TS := fun _ σ H => tMkErr C ta σ H fun cls d H' => W cls d σ H'
theorem ps_raiseErr {a : Expr} {ta : TA} {W : WX} {p pos pos2 : Pos} {k : Nat} (hc : X.calm = true) (T : PySem.ErrV.ErrTxt X.K X.mg xn q C fI) (hr : Room k X.A) (tk : Takes X W) (ha : PA X [a] ta) (hg : Gl X xn := by rfl) (hdb : (xn == ("__debug__" : Str)) = false := by decide)
    (he : starEach (a :: []) X.env = (false, eval a X.env) :: starEach [] X.env := by rfl) (hpl : (backTo pos (starEach [] X.env)).any (·.1) = false := by rfl) :
    PS X (.Raise (some (.Call (.Name xn p) [a] [] pos)) none pos2) (tRaiseErr C W ta) := ps_raise hc tk (pmk_err T hr ha hg hdb he hpl)
def tFldErr (C : Addr) (a : Addr) (cls : Value) (d : Option Addr) (te : TE) : TE := fun σ H Q => te σ H fun x H1 => x = .ref a ∧ cls = .ref C ∧ ∃ (dd : Addr) (v : V), d = some dd ∧ H1 dd = some (.xd [(("value" : Str), v)]) ∧ Q v H1
theorem pe_fldErr {a : Addr} {oe : Obj} {cls : Value} {d : Option Addr} {pn : List (Addr × Obj)} {e : Expr} {te : TE} {pos : Pos} (T : PySem.ErrV.ErrTxt X.K X.mg xn q C fI) (hz : Zc cls d oe) (hf : ∃ vs, oe.data = .fields vs) (he : PE (X.suite a ((a, oe) :: pn)) e te)
    (hb : attributeBase e "value" X.env (eval e X.env) = eval e X.env := by rfl) :
    PE (X.suite a ((a, oe) :: pn)) (.Attribute e "value" pos) (tFldErr C a cls d te) := by
  refine ⟨fun pins s σ H Q I h => ?_⟩
  refine attr_of hb (thn (he.run pins s σ H _ I h) fun u s1 hh => ?_)
  obtain ⟨x, H1, I1, rx, ex, ec, dd, v, ed, ea, q⟩ := hh
  subst ex
  obtain rfl : u = Value.ref a := rx
  subst ec
  subst ed
  obtain ⟨ha, _⟩ := I1.pin (a, oe) (List.mem_append_left _ List.mem_cons_self)
  obtain ⟨vs, hd⟩ := hf
  have hx : ObjOk X.prog X.w H1 s1.heap dd (.xd [(("value" : Str), v)]) := I1.hok dd _ ea
  obtain ⟨mA, hns, hr⟩ := hx
  obtain ⟨od, ho, hl⟩ := lookIn_ns hns
  have l : List.lookup ("value" : Str) [(("value" : Str), v)] = some v := by simp [List.lookup]
  obtain ⟨u, hu, ru⟩ := RelO.some_of (v := v) (o := mA "value") (by rw [← l]; exact hr "value")
  have J : PySem.W.InstAt s1.heap a oe C (some od) := ⟨ha, hz.1, by unfold PySem.W.notCls; rw [hd] <;> rfl, by rw [hz.2]; exact ho⟩
  exact HandSPX.exc_get I1.kIn J T.ga T.gg T.exC (PySem.W.findObj_own T.hdC T.noN rfl (by rw [hl, hu])) (handed_of ru) ⟨v, H1, I1.tok _, ru, q⟩
end
end ErrVL
namespace TA5
open PySem L2 PySem.Spec PyProof.Rows
section
variable {X : Cx}
/-- set(t), t a tuple of ints -/
def rSetTI (K : PySem.W.Frag) (w : World) : List V → Hp → VK → Prop := fun xs H Q => ∃ (p : Addr) (ns : List Int), xs = [.ref p] ∧ SqT K H p (ns.map V.int) ∧ ns.length ≤ 1000 ∧ ∀ (a : Addr) (c : Nat), H a = none → c ≤ ns.length → Q (.ref a) (upd H a (SetO w a (fun j => decide (j ∈ ns)) c))
theorem cr_setTI (hc : X.calm = true) : CallR X (.type "set") (rSetTI X.K X.w) := by
  intro pins s σ H xs us Q I r h
  obtain ⟨p, ns, e, hq, hl, q⟩ := h
  subst e
  cases r with
  | cons r rr =>
    cases rr
    cases r
    obtain ⟨its, rv, pt, hz⟩ := I.tuple hq
    have hi : IntsAre its.toArray.toList ns := ints_of_vals rv
    refine call_set_tupI ns (I.ok.hd hc) (show s.heap.IsTuple p its.toArray from pt) hi (by unfold scanBound; omega) fun h' tk c R1 hcn k => ?_
    have fr : H s.heap.objs.size = none := I.hok.fresh (Nat.le_refl _)
    exact ⟨.ref s.heap.objs.size, _, I.laid (t' := tk) k (Nat.le_refl _) (setO_new R1), rfl, q _ c fr hcn⟩
end
end TA5
namespace Ev2
open PySem PySem.Spec PyProof.Rows L2 Evl RZ

abbrev HP := V → Hp → Prop
def Mono (P : HP) : Prop := ∀ v H H', Evl.Ex H H' → P v H → P v H'
/-- what never changes is kept: all but lists -/
def Fx (H H' : Hp) : Prop := ∀ a o, H a = some o → (∀ xs, o ≠ .lst xs) → H' a = some o
theorem Fx.of {H H' : Hp} (e : Evl.Ex H H') : Fx H H' := fun a o h _ => e a o h
theorem Fx.refl (H : Hp) : Fx H H := fun _ _ h _ => h
theorem Fx.trans {H H1 H2 : Hp} (a : Fx H H1) (b : Fx H1 H2) : Fx H H2 := fun x o h n => b x o (a x o h n) n
theorem Fx.lst {H : Hp} {D : Addr} {xs ys : List V} (h : H D = some (.lst xs)) : Fx H (upd H D (.lst ys)) := fun a o e n => by
  by_cases ha : a = D
  · subst ha; rw [h] at e; cases e; exact absurd rfl (n xs)
  · rw [upd_ne ha]; exact e
def MonoF (P : HP) : Prop := ∀ v H H', Fx H H' → P v H → P v H'
theorem MonoF.mono {P : HP} (m : MonoF P) : Mono P := fun v H H' e p => m v H H' (Fx.of e) p
def EvP (te : TE) (σ : L2.St) (H : Hp) (P : HP) : Prop := ∀ H1, Evl.Ex H H1 → ∀ Q : VK, (∀ v H2, Evl.Ex H1 H2 → P v H2 → Q v H2) → te σ H1 Q
def EvAP (ta : TA) (σ : L2.St) (H : Hp) (P : List V → Hp → Prop) : Prop := ∀ H1, Evl.Ex H H1 → ∀ Q : List V → Hp → Prop, (∀ v H2, Evl.Ex H1 H2 → P v H2 → Q v H2) → ta σ H1 Q
def EvTP (tt : TT) (σ : L2.St) (H : Hp) (b : Bool) : Prop := EvT tt σ H b
def RP (r : R2) (x y : V) (H : Hp) (P : HP) : Prop := ∀ Q : VK, (∀ v H2, Evl.Ex H H2 → P v H2 → Q v H2) → r x y H Q
/-- a list just made whose items are so -/
def LstP (n : Nat) (P : Nat → HP) : HP := fun v H => ∃ p ys, v = .ref p ∧ H p = some (.lst ys) ∧ ys.length = n ∧ ∀ i y, ys[i]? = some y → P i y H
def TupP (n : Nat) (P : Nat → HP) : HP := fun v H => ∃ p ys, v = .ref p ∧ H p = some (.tup ys) ∧ ys.length = n ∧ ∀ i y, ys[i]? = some y → P i y H
def Is (x : V) : HP := fun v _ => v = x
theorem mono_is {x : V} : Mono (Is x) := fun _ _ _ _ h => h
theorem mono_lst {n : Nat} {P : Nat → HP} (m : ∀ i, Mono (P i)) : Mono (LstP n P) := fun v H H' e ⟨p, ys, h1, h2, h3, h4⟩ => ⟨p, ys, h1, e _ _ h2, h3, fun i y hy => m i _ _ _ e (h4 i y hy)⟩
theorem mono_tup {n : Nat} {P : Nat → HP} (m : ∀ i, Mono (P i)) : Mono (TupP n P) := fun v H H' e ⟨p, ys, h1, h2, h3, h4⟩ => ⟨p, ys, h1, e _ _ h2, h3, fun i y hy => m i _ _ _ e (h4 i y hy)⟩
section
variable {K : PySem.W.Frag} {σ : L2.St} {H H' : Hp} {ta tb te : TE} {P R S : HP} {r : R2} {v : V}
theorem EvP.mono (h : EvP te σ H P) (e : Evl.Ex H H') : EvP te σ H' P := fun H1 a Q q => h H1 (e.trans a) Q q
theorem EvP.imp (h : EvP te σ H P) (k : ∀ v H1, Evl.Ex H H1 → P v H1 → R v H1) : EvP te σ H R := fun H1 a Q q => h H1 a Q fun v H2 e p => q v H2 e (k v H2 (a.trans e) p)
theorem evp_of (h : Ev te σ H v) : EvP te σ H (Is v) := fun H1 a Q q => h H1 a Q fun H2 e => q v H2 e rfl
theorem EvP.ev (h : EvP te σ H (Is v)) : Ev te σ H v := fun H1 a Q q => h H1 a Q fun x H2 e p => by rw [show x = v from p]; exact q H2 e
theorem evp_var {i : Nat} (h : σ[i]? = some (some v)) (p : P v H) (m : Mono P) : EvP (tVar i) σ H P := fun H1 e Q q => ⟨v, h, q v H1 (Ex.refl H1) (m _ _ _ e p)⟩
theorem evp_op (ha : EvP ta σ H P) (hb : EvP tb σ H R) (m : Mono P) (hr : ∀ x y H1, Evl.Ex H H1 → P x H1 → R y H1 → RP r x y H1 S) : EvP (tOp r ta tb) σ H S := fun H1 e Q q =>
  ha H1 e _ fun x H2 e2 p => hb H2 (e.trans e2) _ fun y H3 e3 p' => hr x y H3 ((e.trans e2).trans e3) (m _ _ _ e3 p) p' Q fun z H4 e4 s => q z H4 ((e2.trans e3).trans e4) s
theorem evp_un {u : V → Hp → VK → Prop} (ha : EvP ta σ H P) (hr : ∀ x H1, Evl.Ex H H1 → P x H1 → ∀ Q : VK, (∀ v H2, Evl.Ex H1 H2 → S v H2 → Q v H2) → u x H1 Q) : EvP (tUn u ta) σ H S := fun H1 e Q q =>
  ha H1 e _ fun x H2 e2 p => hr x H2 (e.trans e2) p Q fun z H4 e4 s => q z H4 (e2.trans e4) s
theorem eap_nil : EvAP tNil σ H (fun vs _ => vs = []) := fun H1 e Q q => q [] H1 (Ex.refl H1) rfl
theorem eap_one (h : EvP te σ H P) : EvAP (tCons te tNil) σ H (fun vs H1 => ∃ x, vs = [x] ∧ P x H1) := fun H1 e Q q => h H1 e _ fun x H2 e2 p => q [x] H2 e2 ⟨x, rfl, p⟩
theorem eap_two (h : EvP te σ H P) (h2 : EvP ta σ H R) (m : Mono P) : EvAP (tCons te (tCons ta tNil)) σ H (fun vs H1 => ∃ x y, vs = [x, y] ∧ P x H1 ∧ R y H1) := fun H1 e Q q =>
  h H1 e _ fun x H2 e2 p => h2 H2 (e.trans e2) _ fun y H3 e3 p' => q [x, y] H3 (e2.trans e3) ⟨x, y, rfl, m _ _ _ e3 p, p'⟩
theorem eap_three {tc : TE} (h : EvP te σ H P) (h2 : EvP ta σ H R) (h3 : EvP tc σ H S) (m : Mono P) (m2 : Mono R) : EvAP (tCons te (tCons ta (tCons tc tNil))) σ H (fun vs H1 => ∃ x y z, vs = [x, y, z] ∧ P x H1 ∧ R y H1 ∧ S z H1) := fun H1 e Q q =>
  h H1 e _ fun x H2 e2 p => h2 H2 (e.trans e2) _ fun y H3 e3 p' => h3 H3 ((e.trans e2).trans e3) _ fun z H4 e4 p'' => q [x, y, z] H4 ((e2.trans e3).trans e4) ⟨x, y, z, rfl, m _ _ _ (e3.trans e4) p, m2 _ _ _ e4 p', p''⟩
/-- a def's promise, of such arguments -/
def SpP (sp : Sp) (A : List V → Hp → Prop) (S : HP) : Prop := ∀ vs H1, A vs H1 → ∀ Q : VK, (∀ v H2, Evl.Ex H1 H2 → S v H2 → Q v H2) → ∀ E : XK, sp vs H1 Q E
theorem evp_call {sp : Sp} {E : XK} {ta : TA} {A : List V → Hp → Prop} (h : EvAP ta σ H A) (hs : SpP sp A S) : EvP (tCall sp [] E ta) σ H S := fun H1 e Q q =>
  h H1 e _ fun vs H2 e2 a => by
    have z := hs vs H2 a Q (fun v H3 e3 s => q v H3 (e2.trans e3) s) E
    show sp (vs ++ []) H2 Q E
    rw [List.append_nil]
    exact z
theorem evp_cb {rr : List V → Hp → VK → Prop} {ta : TA} {A : List V → Hp → Prop} (h : EvAP ta σ H A) (hs : ∀ vs H1, A vs H1 → ∀ Q : VK, (∀ v H2, Evl.Ex H1 H2 → S v H2 → Q v H2) → rr vs H1 Q) : EvP (tCB rr ta) σ H S := fun H1 e Q q =>
  h H1 e _ fun vs H2 e2 a => hs vs H2 a Q fun v H3 e3 s => q v H3 (e2.trans e3) s
theorem eu_tupP {ta : TA} {A : List V → Hp → Prop} (h : EvAP ta σ H A) (hl : ∀ vs H1, A vs H1 → vs.length ≤ 100000) (m : ∀ vs H1 H2, Evl.Ex H1 H2 → A vs H1 → A vs H2) : EvP (tTup ta) σ H (fun v H1 => ∃ p vs, v = .ref p ∧ H1 p = some (.tup vs) ∧ A vs H1) := fun H1 e Q q =>
  h H1 e _ fun vs H2 e2 a => ⟨sz_of (hl vs H2 a), fun p hp => q _ _ (e2.trans (Ex.new hp)) ⟨p, vs, rfl, upd_same, m _ _ _ (Ex.new hp) a⟩⟩
/-- tuple(a new list) -/
theorem evp_tuple {n : Nat} {Pi : Nat → HP} (h : EvP te σ H (LstP n Pi)) (m : ∀ i, Mono (Pi i)) :
    EvP (tCB (fun xs H Q => ∃ p ys, xs = [.ref p] ∧ ((SqL K H p ys ∧ ∀ l, H l = none → Q (.ref l) (upd H l (.tup ys))) ∨ (SqT K H p ys ∧ Q (.ref p) H))) (tCons te tNil)) σ H (TupP n Pi) := fun H1 e Q q =>
  h H1 e _ fun v H2 e2 ⟨p, ys, hv, hp, hl, hi⟩ => by
    subst hv
    exact ⟨p, ys, rfl, .inl ⟨sq_of hp, fun l hl' => q _ _ (e2.trans (Ex.new hl')) ⟨l, ys, rfl, upd_same, hl, fun i y hy => m i _ _ _ (Ex.new hl') (hi i y hy)⟩⟩⟩

/-! ### what is walked -/
structure Turns (J : It) (n : Nat) (Pre : Hp → Prop) (item : Nat → V → Hp → Prop) : Prop where
  mono : ∀ H H', Fx H H' → Pre H → Pre H'
  go : ∀ i H, i < n → Pre H → J.go i H
  stop : ∀ H, Pre H → J.stop n H
  yld : ∀ i H x H', i < n → Pre H → J.yld i H x H' → Evl.Ex H H' ∧ item i x H'
def WiP (wi : TI) (σ : L2.St) (H : Hp) (n : Nat) (item : Nat → V → Hp → Prop) : Prop := ∀ H1, Evl.Ex H H1 → ∀ R : It → Hp → Prop, (∀ J H2 Pre, Evl.Ex H1 H2 → Turns J n Pre item → Pre H2 → R J H2) → wi σ H1 R
theorem wi_tup {tl : TE} {n : Nat} {Pi : Nat → HP} (h : EvP tl σ H (TupP n Pi)) (m : ∀ i, MonoF (Pi i)) : WiP (iTup K tl) σ H n (fun i x H => Pi i x H) := fun H1 e R k =>
  h H1 e _ fun v H2 e2 ⟨p, ys, hv, hp, hl, hi⟩ => by
    subst hv
    refine ⟨p, rfl, ⟨ys, st_of hp⟩, k _ H2 (fun H => H p = some (.tup ys) ∧ ∀ i y, ys[i]? = some y → Pi i y H) e2 ?_ ⟨hp, hi⟩⟩
    refine ⟨fun H H' e ⟨a, b⟩ => ⟨e _ _ a (fun _ z => nomatch z), fun i y hy => m i _ _ _ e (b i y hy)⟩, fun i H hlt ⟨a, _⟩ => ?_, fun H ⟨a, _⟩ => ?_, fun i H x H' hlt ⟨a, b⟩ y => ?_⟩
    · exact ⟨ys, _, st_of a, List.getElem?_eq_getElem (by omega)⟩
    · exact ⟨ys, st_of a, by omega⟩
    · obtain ⟨rfl, f⟩ := y
      have hx : ys[i]? = some x := by first | exact f ys (st_of a) | (obtain ⟨zs, z1, z2⟩ := f; exact z2)
      exact ⟨Ex.refl _, b i x hx⟩
theorem wi_rng {ta : TA} {n : Nat} (h : EvAP ta σ H (fun vs _ => vs = [.int (n : Int)])) (hn : n ≤ 100000) : WiP (iRng1 ta) σ H n (fun i x _ => x = .int (i : Int)) := fun H1 e R k =>
  h H1 e _ fun vs H2 e2 hv => by
    subst hv
    refine ⟨(n : Int), rfl, by omega, by omega, ?_⟩
    refine k _ H2 (fun _ => True) e2 ⟨fun _ _ _ _ => trivial, fun i H hlt _ => ?_, fun H _ => ?_, fun i H x H' hlt _ y => ?_⟩ trivial
    · show i < (n : Int).toNat
      simpa using hlt
    · show (n : Int).toNat ≤ n
      simp
    · obtain ⟨rfl, rfl⟩ := y
      exact ⟨Ex.refl _, by rw [Int.zero_add]⟩
theorem wi_zip {tl tr : TE} {n : Nat} {Pi Ri : Nat → HP} (h : EvP tl σ H (TupP n Pi)) (h2 : EvP tr σ H (TupP n Ri)) (m : ∀ i, MonoF (Pi i)) (m2 : ∀ i, MonoF (Ri i)) :
    WiP (iZipA K (tCons tl (tCons tr tNil))) σ H n (fun i x H => ∃ T u v, x = .ref T ∧ H T = some (.tup [u, v]) ∧ Pi i u H ∧ Ri i v H) := fun H1 e R k =>
  h H1 e _ fun v H2 e2 ⟨p, ys, hv, hp, hl, hi⟩ => h2 H2 (e.trans e2) _ fun v' H3 e3 ⟨q, zs, hv', hq, hl', hi'⟩ => by
    subst hv
    subst hv'
    refine ⟨p, q, ys, zs, rfl, .inr ⟨st_of (e3 _ _ hp), st_of hq, ?_⟩⟩
    refine k _ H3 (fun H => H p = some (.tup ys) ∧ H q = some (.tup zs) ∧ (∀ i y, ys[i]? = some y → Pi i y H) ∧ ∀ i y, zs[i]? = some y → Ri i y H) (e2.trans e3) ?_ ⟨e3 _ _ hp, hq, fun i y hy => (m i).mono _ _ _ e3 (hi i y hy), hi'⟩
    refine ⟨fun H H' e ⟨a, b, c, d⟩ => ⟨e _ _ a (fun _ z => nomatch z), e _ _ b (fun _ z => nomatch z), fun i y hy => m i _ _ _ e (c i y hy), fun i y hy => m2 i _ _ _ e (d i y hy)⟩, fun i H hlt ⟨a, b, _, _⟩ => ?_, fun H ⟨a, b, _, _⟩ => ?_, fun i H x H' hlt ⟨a, b, c, d⟩ y => ?_⟩
    · exact ⟨ys, zs, _, _, st_of a, st_of b, List.getElem?_eq_getElem (by omega), List.getElem?_eq_getElem (by omega)⟩
    · exact ⟨ys, zs, st_of a, st_of b, .inl (by omega)⟩
    · obtain ⟨T, u, w, rfl, hT, rfl, f1, f2⟩ := y
      have ex := Ex.new (o := .tup [u, w]) hT
      exact ⟨ex, T, u, w, rfl, upd_same, (m i).mono _ _ _ ex (c i u (f1 ys (st_of a))), (m2 i).mono _ _ _ ex (d i w (f2 zs (st_of b)))⟩
/-- targets -/
def GP (g : TG) (x : V) (σ0 : L2.St) (H : Hp) (S : L2.St → Hp → Prop) : Prop := ∀ Q : L2.St → Hp → Prop, (∀ σ2, S σ2 H → Q σ2 H) → g x σ0 H Q
theorem g_pair {x : V} {T : Addr} {u w : V} {σ0 : L2.St} {i j : Nat} (hx : x = .ref T) (h : H T = some (.tup [u, w])) : GP (gTup K 2 (gCons (gName i) (gCons (gName j) gNil))) x σ0 H (fun σ2 _ => σ2 = (σ0.set i (some u)).set j (some w)) := fun Q q =>
  ⟨T, [u, w], hx, st_of h, rfl, u, [w], rfl, w, [], rfl, rfl, q _ rfl⟩
/-- a comprehension without tests -/
theorem evp_lc {wi : TI} {g : TG} {vs : List Nat} {n : Nat} {item : Nat → V → Hp → Prop} {Sg : Nat → L2.St → Hp → Prop} {Pi : Nat → HP} (hw : WiP wi σ H n item) (hn : n ≤ 40000)
    (hg : ∀ i x H1, i < n → Evl.Ex H H1 → item i x H1 → GP g x (wipe σ vs) H1 (fun σ2 H2 => wipe σ2 vs = wipe σ vs ∧ Sg i σ2 H2)) (he : ∀ i σ2 H1, i < n → Evl.Ex H H1 → Sg i σ2 H1 → EvP te σ2 H1 (Pi i)) (m : ∀ i, MonoF (Pi i)) :
    EvP (tLc wi g tYes te vs) σ H (LstP n Pi) := fun H1 e Q q => hw H1 e _ fun J H2 Pre e2 T pre => fun D hD => by
  refine ⟨fun i k H3 => k = n - i ∧ i ≤ n ∧ H2 D = none ∧ Evl.Ex H2 H3 ∧ ∃ ys, H3 D = some (.lst ys) ∧ ys.length = i ∧ ∀ j y, ys[j]? = some y → Pi j y H3, ⟨n, by simp, Nat.zero_le _, hD, Ex.new hD, [], upd_same, rfl, fun j y hy => by simp at hy⟩, ?_⟩
  rintro i k H3 ⟨rfl, hi, hD', ex, ys, hys, hl, hP⟩
  have pre3 := T.mono _ _ (Fx.of ex) pre
  by_cases hlt : i < n
  · refine .inr ⟨T.go i H3 hlt pre3, fun H4 => H2 D = none ∧ Evl.Ex H2 H4 ∧ ∃ ys, H4 D = some (.lst ys) ∧ ys.length = i + 1 ∧ ∀ j y, ys[j]? = some y → Pi j y H4, fun H4 ⟨a, b, c⟩ => ⟨n - (i + 1), by omega, rfl, by omega, a, b, c⟩, fun x H4 y => ?_⟩
    obtain ⟨e4, it⟩ := T.yld i H3 x H4 hlt pre3 y
    refine hg i x H4 hlt (((e.trans e2).trans ex).trans e4) it _ fun σ2 ⟨hw2, hs⟩ => ⟨hw2, ?_⟩
    unfold tYes
    dsimp only
    rw [if_pos rfl]
    refine he i σ2 H4 hlt (((e.trans e2).trans ex).trans e4) hs H4 (Ex.refl _) _ fun z H5 e5 hz => ?_
    have hys5 := e5 _ _ (e4 _ _ hys)
    have ex5 : Evl.Ex H2 (upd H5 D (.lst (ys ++ [z]))) := Ex.mut ((ex.trans e4).trans e5) hD'
    refine ⟨ys, hys5, sz_lt (by omega), hD', ex5, ys ++ [z], upd_same, by simp [hl], fun j y hy => ?_⟩
    have key : Pi j y H5 := by
      by_cases hj : j < ys.length
      · rw [List.getElem?_append_left hj] at hy
        exact (m j).mono _ _ _ (e4.trans e5) (hP j y hy)
      · rw [List.getElem?_append_right (by omega)] at hy
        have : j - ys.length = 0 := by
          rcases Nat.eq_zero_or_pos (j - ys.length) with z0 | z0
          · exact z0
          · rw [List.getElem?_eq_none (by simp; omega)] at hy; cases hy
        rw [this] at hy
        have ej : j = i := by omega
        have ey : z = y := by simpa using hy
        rw [ej, ← ey]
        exact hz
    exact m j _ _ _ (Fx.lst hys5) key
  · have hinn : i = n := by omega
    subst hinn
    exact .inl ⟨T.stop H3 pre3, q _ H3 (e2.trans ex) ⟨D, ys, rfl, hys, hl, hP⟩⟩
end
end Ev2
namespace Ev2
open PySem PySem.Spec PyProof.Rows L2 Evl RZ
/-- a state to draw from: the list at s holds the pool's list (at p) and a place -/
structure Dr (s p : Addr) (xs : List Int) (H : Hp) : Prop where
  ne : p ≠ s
  at_ : ∃ k : Nat, H s = some (.lst [.ref p, .int (k : Int)])
  pool : H p = some (.lst (xs.map V.int))
/-- all but the state is kept -/
def Gs (s : Addr) (H H' : Hp) : Prop := ∀ a o, a ≠ s → H a = some o → H' a = some o
theorem Gs.refl (s : Addr) (H : Hp) : Gs s H H := fun _ _ _ h => h
theorem Gs.trans {s : Addr} {H H1 H2 : Hp} (a : Gs s H H1) (b : Gs s H1 H2) : Gs s H H2 := fun x o n h => b x o n (a x o n h)
theorem Gs.of {s : Addr} {H H' : Hp} (e : Evl.Ex H H') : Gs s H H' := fun a o _ h => e a o h
theorem Dr.ex {s p : Addr} {xs : List Int} {H H' : Hp} (d : Dr s p xs H) (e : Evl.Ex H H') : Dr s p xs H' := ⟨d.ne, let ⟨k, h⟩ := d.at_; ⟨k, e _ _ h⟩, e _ _ d.pool⟩
theorem Gs.fx {s p : Addr} {xs : List Int} {H H' : Hp} (g : Gs s H H') (d : Dr s p xs H) : Fx H H' := fun a o h n => by
  by_cases ha : a = s
  · subst ha
    obtain ⟨k, hk⟩ := d.at_
    rw [hk] at h; cases h; exact absurd rfl (n _)
  · exact g a o ha h
def EvD (s p : Addr) (xs : List Int) (te : TE) (σ : L2.St) (H : Hp) (P : HP) : Prop := ∀ H1, Gs s H H1 → Dr s p xs H1 → ∀ Q : VK, (∀ v H2, Gs s H1 H2 → Dr s p xs H2 → P v H2 → Q v H2) → te σ H1 Q
section
variable {K : PySem.W.Frag} {σ : L2.St} {H H' : Hp} {ta tb te : TE} {P R S : HP} {r : R2} {v : V} {s p : Addr} {xs : List Int}
theorem EvD.imp (h : EvD s p xs te σ H P) (k : ∀ v H1, P v H1 → R v H1) : EvD s p xs te σ H R := fun H1 a d Q q => h H1 a d Q fun v H2 e d2 p => q v H2 e d2 (k v H2 p)
/-- a comprehension over range(n) whose items draw -/
theorem evd_lc {tn : TA} {vs : List Nat} {n j : Nat} {Pi : Nat → HP} (hw : ∀ H1, EvAP tn σ H1 (fun vs _ => vs = [.int (n : Int)])) (hn : n ≤ 40000) (hz : ∀ x, wipe ((wipe σ vs).set j (some x)) vs = wipe σ vs)
    (he : ∀ (i : Nat), i < n → EvD s p xs te ((wipe σ vs).set j (some (.int (i : Int)))) H (Pi i)) (m : ∀ i, MonoF (Pi i)) :
    EvD s p xs (tLc (iRng1 tn) (gName j) tYes te vs) σ H (LstP n Pi) := fun H1 e d Q q => hw H1 H1 (Ex.refl _) _ fun vs' H2 e2 hv => by
  subst hv
  refine ⟨(n : Int), rfl, by omega, by omega, fun D hD => ?_⟩
  have d2 := d.ex e2
  have hDs : D ≠ s := fun z => by obtain ⟨k, hk⟩ := d2.at_; rw [z, hk] at hD; cases hD
  have hDp : D ≠ p := fun z => by have := d2.pool; rw [← z, hD] at this; cases this
  refine ⟨fun i k H3 => k = n - i ∧ i ≤ n ∧ Gs s H2 H3 ∧ Dr s p xs H3 ∧ ∃ ys, H3 D = some (.lst ys) ∧ ys.length = i ∧ ∀ j y, ys[j]? = some y → Pi j y H3, ⟨n, by simp, Nat.zero_le _, Gs.of (Ex.new hD), d2.ex (Ex.new hD), [], upd_same, rfl, fun j y hy => by simp at hy⟩, ?_⟩
  rintro i k H3 ⟨rfl, hi, ex, d3, ys, hys, hl, hP⟩
  by_cases hlt : i < n
  · refine .inr ⟨by show i < (n : Int).toNat; simpa using hlt, fun H4 => Gs s H2 H4 ∧ Dr s p xs H4 ∧ ∃ ys, H4 D = some (.lst ys) ∧ ys.length = i + 1 ∧ ∀ j y, ys[j]? = some y → Pi j y H4, fun H4 ⟨a, b, c⟩ => ⟨n - (i + 1), by omega, rfl, by omega, a, b, c⟩, fun x H4 y => ?_⟩
    obtain ⟨rfl, rfl⟩ := y
    refine ⟨hz _, ?_⟩
    unfold tYes
    dsimp only
    rw [if_pos rfl]
    rw [Int.zero_add]
    refine he i hlt H4 ((e.trans (Gs.of e2)).trans ex) d3 _ fun z H5 e5 d5 hz => ?_
    have hys5 := e5 _ _ hDs hys
    refine ⟨ys, hys5, sz_lt (by omega), ?_, ?_, ys ++ [z], upd_same, by simp [hl], fun j y hy => ?_⟩
    · intro a o ha h
      have hna : a ≠ D := fun q => by rw [q, hD] at h; cases h
      rw [upd_ne hna]
      exact e5 _ _ ha (ex _ _ ha h)
    · refine ⟨d5.ne, ?_, ?_⟩
      · obtain ⟨k, hk⟩ := d5.at_
        exact ⟨k, by rw [upd_ne hDs.symm]; exact hk⟩
      · rw [upd_ne hDp.symm]; exact d5.pool
    · have key : Pi j y H5 := by
        by_cases hj : j < ys.length
        · rw [List.getElem?_append_left hj] at hy
          exact m j _ _ _ (Gs.fx e5 d3) (hP j y hy)
        · rw [List.getElem?_append_right (by omega)] at hy
          have : j - ys.length = 0 := by
            rcases Nat.eq_zero_or_pos (j - ys.length) with z0 | z0
            · exact z0
            · rw [List.getElem?_eq_none (by simp; omega)] at hy; cases hy
          rw [this] at hy
          have ej : j = i := by omega
          have ey : z = y := by simpa using hy
          rw [ej, ← ey]
          exact hz
      exact m j _ _ _ (Fx.lst hys5) key
  · have hinn : i = n := by omega
    subst hinn
    exact .inl ⟨by show (i : Int).toNat ≤ i; simp, q _ H3 ((Gs.of e2).trans ex) d3 ⟨D, ys, rfl, hys, hl, hP⟩⟩
theorem evd_tuple {n : Nat} {Pi : Nat → HP} (h : EvD s p xs te σ H (LstP n Pi)) (m : ∀ i, MonoF (Pi i)) :
    EvD s p xs (tCB (fun xs H Q => ∃ p ys, xs = [.ref p] ∧ ((SqL K H p ys ∧ ∀ l, H l = none → Q (.ref l) (upd H l (.tup ys))) ∨ (SqT K H p ys ∧ Q (.ref p) H))) (tCons te tNil)) σ H (TupP n Pi) := fun H1 e d Q q =>
  h H1 e d _ fun v H2 e2 d2 ⟨p, ys, hv, hp, hl, hi⟩ => by
    subst hv
    exact ⟨p, ys, rfl, .inl ⟨sq_of hp, fun l hl' => q _ _ (e2.trans (Gs.of (Ex.new hl'))) (d2.ex (Ex.new hl')) ⟨l, ys, rfl, upd_same, hl, fun i y hy => (m i).mono _ _ _ (Ex.new hl') (hi i y hy)⟩⟩⟩
/-- a pure reading, in a state -/
theorem evd_of (h : ∀ H1, Gs s H H1 → Dr s p xs H1 → EvP te σ H1 P) : EvD s p xs te σ H P := fun H1 e d Q q => h H1 e d H1 (Ex.refl _) Q fun v H2 e2 p => q v H2 (Gs.of e2) (d.ex e2) p

/-! ### two fors: the ints of all, one after the other -/
def acc2 (f : Nat → Nat → V) (m : Nat → Nat) : Nat → List V
  | 0 => []
  | i + 1 => acc2 f m i ++ (List.range (m i)).map (f i)
theorem evp_lc2 {wi wi1 : TI} {g g1 : TG} {vs vs1 : List Nat} {n : Nat} {mm : Nat → Nat} {item : Nat → V → Hp → Prop} {item1 : Nat → Nat → V → Hp → Prop} {Sg : Nat → L2.St → Hp → Prop} {Sg1 : Nat → Nat → L2.St → Hp → Prop} {f : Nat → Nat → V}
    (hw : WiP wi σ H n item) (hn : n ≤ 100) (hmm : ∀ i, mm i ≤ 100)
    (hg : ∀ i x H1, i < n → Evl.Ex H H1 → item i x H1 → GP g x (wipe σ vs) H1 (fun σ2 H2 => wipe σ2 vs = wipe σ vs ∧ Sg i σ2 H2))
    (hw1 : ∀ i σ2 H1, i < n → Evl.Ex H H1 → Sg i σ2 H1 → WiP wi1 σ2 H1 (mm i) (item1 i))
    (hg1 : ∀ i j σ2 x H1 H2, i < n → j < mm i → Evl.Ex H H1 → Sg i σ2 H1 → Fx H1 H2 → item1 i j x H2 → GP g1 x (wipe σ2 vs1) H2 (fun σ3 H3 => wipe σ3 vs1 = wipe σ2 vs1 ∧ Sg1 i j σ3 H3))
    (he : ∀ i j σ3 H1, i < n → j < mm i → Evl.Ex H H1 → Sg1 i j σ3 H1 → Ev te σ3 H1 (f i j)) :
    EvP (tLc2 wi g tYes wi1 g1 tYes te vs vs1) σ H (fun v H1 => ∃ p, v = .ref p ∧ H1 p = some (.lst (acc2 f mm n))) := fun H1 e Q q => hw H1 e _ fun J H2 Pre e2 T pre => fun D hD => by
  have hlen : ∀ i, i ≤ n → (acc2 f mm i).length ≤ 100 * i := by
    intro i
    induction i with
    | zero => intro _; simp [acc2]
    | succ i ih => intro h; have := ih (by omega); have := hmm i; simp [acc2]; omega
  refine ⟨fun i k H3 => k = n - i ∧ i ≤ n ∧ Evl.Ex H2 H3 ∧ H3 D = some (.lst (acc2 f mm i)), ⟨n, by simp, Nat.zero_le _, Ex.new hD, upd_same⟩, ?_⟩
  rintro i k H3 ⟨rfl, hi, ex, hys⟩
  have pre3 := T.mono _ _ (Fx.of ex) pre
  by_cases hlt : i < n
  · refine .inr ⟨T.go i H3 hlt pre3, fun H4 => Evl.Ex H2 H4 ∧ H4 D = some (.lst (acc2 f mm (i + 1))), fun H4 ⟨a, b⟩ => ⟨n - (i + 1), by omega, rfl, by omega, a, b⟩, fun x H4 y => ?_⟩
    obtain ⟨e4, it⟩ := T.yld i H3 x H4 hlt pre3 y
    have exH4 := ((e.trans e2).trans ex).trans e4
    refine hg i x H4 hlt exH4 it _ fun σ2 ⟨hw2, hs⟩ => ⟨hw2, ?_⟩
    unfold tYes
    dsimp only
    rw [if_pos rfl]
    refine hw1 i σ2 H4 hlt exH4 hs H4 (Ex.refl _) _ fun J1 H5 Pre1 e5 T1 pre1 => ?_
    have hys5 := e5 _ _ (e4 _ _ hys)
    refine ⟨fun j k H6 => k = mm i - j ∧ j ≤ mm i ∧ Evl.Ex H2 H6 ∧ Fx H5 H6 ∧ H6 D = some (.lst (acc2 f mm i ++ (List.range j).map (f i))), ⟨mm i, by simp, Nat.zero_le _, (ex.trans e4).trans e5, Fx.refl _, by simpa using hys5⟩, ?_⟩
    rintro j k H6 ⟨rfl, hj, ex6, fx6, hys6⟩
    have pre6 := T1.mono _ _ fx6 pre1
    by_cases hlt1 : j < mm i
    · refine .inr ⟨T1.go j H6 hlt1 pre6, fun H7 => Evl.Ex H2 H7 ∧ Fx H5 H7 ∧ H7 D = some (.lst (acc2 f mm i ++ (List.range (j + 1)).map (f i))), fun H7 ⟨a, b, c⟩ => ⟨mm i - (j + 1), by omega, rfl, by omega, a, b, c⟩, fun x1 H7 y1 => ?_⟩
      obtain ⟨e7, it1⟩ := T1.yld j H6 x1 H7 hlt1 pre6 y1
      have ex7 : Evl.Ex H H7 := (e.trans e2).trans (ex6.trans e7)
      refine hg1 i j σ2 x1 H4 H7 hlt hlt1 exH4 hs ((Fx.of e5).trans (fx6.trans (Fx.of e7))) it1 _ fun σ3 ⟨hw3, hs3⟩ => ⟨hw3, ?_⟩
      rw [if_pos rfl]
      refine he i j σ3 H7 hlt hlt1 ex7 hs3 H7 (Ex.refl _) _ fun H8 e8 => ?_
      have hys8 := e8 _ _ (e7 _ _ hys6)
      have hl8 := hlen i (by omega)
      have hmi := hmm i
      refine ⟨_, hys8, sz_lt (by simp; omega), Ex.mut ((ex6.trans e7).trans e8) hD, (fx6.trans (Fx.of (e7.trans e8))).trans (Fx.lst hys8), ?_⟩
      rw [upd_same, List.range_succ, List.map_append, List.append_assoc]
      rfl
    · have hjm : j = mm i := by omega
      subst hjm
      exact .inl ⟨T1.stop H6 pre6, ex6, hys6⟩
  · have hinn : i = n := by omega
    subst hinn
    exact .inl ⟨T.stop H3 pre3, q _ H3 (e2.trans ex) ⟨D, rfl, hys⟩⟩
end
end Ev2
set_option maxHeartbeats 4100000
namespace K20
open PySem PySem.Spec PyProof.Rows L2 Evl RZ Ev2 TA5
abbrev rLenQ (K : PySem.W.Frag) : List V → Hp → VK → Prop := fun xs H Q => ∃ p ys, xs = [.ref p] ∧ (SqL K H p ys ∨ SqT K H p ys) ∧ Q (.int ys.length) H
abbrev rTupQ (K : PySem.W.Frag) : List V → Hp → VK → Prop := fun xs H Q => ∃ p ys, xs = [.ref p] ∧ ((SqL K H p ys ∧ ∀ l, H l = none → Q (.ref l) (upd H l (.tup ys))) ∨ (SqT K H p ys ∧ Q (.ref p) H))
def topS (i : Nat) : Stmt := PySem.Challenge.pw_surecounts_k20_wheres.main.body.getD i (.Pass ⟨0, 0, 0, 0⟩)
/-- what the top has written of the built-in names and of the one number -/
structure Txt (mg : Str → Option Value) (tk : Tok) : Prop where
  n_isinstance : mg "isinstance" = none
  n_int : mg "int" = none
  n_bool : mg "bool" = none
  n_tuple : mg "tuple" = none
  n_len : mg "len" = none
  n_all : mg "all" = none
  n_zip : mg "zip" = none
  n_range : mg "range" = none
  n_enumerate : mg "enumerate" = none
  n_max : mg "max" = none
  n_str : mg "str" = none
  n_list : mg "list" = none
  n_sorted : mg "sorted" = none
  n_set : mg "set" = none
  c_MOST_VALUES : mg "MOST_VALUES" = some (.int 8 tk)
structure Df (K : PySem.W.Frag) (mg : Str → Option Value) (x : Str) (st : Stmt) (ps : List Str) (f : Addr) (fd : FuncData) : Prop where
  F : Fun K x x st f fd
  b : Binds K fd ps []
  g : mg x = some (.ref f)
/-- a grid: m rows of n ints, by place -/
def Grid (m n : Nat) (f : Nat → Nat → Int) : HP := TupP m fun i => TupP n fun j => Is (.int (f i j))
theorem mf_is {x : V} : MonoF (Is x) := fun _ _ _ _ h => h
theorem mf_tup {n : Nat} {P : Nat → HP} (m : ∀ i, MonoF (P i)) : MonoF (TupP n P) := fun v H H' e ⟨p, ys, h1, h2, h3, h4⟩ => ⟨p, ys, h1, e _ _ h2 (fun _ z => nomatch z), h3, fun i y hy => m i _ _ _ e (h4 i y hy)⟩
theorem mf_row {n : Nat} {f : Nat → Int} : MonoF (TupP n fun j => Is (.int (f j))) := mf_tup fun _ => mf_is
theorem mf_grid {m n : Nat} {f : Nat → Nat → Int} : MonoF (Grid m n f) := mf_tup fun _ => mf_row
def Tr : HP := Is (.bl true)
section
variable {K : PySem.W.Frag} {σ : L2.St} {H : Hp} {ta tb te : TE} {P : HP}
theorem tup_get {n : Nat} {Pi : Nat → HP} {v : V} {i : Nat} (h : TupP n Pi v H) (hi : i < n) : ∃ p ys y, v = .ref p ∧ H p = some (.tup ys) ∧ ys.length = n ∧ ys[i]? = some y ∧ Pi i y H := by
  obtain ⟨p, ys, h1, h2, h3, h4⟩ := h
  exact ⟨p, ys, _, h1, h2, h3, List.getElem?_eq_getElem (by omega), h4 i _ (List.getElem?_eq_getElem (by omega))⟩
/-- a list whose items are known is known -/
theorem lst_is {n : Nat} {w : Nat → V} {v : V} (h : LstP n (fun i => Is (w i)) v H) : ∃ p, v = .ref p ∧ H p = some (.lst ((List.range n).map w)) := by
  obtain ⟨p, ys, h1, h2, h3, h4⟩ := h
  refine ⟨p, h1, ?_⟩
  rw [h2]
  have : ys = (List.range n).map w := by
    apply List.ext_getElem?
    intro i
    by_cases hi : i < n
    · rw [List.getElem?_map, List.getElem?_range hi, List.getElem?_eq_getElem (by omega)]
      exact congrArg some (h4 i _ (List.getElem?_eq_getElem (by omega)))
    · rw [List.getElem?_eq_none (by omega), List.getElem?_eq_none (by simp; omega)]
  rw [this]
theorem evp_all {n : Nat} (h : EvP te σ H (LstP n (fun _ => Tr))) : EvP (tCB (rAll K) (tCons te tNil)) σ H Tr := fun H1 e Q q => h H1 e _ fun v H2 e2 p => by
  obtain ⟨l, rfl, hl⟩ := lst_is p
  refine ⟨l, (List.range n).map (fun _ => true), rfl, ?_, ?_⟩
  · rw [List.map_map]; exact sq_of hl
  · have : ((List.range n).map (fun _ => true)).all id = true := by simp
    rw [this]
    exact q _ H2 e2 rfl
theorem evp_isi {t u : Value} {c : V} {b : Bool} (h : EvP te σ H P) (ht : ∀ x H1, P x H1 → TyX K H1 x t) (hc : ClsV c u) (e : PySem.W.kitOne K t u = some b) : EvP (tCB (rIsi K) (tCons te (tCons (tC c) tNil))) σ H (Is (.bl b)) := fun H1 e1 Q q =>
  h H1 e1 _ fun x H2 e2 p => ⟨x, c, t, u, b, rfl, hc, ht x H2 p, e, q _ H2 e2 rfl⟩
theorem evp_len {n : Nat} {Pi : Nat → HP} (h : EvP te σ H (TupP n Pi)) : EvP (tCB (rLenQ K) (tCons te tNil)) σ H (Is (.int (n : Int))) := fun H1 e Q q =>
  h H1 e _ fun v H2 e2 ⟨p, ys, h1, h2, h3, h4⟩ => ⟨p, ys, by rw [h1], .inr (st_of h2), by rw [h3]; exact q _ H2 e2 rfl⟩
theorem evp_c {v : V} : EvP (tC v) σ H (Is v) := evp_of ev_c
theorem evp_ixT {n : Nat} {Pi : Nat → HP} {i : Nat} (ha : EvP ta σ H (TupP n Pi)) (hb : EvP tb σ H (Is (.int (i : Int)))) (hi : i < n) (m : ∀ i, MonoF (Pi i)) : EvP (tOp (rIxT K) ta tb) σ H (Pi i) := fun H1 e Q q =>
  ha H1 e _ fun v H2 e2 h => hb H2 (e.trans e2) _ fun y H3 e3 hy => by
    obtain ⟨p, ys, z, rfl, hp, hl, hz, hpz⟩ := tup_get h hi
    exact ⟨p, ys, _, z, rfl, hy, st_of (e3 _ _ hp), atI_nat hz, q z H3 (e2.trans e3) ((m i).mono _ _ _ e3 hpz)⟩
/-- two ints, one operation -/
theorem evp_I0 {g : Int → Int → V} {i j : Int} (ha : EvP ta σ H (Is (.int i))) (hb : EvP tb σ H (Is (.int j))) : EvP (tOp (rI0 g) ta tb) σ H (Is (g i j)) := evp_of (ev_op ha.ev hb.ev rv_I0)
theorem evp_I {C : Int → Int → Prop} {g : Int → Int → V} {i j : Int} (ha : EvP ta σ H (Is (.int i))) (hb : EvP tb σ H (Is (.int j))) (hc : C i j) : EvP (tOp (rI C g) ta tb) σ H (Is (g i j)) := evp_of (ev_op ha.ev hb.ev (rv_I hc))
theorem evp_eq {x y : V} (ha : EvP ta σ H (Is x)) (hb : EvP tb σ H (Is y)) (hs : scal x y = true) : EvP (tOp rEq ta tb) σ H (Is (.bl (decide (x = y)))) := evp_of (ev_op ha.ev hb.ev (rv_eq hs))
theorem evp_ne {x y : V} (ha : EvP ta σ H (Is x)) (hb : EvP tb σ H (Is y)) (hs : scal x y = true) : EvP (tOp rNe ta tb) σ H (Is (.bl (!decide (x = y)))) := evp_of (ev_op ha.ev hb.ev (rv_ne hs))
theorem evp_is {x y : V} (h : EvP te σ H (Is x)) (e : x = y) : EvP te σ H (Is y) := e ▸ h
theorem evp_chain {g g' : Int → Int → V} {i j k : Int} {b b' : Bool} {tc : TE} (ha : EvP ta σ H (Is (.int i))) (hb : EvP tb σ H (Is (.int j))) (hc : EvP tc σ H (Is (.int k))) (h1 : g i j = .bl b) (h2 : g' j k = .bl b') :
    EvP (tChain (rI0 g) (rI0 g') ta tb tc) σ H (Is (.bl (b && b'))) := fun H1 e Q q =>
  ha.ev H1 e _ fun H2 e2 => hb.ev H2 (e.trans e2) _ fun H3 e3 => ⟨i, j, rfl, rfl, b, h1, by
    cases b with
    | true =>
      refine iteT ?_
      exact hc.ev H3 ((e.trans e2).trans e3) _ fun H4 e4 => ⟨j, k, rfl, rfl, by rw [h2]; exact q _ H4 ((e2.trans e3).trans e4) rfl⟩
    | false => exact iteF (q _ H3 (e2.trans e3) rfl)⟩
theorem evp_and {a b : Bool} (h1 : EvP ta σ H (Is (.bl a))) (h2 : a = true → EvP tb σ H (Is (.bl b))) : EvP (tAndV ta tb) σ H (Is (.bl (a && b))) := evp_of (ev_andV h1.ev fun h => (h2 h).ev)
theorem evp_or {a b : Bool} (h1 : EvP ta σ H (Is (.bl a))) (h2 : a = false → EvP tb σ H (Is (.bl b))) : EvP (tOrV ta tb) σ H (Is (.bl (a || b))) := evp_of (ev_orV h1.ev fun h => (h2 h).ev)
theorem evp_not {a : Bool} (h1 : EvP ta σ H (Is (.bl a))) : EvP (tNotV ta) σ H (Is (.bl (!a))) := evp_of (ev_notV h1.ev)
theorem et_bl {b : Bool} (h : EvP te σ H (Is (.bl b))) : EvT (tB te) σ H b := et_B h.ev
theorem et_tst {b : Bool} (h : EvP te σ H (Is (.bl b))) : EvT (tTest te) σ H b := et_test h.ev
theorem evp_gl {m n : Nat} {f : Nat → Nat → Int} {i : Nat} {v : V} (h : σ[i]? = some (some v)) (p : Grid m n f v H) : EvP (tVar i) σ H (Grid m n f) := evp_var h p mf_grid.mono
end
theorem g_name {i : Nat} {x : V} {σ0 : L2.St} {H : Hp} {S : L2.St → Hp → Prop} (h : S (σ0.set i (some x)) H) : GP (gName i) x σ0 H S := fun Q q => q _ h
theorem scs (N ps : List Str) (sc : Scope) (h : sc.kind = .function ∧ sc.isCoroutine = false ∧ sc.isGenerator = false) (h1 : (decide N.Nodup) = true) (h2 : N.take ps.length = ps) (h3 : (ps.all fun x => sc.names.lookup x == some .local || sc.names.lookup x == some .cell) = true) (h4 : (sc.names.all fun y => y.2 != .free) = true) : FnScope N ps sc := by
  refine ⟨h.1, h.2.1, h.2.2, of_decide_eq_true h1, h2, fun x hx => ?_, fun y hy e => ?_⟩
  · have := List.all_eq_true.mp h3 x hx
    simpa using this
  · have := List.all_eq_true.mp h4 y hy
    rw [e] at this
    simp at this
end K20
namespace K20
open PySem PySem.Spec PyProof.Rows L2 Evl RZ Ev2 TA5
abbrev s_law_numbers : Stmt := topS 18
abbrev N_law_numbers : List Str := ["_law_cell", "_law_salt", "_law_sizes", "_law_whole_here", "_law_left", "_law_result", "_law_k", "_law_one"]
theorem sc_law_numbers : FnScope N_law_numbers ["_law_cell", "_law_salt", "_law_sizes"] (defScope s_law_numbers) := ⟨rfl, rfl, rfl, by decide +kernel, rfl, by decide +kernel, by decide +kernel⟩
abbrev s_law_draw : Stmt := topS 19
abbrev N_law_draw : List Str := ["_law_state", "_law_many", "_law_at"]
theorem sc_law_draw : FnScope N_law_draw ["_law_state", "_law_many"] (defScope s_law_draw) := ⟨rfl, rfl, rfl, by decide +kernel, rfl, by decide +kernel, by decide +kernel⟩
abbrev s_law_pool : Stmt := topS 20
abbrev N_law_pool : List Str := ["_law_cell", "_law_salt", "_law_many"]
theorem sc_law_pool : FnScope N_law_pool ["_law_cell", "_law_salt", "_law_many"] (defScope s_law_pool) := ⟨rfl, rfl, rfl, by decide +kernel, rfl, by decide +kernel, by decide +kernel⟩
/-- an int with c -/
def BI (c : Int → Prop) : HP := fun v _ => ∃ i, v = .int i ∧ c i
theorem mf_bi {c : Int → Prop} : MonoF (BI c) := fun _ _ _ _ h => h
section
variable {K : PySem.W.Frag} {σ : L2.St} {H : Hp} {ta tb te : TE} {P : HP} {tz : TS} {D : Ends}
theorem q_asgP {i : Nat} (h : EvP te σ H P) (k : ∀ v H1, Evl.Ex H H1 → P v H1 → tz D (σ.set i (some v)) H1) : tSeq (tAsg te (gName i)) tz D σ H := h H (Ex.refl H) _ fun v H1 e p => k v H1 e p
theorem q_appP {l : Addr} {xs : List V} (hl : H l = some (.lst xs)) (ha : Ev ta σ H (.ref l)) (h : EvP te σ H P) (hz : xs.length < 100000) (k : ∀ v H1, Evl.Ex H H1 → P v H1 → tz D σ (upd H1 l (.lst (xs ++ [v])))) :
    tSeq (tDrop (tBM K "list" rAppend ta (tCons te tNil))) tz D σ H := ha H (Ex.refl H) _ fun H1 e1 =>
  ⟨Or.inl ⟨rfl, xs, sq_of (e1 l _ hl)⟩, h H1 e1 _ fun v H2 e2 p => ⟨l, xs, v, rfl, rfl, e2 l _ (e1 l _ hl), sz_lt hz, k v H2 (e1.trans e2) p⟩⟩
theorem s_appP {l : Addr} {xs : List V} (hl : H l = some (.lst xs)) (ha : Ev ta σ H (.ref l)) (h : EvP te σ H P) (hz : xs.length < 100000) (k : ∀ v H1, Evl.Ex H H1 → P v H1 → D.nx σ (upd H1 l (.lst (xs ++ [v])))) :
    tDrop (tBM K "list" rAppend ta (tCons te tNil)) D σ H := ha H (Ex.refl H) _ fun H1 e1 =>
  ⟨Or.inl ⟨rfl, xs, sq_of (e1 l _ hl)⟩, h H1 e1 _ fun v H2 e2 p => ⟨l, xs, v, rfl, rfl, e2 l _ (e1 l _ hl), sz_lt hz, k v H2 (e1.trans e2) p⟩⟩
theorem evp_bI {C : Int → Int → Prop} {g : Int → Int → Int} {c d e : Int → Prop} (ha : EvP ta σ H (BI c)) (hb : EvP tb σ H (BI d)) (h : ∀ i j, c i → d j → C i j ∧ e (g i j)) : EvP (tOp (rI C fun i j => .int (g i j)) ta tb) σ H (BI e) :=
  evp_op ha hb mf_bi.mono fun x y H1 _ ⟨i, hx, hc⟩ ⟨j, hy, hd⟩ Q q => ⟨i, j, hx, hy, (h i j hc hd).1, q _ H1 (Ex.refl H1) ⟨_, rfl, (h i j hc hd).2⟩⟩
theorem evp_b0 {g : Int → Int → Int} {c d e : Int → Prop} (ha : EvP ta σ H (BI c)) (hb : EvP tb σ H (BI d)) (h : ∀ i j, c i → d j → e (g i j)) : EvP (tOp (rI0 fun i j => .int (g i j)) ta tb) σ H (BI e) :=
  evp_op ha hb mf_bi.mono fun x y H1 _ ⟨i, hx, hc⟩ ⟨j, hy, hd⟩ Q q => ⟨i, j, hx, hy, q _ H1 (Ex.refl H1) ⟨_, rfl, h i j hc hd⟩⟩
theorem evp_bi {i : Int} {c : Int → Prop} (h : EvP te σ H (Is (.int i))) (hc : c i) : EvP te σ H (BI c) := h.imp fun v H1 _ p => ⟨i, p, hc⟩
theorem evp_bv {n : Nat} {i : Int} {c : Int → Prop} (h : σ[n]? = some (some (.int i))) (hc : c i) : EvP (tVar n) σ H (BI c) := evp_bi (evp_var h rfl mono_is) hc
theorem evp_bc {i : Int} {c : Int → Prop} (hc : c i) : EvP (tC (.int i)) σ H (BI c) := evp_bi evp_c hc
theorem evp_ixL {p : Addr} {xs : List V} {i : Nat} {v : V} (ha : EvP ta σ H (Is (.ref p))) (hp : SqL K H p xs) (hb : EvP tb σ H (Is (.int (i : Int)))) (hv : xs[i]? = some v) : EvP (tOp (rIxL K) ta tb) σ H (Is v) := evp_of (ev_op ha.ev hb.ev (rv_ixL hp (atI_nat hv)))
end
section
variable {P : Program} {w : World} {K : PySem.W.Frag} {mg : Str → Option Value} {base : Heap} {tk : Tok} {k : Nat}
def spNum : Sp := fun vs H Q _ => ∃ (c s : Int) (a : Addr) (zs : List Int), vs = [.int c, .int s, .ref a] ∧ H a = some (.lst (zs.map V.int)) ∧ (∀ z ∈ zs, 1 ≤ z ∧ z ≤ 1000) ∧ zs.length ≤ 1000 ∧ (0 ≤ s ∧ s ≤ 100000) ∧
  ∀ (p : Addr) (xs : List Int) (H2 : Hp), Evl.Ex H H2 → H p = none → H2 p = some (.lst (xs.map V.int)) → Q (.ref p) H2
theorem fm {a b : Int} (h : 0 < b) : b ≠ 0 ∧ (0 ≤ a.fmod b ∧ a.fmod b < b) := ⟨by omega, Int.fmod_nonneg_of_pos a h, Int.fmod_lt_of_pos a h⟩
theorem ok_num {fa : Addr} {fd : FuncData} (T : Txt mg tk) (D : Df K mg "_law_numbers" s_law_numbers ["_law_cell", "_law_salt", "_law_sizes"] fa fd) :
    FnOk P w K mg base CX0 (k + 1) fa fd ["_law_cell", "_law_salt", "_law_sizes"] spNum := by
  refine D.F.ok sc_law_numbers (fun vs H Q E h => ?_) (fun cdv A outer s H vs Q E hr h => ?_)
  · obtain ⟨c, s, a, zs, rfl, _⟩ := h
    rfl
  · obtain ⟨c, t, a, zs, rfl, ha, hz, hzl, ht, q⟩ := h
    have nd := sc_law_numbers.nd
    refine ⟨_, (pss_cons (ps_set (i := 3) nd rfl (Or.inl rfl) (pe_callB (call_max2 rfl) (by rfl) T.n_max PyProof.Rows.boot_max (pa_cons (pv 0) (pa_cons (pe_op op_sub (pe_un un_neg pe_int) (pv 0)) pa_nil)))) (pss_cons (ps_set (i := 4) nd rfl (Or.inl rfl) (pv 3)) (pss_cons (ps_set (i := 5) nd rfl (Or.inl rfl) (pe_lst pa_nil)) (pss_cons (ps_for PassesOwn.never rfl (pi_range1 (by rfl) T.n_range (pa_cons (pe_callB (r := rLenQ K) call_len_seq (by rfl) T.n_len PySem.boot_len (pa_cons (pv 2) pa_nil)) pa_nil)) (pg_name (i := 6) nd rfl (Or.inl rfl)) (pss_one (ps_if (PW.pt (pw_and (pt_cmpR op_ge (pv 3) (pe_op op_pow pe_int pe_int) (nomark _)) (pw_and1 (pt_cmpR op_gt (pv 4) pe_int (nomark _))))) (pss_cons (ps_expr (pe_bm PySem.F.plainAttrs_list PySem.F.slot_list_append PySem.F.type_list_append mt_append (pv 5) (pa_cons (pe_op op_modN (pv 4) (pe_ix (r := rIxL K) ix_list (pv 2) (pv 6) (fun _ _ => rfl))) pa_nil))) (pss_one (ps_set (i := 4) nd rfl (Or.inl rfl) (pe_op op_fdivN (pv 4) (pe_ix (r := rIxL K) ix_list (pv 2) (pv 6) (fun _ _ => rfl)))))) (pss_cons (ps_set (i := 7) nd rfl (Or.inl rfl) (pe_op op_modN (pe_op op_pow (pe_op op_add (pe_op op_add (pe_op op_modN (pv 3) pe_int) (pe_op op_mul pe_int (pv 1))) pe_int) pe_int) pe_int)) (pss_cons (ps_set (i := 7) nd rfl (Or.inl rfl) (pe_op op_modN (pe_op op_mul (pe_op op_add (pv 7) (pe_op op_mul pe_int (pe_op op_add (pv 6) pe_int))) (pe_op op_add (pv 6) pe_int)) pe_int)) (pss_cons (ps_set (i := 7) nd rfl (Or.inl rfl) (pe_op op_modN (pe_op op_mul (pe_op op_modN (pe_op op_pow (pv 7) pe_int) pe_int) pe_int) pe_int)) (pss_one (ps_expr (pe_bm PySem.F.plainAttrs_list PySem.F.slot_list_append PySem.F.type_list_append mt_append (pv 5) (pa_cons (pe_op op_modN (pe_op op_fdivN (pv 7) pe_int) (pe_ix (r := rIxL K) ix_list (pv 2) (pv 6) (fun _ _ => rfl))) pa_nil)))))))))) (pss_one (ps_ret (pv 5))))))), ?_⟩
    refine q_asgP (P := BI fun _ => True) (fun H1 e1 Q q => ?_) fun v1 H1 e1 ⟨W, hW, _⟩ => ?_
    · exact ⟨_, rfl, 1, rfl, _, rfl, -1, c, rfl, rfl, c, _, rfl, q _ H1 (Ex.refl _) ⟨_, rfl, trivial⟩⟩
    subst hW
    refine q_asgP (P := Is (.int W)) (evp_var rfl rfl mono_is) fun v2 H2 e2 hv2 => ?_
    subst hv2
    refine q_asgL (el_lst ea_nil (by decide)) fun p H3 hp e3 h3 => ?_
    have hpH : H p = none := fresh_back (e1.trans e2) hp
    have ex3 : Evl.Ex H H3 := (e1.trans e2).trans e3
    have key : ∀ (i : Nat) (σ' : L2.St) (H' : Hp), True := fun _ _ _ => trivial
    refine q_forR1 (n := (zs.length : Int)) (ea_cons (EvP.ev (te := tCB (rLenQ K) (tCons (tVar 2) tNil)) fun H4 e4 Q q => ⟨_, rfl, a, _, rfl, .inl (sq_of ((ex3.trans e4) _ _ ha)), by rw [List.length_map]; exact q _ H4 (Ex.refl _) rfl⟩) ea_nil) (by omega)
      (fun i σ' H' => ∃ (L : Int) (xs : List Int) (k1 k2 : Option V), σ' = [some (.int c), some (.int t), some (.ref a), some (.int W), some (.int L), some (.ref p), k1, k2] ∧ xs.length = i ∧ Evl.Ex H H' ∧ H' p = some (.lst (xs.map V.int)))
      (fun H4 e4 => ⟨W, [], none, none, rfl, rfl, ex3.trans e4, e4 _ _ h3⟩) (fun i σ' H' hi ⟨L, xs, k1, k2, hs, hl, ex', hp'⟩ => ?_) (fun σ' H' ⟨L, xs, k1, k2, hs, hl, ex', hp'⟩ => ?_)
    · subst hs
      have hzi : (zs.map V.int)[i]? = some (.int (zs[i]'(by omega))) := by rw [List.getElem?_map, List.getElem?_eq_getElem (by omega)]; rfl
      have hzb := hz (zs[i]'(by omega)) (List.getElem_mem _)
      generalize zs[i]'(by omega) = z at hzi hzb
      have step : ∀ (σ2 : L2.St) (H5 : Hp) (e : Evl.Ex H' H5), σ2[2]? = some (some (.ref a)) → σ2[6]? = some (some (.int (i : Int))) → EvP (tOp (rIxL K) (tVar 2) (tVar 6)) σ2 H5 (BI fun x => 1 ≤ x ∧ x ≤ 1000) := fun σ2 H5 e h2 h6 =>
        evp_bi (evp_ixL (evp_var h2 rfl mono_is) (sq_of ((ex'.trans e) _ _ ha)) (evp_var h6 rfl mono_is) hzi) hzb
      have fin : ∀ (v : V) (H5 : Hp) (L' : Int) (k2' : Option V), Evl.Ex H' H5 → (∃ x, v = .int x ∧ True) → (fun i σ' H' => ∃ (L : Int) (xs : List Int) (k1 k2 : Option V), σ' = [some (.int c), some (.int t), some (.ref a), some (.int W), some (.int L), some (.ref p), k1, k2] ∧ xs.length = i ∧ Evl.Ex H H' ∧ H' p = some (.lst (xs.map V.int))) (i + 1)
          [some (.int c), some (.int t), some (.ref a), some (.int W), some (.int L'), some (.ref p), some (.int (i : Int)), k2'] (upd H5 p (.lst (xs.map V.int ++ [v]))) := fun v H5 L' k2' e ⟨x, hx, _⟩ => by
        subst hx
        refine ⟨L', xs ++ [x], some (.int (i : Int)), k2', rfl, by simp [hl], Ex.mut (ex'.trans e) hpH, ?_⟩
        rw [upd_same, List.map_append]; rfl
      have hW : EvP (tVar 3) [some (.int c), some (.int t), some (.ref a), some (.int W), some (.int L), some (.ref p), some (.int (i : Int)), k2] H' (Is (.int W)) := evp_var rfl rfl mono_is
      have hpw : EvP (tOp (rI CPow fun i j => .int (i ^ j.toNat)) (tC (.int 10)) (tC (.int 18))) [some (.int c), some (.int t), some (.ref a), some (.int W), some (.int L), some (.ref p), some (.int (i : Int)), k2] H' (Is (.int (10 ^ (18 : Int).toNat))) := evp_I evp_c evp_c ⟨by decide, by decide, by decide⟩
      refine s_if (et_and (et_tst (evp_I0 (g := fun i j => .bl (decide (j ≤ i))) hW hpw)) fun _ => et_tst (evp_I0 (g := fun i j => .bl (decide (j < i))) (evp_var (v := .int L) rfl rfl mono_is) evp_c)) (fun _ H5 e5 => ?_) (fun _ H5 e5 => ?_)
      · refine q_appP (P := BI fun _ => True) (e5 _ _ hp') (ev_var rfl) (evp_bI (c := fun _ => True) (e := fun _ => True) (evp_bv rfl trivial) (step _ H5 e5 rfl rfl) fun i j _ hj => ⟨by omega, trivial⟩) (by simp; omega) fun v H6 e6 hv => ?_
        have st6 : EvP (tOp (rIxL K) (tVar 2) (tVar 6)) [some (.int c), some (.int t), some (.ref a), some (.int W), some (.int L), some (.ref p), some (.int (i : Int)), k2] (upd H6 p (.lst (xs.map V.int ++ [v]))) (BI fun x => 1 ≤ x ∧ x ≤ 1000) :=
          evp_bi (evp_ixL (evp_var rfl rfl mono_is) (sq_of ((Ex.mut ((ex'.trans e5).trans e6) hpH) _ _ ha)) (evp_var rfl rfl mono_is) hzi) hzb
        have hdv := evp_bI (C := CDivN) (g := fun i j => i.fdiv j) (c := fun _ => True) (e := fun _ => True) (evp_bv (n := 4) (i := L) rfl trivial) st6 fun i j _ hj => ⟨⟨by omega, by omega⟩, trivial⟩
        refine hdv _ (Ex.refl _) _ fun v7 H7 e7 ⟨x7, hx7, _⟩ => ?_
        subst hx7
        obtain ⟨x, hx, _⟩ := hv
        subst hx
        refine ⟨x7, xs ++ [x], some (.int (i : Int)), k2, rfl, by simp [hl], (Ex.mut ((ex'.trans e5).trans e6) hpH).trans e7, ?_⟩
        rw [e7 _ _ upd_same, List.map_append]; rfl
      · have hone : ∀ (k2' : Option V) (H6 : Hp), EvP (tVar 3) [some (.int c), some (.int t), some (.ref a), some (.int W), some (.int L), some (.ref p), some (.int (i : Int)), k2'] H6 (BI fun _ => True) := fun k2' H6 => evp_bv rfl trivial
        refine q_asgP (P := BI fun x => 0 ≤ x ∧ x < 2147483647) (evp_bI (c := fun _ => True) (d := fun x => x = 2147483647) (evp_bI (c := fun x => 0 ≤ x ∧ x < 10 ^ 18) (d := fun x => x = 3) (e := fun _ => True) (evp_b0 (c := fun x => 0 ≤ x ∧ x < 10 ^ 17) (d := fun x => x = 1) (evp_b0 (c := fun x => 0 ≤ x ∧ x < 2147483629) (d := fun x => 0 ≤ x ∧ x ≤ 791900000)
          (evp_bI (d := fun x => x = 2147483629) (hone k2 H5) (evp_bc rfl) fun i j _ hj => by subst hj; exact fm (by decide)) (evp_bI (c := fun x => x = 7919) (d := fun x => x = t) (evp_bc rfl) (evp_bv rfl rfl) fun i j hi hj => by subst hi; subst hj; exact ⟨.inl ⟨by decide, by decide⟩, by omega⟩)
          fun i j hi hj => by omega) (evp_bc rfl) fun i j hi hj => by omega) (evp_bc rfl) fun i j hi hj => ⟨⟨by omega, by omega, by omega⟩, trivial⟩) (evp_bc rfl) fun i j _ hj => by subst hj; exact fm (by decide)) fun v6 H6 e6 ⟨x6, hx6, hb6⟩ => ?_
        subst hx6
        refine q_asgP (P := BI fun x => 0 ≤ x ∧ x < 2147483629) (evp_bI (c := fun _ => True) (d := fun x => x = 2147483629) (evp_bI (c := fun _ => True) (d := fun x => 0 ≤ x ∧ x ≤ 2000) (e := fun _ => True) (evp_b0 (c := fun _ => True) (d := fun _ => True) (e := fun _ => True) (evp_bv rfl trivial)
          (evp_bI (c := fun x => x = 104729) (d := fun _ => True) (evp_bc rfl) (evp_b0 (c := fun _ => True) (d := fun _ => True) (evp_bv rfl trivial) (evp_bc trivial) fun _ _ _ _ => trivial) fun i j hi hj => by subst hi; exact ⟨.inl ⟨by decide, by decide⟩, trivial⟩) fun _ _ _ _ => trivial)
          (evp_b0 (c := fun x => x = (i : Int)) (d := fun x => x = 3) (evp_bv rfl rfl) (evp_bc rfl) fun i j hi hj => by omega) fun i j _ hj => ⟨.inr ⟨by omega, by omega⟩, trivial⟩) (evp_bc rfl) fun i j _ hj => by subst hj; exact fm (by decide)) fun v7 H7 e7 ⟨x7, hx7, hb7⟩ => ?_
        subst hx7
        refine q_asgP (P := BI fun x => 0 ≤ x ∧ x < 2147483629) (evp_bI (c := fun _ => True) (d := fun x => x = 2147483629) (evp_bI (c := fun x => 0 ≤ x ∧ x < 2147483647) (d := fun x => x = 48271) (e := fun _ => True) (evp_bI (c := fun _ => True) (d := fun x => x = 2147483647) (evp_bI (c := fun x => 0 ≤ x ∧ x < 2147483629) (d := fun x => x = 5) (e := fun _ => True)
          (evp_bv rfl hb7) (evp_bc rfl) fun i j hi hj => ⟨⟨by omega, by omega, by omega⟩, trivial⟩) (evp_bc rfl) fun i j _ hj => by subst hj; exact fm (by decide)) (evp_bc rfl) fun i j hi hj => ⟨.inl ⟨by omega, by omega⟩, trivial⟩) (evp_bc rfl) fun i j _ hj => by subst hj; exact fm (by decide)) fun v8 H8 e8 ⟨x8, hx8, hb8⟩ => ?_
        subst hx8
        refine s_appP (P := BI fun _ => True) (((e5.trans e6).trans (e7.trans e8)) _ _ hp') (ev_var rfl) (evp_bI (c := fun _ => True) (evp_bI (C := CDivN) (g := fun i j => i.fdiv j) (c := fun _ => True) (d := fun x => x = 16) (e := fun _ => True) (evp_bv rfl trivial) (evp_bc rfl) fun i j _ hj => by subst hj; exact ⟨⟨by decide, by decide⟩, trivial⟩)
          (step _ H8 ((e5.trans e6).trans (e7.trans e8)) rfl rfl) fun i j _ hj => ⟨by omega, trivial⟩) (by simp; omega) fun v9 H9 e9 hv9 => ?_
        exact fin v9 H9 L _ (((e5.trans e6).trans (e7.trans e8)).trans e9) hv9
    · subst hs
      exact ⟨_, rfl, q p xs H' ex' hpH hp'⟩
end
section
variable {P : Program} {w : World} {K : PySem.W.Frag} {mg : Str → Option Value} {base : Heap} {tk : Tok} {k : Nat}
theorem evp_if {σ : L2.St} {H : Hp} {t : TT} {ta tb : TE} {b : Bool} {P : HP} (h : EvT t σ H b) (h1 : b = true → EvP ta σ H P) (h2 : b = false → EvP tb σ H P) : EvP (tIf t ta tb) σ H P := fun H1 e Q q => h H1 e _ fun H2 e2 => by
  cases b with
  | true => exact iteT (h1 rfl H2 (e.trans e2) _ fun v H3 e3 p => q v H3 (e2.trans e3) p)
  | false => exact iteF (h2 rfl H2 (e.trans e2) _ fun v H3 e3 p => q v H3 (e2.trans e3) p)
abbrev rInt1 : List V → Hp → VK → Prop := fun xs H Q => (∃ i, xs = [.int i] ∧ Q (.int i) H) ∨ ∃ k, xs = [.bl k] ∧ Q (.int (if k = true then 1 else 0)) H
theorem evp_int1 {σ : L2.St} {H : Hp} {te : TE} {i : Int} (h : EvP te σ H (Is (.int i))) : EvP (tCB rInt1 (tCons te tNil)) σ H (Is (.int i)) := evp_cb (eap_one h) fun vs H1 ⟨x, e, hx⟩ Q q => .inl ⟨i, by rw [e, show x = .int i from hx], q _ H1 (Ex.refl _) rfl⟩
def spDraw : Sp := fun vs H Q _ => ∃ (s p : Addr) (xs : List Int) (m : Int), vs = [.ref s, .int m] ∧ Dr s p xs H ∧ 1 ≤ m ∧ ∀ v H2, Gs s H H2 → Dr s p xs H2 → BI (fun r => 0 ≤ r ∧ r < m) v H2 → Q v H2
theorem ok_draw {fa : Addr} {fd : FuncData} (T : Txt mg tk) (D : Df K mg "_law_draw" s_law_draw ["_law_state", "_law_many"] fa fd) :
    FnOk P w K mg base CX0 (k + 1) fa fd ["_law_state", "_law_many"] spDraw := by
  refine D.F.ok sc_law_draw (fun vs H Q E h => ?_) (fun cdv A outer s H vs Q E hr h => ?_)
  · obtain ⟨s, p, xs, m, rfl, _⟩ := h
    rfl
  · obtain ⟨s, p, xs, m, rfl, d, hm, q⟩ := h
    have nd := sc_law_draw.nd
    refine ⟨_, (pss_cons (ps_set (i := 2) nd rfl (Or.inl rfl) (pe_ix (r := rIxL K) ix_list (pv 0) pe_int (fun _ _ => rfl))) (pss_cons (ps_asg (pe_op op_add (pv 2) pe_int) (pg_sub (pv 0) pe_int set_list)) (pss_one (ps_ret (pe_ifExp (pt_cmpR op_lt (pv 2) (pe_callB (r := rLenQ K) call_len_seq (by rfl) T.n_len PySem.boot_len (pa_cons (pe_ix (r := rIxL K) ix_list (pv 0) pe_int (fun _ _ => rfl)) pa_nil)) (nomark _)) (pe_op op_modN (pe_callTy call_int1 (by rfl) T.n_int PyProof.Rows.boot_int (pa_cons (pe_ix (r := rIxL K) ix_list (pe_ix (r := rIxL K) ix_list (pv 0) pe_int (fun _ _ => rfl)) (pv 2) (fun _ _ => rfl)) pa_nil)) (pv 1)) pe_int))))), ?_⟩
    obtain ⟨n, hn⟩ := d.at_
    refine q_asgP (evp_ixL (i := 1) (v := .int (n : Int)) (evp_var rfl rfl mono_is) (sq_of hn) evp_c rfl) fun v1 H1 e1 hv1 => ?_
    subst hv1
    refine q_setL (j := 1) (e1 _ _ hn) (EvP.ev (evp_I0 (g := fun i j => .int (i + j)) (evp_var (v := .int (n : Int)) rfl rfl mono_is) evp_c)) (ev_var rfl) ev_c (by simp) fun H2 e2 => ?_
    have d2 := d.ex (e1.trans e2)
    have hset : ([V.ref p, .int (n : Int)].set 1 (.int ((n : Int) + 1))) = [V.ref p, .int ((n + 1 : Nat) : Int)] := rfl
    rw [hset]
    have d3 : Dr s p xs (upd H2 s (.lst [V.ref p, .int ((n + 1 : Nat) : Int)])) := ⟨d.ne, ⟨n + 1, upd_same⟩, by rw [upd_ne d.ne]; exact d2.pool⟩
    have g3 : Gs s H (upd H2 s (.lst [V.ref p, .int ((n + 1 : Nat) : Int)])) := fun a o ha h => by rw [upd_ne ha]; exact (e1.trans e2) _ _ h
    generalize upd H2 s (.lst [V.ref p, .int ((n + 1 : Nat) : Int)]) = H3 at d3 g3
    obtain ⟨n3, hn3⟩ := d3.at_
    have hp : EvP (tOp (rIxL K) (tVar 0) (tC (.int 0))) [some (.ref s), some (.int m), some (.int (n : Int))] H3 (fun v H => v = .ref p ∧ H p = some (.lst (xs.map V.int))) :=
      (evp_ixL (i := 0) (v := .ref p) (evp_var rfl rfl mono_is) (sq_of hn3) evp_c rfl).imp fun v H4 e4 hv => ⟨hv, e4 _ _ d3.pool⟩
    have hlen : EvP (tCB (rLenQ K) (tCons (tOp (rIxL K) (tVar 0) (tC (.int 0))) tNil)) [some (.ref s), some (.int m), some (.int (n : Int))] H3 (Is (.int (xs.length : Int))) := evp_cb (eap_one hp) fun vs H4 ⟨x, e, hx, hpl⟩ Q q =>
      ⟨p, _, by rw [e, hx], .inl (sq_of hpl), by rw [List.length_map]; exact q _ H4 (Ex.refl _) rfl⟩
    have hat : EvP (tVar 2) [some (.ref s), some (.int m), some (.int (n : Int))] H3 (Is (.int (n : Int))) := evp_var rfl rfl mono_is
    refine evp_if (b := decide ((n : Int) < (xs.length : Int))) (P := BI fun r => 0 ≤ r ∧ r < m) (et_tst (evp_I0 (g := fun i j => .bl (decide (i < j))) hat hlen)) (fun hb => ?_) (fun _ => evp_bc (by omega)) H3 (Ex.refl H3) _ fun v H4 e4 hv => q v H4 (g3.trans (Gs.of e4)) (d3.ex e4) hv
    have hlt : n < xs.length := by have := of_decide_eq_true hb; omega
    have hx : (xs.map V.int)[n]? = some (.int xs[n]) := by rw [List.getElem?_map, List.getElem?_eq_getElem hlt]; rfl
    refine evp_bI (c := fun _ => True) (d := fun x => x = m) (evp_bi (evp_int1 (i := xs[n]) (evp_op hp hat (fun v H H' e h => ⟨h.1, e _ _ h.2⟩) fun x y H4 e4 ⟨h1, h2⟩ hy Q q => ⟨p, _, (n : Int), _, h1, hy, sq_of h2, atI_nat hx, q _ H4 (Ex.refl _) rfl⟩)) trivial) (evp_bv rfl rfl) fun i j _ hj => by subst hj; exact fm (by omega)
def spPool : Sp := fun vs H Q _ => ∃ (c s m : Int), vs = [.int c, .int s, .int m] ∧ (0 ≤ s ∧ s ≤ 100000) ∧ (0 ≤ m ∧ m ≤ 1000) ∧ ∀ (a : Addr) (H2 : Hp), Evl.Ex H H2 → H a = none → (∃ p xs, Dr a p xs H2) → Q (.ref a) H2
theorem rep_flat (m : Nat) : (List.replicate m [V.int 420]).flatten = (List.replicate m (420 : Int)).map V.int := by
  induction m with
  | zero => rfl
  | succ m ih => rw [List.replicate_succ, List.flatten_cons, ih]; rfl
theorem ok_pool {fa f1 : Addr} {fd fd1 : FuncData} (D__law_numbers : Df K mg "_law_numbers" s_law_numbers ["_law_cell", "_law_salt", "_law_sizes"] f1 fd1) (G__law_numbers : FnOk P w K mg base CX0 (k + 1) f1 fd1 ["_law_cell", "_law_salt", "_law_sizes"] spNum) (T : Txt mg tk)
    (D : Df K mg "_law_pool" s_law_pool ["_law_cell", "_law_salt", "_law_many"] fa fd) : FnOk P w K mg base CX0 (k + 2) fa fd ["_law_cell", "_law_salt", "_law_many"] spPool := by
  refine D.F.ok sc_law_pool (fun vs H Q E h => ?_) (fun cdv A outer s H vs Q E hr h => ?_)
  · obtain ⟨c, s, m, rfl, _⟩ := h
    rfl
  · obtain ⟨c, t, m, rfl, ht, ⟨hm0, hm1⟩, q⟩ := h
    have nd := sc_law_pool.nd
    refine ⟨_, (pss_one (ps_ret (pe_lst (pa_cons (pe_call G__law_numbers (hr.mono (by omega)) (by rfl) D__law_numbers.g D__law_numbers.F.kp D__law_numbers.b .nil pass0 (pa_cons (pv 0) (pa_cons (pv 1) (pa_cons (pe_op op_rep (pe_lst (pa_cons pe_int pa_nil)) (pv 2)) pa_nil)))) (pa_cons pe_int pa_nil))))), ?_⟩
    refine ⟨_, rfl, _, rfl, by decide, fun l hl => ⟨_, rfl, l, m, [.int 420], rfl, rfl, upd_same, by omega, by omega, sz_of (by simp; omega), fun b hb => ?_⟩⟩
    rw [rep_flat]
    have e1 : Evl.Ex H (upd H l (.lst [.int 420])) := Ex.new hl
    have e2 : Evl.Ex H (upd (upd H l (.lst [.int 420])) b (.lst ((List.replicate m.toNat (420 : Int)).map V.int))) := e1.trans (Ex.new hb)
    refine ⟨c, t, b, List.replicate m.toNat 420, rfl, upd_same, fun z hz => by rw [(List.mem_replicate.mp hz).2]; decide, by simp; omega, ht, fun p xs H2 e3 hp hxs => ?_⟩
    refine ⟨by show 2 ≤ sizeLine; decide, fun a ha => ?_⟩
    have e4 := e2.trans e3
    refine q a _ (e4.trans (Ex.new ha)) (fresh_back e4 ha) ⟨p, xs, fun z => ?_, ⟨0, upd_same⟩, ?_⟩
    · rw [← z, hxs] at ha; cases ha
    · rw [upd_ne (fun z => by rw [← z, hxs] at ha; cases ha)]; exact hxs
end
end K20
namespace K20
open PySem PySem.Spec PyProof.Rows L2 Evl RZ Ev2 TA5
abbrev s_is_whole : Stmt := topS 6
abbrev N_is_whole : List Str := ["value"]
theorem sc_is_whole : FnScope N_is_whole ["value"] (defScope s_is_whole) := ⟨rfl, rfl, rfl, by decide +kernel, rfl, by decide +kernel, by decide +kernel⟩
abbrev s_is_below : Stmt := topS 7
abbrev N_is_below : List Str := ["size", "value"]
theorem sc_is_below : FnScope N_is_below ["size", "value"] (defScope s_is_below) := ⟨rfl, rfl, rfl, by decide +kernel, rfl, by decide +kernel, by decide +kernel⟩
abbrev s_is_ascending : Stmt := topS 8
abbrev N_is_ascending : List Str := ["size", "value", "low", "high", "entry"]
theorem sc_is_ascending : FnScope N_is_ascending ["size", "value"] (defScope s_is_ascending) := ⟨rfl, rfl, rfl, by decide +kernel, rfl, by decide +kernel, by decide +kernel⟩
abbrev s_is_size : Stmt := topS 9
abbrev N_is_size : List Str := ["value"]
theorem sc_is_size : FnScope N_is_size ["value"] (defScope s_is_size) := ⟨rfl, rfl, rfl, by decide +kernel, rfl, by decide +kernel, by decide +kernel⟩
abbrev s_check_sizes : Stmt := topS 10
abbrev N_check_sizes : List Str := ["left", "right", "size"]
theorem sc_check_sizes : FnScope N_check_sizes ["left", "right"] (defScope s_check_sizes) := ⟨rfl, rfl, rfl, by decide +kernel, rfl, by decide +kernel, by decide +kernel⟩
abbrev s_is_values : Stmt := topS 12
abbrev N_is_values : List Str := ["size", "value"]
theorem sc_is_values : FnScope N_is_values ["size", "value"] (defScope s_is_values) := ⟨rfl, rfl, rfl, by decide +kernel, rfl, by decide +kernel, by decide +kernel⟩
abbrev s_has_where_form : Stmt := topS 13
abbrev N_has_where_form : List Str := ["left", "right", "value"]
theorem sc_has_where_form : FnScope N_has_where_form ["left", "right", "value"] (defScope s_has_where_form) := ⟨rfl, rfl, rfl, by decide +kernel, rfl, by decide +kernel, by decide +kernel⟩
abbrev s_is_where : Stmt := topS 14
abbrev N_is_where : List Str := ["left", "right", "value"]
theorem sc_is_where : FnScope N_is_where ["left", "right", "value"] (defScope s_is_where) := ⟨rfl, rfl, rfl, by decide +kernel, rfl, by decide +kernel, by decide +kernel⟩
abbrev s_covers : Stmt := topS 15
abbrev N_covers : List Str := ["where", "left", "right"]
theorem sc_covers : FnScope N_covers ["where", "left", "right"] (defScope s_covers) := ⟨rfl, rfl, rfl, by decide +kernel, rfl, by decide +kernel, by decide +kernel⟩
abbrev s_cells : Stmt := topS 16
abbrev N_cells : List Str := ["left", "right", "where", "a", "b"]
theorem sc_cells : FnScope N_cells ["left", "right", "where"] (defScope s_cells) := ⟨rfl, rfl, rfl, by decide +kernel, rfl, by decide +kernel, by decide +kernel⟩

/-! ### data: flat things, tuples and lists of them, a tuple of these -/
def fl : V → PyData → Prop
  | .non, d => d = .none
  | .bl b, d => d = .bool b
  | .int i, d => d = .int i
  | .str x, d => d = .str x
  | _, _ => False
inductive It (H : Hp) : V → PyData → Prop
  | flat {v : V} {d : PyData} (h : fl v d) : It H v d
  | tup {a : Addr} {xs : List V} {ds : List PyData} (h : H a = some (.tup xs)) (p : Paired fl xs ds) : It H (.ref a) (.tuple ds)
  | lst {a : Addr} {xs : List V} {ds : List PyData} (h : H a = some (.lst xs)) (p : Paired fl xs ds) : It H (.ref a) (.list ds)
def Va (ds : List PyData) : HP := fun v H => ∃ a xs, v = .ref a ∧ H a = some (.tup xs) ∧ Paired (It H) xs ds
theorem fl_flat {v : V} {d : PyData} (h : fl v d) : flatV v = true := by
  cases v <;> first | rfl | exact h.elim
theorem fls_flat : ∀ {xs : List V} {ds : List PyData}, Paired fl xs ds → xs.all flatV = true
  | _, _, .nil => rfl
  | _, _, .cons h t => by rw [List.all_cons, fl_flat h, fls_flat t]; rfl
/-- tuples and lists of flat things are kept -/
def Kx (H H' : Hp) : Prop := ∀ a o, H a = some o → ((∃ xs, o = .tup xs) ∨ (∃ xs, o = .lst xs ∧ xs.all flatV = true)) → H' a = some o
theorem Kx.of {H H' : Hp} (e : Evl.Ex H H') : Kx H H' := fun a o h _ => e a o h
theorem Kx.gs {s p : Addr} {xs : List Int} {H H' : Hp} (g : Gs s H H') (d : Dr s p xs H) : Kx H H' := fun a o h k => by
  by_cases ha : a = s
  · subst ha
    obtain ⟨n, hn⟩ := d.at_
    rw [hn] at h
    cases h
    rcases k with ⟨xs, e⟩ | ⟨xs, e, f⟩
    · cases e
    · cases e; cases f
  · exact g a o ha h
theorem It.mono {H H' : Hp} (k : Kx H H') {v : V} {d : PyData} (h : It H v d) : It H' v d := by
  cases h with
  | flat h => exact .flat h
  | tup h p => exact .tup (k _ _ h (.inl ⟨_, rfl⟩)) p
  | lst h p => exact .lst (k _ _ h (.inr ⟨_, rfl, fls_flat p⟩)) p
theorem its_mono {H H' : Hp} (k : Kx H H') : ∀ {xs : List V} {ds : List PyData}, Paired (It H) xs ds → Paired (It H') xs ds
  | _, _, .nil => .nil
  | _, _, .cons h t => .cons (h.mono k) (its_mono k t)
theorem Va.kx {H H' : Hp} (k : Kx H H') {ds : List PyData} {v : V} (h : Va ds v H) : Va ds v H' := by
  obtain ⟨a, xs, e, ha, p⟩ := h
  exact ⟨a, xs, e, k _ _ ha (.inl ⟨_, rfl⟩), its_mono k p⟩
theorem mono_va {ds : List PyData} : Mono (Va ds) := fun _ _ _ e h => Va.kx (Kx.of e) h
theorem mono_it {d : PyData} : Mono (fun v H => It H v d) := fun _ _ _ e h => h.mono (Kx.of e)
theorem Paired.len {α β : Type} {R : α → β → Prop} : ∀ {xs : List α} {ys : List β}, Paired R xs ys → xs.length = ys.length
  | _, _, .nil => rfl
  | _, _, .cons _ t => by simp [Paired.len t]
theorem Paired.at {α β : Type} {R : α → β → Prop} : ∀ {xs : List α} {ys : List β} {i : Nat} {x : α}, Paired R xs ys → xs[i]? = some x → ∃ y, ys[i]? = some y ∧ R x y
  | _, _, i, x, .nil, h => by simp at h
  | _, _, 0, x, .cons h t, e => by simp at e; subst e; exact ⟨_, rfl, h⟩
  | _, _, i + 1, x, .cons h t, e => by obtain ⟨y, h1, h2⟩ := Paired.at t (i := i) (by simpa using e); exact ⟨y, by simpa using h1, h2⟩
/-! ### the mirrors -/
def isI : PyData → Bool
  | .int _ => true
  | _ => false
def isB (n : Int) : PyData → Bool
  | .int i => decide (0 ≤ i) && decide (i < n)
  | _ => false
def isSz : PyData → Bool
  | .int i => decide (1 ≤ i) && decide (i ≤ 8)
  | _ => false
def dI : PyData → Int
  | .int i => i
  | _ => 0
def ascI : List Int → Bool
  | a :: b :: r => decide (a < b) && ascI (b :: r)
  | _ => true
def isVs (n : Int) : PyData → Bool
  | .tuple ds => !ds.isEmpty && (ds.all (isB n) && ascI (ds.map dI))
  | _ => false
def form (l r : Int) : List PyData → Bool
  | .str w :: rest =>
    if w = "all" then decide (rest.length + 1 = 1)
    else if w = "left" then decide (rest.length + 1 = 2) && isVs l (rest.getD 0 .none)
    else if w = "right" then decide (rest.length + 1 = 2) && isVs r (rest.getD 0 .none)
    else decide (w = "cell") && (decide (rest.length + 1 = 3) && (isB l (rest.getD 0 .none) && isB r (rest.getD 1 .none)))
  | _ => false
theorem ascI_range : ∀ ns : List Int, (List.range (ns.length - 1)).all (fun i => decide (ns.getD i 0 < ns.getD (i + 1) 0)) = ascI ns
  | [] => rfl
  | [_] => rfl
  | a :: b :: r => by
    have ih := ascI_range (b :: r)
    have e : (a :: b :: r).length - 1 = ((b :: r).length - 1) + 1 := by simp
    rw [e, List.range_succ_eq_map, List.all_cons, List.all_map]
    show (decide (a < b) && (List.range ((b :: r).length - 1)).all (fun i => decide ((b :: r).getD i 0 < (b :: r).getD (i + 1) 0))) = ascI (a :: b :: r)
    rw [ih]
    rfl
theorem all_range {α : Type} (f : α → Bool) (d : α) : ∀ ds : List α, (List.range ds.length).all (fun i => f (ds.getD i d)) = ds.all f
  | [] => rfl
  | x :: ds => by
    rw [List.length_cons, List.range_succ_eq_map, List.all_cons, List.all_map, List.all_cons]
    have ih := all_range f d ds
    rw [← ih]
    rfl
section
variable {K : PySem.W.Frag} {σ : L2.St} {H : Hp} {ta tb te : TE} {P : HP}
theorem evp_allB {n : Nat} {b : Nat → Bool} (h : EvP te σ H (LstP n (fun i => Is (.bl (b i))))) : EvP (tCB (rAll K) (tCons te tNil)) σ H (Is (.bl ((List.range n).all b))) := fun H1 e Q q => h H1 e _ fun v H2 e2 p => by
  obtain ⟨l, rfl, hl⟩ := lst_is p
  refine ⟨l, (List.range n).map b, rfl, ?_, ?_⟩
  · rw [List.map_map]; exact sq_of hl
  · rw [List.all_map]
    exact q _ H2 e2 rfl
/-- zip of a tuple and a shorter one -/
theorem wi_zipL {tl tr : TE} {n m : Nat} {Pi Ri : Nat → HP} (h : EvP tl σ H (TupP m Pi)) (h2 : EvP tr σ H (TupP n Ri)) (hnm : n ≤ m) (m1 : ∀ i, MonoF (Pi i)) (m2 : ∀ i, MonoF (Ri i)) :
    WiP (iZipA K (tCons tl (tCons tr tNil))) σ H n (fun i x H => ∃ T u v, x = .ref T ∧ H T = some (.tup [u, v]) ∧ Pi i u H ∧ Ri i v H) := fun H1 e R k =>
  h H1 e _ fun v H2 e2 ⟨p, ys, hv, hp, hl, hi⟩ => h2 H2 (e.trans e2) _ fun v' H3 e3 ⟨q, zs, hv', hq, hl', hi'⟩ => by
    subst hv
    subst hv'
    refine ⟨p, q, ys, zs, rfl, .inr ⟨st_of (e3 _ _ hp), st_of hq, ?_⟩⟩
    refine k _ H3 (fun H => H p = some (.tup ys) ∧ H q = some (.tup zs) ∧ (∀ i y, ys[i]? = some y → Pi i y H) ∧ ∀ i y, zs[i]? = some y → Ri i y H) (e2.trans e3) ?_ ⟨e3 _ _ hp, hq, fun i y hy => (m1 i).mono _ _ _ e3 (hi i y hy), hi'⟩
    refine ⟨fun H H' e ⟨a, b, c, d⟩ => ⟨e _ _ a (fun _ z => nomatch z), e _ _ b (fun _ z => nomatch z), fun i y hy => m1 i _ _ _ e (c i y hy), fun i y hy => m2 i _ _ _ e (d i y hy)⟩, fun i H hlt ⟨a, b, _, _⟩ => ?_, fun H ⟨a, b, _, _⟩ => ?_, fun i H x H' hlt ⟨a, b, c, d⟩ y => ?_⟩
    · exact ⟨ys, zs, _, _, st_of a, st_of b, List.getElem?_eq_getElem (by omega), List.getElem?_eq_getElem (by omega)⟩
    · exact ⟨ys, zs, st_of a, st_of b, .inr (by omega)⟩
    · obtain ⟨T, u, w, rfl, hT, rfl, f1, f2⟩ := y
      have ex := Ex.new (o := .tup [u, w]) hT
      exact ⟨ex, T, u, w, rfl, upd_same, (m1 i).mono _ _ _ ex (c i u (f1 ys (st_of a))), (m2 i).mono _ _ _ ex (d i w (f2 zs (st_of b)))⟩
theorem g_pair' {x : V} {T : Addr} {u w : V} {σ0 : L2.St} {i j : Nat} {S : L2.St → Hp → Prop} (hx : x = .ref T) (h : H T = some (.tup [u, w])) (hS : S ((σ0.set i (some u)).set j (some w)) H) : GP (gTup K 2 (gCons (gName i) (gCons (gName j) gNil))) x σ0 H S := fun Q q =>
  ⟨T, [u, w], hx, st_of h, rfl, u, [w], rfl, w, [], rfl, rfl, q _ hS⟩
/-- types -/
def tyD : PyData → String
  | .none => "NoneType" | .bool _ => "bool" | .int _ => "int" | .str _ => "str" | .tuple _ => "tuple" | .list _ => "list" | _ => "dict"
theorem ty_it {v : V} {d : PyData} (h : It H v d) : TyX K H v (.type (tyD d)) := by
  cases h with
  | flat h => cases v <;> first | exact h.elim | (cases h; exact .base (by constructor))
  | tup h p => exact .base (.tup h)
  | lst h p => exact .base (.lst h)
theorem evp_isiD {T : String} {d : PyData} {b : Bool} (h : EvP te σ H (fun v H => It H v d)) (e : kitB (tyD d) T = some b) : EvP (tCB (rIsi K) (tCons te (tCons (tC (.ty T)) tNil))) σ H (Is (.bl b)) :=
  evp_isi h (fun x H1 p => ty_it p) (.ty T) (kit_ty e)
end
theorem kit_int (d : PyData) : kitB (tyD d) "int" = some (match d with | .bool _ => true | .int _ => true | _ => false) := by
  cases d with
  | none => exact (show kitB "NoneType" "int" = some false by decide +kernel)
  | bool _ => exact (show kitB "bool" "int" = some true by decide +kernel)
  | int _ => exact (show kitB "int" "int" = some true by decide +kernel)
  | str _ => exact (show kitB "str" "int" = some false by decide +kernel)
  | list _ => exact (show kitB "list" "int" = some false by decide +kernel)
  | tuple _ => exact (show kitB "tuple" "int" = some false by decide +kernel)
  | dict _ => exact (show kitB "dict" "int" = some false by decide +kernel)
theorem kit_bool (d : PyData) : kitB (tyD d) "bool" = some (match d with | .bool _ => true | _ => false) := by
  cases d with
  | none => exact (show kitB "NoneType" "bool" = some false by decide +kernel)
  | bool _ => exact (show kitB "bool" "bool" = some true by decide +kernel)
  | int _ => exact (show kitB "int" "bool" = some false by decide +kernel)
  | str _ => exact (show kitB "str" "bool" = some false by decide +kernel)
  | list _ => exact (show kitB "list" "bool" = some false by decide +kernel)
  | tuple _ => exact (show kitB "tuple" "bool" = some false by decide +kernel)
  | dict _ => exact (show kitB "dict" "bool" = some false by decide +kernel)
theorem kit_str (d : PyData) : kitB (tyD d) "str" = some (match d with | .str _ => true | _ => false) := by
  cases d with
  | none => exact (show kitB "NoneType" "str" = some false by decide +kernel)
  | bool _ => exact (show kitB "bool" "str" = some false by decide +kernel)
  | int _ => exact (show kitB "int" "str" = some false by decide +kernel)
  | str _ => exact (show kitB "str" "str" = some true by decide +kernel)
  | list _ => exact (show kitB "list" "str" = some false by decide +kernel)
  | tuple _ => exact (show kitB "tuple" "str" = some false by decide +kernel)
  | dict _ => exact (show kitB "dict" "str" = some false by decide +kernel)
theorem kit_tup (d : PyData) : kitB (tyD d) "tuple" = some (match d with | .tuple _ => true | _ => false) := by
  cases d with
  | none => exact (show kitB "NoneType" "tuple" = some false by decide +kernel)
  | bool _ => exact (show kitB "bool" "tuple" = some false by decide +kernel)
  | int _ => exact (show kitB "int" "tuple" = some false by decide +kernel)
  | str _ => exact (show kitB "str" "tuple" = some false by decide +kernel)
  | list _ => exact (show kitB "list" "tuple" = some false by decide +kernel)
  | tuple _ => exact (show kitB "tuple" "tuple" = some true by decide +kernel)
  | dict _ => exact (show kitB "dict" "tuple" = some false by decide +kernel)
section
variable {P : Program} {w : World} {K : PySem.W.Frag} {mg : Str → Option Value} {base : Heap} {tk : Tok} {k : Nat}
def spWhole : Sp := fun vs H Q _ => ∃ (x : V) (d : PyData), vs = [x] ∧ It H x d ∧ ∀ v H2, Evl.Ex H H2 → v = .bl (isI d) → Q v H2
theorem ok_whole {f : Addr} {fd : FuncData} (T : Txt mg tk) (D : Df K mg "is_whole" s_is_whole ["value"] f fd) : FnOk P w K mg base CX0 (k + 1) f fd ["value"] spWhole := by
  refine D.F.ok sc_is_whole (fun vs H Q E h => ?_) (fun cdv A outer s H vs Q E hr h => ?_)
  · obtain ⟨x, d, rfl, _⟩ := h
    rfl
  · obtain ⟨x, d, rfl, hx, q⟩ := h
    refine ⟨_, (pss_one (ps_ret (pe_and (pe_callB (r := rIsi K) call_isi (by rfl) T.n_isinstance PyProof.Rows.boot_isinstance (pa_cons (pv 0) (pa_cons (pe_bltn (v := .ty "int") (by rfl) T.n_int PyProof.Rows.boot_int rfl) pa_nil))) (pe_one (pe_not (pe_callB (r := rIsi K) call_isi (by rfl) T.n_isinstance PyProof.Rows.boot_isinstance (pa_cons (pv 0) (pa_cons (pe_bltn (v := .ty "bool") (by rfl) T.n_bool PyProof.Rows.boot_bool rfl) pa_nil)))))))), ?_⟩
    have h0 : EvP (tVar 0) (start N_is_whole [x]) H (fun v H => It H v d) := evp_var rfl hx mono_it
    refine evp_is (evp_and (evp_isiD (K := K) h0 (kit_int d)) fun _ => evp_not (evp_isiD (K := K) h0 (kit_bool d))) ?_ H (Ex.refl H) _ q
    cases d <;> rfl
def spBelow : Sp := fun vs H Q _ => ∃ (n : Int) (x : V) (d : PyData), vs = [.int n, x] ∧ It H x d ∧ ∀ v H2, Evl.Ex H H2 → v = .bl (isB n d) → Q v H2
def spSize : Sp := fun vs H Q _ => ∃ (x : V) (d : PyData), vs = [x] ∧ It H x d ∧ ∀ v H2, Evl.Ex H H2 → v = .bl (isSz d) → Q v H2
theorem it_int {H : Hp} {x : V} {d : PyData} (h : It H x d) (hi : isI d = true) : ∃ i, x = .int i ∧ d = .int i := by
  cases h with
  | flat h => cases x <;> first | exact h.elim | (cases h; first | exact ⟨_, rfl, rfl⟩ | cases hi)
  | tup h p => cases hi
  | lst h p => cases hi
theorem ok_below {f f1 : Addr} {fd fd1 : FuncData} (D_is_whole : Df K mg "is_whole" s_is_whole ["value"] f1 fd1) (G_is_whole : FnOk P w K mg base CX0 (k + 1) f1 fd1 ["value"] spWhole) (T : Txt mg tk) (D : Df K mg "is_below" s_is_below ["size", "value"] f fd) :
    FnOk P w K mg base CX0 (k + 2) f fd ["size", "value"] spBelow := by
  refine D.F.ok sc_is_below (fun vs H Q E h => ?_) (fun cdv A outer s H vs Q E hr h => ?_)
  · obtain ⟨n, x, d, rfl, _⟩ := h
    rfl
  · obtain ⟨n, x, d, rfl, hx, q⟩ := h
    refine ⟨_, (pss_one (ps_ret (pe_and (pe_call G_is_whole (hr.mono (by omega)) (by rfl) D_is_whole.g D_is_whole.F.kp D_is_whole.b .nil pass0 (pa_cons (pv 1) pa_nil)) (pe_one (pe_chain op_le op_lt pe_int (pv 1) (pv 0)))))), ?_⟩
    have h1 : EvP (tVar 1) (start N_is_below [.int n, x]) H (fun v H => It H v d) := evp_var rfl hx mono_it
    refine evp_is (evp_and (a := isI d) (b := isB n d) (evp_call (sp := spWhole) (S := Is (.bl (isI d))) (eap_one h1) fun vs H1 ⟨y, e, hy⟩ Q q E => ⟨y, d, e, hy, q⟩) fun hi => ?_) ?_ H (Ex.refl H) _ q
    · obtain ⟨i, rfl, rfl⟩ := it_int hx hi
      exact evp_chain (g := fun i j => .bl (decide (i ≤ j))) (g' := fun i j => .bl (decide (i < j))) (evp_c (v := .int 0)) (evp_var (v := .int i) rfl rfl mono_is) (evp_var (v := .int n) rfl rfl mono_is) rfl rfl
    · cases d <;> rfl
theorem ok_size {f f1 : Addr} {fd fd1 : FuncData} (D_is_whole : Df K mg "is_whole" s_is_whole ["value"] f1 fd1) (G_is_whole : FnOk P w K mg base CX0 (k + 1) f1 fd1 ["value"] spWhole) (T : Txt mg tk) (D : Df K mg "is_size" s_is_size ["value"] f fd) :
    FnOk P w K mg base CX0 (k + 2) f fd ["value"] spSize := by
  refine D.F.ok sc_is_size (fun vs H Q E h => ?_) (fun cdv A outer s H vs Q E hr h => ?_)
  · obtain ⟨x, d, rfl, _⟩ := h
    rfl
  · obtain ⟨x, d, rfl, hx, q⟩ := h
    refine ⟨_, (pss_one (ps_ret (pe_and (pe_call G_is_whole (hr.mono (by omega)) (by rfl) D_is_whole.g D_is_whole.F.kp D_is_whole.b .nil pass0 (pa_cons (pv 0) pa_nil)) (pe_one (pe_chain op_le op_le pe_int (pv 0) (pe_glob (v := .int 8) rfl T.c_MOST_VALUES ⟨_, rfl⟩)))))), ?_⟩
    have h1 : EvP (tVar 0) (start N_is_size [x]) H (fun v H => It H v d) := evp_var rfl hx mono_it
    refine evp_is (evp_and (a := isI d) (b := isSz d) (evp_call (sp := spWhole) (S := Is (.bl (isI d))) (eap_one h1) fun vs H1 ⟨y, e, hy⟩ Q q E => ⟨y, d, e, hy, q⟩) fun hi => ?_) ?_ H (Ex.refl H) _ q
    · obtain ⟨i, rfl, rfl⟩ := it_int hx hi
      exact evp_chain (g := fun i j => .bl (decide (i ≤ j))) (g' := fun i j => .bl (decide (i ≤ j))) (evp_c (v := .int 1)) (evp_var (v := .int i) rfl rfl mono_is) (evp_c (v := .int 8)) rfl rfl
    · cases d <;> rfl
end
end K20
namespace K20
open PySem PySem.Spec PyProof.Rows L2 Evl RZ Ev2 TA5

def Rz (fn : Str) (C : Addr) (x : V) (H : Hp) (E : XK) : Prop := ∀ (d : Addr) (H2 : Hp), Evl.Ex H H2 → H2 d = some (.xd [(fn, x)]) → E (.ref C) (some d) H2
abbrev EVT (K : PySem.W.Frag) (mg : Str → Option Value) (C f : Addr) : Prop := PySem.ErrV.ErrTxt K mg "InvalidNumber" "InvalidNumber.__init__" C f
abbrev EPT (K : PySem.W.Frag) (mg : Str → Option Value) (C f : Addr) : Prop := PySem.ErrP.ErrTxt K mg "InvalidFact" "InvalidFact.__init__" C f
section
variable {P : Program} {w : World} {K : PySem.W.Frag} {mg : Str → Option Value} {base : Heap} {tk : Tok} {k : Nat} {CV iV CP iP : Addr}
def spCheckSizes (C : Addr) : Sp := fun vs H Q E => ∃ (x y : V) (dx dy : PyData), vs = [x, y] ∧ It H x dx ∧ It H y dy ∧ (isSz dx = false → Rz "value" C x H E) ∧ (isSz dx = true → isSz dy = false → Rz "value" C y H E) ∧ (isSz dx = true → isSz dy = true → ∀ H2, Evl.Ex H H2 → Q .non H2)
theorem ok_check_sizes {f f1 : Addr} {fd fd1 : FuncData} (EV : EVT K mg CV iV) (D_is_size : Df K mg "is_size" s_is_size ["value"] f1 fd1) (G_is_size : FnOk P w K mg base CX0 (k + 2) f1 fd1 ["value"] spSize) (T : Txt mg tk) (D : Df K mg "check_sizes" s_check_sizes ["left", "right"] f fd) :
    FnOk P w K mg base (L2.CX P w) (k + 5) f fd ["left", "right"] (spCheckSizes CV) := by
  refine D.F.okX sc_check_sizes (fun vs H Q E h => ?_) (fun cdv A outer s H vs Q E hr h => ?_)
  · obtain ⟨x, y, dx, dy, rfl, _⟩ := h
    rfl
  · obtain ⟨x, y, dx, dy, rfl, hx, hy, k1, k2, k3⟩ := h
    have nd := sc_check_sizes.nd
    refine ⟨_, (pss_one (ps_for (passes_of rfl) rfl (pi_tup (pe_tup (pa_cons (pv 0) (pa_cons (pv 1) pa_nil)))) (pg_name (i := 2) nd rfl (Or.inl rfl)) (pss_one (ps_if (pt_not (pt_val (pe_call G_is_size (hr.mono (by omega)) (by rfl) D_is_size.g D_is_size.F.kp D_is_size.b .nil pass0 (pa_cons (pv 2) pa_nil)))) (pss_one (ErrVL.ps_raiseErr rfl EV hr (takes_of rfl rfl rfl rfl) (pa_cons (pv 2) pa_nil))) pss_nil)))), ?_⟩
    refine ⟨_, rfl, _, rfl, by show 2 ≤ sizeLine; decide, fun p hp => ⟨p, rfl, ⟨[x, y], st_of upd_same⟩, ?_⟩⟩
    have e0 : Evl.Ex H (upd H p (.tup [x, y])) := Ex.new hp
    refine for_tup (xs := [x, y]) (fun i σ' H' => ∃ s2, σ' = [some x, some y, s2] ∧ Evl.Ex H H' ∧ H' p = some (.tup [x, y]) ∧ (1 ≤ i → isSz dx = true) ∧ (2 ≤ i → isSz dy = true)) ⟨none, rfl, e0, upd_same, fun z => absurd z (by decide), fun z => absurd z (by decide)⟩ (fun i σ' H' _ ⟨_, _, _, h, _⟩ => st_of h) (fun i z σ' H' hz ⟨s2, hs, ex, hpt, h1, h2⟩ => ?_) (fun σ' H' ⟨s2, hs, ex, hpt, h1, h2⟩ => k3 (h1 (Nat.le_succ 1)) (h2 (Nat.le_refl 2)) H' ex)
    subst hs
    have turn : ∀ (dz : PyData), It H z dz → (isSz dz = false → Rz "value" CV z H E) → (isSz dz = true → (1 ≤ i + 1 → isSz dx = true) ∧ (2 ≤ i + 1 → isSz dy = true)) → _ := fun dz hz2 hbad hgood =>
      s_when (D := { nx := fun σ' H' => ∃ s2, σ' = [some x, some y, s2] ∧ Evl.Ex H H' ∧ H' p = some (.tup [x, y]) ∧ (1 ≤ i + 1 → isSz dx = true) ∧ (2 ≤ i + 1 → isSz dy = true), rt := Q, bk := fun _ H' => Q .non H', ct := fun σ' H' => ∃ s2, σ' = [some x, some y, s2] ∧ Evl.Ex H H' ∧ H' p = some (.tup [x, y]) ∧ (1 ≤ i + 1 → isSz dx = true) ∧ (2 ≤ i + 1 → isSz dy = true) }) (tu := ErrVL.tRaiseErr CV (fun cls d _ H => E cls d H) (tCons (tVar 2) tNil)) (σ := [some x, some y, some z]) (H := H') (b := !isSz dz)
        (et_not (et_bl (evp_call (sp := spSize) (E := E0) (S := Is (.bl (isSz dz))) (eap_one (evp_var (σ := [some x, some y, some z]) (i := 2) rfl (hz2.mono (Kx.of ex)) mono_it)) fun vs H1 ⟨y, e, hy⟩ Q q E => ⟨y, dz, e, hy, q⟩)))
        (fun hb H1 e1 => ⟨_, rfl, z, rfl, fun d hd => hbad (by simpa using hb) d _ ((ex.trans e1).trans (Ex.new hd)) upd_same⟩) (fun hb H1 e1 => ⟨some z, rfl, ex.trans e1, e1 _ _ hpt, hgood (by simpa using hb)⟩)
    match i, hz with
    | 0, hz => cases hz; exact turn dx hx k1 fun g => ⟨fun _ => g, fun z => absurd z (by decide)⟩
    | 1, hz => cases hz; exact turn dy hy (k2 (h1 (by decide))) fun g => ⟨fun _ => h1 (by decide), fun _ => g⟩
    | i + 2, hz => simp at hz
end
end K20
namespace K20
open PySem PySem.Spec PyProof.Rows L2 Evl RZ Ev2 TA5

section
variable {K : PySem.W.Frag} {σ : L2.St} {H : Hp} {ta tb te : TE} {P : HP}
theorem cutV_from {xs : List V} {k : Nat} : cutV xs (some (k : Int)) none = xs.drop k := by
  unfold cutV
  rw [HT.sIx_nat, HT.sIx_none]
  by_cases h : k ≤ xs.length
  · rw [Nat.min_eq_left h, List.take_of_length_le (by simp)]
  · rw [Nat.min_eq_right (by omega), List.drop_length, List.drop_of_length_le (by omega)]; simp
theorem cutV_to {xs : List V} {k : Nat} : cutV xs none (some (k : Int)) = xs.take k := by
  unfold cutV
  rw [HT.sIx_nat, HT.sIx_none, List.drop_zero, Nat.sub_zero]
  by_cases h : k ≤ xs.length
  · rw [Nat.min_eq_left h]
  · rw [Nat.min_eq_right (by omega), List.take_length, List.take_of_length_le (by omega)]
theorem evp_slA {tl th : TO} {a : Addr} {xs : List V} {lo hi : Option Int} (h : Ev te σ H (.ref a)) (h1 : EvO tl σ H lo) (h2 : EvO th σ H hi) (hs : H a = some (.tup xs)) :
    EvP (tSl (rSlA K) te tl th) σ H (fun v H1 => ∃ p, v = .ref p ∧ H1 p = some (.tup (cutV xs lo hi))) := fun H1 e Q q =>
  h H1 e _ fun H2 e2 => h1 H2 (e.trans e2) _ fun H3 e3 => h2 H3 ((e.trans e2).trans e3) _ fun H4 e4 => by
    have ex := ((e.trans e2).trans e3).trans e4
    refine ⟨a, xs, rfl, st_of (ex _ _ hs), fun ⟨w1, w2⟩ => ?_, fun _ p hp => q _ _ (((e2.trans e3).trans e4).trans (Ex.new hp)) ⟨p, rfl, upd_same⟩⟩
    refine q _ H4 ((e2.trans e3).trans e4) ⟨a, rfl, ?_⟩
    rw [ex _ _ hs]
    unfold cutV
    rw [w1, w2, List.drop_zero, Nat.sub_zero, List.take_length]
theorem fl_it {H : Hp} {v : V} {d : PyData} (h : fl v d) : It H v d := .flat h
theorem getD_some {ds : List PyData} {i : Nat} {d : PyData} (h : ds[i]? = some d) : ds.getD i .none = d := by rw [List.getD_eq_getElem?_getD, h]; rfl
theorem tup_fl {xs : List V} {ds : List PyData} {a : Addr} (p : Paired fl xs ds) (h : H a = some (.tup xs)) : TupP ds.length (fun i v _ => fl v (ds.getD i .none)) (.ref a) H :=
  ⟨a, xs, rfl, h, Paired.len p, fun i y hy => by
    obtain ⟨d, h1, h2⟩ := Paired.at p hy
    rw [getD_some h1]; exact h2⟩
theorem mf_fl {d : PyData} : MonoF (fun v _ => fl v d) := fun _ _ _ _ h => h
def isTup : PyData → Bool
  | .tuple _ => true
  | _ => false
def isStr : PyData → Bool
  | .str _ => true
  | _ => false
theorem kit_tup' (d : PyData) : kitB (tyD d) "tuple" = some (isTup d) := by rw [kit_tup]; cases d <;> rfl
theorem kit_str' (d : PyData) : kitB (tyD d) "str" = some (isStr d) := by rw [kit_str]; cases d <;> rfl
def SmallD : PyData → Bool
  | .tuple ds => decide (ds.length ≤ 50)
  | _ => true
theorem fl_int {v : V} {i : Int} (h : fl v (.int i)) : v = .int i := by
  cases v <;> first | exact h.elim | (cases h; try rfl)
theorem isB_int {n : Int} {d : PyData} (h : isB n d = true) : ∃ i, d = .int i ∧ 0 ≤ i ∧ i < n := by
  cases d <;> first | (cases h; done) | (refine ⟨_, rfl, ?_⟩; simpa [isB] using h)
end
section
variable {P : Program} {w : World} {K : PySem.W.Frag} {mg : Str → Option Value} {base : Heap} {tk : Tok} {k : Nat}
theorem sp_below_it {n : Int} {d : PyData} {H : Hp} : SpP spBelow (fun vs H1 => ∃ x y, vs = [x, y] ∧ Is (.int n) x H1 ∧ It H1 y d) (Is (.bl (isB n d))) := fun vs H1 ⟨x, y, e, hx, hy⟩ Q q E => ⟨n, y, d, by rw [e, show x = .int n from hx], hy, fun v H2 e2 p => q v H2 e2 p⟩
def isAsc (n : Int) : PyData → Bool
  | .tuple ds => ds.all (isB n) && ascI (ds.map dI)
  | _ => false
def spAsc : Sp := fun vs H Q _ => ∃ (n : Int) (x : V) (d : PyData), vs = [.int n, x] ∧ It H x d ∧ SmallD d = true ∧ ∀ v H2, Evl.Ex H H2 → v = .bl (isAsc n d) → Q v H2
theorem ok_asc {f f1 : Addr} {fd fd1 : FuncData} (D_is_below : Df K mg "is_below" s_is_below ["size", "value"] f1 fd1) (G_is_below : FnOk P w K mg base CX0 (k + 2) f1 fd1 ["size", "value"] spBelow) (T : Txt mg tk) (D : Df K mg "is_ascending" s_is_ascending ["size", "value"] f fd) :
    FnOk P w K mg base CX0 (k + 3) f fd ["size", "value"] spAsc := by
  refine D.F.ok sc_is_ascending (fun vs H Q E h => ?_) (fun cdv A outer s H vs Q E hr h => ?_)
  · obtain ⟨n, x, d, rfl, _⟩ := h
    rfl
  · obtain ⟨n, x, d, rfl, hx, hsm, q⟩ := h
    have nd := sc_is_ascending.nd
    refine ⟨_, (pss_cons (ps_if (PW.pt (pw_or (pt_not (pt_val (pe_callB (r := rIsi K) call_isi (by rfl) T.n_isinstance PyProof.Rows.boot_isinstance (pa_cons (pv 1) (pa_cons (pe_bltn (v := .ty "tuple") (by rfl) T.n_tuple PyProof.Rows.boot_tuple rfl) pa_nil))))) (pw_or1 (pt_not (pt_val (pe_callB (r := rAll K) (cr_all rfl) (by rfl) T.n_all PyProof.Rows.boot_all (pa_cons (pe_lc (wi := iTup K _) (g := gName 4) (own := [("entry", 4)]) (by rfl) nd (pi_tup (pv 1)) (blkOk_by (by kernel_rfl)) (fun _ _ _ _ _ => (pg_name (i := 4) nd rfl (Or.inl rfl))) (fun _ _ _ _ _ => pts_nil) (fun _ _ _ _ _ => (pe_call G_is_below (hr.mono (by omega)) (by rfl) D_is_below.g D_is_below.F.kp D_is_below.b .nil pass0 (pa_cons (pv 0) (pa_cons (pv 4) pa_nil))))) pa_nil))))))) (pss_one (ps_ret pe_bl)) pss_nil) (pss_one (ps_ret (pe_callB (r := rAll K) (cr_all rfl) (by rfl) T.n_all PyProof.Rows.boot_all (pa_cons (pe_lc (wi := iZipA K _) (g := gTup K 2 (gCons (gName 2) (gCons (gName 3) gNil))) (own := [("low", 2), ("high", 3)]) (by rfl) nd (pi_zipA (by rfl) T.n_zip (pa_cons (pv 1) (pa_cons (pe_slice (r := rSlA K) sl_tupA (pv 1) (po_some pe_int) po_none) pa_nil))) (blkOk_by (by kernel_rfl)) (fun _ _ _ _ _ => (pg_tup rfl (pgs_cons (pg_name (i := 2) nd rfl (Or.inl rfl)) (pgs_cons (pg_name (i := 3) nd rfl (Or.inl rfl)) pgs_nil)))) (fun _ _ _ _ _ => pts_nil) (fun _ _ _ _ _ => (pe_cmpR op_lt (pv 2) (pv 3) (nomark _)))) pa_nil))))), ?_⟩
    have h1 : EvP (tVar 1) (start N_is_ascending [.int n, x]) H (fun v H => It H v d) := evp_var rfl hx mono_it
    have h0 : ∀ {σ' : L2.St} {H' : Hp}, σ'[0]? = some (some (.int n)) → EvP (tVar 0) σ' H' (Is (.int n)) := fun h => evp_var h rfl mono_is
    have hno : isTup d = false → isAsc n d = false := fun e => by cases d <;> first | rfl | (cases e; done)
    by_cases ht : isTup d = true
    · obtain ⟨ds, rfl⟩ : ∃ ds, d = .tuple ds := by cases d <;> first | exact ⟨_, rfl⟩ | (cases ht; done)
      have hl : ds.length ≤ 50 := by simpa [SmallD] using hsm
      cases hx with
      | flat hx => cases x <;> first | exact hx.elim | (cases hx; done)
      | @tup a xs _ ha p =>
        have hT : ∀ {H' : Hp}, Evl.Ex H H' → EvP (tVar 1) (start N_is_ascending [.int n, .ref a]) H' (TupP ds.length (fun i v _ => fl v (ds.getD i .none))) := fun ex => evp_var rfl (tup_fl p (ex _ _ ha)) (mf_tup fun _ => mf_fl).mono
        have hall : EvP _ (start N_is_ascending [.int n, .ref a]) H (Is (.bl ((List.range ds.length).all fun i => isB n (ds.getD i .none)))) := evp_allB (K := K) (evp_lc (vs := [4]) (g := gName 4) (wi_tup (K := K) (hT (Ex.refl H)) fun _ => mf_fl) (by omega)
            (Sg := fun i σ2 _ => ∃ y, σ2 = [some (.int n), some (.ref a), none, none, some y] ∧ fl y (ds.getD i .none)) (fun i y H2 hi e2 hy => g_name (i := 4) ⟨rfl, y, rfl, hy⟩) (fun i σ2 H2 hi e2 ⟨y, hs, hy⟩ => by
              subst hs
              exact evp_call (E := E0) (eap_two (h0 rfl) (evp_var (v := y) (i := 4) rfl (fl_it hy) mono_it) mono_is) (sp_below_it (H := H2))) fun _ => mf_is)
        rw [all_range (isB n)] at hall
        refine s_when (b := !true || !ds.all (isB n)) (et_or (et_not (et_tst (evp_isiD (K := K) h1 (kit_tup' (.tuple ds))))) fun _ => et_not (et_tst hall)) (fun hb H1 e1 => ?_) (fun hb H1 e1 => ?_)
        · refine s_ret ev_c fun H2 e2 => q _ H2 (e1.trans e2) ?_
          have : ds.all (isB n) = false := by simpa using hb
          simp [isAsc, this]
        · have hgood : ds.all (isB n) = true := by simpa using hb
          have hat : ∀ i, i < ds.length → ds.getD i .none = .int ((ds.map dI).getD i 0) := fun i hi => by
            have hm : ds.getD i .none ∈ ds := by rw [List.getD_eq_getElem?_getD, List.getElem?_eq_getElem hi]; exact List.getElem_mem hi
            obtain ⟨j, hj, _⟩ := isB_int (List.all_eq_true.mp hgood _ hm)
            have e4 : (ds.map dI).getD i 0 = dI (ds.getD i .none) := by
              rw [List.getD_eq_getElem?_getD, List.getElem?_map, List.getElem?_eq_getElem hi, List.getD_eq_getElem?_getD, List.getElem?_eq_getElem hi]; rfl
            rw [e4, hj]; rfl
          have hlen := Paired.len p
          have hsl : EvP _ (start N_is_ascending [.int n, .ref a]) H1 (TupP (ds.length - 1) (fun i v _ => fl v (ds.getD (i + 1) .none))) := (evp_slA (K := K) (lo := some ((1 : Nat) : Int)) (hi := none) (evp_var (P := Is (.ref a)) (i := 1) rfl rfl mono_is).ev (eo_some evp_c.ev) eo_none (e1 _ _ ha)).imp fun v H3 e3 ⟨p', hv, hp'⟩ => by
            subst hv
            rw [cutV_from] at hp'
            refine ⟨p', _, rfl, hp', by rw [List.length_drop, hlen], fun i y hy => ?_⟩
            rw [List.getElem?_drop, Nat.add_comm] at hy
            obtain ⟨d, g1, g2⟩ := Paired.at p hy
            rw [getD_some g1]; exact g2
          have hz : EvP _ (start N_is_ascending [.int n, .ref a]) H1 (Is (.bl ((List.range (ds.length - 1)).all fun i => decide ((ds.map dI).getD i 0 < (ds.map dI).getD (i + 1) 0)))) := evp_allB (K := K) (evp_lc (vs := [2, 3]) (g := gTup K 2 (gCons (gName 2) (gCons (gName 3) gNil))) (wi_zipL (K := K) (hT e1) hsl (by omega) (fun _ => mf_fl) fun _ => mf_fl) (by omega)
            (Sg := fun i σ2 _ => ∃ y z, σ2 = [some (.int n), some (.ref a), some y, some z, none] ∧ fl y (ds.getD i .none) ∧ fl z (ds.getD (i + 1) .none)) (fun i t H3 hi e3 ⟨T', u, v, ht, hT', hu, hv⟩ => g_pair' (i := 2) (j := 3) ht hT' ⟨rfl, u, v, rfl, hu, hv⟩) (fun i σ2 H3 hi e3 ⟨y, z, hs, hy, hz⟩ => by
              subst hs
              rw [hat i (by omega)] at hy
              rw [hat (i + 1) (by omega)] at hz
              rw [fl_int hy, fl_int hz]
              exact evp_I0 (g := fun i j => .bl (decide (i < j))) (evp_var (i := 2) rfl rfl mono_is) (evp_var (i := 3) rfl rfl mono_is)) fun _ => mf_is)
          have e5 := ascI_range (ds.map dI)
          rw [List.length_map] at e5
          rw [e5] at hz
          refine s_ret hz.ev fun H3 e3 => q _ H3 (e1.trans e3) ?_
          simp [isAsc, hgood]
    · have hf : isTup d = false := by simpa using ht
      refine s_when (b := true) (et_is (et_or (b := true) (et_not (et_tst (evp_isiD (K := K) h1 (kit_tup' d)))) fun hc => ?_) ?_) (fun hb H1 e1 => s_ret ev_c fun H2 e2 => q _ H2 (e1.trans e2) (by rw [hno hf])) (fun hb => by cases hb)
      · rw [hf] at hc; cases hc
      · rw [hf]; rfl
theorem sp_asc_it {n : Int} {d : PyData} (hd : SmallD d = true) : SpP spAsc (fun vs H1 => ∃ x y, vs = [x, y] ∧ Is (.int n) x H1 ∧ It H1 y d) (Is (.bl (isAsc n d))) := fun vs H1 ⟨x, y, e, hx, hy⟩ Q q E => ⟨n, y, d, by rw [e, show x = .int n from hx], hy, hd, fun v H2 e2 p => q v H2 e2 p⟩
def spValues : Sp := fun vs H Q _ => ∃ (n : Int) (x : V) (d : PyData), vs = [.int n, x] ∧ It H x d ∧ SmallD d = true ∧ ∀ v H2, Evl.Ex H H2 → v = .bl (isVs n d) → Q v H2
theorem ok_values {f f1 : Addr} {fd fd1 : FuncData} (D_is_ascending : Df K mg "is_ascending" s_is_ascending ["size", "value"] f1 fd1) (G_is_ascending : FnOk P w K mg base CX0 (k + 3) f1 fd1 ["size", "value"] spAsc) (T : Txt mg tk) (D : Df K mg "is_values" s_is_values ["size", "value"] f fd) :
    FnOk P w K mg base CX0 (k + 4) f fd ["size", "value"] spValues := by
  refine D.F.ok sc_is_values (fun vs H Q E h => ?_) (fun cdv A outer s H vs Q E hr h => ?_)
  · obtain ⟨n, x, d, rfl, _⟩ := h
    rfl
  · obtain ⟨n, x, d, rfl, hx, hsm, q⟩ := h
    have nd := sc_is_values.nd
    refine ⟨_, (pss_one (ps_ret (pe_and (pe_call G_is_ascending (hr.mono (by omega)) (by rfl) D_is_ascending.g D_is_ascending.F.kp D_is_ascending.b .nil pass0 (pa_cons (pv 0) (pa_cons (pv 1) pa_nil))) (pe_one (pe_cmpR op_gt (pe_callB (r := rLenQ K) call_len_seq (by rfl) T.n_len PySem.boot_len (pa_cons (pv 1) pa_nil)) pe_int (nomark _)))))), ?_⟩
    have h1 : EvP (tVar 1) (start N_is_values [.int n, x]) H (fun v H => It H v d) := evp_var rfl hx mono_it
    have h0 : ∀ {σ' : L2.St} {H' : Hp}, σ'[0]? = some (some (.int n)) → EvP (tVar 0) σ' H' (Is (.int n)) := fun h => evp_var h rfl mono_is
    refine s_ret (evp_and (b := !(match d with | .tuple ds => ds.isEmpty | _ => true)) (evp_call (E := E0) (eap_two (h0 rfl) h1 mono_is) (sp_asc_it hsm)) fun ha => ?_).ev fun H2 e2 => q _ H2 e2 ?_
    · obtain ⟨ds, rfl⟩ : ∃ ds, d = .tuple ds := by cases d <;> first | exact ⟨_, rfl⟩ | (cases ha; done)
      cases hx with
      | flat hx => cases x <;> first | exact hx.elim | (cases hx; done)
      | @tup a xs _ hxa p =>
        have hT : EvP (tVar 1) (start N_is_values [.int n, .ref a]) H (TupP ds.length (fun i v _ => fl v (ds.getD i .none))) := evp_var rfl (tup_fl p hxa) (mf_tup fun _ => mf_fl).mono
        refine evp_is (evp_I0 (g := fun i j => .bl (decide (i > j))) (evp_len hT) (evp_c (v := .int 0))) ?_
        cases ds with
        | nil => rfl
        | cons d ds => simp
    · congr 1
      cases d <;> simp [isVs, isAsc, Bool.and_comm]
end
end K20
namespace K20
open PySem PySem.Spec PyProof.Rows L2 Evl RZ Ev2 TA5

section
variable {K : PySem.W.Frag} {σ : L2.St} {H : Hp} {ta tb te : TE} {P : HP}
theorem evp_ixM {n : Nat} {Pi : Nat → HP} {i : Nat} (ha : EvP ta σ H (TupP n Pi)) (hb : EvP tb σ H (Is (.int (i : Int)))) (hi : i < n) (m : ∀ i, Mono (Pi i)) : EvP (tOp (rIxT K) ta tb) σ H (Pi i) := fun H1 e Q q =>
  ha H1 e _ fun v H2 e2 h => hb H2 (e.trans e2) _ fun y H3 e3 hy => by
    obtain ⟨p, ys, z, rfl, hp, hl, hz, hpz⟩ := tup_get h hi
    exact ⟨p, ys, _, z, rfl, hy, st_of (e3 _ _ hp), atI_nat hz, q z H3 (e2.trans e3) ((m i) _ _ _ e3 hpz)⟩
theorem va_tup {ds : List PyData} {v : V} (h : Va ds v H) : TupP ds.length (fun i v H => It H v (ds.getD i .none)) v H := by
  obtain ⟨a, xs, rfl, ha, p⟩ := h
  exact ⟨a, xs, rfl, ha, Paired.len p, fun i y hy => by
    obtain ⟨d, h1, h2⟩ := Paired.at p hy
    rw [getD_some h1]; exact h2⟩
theorem va_ty {ds : List PyData} {v : V} (h : Va ds v H) : TyX K H v (.type "tuple") := by
  obtain ⟨a, xs, rfl, ha, p⟩ := h
  exact .base (.tup ha)
theorem it_str {x : V} {w : Str} (h : It H x (.str w)) : x = .str w := by
  cases h with
  | flat h => cases x <;> first | exact h.elim | (cases h; try rfl)
theorem evp_va {ds : List PyData} {i : Nat} {x : V} (hs : σ[i]? = some (some x)) (hx : Va ds x H) : EvP (tVar i) σ H (TupP ds.length (fun i v H => It H v (ds.getD i .none))) := evp_var hs (va_tup hx) (mono_tup fun _ => mono_it)
theorem evp_at {ds : List PyData} {i j : Nat} {x : V} (hs : σ[i]? = some (some x)) (hx : Va ds x H) (hj : j < ds.length) : EvP (tOp (rIxT K) (tVar i) (tC (.int (j : Int)))) σ H (fun v H => It H v (ds.getD j .none)) := evp_ixM (evp_va hs hx) evp_c hj fun _ => mono_it
theorem evp_word {w : Str} {rest : List PyData} {i : Nat} {x : V} (hs : σ[i]? = some (some x)) (hx : Va (.str w :: rest) x H) (u : Str) : EvP (tOp rEq (tOp (rIxT K) (tVar i) (tC (.int ((0 : Nat) : Int)))) (tC (.str u))) σ H (Is (.bl (decide (w = u)))) := by
  refine evp_is (evp_eq (x := .str w) (y := .str u) ((evp_at (K := K) hs hx (by simp)).imp fun v H1 _ p => it_str p) evp_c rfl) ?_
  simp
theorem evp_many {ds : List PyData} {i : Nat} {x : V} (hs : σ[i]? = some (some x)) (hx : Va ds x H) (k : Nat) : EvP (tOp rEq (tCB (rLenQ K) (tCons (tVar i) tNil)) (tC (.int (k : Int)))) σ H (Is (.bl (decide (ds.length = k)))) := by
  refine evp_is (evp_eq (evp_len (evp_va hs hx)) (evp_c (v := .int (k : Int))) rfl) ?_
  simp [Int.ofNat_inj]
def SmallV (ds : List PyData) : Prop := ∀ d ∈ ds, SmallD d = true
theorem SmallV.at {ds : List PyData} (h : SmallV ds) (i : Nat) : SmallD (ds.getD i .none) = true := by
  rw [List.getD_eq_getElem?_getD]
  cases e : ds[i]? with
  | none => rfl
  | some d => exact h d (List.mem_of_getElem? e)
end
section
variable {P : Program} {w : World} {K : PySem.W.Frag} {mg : Str → Option Value} {base : Heap} {tk : Tok} {k : Nat}
theorem sp_values_it {n : Int} {d : PyData} (hd : SmallD d = true) : SpP spValues (fun vs H1 => ∃ x y, vs = [x, y] ∧ Is (.int n) x H1 ∧ It H1 y d) (Is (.bl (isVs n d))) := fun vs H1 ⟨x, y, e, hx, hy⟩ Q q E => ⟨n, y, d, by rw [e, show x = .int n from hx], hy, hd, fun v H2 e2 p => q v H2 e2 p⟩
def spForm : Sp := fun vs H Q _ => ∃ (l r : Int) (x : V) (ds : List PyData), vs = [.int l, .int r, x] ∧ Va ds x H ∧ SmallV ds ∧ ∀ v H2, Evl.Ex H H2 → v = .bl (form l r ds) → Q v H2
theorem form_cons {l r : Int} {w : Str} {rest : List PyData} : form l r (.str w :: rest) = (if w = "all" then decide (rest.length + 1 = 1)
    else if w = "left" then decide (rest.length + 1 = 2) && isVs l (rest.getD 0 .none)
    else if w = "right" then decide (rest.length + 1 = 2) && isVs r (rest.getD 0 .none)
    else decide (w = "cell") && (decide (rest.length + 1 = 3) && (isB l (rest.getD 0 .none) && isB r (rest.getD 1 .none)))) := rfl
theorem form_no {l r : Int} {ds : List PyData} (h : ds = [] ∨ isStr (ds.getD 0 .none) = false) : form l r ds = false := by
  cases ds with
  | nil => rfl
  | cons d ds =>
    rcases h with h | h
    · cases h
    · cases d <;> first | rfl | (cases h; done)
theorem ok_form {f f1 f2 : Addr} {fd fd1 fd2 : FuncData} (D_is_below : Df K mg "is_below" s_is_below ["size", "value"] f1 fd1) (G_is_below : FnOk P w K mg base CX0 (k + 2) f1 fd1 ["size", "value"] spBelow)
    (D_is_values : Df K mg "is_values" s_is_values ["size", "value"] f2 fd2) (G_is_values : FnOk P w K mg base CX0 (k + 4) f2 fd2 ["size", "value"] spValues) (T : Txt mg tk) (D : Df K mg "has_where_form" s_has_where_form ["left", "right", "value"] f fd) :
    FnOk P w K mg base CX0 (k + 5) f fd ["left", "right", "value"] spForm := by
  refine D.F.ok sc_has_where_form (fun vs H Q E h => ?_) (fun cdv A outer s H vs Q E hr h => ?_)
  · obtain ⟨l, r, x, ds, rfl, _⟩ := h
    rfl
  · obtain ⟨l, r, x, ds, rfl, hx, hsm, q⟩ := h
    have nd := sc_has_where_form.nd
    refine ⟨_, (pss_cons (ps_if (PW.pt (pw_or (pt_not (pt_val (pe_callB (r := rIsi K) call_isi (by rfl) T.n_isinstance PyProof.Rows.boot_isinstance (pa_cons (pv 2) (pa_cons (pe_bltn (v := .ty "tuple") (by rfl) T.n_tuple PyProof.Rows.boot_tuple rfl) pa_nil))))) (pw_or (pt_cmpR op_eq (pe_callB (r := rLenQ K) call_len_seq (by rfl) T.n_len PySem.boot_len (pa_cons (pv 2) pa_nil)) pe_int (nomark _)) (pw_or1 (pt_not (pt_val (pe_callB (r := rIsi K) call_isi (by rfl) T.n_isinstance PyProof.Rows.boot_isinstance (pa_cons (pe_ix (r := rIxT K) ix_tup (pv 2) pe_int (fun _ _ => rfl)) (pa_cons (pe_bltn (v := .ty "str") (by rfl) T.n_str PyProof.Rows.boot_str rfl) pa_nil))))))))) (pss_one (ps_ret pe_bl)) pss_nil) (pss_cons (ps_if (pt_cmpR op_eq (pe_ix (r := rIxT K) ix_tup (pv 2) pe_int (fun _ _ => rfl)) pe_str (nomark _)) (pss_one (ps_ret (pe_cmpR op_eq (pe_callB (r := rLenQ K) call_len_seq (by rfl) T.n_len PySem.boot_len (pa_cons (pv 2) pa_nil)) pe_int (nomark _)))) pss_nil) (pss_cons (ps_if (pt_cmpR op_eq (pe_ix (r := rIxT K) ix_tup (pv 2) pe_int (fun _ _ => rfl)) pe_str (nomark _)) (pss_one (ps_ret (pe_and (pe_cmpR op_eq (pe_callB (r := rLenQ K) call_len_seq (by rfl) T.n_len PySem.boot_len (pa_cons (pv 2) pa_nil)) pe_int (nomark _)) (pe_one (pe_call G_is_values (hr.mono (by omega)) (by rfl) D_is_values.g D_is_values.F.kp D_is_values.b .nil pass0 (pa_cons (pv 0) (pa_cons (pe_ix (r := rIxT K) ix_tup (pv 2) pe_int (fun _ _ => rfl)) pa_nil))))))) pss_nil) (pss_cons (ps_if (pt_cmpR op_eq (pe_ix (r := rIxT K) ix_tup (pv 2) pe_int (fun _ _ => rfl)) pe_str (nomark _)) (pss_one (ps_ret (pe_and (pe_cmpR op_eq (pe_callB (r := rLenQ K) call_len_seq (by rfl) T.n_len PySem.boot_len (pa_cons (pv 2) pa_nil)) pe_int (nomark _)) (pe_one (pe_call G_is_values (hr.mono (by omega)) (by rfl) D_is_values.g D_is_values.F.kp D_is_values.b .nil pass0 (pa_cons (pv 1) (pa_cons (pe_ix (r := rIxT K) ix_tup (pv 2) pe_int (fun _ _ => rfl)) pa_nil))))))) pss_nil) (pss_one (ps_ret (pe_and (pe_cmpR op_eq (pe_ix (r := rIxT K) ix_tup (pv 2) pe_int (fun _ _ => rfl)) pe_str (nomark _)) (pe_and (pe_cmpR op_eq (pe_callB (r := rLenQ K) call_len_seq (by rfl) T.n_len PySem.boot_len (pa_cons (pv 2) pa_nil)) pe_int (nomark _)) (pe_and (pe_call G_is_below (hr.mono (by omega)) (by rfl) D_is_below.g D_is_below.F.kp D_is_below.b .nil pass0 (pa_cons (pv 0) (pa_cons (pe_ix (r := rIxT K) ix_tup (pv 2) pe_int (fun _ _ => rfl)) pa_nil))) (pe_one (pe_call G_is_below (hr.mono (by omega)) (by rfl) D_is_below.g D_is_below.F.kp D_is_below.b .nil pass0 (pa_cons (pv 1) (pa_cons (pe_ix (r := rIxT K) ix_tup (pv 2) pe_int (fun _ _ => rfl)) pa_nil))))))))))))), ?_⟩
    have hv : ∀ {H' : Hp}, Evl.Ex H H' → Va ds x H' := fun e => mono_va _ _ _ e hx
    have h0 : ∀ {H' : Hp}, EvP (tVar 0) (start N_has_where_form [.int l, .int r, x]) H' (Is (.int l)) := evp_var rfl rfl mono_is
    have h1 : ∀ {H' : Hp}, EvP (tVar 1) (start N_has_where_form [.int l, .int r, x]) H' (Is (.int r)) := evp_var rfl rfl mono_is
    refine s_when (b := !true || (decide (ds.length = 0) || !isStr (ds.getD 0 .none))) (et_or (et_not (et_tst (evp_isi (K := K) (evp_va rfl hx) (fun y H1 p => ?_) (.ty "tuple") (kit_ty (a := "tuple") (by decide +kernel))))) fun _ => et_or (et_bl (evp_many (K := K) (k := 0) rfl hx)) fun hb => et_not (et_tst (evp_isiD (K := K) (evp_at (K := K) (j := 0) rfl hx ?_) (kit_str' _)))) (fun hb H1 e1 => ?_) (fun hb H1 e1 => ?_)
    · obtain ⟨p', ys, rfl, h2, _⟩ := p
      exact .base (.tup h2)
    · have : ds.length ≠ 0 := by simpa using hb
      omega
    · refine s_ret ev_c fun H2 e2 => q _ H2 (e1.trans e2) ?_
      rw [form_no (by cases ds <;> first | exact .inl rfl | (refine .inr ?_; simpa using hb))]
    · obtain ⟨w', rest, rfl⟩ : ∃ w' rest, ds = .str w' :: rest := by
        cases ds with
        | nil => simp at hb
        | cons d ds => cases d <;> first | exact ⟨_, _, rfl⟩ | (simp [isStr] at hb; done)
      have hlen : (PyData.str w' :: rest).length = rest.length + 1 := rfl
      refine s_when (b := decide (w' = "all")) (et_bl (evp_word (K := K) rfl (hv e1) "all")) (fun hb1 H2 e2 => ?_) (fun hb1 H2 e2 => ?_)
      · refine s_ret (evp_many (K := K) (k := 1) rfl (hv (e1.trans e2))).ev fun H3 e3 => q _ H3 ((e1.trans e2).trans e3) ?_
        have : w' = "all" := of_decide_eq_true hb1
        rw [hlen, form_cons, if_pos this]
      have n1 : ¬ w' = "all" := of_decide_eq_false hb1
      refine s_when (b := decide (w' = "left")) (et_bl (evp_word (K := K) rfl (hv (e1.trans e2)) "left")) (fun hb2 H3 e3 => ?_) (fun hb2 H3 e3 => ?_)
      · have hv3 := hv ((e1.trans e2).trans e3)
        refine s_ret (evp_and (evp_many (K := K) (k := 2) rfl hv3) fun hc => evp_call (E := E0) (eap_two h0 (evp_at (K := K) (j := 1) rfl hv3 (by rw [of_decide_eq_true hc]; decide)) mono_is) (sp_values_it (hsm.at 1))).ev fun H4 e4 => q _ H4 (((e1.trans e2).trans e3).trans e4) ?_
        have : w' = "left" := of_decide_eq_true hb2
        rw [hlen, form_cons, if_neg n1, if_pos this]; rfl
      have n2 : ¬ w' = "left" := of_decide_eq_false hb2
      refine s_when (b := decide (w' = "right")) (et_bl (evp_word (K := K) rfl (hv ((e1.trans e2).trans e3)) "right")) (fun hb3 H4 e4 => ?_) (fun hb3 H4 e4 => ?_)
      · have hv4 := hv (((e1.trans e2).trans e3).trans e4)
        refine s_ret (evp_and (evp_many (K := K) (k := 2) rfl hv4) fun hc => evp_call (E := E0) (eap_two h1 (evp_at (K := K) (j := 1) rfl hv4 (by rw [of_decide_eq_true hc]; decide)) mono_is) (sp_values_it (hsm.at 1))).ev fun H5 e5 => q _ H5 ((((e1.trans e2).trans e3).trans e4).trans e5) ?_
        have : w' = "right" := of_decide_eq_true hb3
        rw [hlen, form_cons, if_neg n1, if_neg n2, if_pos this]; rfl
      have n3 : ¬ w' = "right" := of_decide_eq_false hb3
      have hv4 := hv (((e1.trans e2).trans e3).trans e4)
      refine s_ret (evp_and (evp_word (K := K) rfl hv4 "cell") fun _ => evp_and (evp_many (K := K) (k := 3) rfl hv4) fun hc => evp_and (evp_call (E := E0) (eap_two h0 (evp_at (K := K) (j := 1) rfl hv4 (by rw [of_decide_eq_true hc]; decide)) mono_is) (sp_below_it (H := H))) fun _ => evp_call (E := E0) (eap_two h1 (evp_at (K := K) (j := 2) rfl hv4 (by rw [of_decide_eq_true hc]; decide)) mono_is) (sp_below_it (H := H))).ev fun H5 e5 => q _ H5 ((((e1.trans e2).trans e3).trans e4).trans e5) ?_
      rw [hlen, form_cons, if_neg n1, if_neg n2, if_neg n3]; rfl
end
end K20
namespace K20
open PySem PySem.Spec PyProof.Rows L2 Evl RZ Ev2 TA5

section
variable {K : PySem.W.Frag} {σ : L2.St} {H : Hp} {ta tb te : TE} {P R : HP}
theorem fl_dp {v : V} {d : PyData} (h : fl v d) : Dp K H v d := by
  cases v <;> first | exact h.elim | (cases h; constructor)
theorem fls_dp : ∀ {xs : List V} {ds : List PyData}, Paired fl xs ds → DpAll K H xs ds
  | _, _, .nil => .nil
  | _, _, .cons h t => .cons (fl_dp h) (fls_dp t)
theorem it_dp {v : V} {d : PyData} (h : It H v d) : Dp K H v d := by
  cases h with
  | flat h => exact fl_dp h
  | tup h p => exact .tup (st_of h) (fls_dp p)
  | lst h p => exact .lst (sq_of h) (fls_dp p)
theorem its_dp : ∀ {xs : List V} {ds : List PyData}, Paired (It H) xs ds → DpAll K H xs ds
  | _, _, .nil => .nil
  | _, _, .cons h t => .cons (it_dp h) (its_dp t)
theorem va_dp {v : V} {ds : List PyData} (h : Va ds v H) : Dp K H v (.tuple ds) := by
  obtain ⟨a, xs, rfl, ha, p⟩ := h
  exact .tup (st_of ha) (its_dp p)
theorem evp_eqD {d e : PyData} (ha : EvP ta σ H P) (hb : EvP tb σ H R) (m : Mono P) (hp : ∀ v H1, P v H1 → Dp K H1 v d) (hr : ∀ v H1, R v H1 → Dp K H1 v e) (s1 : SeqAt.shaped d = true) (s2 : SeqAt.shaped e = true) : EvP (tOp (rEqD K) ta tb) σ H (Is (.bl (PyData.eqv d e))) :=
  evp_op ha hb m fun x y H1 _ px py Q q => ⟨d, e, hp _ _ px, hr _ _ py, s1, s2, q _ H1 (Ex.refl _) rfl⟩
theorem evp_neD {d e : PyData} (ha : EvP ta σ H P) (hb : EvP tb σ H R) (m : Mono P) (hp : ∀ v H1, P v H1 → Dp K H1 v d) (hr : ∀ v H1, R v H1 → Dp K H1 v e) (s1 : SeqAt.shaped d = true) (s2 : SeqAt.shaped e = true) : EvP (tOp (rNeD K) ta tb) σ H (Is (.bl (!PyData.eqv d e))) :=
  evp_op ha hb m fun x y H1 _ px py Q q => ⟨d, e, hp _ _ px, hr _ _ py, s1, s2, q _ H1 (Ex.refl _) rfl⟩
theorem it_fl_int {v : V} {i : Int} (h : It H v (.int i)) : fl v (.int i) := by
  cases h with
  | flat h => exact h
/-- a tuple of two ints -/
def Pr (i j : Int) : HP := fun v H => ∃ a, v = .ref a ∧ H a = some (.tup [.int i, .int j])
theorem mono_pr {i j : Int} : Mono (Pr i j) := fun _ _ _ e ⟨a, h1, h2⟩ => ⟨a, h1, e _ _ h2⟩
theorem mf_pr {i j : Int} : MonoF (Pr i j) := fun _ _ _ e ⟨a, h1, h2⟩ => ⟨a, h1, e _ _ h2 (fun _ z => nomatch z)⟩
theorem pr_dp {i j : Int} {v : V} (h : Pr i j v H) : Dp K H v (.tuple [.int i, .int j]) := by
  obtain ⟨a, rfl, h⟩ := h
  exact .tup (st_of h) (.cons (.int i) (.cons (.int j) .nil))
theorem evp_pr {i j : Int} (ha : EvP ta σ H (Is (.int i))) (hb : EvP tb σ H (Is (.int j))) : EvP (tTup (tCons ta (tCons tb tNil))) σ H (Pr i j) := fun H1 e Q q =>
  ha.ev H1 e _ fun H2 e2 => hb.ev H2 (e.trans e2) _ fun H3 e3 => ⟨sz_of (show 2 ≤ 100000 by decide), fun p hp => q _ _ ((e2.trans e3).trans (Ex.new hp)) ⟨p, rfl, upd_same⟩⟩
end
theorem sh_pr {i j : Int} : SeqAt.shaped (.tuple [.int i, .int j]) = true := rfl
theorem eqv_pr {i j a b : Int} : PyData.eqv (.tuple [.int i, .int j]) (.tuple [.int a, .int b]) = (decide (i = a) && decide (j = b)) := by
  show ((i == a) && ((j == b) && true)) = _
  rw [Bool.and_true]
  rfl
/-! ### which cells -/
def inTs (a : Int) : PyData → Bool
  | .tuple es => (es.map dI).any (fun i => i == a)
  | _ => false
def cov (a b : Int) : List PyData → Bool
  | .str w :: rest =>
    if w = "left" then inTs a (rest.getD 0 .none)
    else if w = "right" then inTs b (rest.getD 0 .none)
    else decide (w = "all") || (decide (dI (rest.getD 0 .none) = a) && decide (dI (rest.getD 1 .none) = b))
  | _ => false
theorem cov_cons {a b : Int} {w : Str} {rest : List PyData} : cov a b (.str w :: rest) = (if w = "left" then inTs a (rest.getD 0 .none)
    else if w = "right" then inTs b (rest.getD 0 .none)
    else decide (w = "all") || (decide (dI (rest.getD 0 .none) = a) && decide (dI (rest.getD 1 .none) = b))) := rfl
theorem inV_ints {n a : Int} : ∀ {xs : List V} {es : List PyData}, Paired fl xs es → es.all (isB n) = true → inV (.int a) xs = (es.map dI).any (fun i => i == a)
  | _, _, .nil, _ => rfl
  | x :: xs, d :: es, .cons h t, hb => by
    rw [List.all_cons, Bool.and_eq_true] at hb
    obtain ⟨i, rfl, _⟩ := isB_int hb.1
    have ih := inV_ints (a := a) t hb.2
    rw [fl_int h]
    show (eqV (.int i) (.int a) || inV (.int a) xs) = ((i == a) || (es.map dI).any _)
    rw [ih]
    rfl
section
variable {K : PySem.W.Frag} {σ : L2.St} {H : Hp} {ta tb te : TE}
theorem evp_inTs {n a : Int} {d : PyData} (ha : EvP ta σ H (Is (.int a))) (hb : EvP tb σ H (fun v H => It H v d)) (hg : isVs n d = true) : EvP (tOp (rIn K false) ta tb) σ H (Is (.bl (inTs a d))) :=
  evp_op ha hb mono_is fun x y H1 _ px py Q q => by
    cases d with
    | tuple es =>
      have hall : es.all (isB n) = true := by
        have : (!es.isEmpty && (es.all (isB n) && ascI (es.map dI))) = true := hg
        simp only [Bool.and_eq_true] at this
        exact this.2.1
      cases py with
      | flat h => cases y <;> first | exact h.elim | (cases h; done)
      | @tup t xs _ ht p =>
        rw [show x = .int a from px]
        refine ⟨t, xs, rfl, .inr (st_of ht), rfl, fls_flat p, q _ H1 (Ex.refl _) ?_⟩
        show V.bl (if false = true then _ else inV (.int a) xs) = _
        rw [if_neg (by decide), inV_ints p hall]
        rfl
    | _ => cases hg
end
section
variable {P : Program} {w : World} {K : PySem.W.Frag} {mg : Str → Option Value} {base : Heap} {tk : Tok} {k : Nat} {CV iV CP iP : Addr}
def spCovers : Sp := fun vs H Q _ => ∃ (l r a b : Int) (x : V) (ds : List PyData), vs = [x, .int a, .int b] ∧ Va ds x H ∧ form l r ds = true ∧ ∀ v H2, Evl.Ex H H2 → v = .bl (cov a b ds) → Q v H2
theorem ok_covers {f : Addr} {fd : FuncData} (D : Df K mg "covers" s_covers ["where", "left", "right"] f fd) :
    FnOk P w K mg base CX0 (k + 1) f fd ["where", "left", "right"] spCovers := by
  refine D.F.ok sc_covers (fun vs H Q E h => ?_) (fun cdv A outer s H vs Q E hr h => ?_)
  · obtain ⟨l, r, a, b, x, ds, rfl, _⟩ := h
    rfl
  · obtain ⟨l, r, a, b, x, ds, rfl, hx, hf, q⟩ := h
    have nd := sc_covers.nd
    refine ⟨_, (pss_cons (ps_if (pt_cmpR op_eq (pe_ix (r := rIxT K) ix_tup (pv 0) pe_int (fun _ _ => rfl)) pe_str (nomark _)) (pss_one (ps_ret (pe_cmpR (r := rIn K false) op_in_seq (pv 1) (pe_ix (r := rIxT K) ix_tup (pv 0) pe_int (fun _ _ => rfl)) (by rfl)))) pss_nil) (pss_cons (ps_if (pt_cmpR op_eq (pe_ix (r := rIxT K) ix_tup (pv 0) pe_int (fun _ _ => rfl)) pe_str (nomark _)) (pss_one (ps_ret (pe_cmpR (r := rIn K false) op_in_seq (pv 2) (pe_ix (r := rIxT K) ix_tup (pv 0) pe_int (fun _ _ => rfl)) (by rfl)))) pss_nil) (pss_one (ps_ret (pe_or (pe_cmpR op_eq (pe_ix (r := rIxT K) ix_tup (pv 0) pe_int (fun _ _ => rfl)) pe_str (nomark _)) (pe_one (pe_cmpR (op_eqD hr.units) (pe_slice (r := rSlA K) sl_tupA (pv 0) (po_some pe_int) po_none) (pe_tup (pa_cons (pv 1) (pa_cons (pv 2) pa_nil))) (nomark _)))))))), ?_⟩
    have hv : ∀ {H' : Hp}, Evl.Ex H H' → Va ds x H' := fun e => mono_va _ _ _ e hx
    have h1 : ∀ {H' : Hp}, EvP (tVar 1) (start N_covers [x, .int a, .int b]) H' (Is (.int a)) := evp_var rfl rfl mono_is
    have h2 : ∀ {H' : Hp}, EvP (tVar 2) (start N_covers [x, .int a, .int b]) H' (Is (.int b)) := evp_var rfl rfl mono_is
    obtain ⟨w', rest, rfl⟩ : ∃ w' rest, ds = .str w' :: rest := by
      cases ds with
      | nil => cases hf
      | cons d ds => cases d <;> first | exact ⟨_, _, rfl⟩ | (cases hf; done)
    have hlen : (PyData.str w' :: rest).length = rest.length + 1 := rfl
    rw [form_cons] at hf
    refine s_when (b := decide (w' = "left")) (et_bl (evp_word (K := K) rfl hx "left")) (fun hb1 H1 e1 => ?_) (fun hb1 H1 e1 => ?_)
    · have hw : w' = "left" := of_decide_eq_true hb1
      rw [if_neg (by rw [hw]; decide), if_pos hw, Bool.and_eq_true, decide_eq_true_eq] at hf
      refine s_ret (evp_inTs (K := K) (n := l) h1 (evp_at (K := K) (j := 1) rfl (hv e1) (by rw [hlen, hf.1]; decide)) hf.2).ev fun H2 e2 => q _ H2 (e1.trans e2) ?_
      rw [cov_cons, if_pos hw]; rfl
    have n1 : ¬ w' = "left" := of_decide_eq_false hb1
    refine s_when (b := decide (w' = "right")) (et_bl (evp_word (K := K) rfl (hv e1) "right")) (fun hb2 H2 e2 => ?_) (fun hb2 H2 e2 => ?_)
    · have hw : w' = "right" := of_decide_eq_true hb2
      rw [if_neg (by rw [hw]; decide), if_neg n1, if_pos hw, Bool.and_eq_true, decide_eq_true_eq] at hf
      refine s_ret (evp_inTs (K := K) (n := r) h2 (evp_at (K := K) (j := 1) rfl (hv (e1.trans e2)) (by rw [hlen, hf.1]; decide)) hf.2).ev fun H3 e3 => q _ H3 ((e1.trans e2).trans e3) ?_
      rw [cov_cons, if_neg n1, if_pos hw]; rfl
    have n2 : ¬ w' = "right" := of_decide_eq_false hb2
    have hv2 := hv (e1.trans e2)
    refine s_ret (evp_or (a := decide (w' = "all")) (b := decide (dI (rest.getD 0 .none) = a) && decide (dI (rest.getD 1 .none) = b)) (evp_word (K := K) rfl hv2 "all") fun hb3 => ?_).ev fun H3 e3 => q _ H3 ((e1.trans e2).trans e3) (by rw [cov_cons, if_neg n1, if_neg n2])
    have n3 : ¬ w' = "all" := of_decide_eq_false hb3
    rw [if_neg n3, if_neg n1, if_neg n2] at hf
    simp only [Bool.and_eq_true, decide_eq_true_eq] at hf
    obtain ⟨_, hl, hi, hj⟩ := hf
    obtain ⟨d0, d1, rfl⟩ : ∃ d0 d1, rest = [d0, d1] := by
      match rest, hl with
      | [d0, d1], _ => exact ⟨d0, d1, rfl⟩
    obtain ⟨i, rfl, _⟩ := isB_int (d := d0) hi
    obtain ⟨j, rfl, _⟩ := isB_int (d := d1) hj
    obtain ⟨t, xs, rfl, ht, p⟩ := hv2
    refine evp_is (evp_eqD (K := K) (P := Pr i j) (R := Pr a b) ((evp_slA (K := K) (lo := some ((1 : Nat) : Int)) (hi := none) (evp_var (P := Is (.ref t)) (i := 0) rfl rfl mono_is).ev (eo_some evp_c.ev) eo_none ht).imp fun v H4 _ ⟨p', hv, hp'⟩ => ?_) (evp_pr h1 h2) mono_pr (fun _ _ h => pr_dp h) (fun _ _ h => pr_dp h) sh_pr sh_pr) (by rw [eqv_pr]; rfl)
    rw [cutV_from] at hp'
    cases p with
    | cons g0 p => cases p with
      | cons g1 p => cases p with
        | cons g2 p =>
          cases p
          rw [show _ = V.int i from fl_int (it_fl_int g1), show _ = V.int j from fl_int (it_fl_int g2)] at hp'
          exact ⟨p', hv, hp'⟩
end
end K20
namespace K20
open PySem PySem.Spec PyProof.Rows L2 Evl RZ Ev2 TA5

theorem Paired.snoc {α β : Type} {R : α → β → Prop} : ∀ {xs : List α} {ys : List β} {x : α} {y : β}, Paired R xs ys → R x y → Paired R (xs ++ [x]) (ys ++ [y])
  | _, _, _, _, .nil, r => .cons r .nil
  | _, _, _, _, .cons h t, r => .cons h (Paired.snoc t r)
theorem Paired.impl {α β : Type} {R S : α → β → Prop} (k : ∀ x y, R x y → S x y) : ∀ {xs : List α} {ys : List β}, Paired R xs ys → Paired S xs ys
  | _, _, .nil => .nil
  | _, _, .cons h t => .cons (k _ _ h) (Paired.impl k t)
/-- a list of pairs of ints -/
def Cs (cs : List (Int × Int)) : HP := fun v H => ∃ p ys, v = .ref p ∧ H p = some (.lst ys) ∧ Paired (fun y c => Pr c.1 c.2 y H) ys cs
theorem cs_mono {cs : List (Int × Int)} : Mono (Cs cs) := fun _ _ _ e ⟨p, ys, h1, h2, h3⟩ => ⟨p, ys, h1, e _ _ h2, Paired.impl (fun _ _ h => mono_pr _ _ _ e h) h3⟩
def rowP (f : Nat → Bool) (i : Nat) (j : Nat) : List (Int × Int) := ((List.range j).filter f).map fun (b : Nat) => ((i : Int), (b : Int))
def accP (f : Nat → Nat → Bool) (m : Nat) : Nat → List (Int × Int)
  | 0 => []
  | i + 1 => accP f m i ++ rowP (f i) i m
theorem rowP_len {f : Nat → Bool} {i j : Nat} : (rowP f i j).length ≤ j := by
  unfold rowP
  rw [List.length_map]
  exact Nat.le_trans (List.length_filter_le _ _) (by simp)
theorem accP_len {f : Nat → Nat → Bool} {m : Nat} (hm : m ≤ 100) : ∀ i, (accP f m i).length ≤ 100 * i
  | 0 => by simp [accP]
  | i + 1 => by have := accP_len (f := f) hm i; have h2 := rowP_len (f := f i) (i := i) (j := m); simp only [accP, List.length_append]; omega
theorem rowP_yes {f : Nat → Bool} {i j : Nat} (h : f j = true) : rowP f i (j + 1) = rowP f i j ++ [((i : Int), (j : Int))] := by
  unfold rowP
  rw [List.range_succ, List.filter_append, List.map_append, List.filter_cons, if_pos h]
  rfl
theorem rowP_no {f : Nat → Bool} {i j : Nat} (h : f j = false) : rowP f i (j + 1) = rowP f i j := by
  unfold rowP
  rw [List.range_succ, List.filter_append, List.map_append, List.filter_cons, if_neg (by rw [h]; decide)]
  simp
section
variable {K : PySem.W.Frag} {σ : L2.St} {H : Hp} {ta tb te : TE} {tt : TT}
theorem evp_lc2c {wi wi1 : TI} {g g1 : TG} {vs vs1 : List Nat} {n m : Nat} {item : Nat → V → Hp → Prop} {item1 : Nat → Nat → V → Hp → Prop} {Sg : Nat → L2.St → Hp → Prop} {Sg1 : Nat → Nat → L2.St → Hp → Prop} {f : Nat → Nat → Bool}
    (hw : WiP wi σ H n item) (hn : n ≤ 100) (hm : m ≤ 100)
    (hg : ∀ i x H1, i < n → Evl.Ex H H1 → item i x H1 → GP g x (wipe σ vs) H1 (fun σ2 H2 => wipe σ2 vs = wipe σ vs ∧ Sg i σ2 H2))
    (hw1 : ∀ i σ2 H1, i < n → Evl.Ex H H1 → Sg i σ2 H1 → WiP wi1 σ2 H1 m (item1 i))
    (hg1 : ∀ i j σ2 x H1 H2, i < n → j < m → Evl.Ex H H1 → Sg i σ2 H1 → Fx H1 H2 → item1 i j x H2 → GP g1 x (wipe σ2 vs1) H2 (fun σ3 H3 => wipe σ3 vs1 = wipe σ2 vs1 ∧ Sg1 i j σ3 H3))
    (ht : ∀ i j σ3 H1, i < n → j < m → Evl.Ex H H1 → Sg1 i j σ3 H1 → EvT tt σ3 H1 (f i j))
    (he : ∀ i j σ3 H1, i < n → j < m → Evl.Ex H H1 → Sg1 i j σ3 H1 → EvP te σ3 H1 (Pr i j)) :
    EvP (tLc2 wi g tYes wi1 g1 tt te vs vs1) σ H (Cs (accP f m n)) := fun H1 e Q q => hw H1 e _ fun J H2 Pre e2 T pre => fun D hD => by
  refine ⟨fun i k H3 => k = n - i ∧ i ≤ n ∧ Evl.Ex H2 H3 ∧ ∃ ys, H3 D = some (.lst ys) ∧ Paired (fun y c => Pr c.1 c.2 y H3) ys (accP f m i), ⟨n, by simp, Nat.zero_le _, Ex.new hD, [], upd_same, .nil⟩, ?_⟩
  rintro i k H3 ⟨rfl, hi, ex, ys, hys, hP⟩
  have pre3 := T.mono _ _ (Fx.of ex) pre
  by_cases hlt : i < n
  · refine .inr ⟨T.go i H3 hlt pre3, fun H4 => Evl.Ex H2 H4 ∧ ∃ ys, H4 D = some (.lst ys) ∧ Paired (fun y c => Pr c.1 c.2 y H4) ys (accP f m (i + 1)), fun H4 ⟨a, b⟩ => ⟨n - (i + 1), by omega, rfl, by omega, a, b⟩, fun x H4 y => ?_⟩
    obtain ⟨e4, it⟩ := T.yld i H3 x H4 hlt pre3 y
    have exH4 := ((e.trans e2).trans ex).trans e4
    refine hg i x H4 hlt exH4 it _ fun σ2 ⟨hw2, hs⟩ => ⟨hw2, ?_⟩
    unfold tYes
    dsimp only
    rw [if_pos rfl]
    refine hw1 i σ2 H4 hlt exH4 hs H4 (Ex.refl _) _ fun J1 H5 Pre1 e5 T1 pre1 => ?_
    refine ⟨fun j k H6 => k = m - j ∧ j ≤ m ∧ Evl.Ex H2 H6 ∧ Fx H5 H6 ∧ ∃ ys, H6 D = some (.lst ys) ∧ Paired (fun y c => Pr c.1 c.2 y H6) ys (accP f m i ++ rowP (f i) i j), ⟨m, by simp, Nat.zero_le _, (ex.trans e4).trans e5, Fx.refl _, ys, e5 _ _ (e4 _ _ hys), ?_⟩, ?_⟩
    · show Paired _ ys (accP f m i ++ [])
      rw [List.append_nil]
      exact Paired.impl (fun _ _ h => mono_pr _ _ _ (e4.trans e5) h) hP
    rintro j k H6 ⟨rfl, hj, ex6, fx6, zs, hzs, hZ⟩
    have pre6 := T1.mono _ _ fx6 pre1
    by_cases hlt1 : j < m
    · refine .inr ⟨T1.go j H6 hlt1 pre6, fun H7 => Evl.Ex H2 H7 ∧ Fx H5 H7 ∧ ∃ ys, H7 D = some (.lst ys) ∧ Paired (fun y c => Pr c.1 c.2 y H7) ys (accP f m i ++ rowP (f i) i (j + 1)), fun H7 ⟨a, b, c⟩ => ⟨m - (j + 1), by omega, rfl, by omega, a, b, c⟩, fun x1 H7 y1 => ?_⟩
      obtain ⟨e7, it1⟩ := T1.yld j H6 x1 H7 hlt1 pre6 y1
      have ex7 : Evl.Ex H H7 := (e.trans e2).trans (ex6.trans e7)
      refine hg1 i j σ2 x1 H4 H7 hlt hlt1 exH4 hs ((Fx.of e5).trans (fx6.trans (Fx.of e7))) it1 _ fun σ3 ⟨hw3, hs3⟩ => ⟨hw3, ?_⟩
      refine ht i j σ3 H7 hlt hlt1 ex7 hs3 H7 (Ex.refl _) _ fun H8 e8 => ?_
      cases hb : f i j with
      | true =>
        rw [if_pos rfl]
        refine he i j σ3 H7 hlt hlt1 ex7 hs3 H8 e8 _ fun z H9 e9 hz => ?_
        have hys9 := e9 _ _ (e8 _ _ (e7 _ _ hzs))
        have hl9 : zs.length ≤ 100 * i + m := by
          rw [Paired.len hZ, List.length_append]
          have := accP_len (f := f) hm i
          have := rowP_len (f := f i) (i := i) (j := j)
          omega
        refine ⟨_, hys9, sz_lt (by omega), Ex.mut (((ex6.trans e7).trans e8).trans e9) hD, (fx6.trans (Fx.of ((e7.trans e8).trans e9))).trans (Fx.lst hys9), _, upd_same, ?_⟩
        rw [rowP_yes hb, ← List.append_assoc]
        refine Paired.impl (fun _ _ h => mf_pr _ _ _ (Fx.lst hys9) h) (Paired.snoc (Paired.impl (fun _ _ h => mono_pr _ _ _ ((e7.trans e8).trans e9) h) hZ) hz)
      | false =>
        rw [if_neg (by decide)]
        refine ⟨ex6.trans (e7.trans e8), fx6.trans (Fx.of (e7.trans e8)), zs, e8 _ _ (e7 _ _ hzs), ?_⟩
        rw [rowP_no hb]
        exact Paired.impl (fun _ _ h => mono_pr _ _ _ (e7.trans e8) h) hZ
    · have hjm : j = m := by omega
      subst hjm
      exact .inl ⟨T1.stop H6 pre6, ex6, zs, hzs, hZ⟩
  · have hinn : i = n := by omega
    subst hinn
    exact .inl ⟨T.stop H3 pre3, q _ H3 (e2.trans ex) ⟨D, ys, rfl, hys, hP⟩⟩
end
section
variable {P : Program} {w : World} {K : PySem.W.Frag} {mg : Str → Option Value} {base : Heap} {tk : Tok} {k : Nat} {CV iV CP iP : Addr}
theorem Rz.ex {fn : Str} {C : Addr} {x : V} {H H' : Hp} {E : XK} (h : Rz fn C x H E) (e : Evl.Ex H H') : Rz fn C x H' E := fun d H2 e2 h2 => h d H2 (e.trans e2) h2
def spIsWhere (C : Addr) : Sp := fun vs H Q E => ∃ (x y z : V) (dx dy : PyData), vs = [x, y, z] ∧ It H x dx ∧ It H y dy ∧ (isSz dx = false → Rz "value" C x H E) ∧ (isSz dx = true → isSz dy = false → Rz "value" C y H E) ∧
  (isSz dx = true → isSz dy = true → ∃ ds, Va ds z H ∧ SmallV ds ∧ ∀ v H2, Evl.Ex H H2 → v = .bl (form (dI dx) (dI dy) ds) → Q v H2)
theorem isSz_int {d : PyData} (h : isSz d = true) : ∃ n : Nat, d = .int (n : Int) ∧ 1 ≤ n ∧ n ≤ 8 := by
  cases d with
  | int i =>
    have : (decide (1 ≤ i) && decide (i ≤ 8)) = true := h
    simp only [Bool.and_eq_true, decide_eq_true_eq] at this
    exact ⟨i.toNat, by rw [Int.toNat_of_nonneg (by omega)], by omega, by omega⟩
  | _ => cases h
theorem it_intE {H : Hp} {x : V} {i : Int} (h : It H x (.int i)) : x = .int i := fl_int (it_fl_int h)
theorem ok_is_where {f f1 f2 : Addr} {fd fd1 fd2 : FuncData} (D_check_sizes : Df K mg "check_sizes" s_check_sizes ["left", "right"] f1 fd1) (G_check_sizes : FnOk P w K mg base (L2.CX P w) (k + 5) f1 fd1 ["left", "right"] (spCheckSizes CV))
    (D_has_where_form : Df K mg "has_where_form" s_has_where_form ["left", "right", "value"] f2 fd2) (G_has_where_form : FnOk P w K mg base CX0 (k + 5) f2 fd2 ["left", "right", "value"] spForm) (T : Txt mg tk) (D : Df K mg "is_where" s_is_where ["left", "right", "value"] f fd) :
    FnOk P w K mg base (L2.CX P w) (k + 6) f fd ["left", "right", "value"] (spIsWhere CV) := by
  refine D.F.okX sc_is_where (fun vs H Q E h => ?_) (fun cdv A outer s H vs Q E hr h => ?_)
  · obtain ⟨x, y, z, dx, dy, rfl, _⟩ := h
    rfl
  · obtain ⟨x, y, z, dx, dy, rfl, hx, hy, k1, k2, k3⟩ := h
    refine ⟨_, (pss_cons (ps_expr (pe_callS G_check_sizes (hr.mono (by omega)) (by rfl) D_check_sizes.g D_check_sizes.F.kp D_check_sizes.b (fun σ => passAt (takes_of rfl rfl rfl rfl) σ) (pa_cons (pv 0) (pa_cons (pv 1) pa_nil)))) (pss_one (ps_ret (pe_call G_has_where_form (hr.mono (by omega)) (by rfl) D_has_where_form.g D_has_where_form.F.kp D_has_where_form.b .nil pass0 (pa_cons (pv 0) (pa_cons (pv 1) (pa_cons (pv 2) pa_nil))))))), ?_⟩
    refine ⟨x, rfl, y, rfl, x, y, dx, dy, rfl, hx, hy, fun hb d H2 e h2 => k1 hb d H2 e h2, fun ha hb d H2 e h2 => k2 ha hb d H2 e h2, fun ha hb H2 e2 => ?_⟩
    obtain ⟨ds, hz, hsm, q⟩ := k3 ha hb
    obtain ⟨n, rfl, _⟩ := isSz_int ha
    obtain ⟨m, rfl, _⟩ := isSz_int hb
    rw [it_intE hx, it_intE hy]
    refine s_ret (EvP.ev (v := .bl (form n m ds)) (evp_call (sp := spForm) (E := E0) (eap_three (P := Is (.int n)) (R := Is (.int m)) (S := Va ds) (evp_var rfl rfl mono_is) (evp_var rfl rfl mono_is) (evp_var (v := z) rfl (mono_va _ _ _ e2 hz) mono_va) mono_is mono_is) fun vs H1 ⟨a, b, c, e, ha, hb, hc⟩ Q q E => ⟨n, m, c, ds, by rw [e, show a = _ from ha, show b = _ from hb], hc, hsm, q⟩)) fun H3 e3 => q _ H3 (e2.trans e3) rfl
end
end K20
namespace K20
open PySem PySem.Spec PyProof.Rows L2 Evl RZ Ev2 TA5

section
variable {P : Program} {w : World} {K : PySem.W.Frag} {mg : Str → Option Value} {base : Heap} {tk : Tok} {k : Nat} {CV iV CP iP : Addr}
def cellsL (l r : Int) (ds : List PyData) : List (Int × Int) := accP (fun i j => cov (i : Int) (j : Int) ds) r.toNat l.toNat
def spCells (C CF : Addr) : Sp := fun vs H Q E => ∃ (x y z : V) (dx dy : PyData), vs = [x, y, z] ∧ It H x dx ∧ It H y dy ∧ (isSz dx = false → Rz "value" C x H E) ∧ (isSz dx = true → isSz dy = false → Rz "value" C y H E) ∧
  (isSz dx = true → isSz dy = true → ∃ ds, Va ds z H ∧ SmallV ds ∧ (form (dI dx) (dI dy) ds = false → Rz "place" CF z H E) ∧ (form (dI dx) (dI dy) ds = true → ∀ v H2, Evl.Ex H H2 → Cs (cellsL (dI dx) (dI dy) ds) v H2 → Q v H2))
theorem ok_cells {f f1 f2 : Addr} {fd fd1 fd2 : FuncData} (EP : EPT K mg CP iP) (D_is_where : Df K mg "is_where" s_is_where ["left", "right", "value"] f1 fd1) (G_is_where : FnOk P w K mg base (L2.CX P w) (k + 6) f1 fd1 ["left", "right", "value"] (spIsWhere CV))
    (D_covers : Df K mg "covers" s_covers ["where", "left", "right"] f2 fd2) (G_covers : FnOk P w K mg base CX0 (k + 1) f2 fd2 ["where", "left", "right"] spCovers) (T : Txt mg tk) (D : Df K mg "cells" s_cells ["left", "right", "where"] f fd) :
    FnOk P w K mg base (L2.CX P w) (k + 7) f fd ["left", "right", "where"] (spCells CV CP) := by
  refine D.F.okX sc_cells (fun vs H Q E h => ?_) (fun cdv A outer s H vs Q E hr h => ?_)
  · obtain ⟨x, y, z, dx, dy, rfl, _⟩ := h
    rfl
  · obtain ⟨x, y, z, dx, dy, rfl, hx, hy, k1, k2, k3⟩ := h
    have nd := sc_cells.nd
    refine ⟨_, (pss_cons (ps_if (pt_not (pt_val (pe_callS G_is_where (hr.mono (by omega)) (by rfl) D_is_where.g D_is_where.F.kp D_is_where.b (fun σ => passAt (takes_of rfl rfl rfl rfl) σ) (pa_cons (pv 0) (pa_cons (pv 1) (pa_cons (pv 2) pa_nil)))))) (pss_one (ErrPL.ps_raiseErr rfl EP hr (takes_of rfl rfl rfl rfl) (pa_cons (pv 2) pa_nil))) pss_nil) (pss_one (ps_ret (pe_lc2 (wi := iRng1 _) (g := gName 3) (wi1 := iRng1 _) (g1 := gName 4) (own := [("a", 3), ("b", 4)]) (vs1 := [4]) (by rfl) nd (pi_range1 (by rfl) T.n_range (pa_cons (pv 0) pa_nil)) (blkOk_by (by kernel_rfl)) (by decide) (fun _ _ _ _ _ => (pg_name (i := 3) nd rfl (Or.inl rfl))) (fun _ _ _ _ _ => pts_nil) (fun _ _ _ _ _ => (pi_range1 (by rfl) T.n_range (pa_cons (pv 1) pa_nil))) (fun _ _ _ _ _ => (pg_name (i := 4) nd rfl (Or.inl rfl))) (fun _ _ _ _ _ => (pts_one (pt_val (pe_call G_covers (hr.mono (by omega)) (by rfl) D_covers.g D_covers.F.kp D_covers.b .nil pass0 (pa_cons (pv 2) (pa_cons (pv 3) (pa_cons (pv 4) pa_nil))))))) (fun _ _ _ _ _ => (pe_tup (pa_cons (pv 3) (pa_cons (pv 4) pa_nil)))))))), ?_⟩
    refine ⟨x, rfl, y, rfl, z, rfl, x, y, z, dx, dy, rfl, hx, hy, fun hb d H2 e h2 => k1 hb d H2 e h2, fun ha hb d H2 e h2 => k2 ha hb d H2 e h2, fun ha hb => ?_⟩
    obtain ⟨ds, hz, hsm, kf, q⟩ := k3 ha hb
    refine ⟨ds, hz, hsm, fun v H1 e1 hv => ?_⟩
    subst hv
    refine ⟨_, rfl, ?_⟩
    cases hf : form (dI dx) (dI dy) ds with
    | false =>
      rw [if_pos (show (!false) = true from rfl)]
      exact ⟨_, rfl, z, rfl, fun d hd => kf hf d _ (e1.trans (Ex.new hd)) upd_same⟩
    | true =>
      rw [if_neg (show ¬ (!true) = true by decide)]
      obtain ⟨n, rfl, _, hn⟩ := isSz_int ha
      obtain ⟨m, rfl, _, hm⟩ := isSz_int hb
      have hz1 := mono_va _ _ _ e1 hz
      rw [it_intE hx, it_intE hy]
      have hc : EvP _ (start N_cells [.int n, .int m, z]) H1 (Cs (accP (fun i j => cov (i : Int) (j : Int) ds) m n)) := evp_lc2c (vs := [3, 4]) (vs1 := [4]) (g := gName 3) (g1 := gName 4)
        (wi_rng (ta := tCons (tVar 0) tNil) (n := n) (fun H2 e2 Q q => ⟨_, rfl, q _ H2 (Ex.refl _) rfl⟩) (by omega)) (by omega) (by omega : m ≤ 100)
        (Sg := fun i σ2 _ => σ2 = [some (.int n), some (.int m), some z, some (.int (i : Int)), none]) (fun i y H2 hi e2 hy => by subst hy; exact g_name (i := 3) ⟨rfl, rfl⟩)
        (fun i σ2 H2 hi e2 hs => by subst hs; exact wi_rng (ta := tCons (tVar 1) tNil) (n := m) (fun H2 e2 Q q => ⟨_, rfl, q _ H2 (Ex.refl _) rfl⟩) (by omega))
        (Sg1 := fun i j σ2 _ => σ2 = [some (.int n), some (.int m), some z, some (.int (i : Int)), some (.int (j : Int))]) (fun i j σ2 y H2 H3 hi hj e2 hs fx hy => by subst hs; subst hy; exact g_name (i := 4) ⟨rfl, rfl⟩)
        (fun i j σ3 H2 hi hj e2 hs => by
          subst hs
          exact et_bl (evp_call (sp := spCovers) (E := E0) (S := Is (.bl (cov (i : Int) (j : Int) ds))) (eap_three (P := Va ds) (R := Is (.int (i : Int))) (S := Is (.int (j : Int))) (evp_var (i := 2) (v := z) rfl (mono_va _ _ _ e2 hz1) mono_va) (evp_var (i := 3) rfl rfl mono_is) (evp_var (i := 4) rfl rfl mono_is) mono_va mono_is) fun vs H1 ⟨a, b, c, e, ha, hb, hc⟩ Q q E => ⟨n, m, i, j, a, ds, by rw [e, show b = _ from hb, show c = _ from hc], ha, hf, q⟩))
        (fun i j σ3 H2 hi hj e2 hs => by subst hs; exact evp_pr (evp_var (i := 3) rfl rfl mono_is) (evp_var (i := 4) rfl rfl mono_is))
      exact hc H1 (Ex.refl _) _ fun v H2 e2 hv => q hf v H2 (e1.trans e2) hv
end
end K20
namespace K20
open PySem PySem.Spec PyProof.Rows L2 Evl RZ Ev2 TA5
abbrev s_law_whole : Stmt := topS 21
abbrev N_law_whole : List Str := ["_law_value", "_law_most"]
theorem sc_law_whole : FnScope N_law_whole ["_law_value", "_law_most"] (defScope s_law_whole) := ⟨rfl, rfl, rfl, by decide +kernel, rfl, by decide +kernel, by decide +kernel⟩
abbrev s_law_due : Stmt := topS 22
abbrev N_law_due : List Str := ["_law_left", "_law_right", "_law_value", "_law_size", "_law_good", "_law_one"]
theorem sc_law_due : FnScope N_law_due ["_law_left", "_law_right", "_law_value"] (defScope s_law_due) := ⟨rfl, rfl, rfl, by decide +kernel, rfl, by decide +kernel, by decide +kernel⟩

theorem u65 {k : Nat} {A : Around} (r : Room k A) : A.units + 65 < cLine := by have := r.un; omega
abbrev rLstQ (K : PySem.W.Frag) : List V → Hp → VK → Prop := fun xs H Q => ∃ p ys, xs = [.ref p] ∧ (SqL K H p ys ∨ SqT K H p ys) ∧ ∀ l, H l = none → Q (.ref l) (upd H l (.lst ys))
/-! ### data that are looked at whole -/
def okD (d : PyData) : Bool := d.canLay0 && (SmallD d && decide (d.depth ≤ 10))
theorem lay_all : ∀ {ds : List PyData}, (∀ d ∈ ds, d.canLay0 = true) → PyData.canLayAll0 ds = true
  | [], _ => rfl
  | d :: ds, h => by
    show (d.canLay0 && PyData.canLayAll0 ds) = true
    rw [h d (List.mem_cons_self ..), lay_all fun e he => h e (List.mem_cons_of_mem _ he)]; rfl
theorem lay_of : ∀ {ds : List PyData}, PyData.canLayAll0 ds = true → ∀ d ∈ ds, d.canLay0 = true
  | [], _, _, h => nomatch h
  | e :: ds, h, d, hd => by
    have h' : (e.canLay0 && PyData.canLayAll0 ds) = true := h
    rw [Bool.and_eq_true] at h'
    rcases List.mem_cons.mp hd with rfl | hd
    · exact h'.1
    · exact lay_of h'.2 d hd
theorem depth_all {n : Nat} : ∀ {ds : List PyData}, (∀ d ∈ ds, d.depth ≤ n) → PyData.depthAll ds ≤ n
  | [], _ => Nat.zero_le _
  | d :: ds, h => by
    show max d.depth (PyData.depthAll ds) ≤ n
    exact Nat.max_le.mpr ⟨h d (List.mem_cons_self ..), depth_all fun e he => h e (List.mem_cons_of_mem _ he)⟩
theorem depth_of {n : Nat} : ∀ {ds : List PyData}, PyData.depthAll ds ≤ n → ∀ d ∈ ds, d.depth ≤ n
  | [], _, _, h => nomatch h
  | e :: ds, h, d, hd => by
    have h' : max e.depth (PyData.depthAll ds) ≤ n := h
    rcases List.mem_cons.mp hd with rfl | hd
    · omega
    · exact depth_of (by omega) d hd
theorem sh_of {d : PyData} (h1 : d.canLay0 = true) (h2 : d.depth ≤ 64) : SeqAt.shaped d = true := by
  unfold SeqAt.shaped
  rw [h1, decide_eq_true h2]; rfl
structure OkV (ds : List PyData) : Prop where
  len : ds.length ≤ 50
  ok : ∀ d ∈ ds, okD d = true
theorem okD_lay {d : PyData} (h : okD d = true) : d.canLay0 = true := by unfold okD at h; simp only [Bool.and_eq_true] at h; exact h.1
theorem okD_small {d : PyData} (h : okD d = true) : SmallD d = true := by unfold okD at h; simp only [Bool.and_eq_true] at h; exact h.2.1
theorem okD_depth {d : PyData} (h : okD d = true) : d.depth ≤ 10 := by unfold okD at h; simp only [Bool.and_eq_true, decide_eq_true_eq] at h; exact h.2.2
theorem OkV.small {ds : List PyData} (h : OkV ds) : SmallV ds := fun d hd => okD_small (h.ok d hd)
theorem OkV.lay {ds : List PyData} (h : OkV ds) : PyData.canLayAll0 ds = true := lay_all fun d hd => okD_lay (h.ok d hd)
theorem OkV.depth {ds : List PyData} (h : OkV ds) : PyData.depthAll ds ≤ 10 := depth_all fun d hd => okD_depth (h.ok d hd)
theorem OkV.sh {ds : List PyData} (h : OkV ds) : SeqAt.shaped (.tuple ds) = true := sh_of h.lay (by show PyData.depthAll ds + 1 ≤ 64; have := h.depth; omega)
theorem OkV.at {ds : List PyData} (h : OkV ds) (i : Nat) : okD (ds.getD i .none) = true := by
  rw [List.getD_eq_getElem?_getD]
  cases e : ds[i]? with
  | none => rfl
  | some d => exact h.ok d (List.mem_of_getElem? e)
theorem sh_it {d : PyData} (h : okD d = true) : SeqAt.shaped d = true := sh_of (okD_lay h) (by have := okD_depth h; omega)
mutual
theorem eqv_self : ∀ d : PyData, d.canLay0 = true → PyData.eqv d d = true
  | .none, _ => rfl
  | .bool b, _ => by cases b <;> rfl
  | .int i, _ => by show (i == i) = true; simp
  | .str x, _ => by show (x == x) = true; simp
  | .list xs, h => eqvs_self xs h
  | .tuple xs, h => eqvs_self xs h
  | .dict _, h => by cases h
theorem eqvs_self : ∀ ds : List PyData, PyData.canLayAll0 ds = true → PyData.eqvAll ds ds = true
  | [], _ => rfl
  | d :: ds, h => by
    have h' : (d.canLay0 && PyData.canLayAll0 ds) = true := h
    rw [Bool.and_eq_true] at h'
    show (PyData.eqv d d && PyData.eqvAll ds ds) = true
    rw [eqv_self d h'.1, eqvs_self ds h'.2]; rfl
end
theorem eqvAll_nil {ds : List PyData} : PyData.eqvAll ds [] = ds.isEmpty := by cases ds <;> rfl
theorem ints_lay (is : List Int) : PyData.canLayAll0 (is.map PyData.int) = true := lay_all fun d hd => by obtain ⟨i, _, rfl⟩ := List.mem_map.mp hd; rfl
theorem ints_depth (is : List Int) : PyData.depthAll (is.map PyData.int) ≤ 0 := depth_all fun d hd => by obtain ⟨i, _, rfl⟩ := List.mem_map.mp hd; exact Nat.le_refl _
theorem eqv_ints : ∀ as bs : List Int, PyData.eqvAll (as.map PyData.int) (bs.map PyData.int) = decide (as = bs)
  | [], [] => rfl
  | [], _ :: _ => rfl
  | _ :: _, [] => rfl
  | a :: as, b :: bs => by
    show ((a == b) && PyData.eqvAll (as.map PyData.int) (bs.map PyData.int)) = _
    rw [eqv_ints as bs]
    by_cases h : a = b
    · subst h; simp
    · simp [h]
/-- two ascending lists of the same ints are one -/
theorem asc_one : ∀ {as bs : List Int}, as.Pairwise (· < ·) → bs.Pairwise (· < ·) → (∀ k, k ∈ as ↔ k ∈ bs) → as = bs
  | [], [], _, _, _ => rfl
  | [], b :: bs, _, _, h => by have := (h b).mpr (List.mem_cons_self ..); cases this
  | a :: as, [], _, _, h => by have := (h a).mp (List.mem_cons_self ..); cases this
  | a :: as, b :: bs, pa, pb, h => by
    rw [List.pairwise_cons] at pa pb
    have e : a = b := by
      rcases List.mem_cons.mp ((h a).mp (List.mem_cons_self ..)) with h1 | h1
      · exact h1
      · rcases List.mem_cons.mp ((h b).mpr (List.mem_cons_self ..)) with h2 | h2
        · exact h2.symm
        · have := pa.1 b h2; have := pb.1 a h1; omega
    subst e
    rw [asc_one pa.2 pb.2 fun k => ⟨fun hk => ?_, fun hk => ?_⟩]
    · rcases List.mem_cons.mp ((h k).mp (List.mem_cons_of_mem _ hk)) with h1 | h1
      · have := pa.1 k hk; omega
      · exact h1
    · rcases List.mem_cons.mp ((h k).mpr (List.mem_cons_of_mem _ hk)) with h1 | h1
      · have := pb.1 k hk; omega
      · exact h1
theorem asc_pw : ∀ {as : List Int}, ascI as = true ↔ as.Pairwise (· < ·)
  | [] => by simp [ascI]
  | [a] => by simp [ascI]
  | a :: b :: r => by
    have ih := asc_pw (as := b :: r)
    have : ascI (a :: b :: r) = (decide (a < b) && ascI (b :: r)) := rfl
    rw [this, Bool.and_eq_true, ih, decide_eq_true_eq, List.pairwise_cons (a := a) (l := b :: r)]
    refine ⟨fun ⟨h, p⟩ => ⟨fun c hc => ?_, p⟩, fun ⟨h, p⟩ => ⟨h b (List.mem_cons_self ..), p⟩⟩
    rcases List.mem_cons.mp hc with rfl | hc
    · exact h
    · rw [List.pairwise_cons] at p
      have := p.1 c hc; omega
theorem asc_is {as bs : List Int} (pb : bs.Pairwise (· < ·)) (h : ∀ k, k ∈ bs ↔ k ∈ as) : decide (as = bs) = ascI as := by
  by_cases ha : ascI as = true
  · rw [ha, asc_one (asc_pw.mp ha) pb fun k => (h k).symm]; simp
  · have : ¬ as = bs := fun e => ha (by rw [e]; exact asc_pw.mpr pb)
    rw [decide_eq_false this]; simpa using ha
/-! ### a comprehension with a test -/
def WiX (wi : TI) (σ : L2.St) (H : Hp) (n : Nat) (item : Nat → V → Hp → Prop) : Prop := ∀ H1, Evl.Ex H H1 → ∀ R : L2.It → Hp → Prop, (∀ J H2, Evl.Ex H1 H2 → (∀ i H3, Evl.Ex H2 H3 → (i < n → J.go i H3) ∧ (n ≤ i → J.stop i H3) ∧ (i < n → ∀ x H', J.yld i H3 x H' → Evl.Ex H3 H' ∧ item i x H')) → R J H2) → wi σ H1 R
section
variable {K : PySem.W.Frag} {σ : L2.St} {H : Hp} {ta tb te tl : TE} {tt : TT}
theorem wx_list {a : Addr} {xs : List V} (h : Ev tl σ H (.ref a)) (hs : H a = some (.lst xs)) : WiX (iList K tl) σ H xs.length (fun i x _ => xs[i]? = some x) := fun H1 e R k =>
  h H1 e _ fun H2 e2 => ⟨a, rfl, ⟨xs, sq_of ((e.trans e2) _ _ hs)⟩, k _ H2 e2 fun i H3 e3 => by
    have h3 := sq_of (K := K) ((e.trans e2).trans e3 _ _ hs)
    exact ⟨fun hi => ⟨xs, _, h3, List.getElem?_eq_getElem hi⟩, fun hi => ⟨xs, h3, hi⟩, fun hi x H' ⟨y1, y2⟩ => by rw [y1]; exact ⟨Ex.refl _, y2 xs h3⟩⟩⟩
theorem wx_tup {n : Nat} {Pi : Nat → HP} (h : EvP tl σ H (TupP n Pi)) (m : ∀ i, Mono (Pi i)) : WiX (iTup K tl) σ H n Pi := fun H1 e R k =>
  h H1 e _ fun v H2 e2 ⟨a, xs, hv, ha, hl, hi⟩ => ⟨a, hv, ⟨xs, st_of ha⟩, k _ H2 e2 fun i H3 e3 => by
    have h3 := st_of (K := K) (e3 _ _ ha)
    exact ⟨fun hlt => ⟨xs, _, h3, List.getElem?_eq_getElem (by omega)⟩, fun hlt => ⟨xs, h3, by omega⟩, fun hlt x H' ⟨y1, y2⟩ => by rw [y1]; exact ⟨Ex.refl _, m i _ _ _ e3 (hi i x (y2 xs h3))⟩⟩⟩
theorem evp_lcF {wi : TI} {g : TG} {vs : List Nat} {n : Nat} {item : Nat → V → Hp → Prop} {Sg : Nat → L2.St → Hp → Prop} {f : Nat → Bool} {Pi : Nat → HP} (hw : WiX wi σ H n item) (hn : n ≤ 40000)
    (hg : ∀ i x H1, i < n → Evl.Ex H H1 → item i x H1 → GP g x (wipe σ vs) H1 (fun σ2 H2 => wipe σ2 vs = wipe σ vs ∧ Sg i σ2 H2)) (ht : ∀ i σ2 H1, i < n → Evl.Ex H H1 → Sg i σ2 H1 → EvT tt σ2 H1 (f i))
    (he : ∀ i σ2 H1, i < n → Evl.Ex H H1 → Sg i σ2 H1 → EvP te σ2 H1 (Pi i)) (m : ∀ i, MonoF (Pi i)) :
    EvP (tLc wi g tt te vs) σ H (fun v H1 => ∃ p ys, v = .ref p ∧ H1 p = some (.lst ys) ∧ Paired (fun y i => Pi i y H1) ys ((List.range n).filter f)) := fun H1 e Q q => hw H1 e _ fun J H2 e2 T => fun D hD => by
  refine ⟨fun i k H3 => k = n - i ∧ i ≤ n ∧ Evl.Ex H2 H3 ∧ ∃ ys, H3 D = some (.lst ys) ∧ Paired (fun y i => Pi i y H3) ys ((List.range i).filter f), ⟨n, by simp, Nat.zero_le _, Ex.new hD, [], upd_same, .nil⟩, ?_⟩
  rintro i k H3 ⟨rfl, hi, ex, ys, hys, hP⟩
  obtain ⟨tg, ts, ty⟩ := T i H3 ex
  by_cases hlt : i < n
  · refine .inr ⟨tg hlt, fun H4 => Evl.Ex H2 H4 ∧ ∃ ys, H4 D = some (.lst ys) ∧ Paired (fun y i => Pi i y H4) ys ((List.range (i + 1)).filter f), fun H4 ⟨a, b⟩ => ⟨n - (i + 1), by omega, rfl, by omega, a, b⟩, fun x H4 y => ?_⟩
    obtain ⟨e4, it⟩ := ty hlt x H4 y
    have ex4 := ((e.trans e2).trans ex).trans e4
    refine hg i x H4 hlt ex4 it _ fun σ2 ⟨hw2, hs⟩ => ⟨hw2, ?_⟩
    refine ht i σ2 H4 hlt ex4 hs H4 (Ex.refl _) _ fun H5 e5 => ?_
    cases hb : f i with
    | true =>
      rw [if_pos rfl]
      refine he i σ2 H4 hlt ex4 hs H5 e5 _ fun z H6 e6 hz => ?_
      have hys6 := e6 _ _ (e5 _ _ (e4 _ _ hys))
      have hl6 : ys.length ≤ i := by
        rw [Paired.len hP]
        exact Nat.le_trans (List.length_filter_le _ _) (by simp)
      refine ⟨_, hys6, sz_lt (by omega), Ex.mut (((ex.trans e4).trans e5).trans e6) hD, _, upd_same, ?_⟩
      rw [List.range_succ, List.filter_append, List.filter_cons, if_pos hb]
      exact Paired.impl (fun _ j h => m j _ _ _ (Fx.lst hys6) h) (Paired.snoc (Paired.impl (fun _ j h => (m j).mono _ _ _ ((e4.trans e5).trans e6) h) hP) hz)
    | false =>
      rw [if_neg (by decide)]
      refine ⟨(ex.trans e4).trans e5, ys, e5 _ _ (e4 _ _ hys), ?_⟩
      rw [List.range_succ, List.filter_append, List.filter_cons, if_neg (by rw [hb]; decide)]
      simp only [List.filter_nil, List.append_nil]
      exact Paired.impl (fun _ j h => (m j).mono _ _ _ (e4.trans e5) h) hP
  · have hinn : i = n := by omega
    subst hinn
    exact .inl ⟨ts (Nat.le_refl _), q _ H3 (e2.trans ex) ⟨D, ys, rfl, hys, hP⟩⟩
end
section
variable {P : Program} {w : World} {K : PySem.W.Frag} {mg : Str → Option Value} {base : Heap} {tk : Tok} {k : Nat}
def spLWhole : Sp := fun vs H Q _ => ∃ (n : Int) (x : V) (d : PyData), vs = [x, .int (n - 1)] ∧ It H x d ∧ ∀ v H2, Evl.Ex H H2 → v = .bl (isB n d) → Q v H2
theorem sp_lwhole {n : Int} {d : PyData} : SpP spLWhole (fun vs H1 => ∃ y x, vs = [y, x] ∧ It H1 y d ∧ Is (.int (n - 1)) x H1) (Is (.bl (isB n d))) := fun vs H1 ⟨y, x, e, hy, hx⟩ Q q E => ⟨n, y, d, by rw [e, show x = .int (n - 1) from hx], hy, fun v H2 e2 p => q v H2 e2 p⟩
theorem ok_lwhole {f : Addr} {fd : FuncData} (T : Txt mg tk) (D : Df K mg "_law_whole" s_law_whole ["_law_value", "_law_most"] f fd) : FnOk P w K mg base CX0 (k + 1) f fd ["_law_value", "_law_most"] spLWhole := by
  refine D.F.ok sc_law_whole (fun vs H Q E h => ?_) (fun cdv A outer s H vs Q E hr h => ?_)
  · obtain ⟨n, x, d, rfl, _⟩ := h
    rfl
  · obtain ⟨n, x, d, rfl, hx, q⟩ := h
    refine ⟨_, (pss_one (ps_ret (pe_and (pe_callB (r := rIsi K) call_isi (by rfl) T.n_isinstance PyProof.Rows.boot_isinstance (pa_cons (pv 0) (pa_cons (pe_bltn (v := .ty "int") (by rfl) T.n_int PyProof.Rows.boot_int rfl) pa_nil))) (pe_and (pe_not (pe_callB (r := rIsi K) call_isi (by rfl) T.n_isinstance PyProof.Rows.boot_isinstance (pa_cons (pv 0) (pa_cons (pe_bltn (v := .ty "bool") (by rfl) T.n_bool PyProof.Rows.boot_bool rfl) pa_nil)))) (pe_one (pe_chain op_le op_le pe_int (pv 0) (pv 1))))))), ?_⟩
    have h0 : EvP (tVar 0) (start N_law_whole [x, .int (n - 1)]) H (fun v H => It H v d) := evp_var rfl hx mono_it
    refine evp_is (evp_and (a := (match d with | .bool _ => true | .int _ => true | _ => false)) (b := isB n d) (evp_is (evp_isiD (K := K) h0 (kit_int d)) (by cases d <;> rfl)) fun hi => ?_) ?_ H (Ex.refl H) _ q
    · refine evp_is (evp_and (a := isI d) (b := isB n d) (evp_is (evp_not (evp_isiD (K := K) h0 (kit_bool d))) (by cases d <;> first | rfl | (cases hi; done))) fun hi => ?_) (by cases d <;> first | rfl | (cases hi; done))
      obtain ⟨i, rfl, rfl⟩ := it_int hx hi
      refine evp_is (evp_chain (g := fun i j => .bl (decide (i ≤ j))) (g' := fun i j => .bl (decide (i ≤ j))) (evp_c (v := .int 0)) (evp_var (v := .int i) rfl rfl mono_is) (evp_var (v := .int (n - 1)) rfl rfl mono_is) rfl rfl) ?_
      show V.bl _ = V.bl (decide (0 ≤ i) && decide (i < n))
      exact congrArg (fun z => V.bl (decide (0 ≤ i) && z)) (decide_eq_decide.mpr ⟨fun h => by omega, fun h => by omega⟩)
    · cases d <;> rfl
end
end K20
namespace K20
open PySem PySem.Spec PyProof.Rows L2 Evl RZ Ev2 TA5

/-- a list of such things -/
def Ls (xs : List V) : HP := fun v H => ∃ p, v = .ref p ∧ H p = some (.lst xs)
theorem mono_ls {xs : List V} : Mono (Ls xs) := fun _ _ _ e ⟨p, h1, h2⟩ => ⟨p, h1, e _ _ h2⟩
def Ts (xs : List V) : HP := fun v H => ∃ p, v = .ref p ∧ H p = some (.tup xs)
theorem mono_ts {xs : List V} : Mono (Ts xs) := fun _ _ _ e ⟨p, h1, h2⟩ => ⟨p, h1, e _ _ h2⟩
theorem fls_ints {n : Int} : ∀ {xs : List V} {es : List PyData}, Paired fl xs es → es.all (isB n) = true → xs = (es.map dI).map V.int ∧ es = (es.map dI).map PyData.int
  | _, _, .nil, _ => ⟨rfl, rfl⟩
  | x :: xs, d :: es, .cons h t, hb => by
    rw [List.all_cons, Bool.and_eq_true] at hb
    obtain ⟨i, rfl, _⟩ := isB_int hb.1
    obtain ⟨h1, h2⟩ := fls_ints t hb.2
    rw [fl_int h]
    exact ⟨by show V.int i :: xs = V.int i :: _; rw [← h1], by show PyData.int i :: es = PyData.int i :: _; rw [← h2]⟩
def inW (d : PyData) : Bool := [PyData.str "all", .str "left", .str "right", .str "cell"].any fun z => PyData.eqv z d
theorem inW_str {d : PyData} (h : inW d = true) : ∃ w : Str, d = .str w ∧ (w = "all" ∨ w = "left" ∨ w = "right" ∨ w = "cell") := by
  cases d with
  | str w =>
    refine ⟨w, rfl, ?_⟩
    have h' : ((("all" : Str) == w) || ((("left" : Str) == w) || ((("right" : Str) == w) || ((("cell" : Str) == w) || false)))) = true := h
    simp only [Bool.or_eq_true, beq_iff_eq, Bool.or_false] at h'
    rcases h' with h | h | h | h
    · exact .inl h.symm
    · exact .inr (.inl h.symm)
    · exact .inr (.inr (.inl h.symm))
    · exact .inr (.inr (.inr h.symm))
  | _ => cases h
theorem inW_word {w : Str} (h : inW (.str w) = false) : ¬ w = "all" ∧ ¬ w = "left" ∧ ¬ w = "right" ∧ ¬ w = "cell" :=
  ⟨fun e => by subst e; exact absurd h (by decide +kernel), fun e => by subst e; exact absurd h (by decide +kernel), fun e => by subst e; exact absurd h (by decide +kernel), fun e => by subst e; exact absurd h (by decide +kernel)⟩
theorem form_out {l r : Int} {ds : List PyData} (h : inW (ds.getD 0 .none) = false) : form l r ds = false := by
  cases ds with
  | nil => rfl
  | cons d rest =>
    cases d with
    | str w =>
      obtain ⟨h1, h2, h3, h4⟩ := inW_word h
      rw [form_cons, if_neg h1, if_neg h2, if_neg h3, decide_eq_false h4]; rfl
    | _ => rfl
theorem isVs_no {n : Int} {d : PyData} (h : isTup d = false ∨ PyData.eqv d (.tuple []) = true) : isVs n d = false := by
  cases d with
  | tuple es =>
    rcases h with h | h
    · cases h
    · have h' : PyData.eqvAll es [] = true := h
      rw [eqvAll_nil] at h'
      simp [isVs, h']
  | _ => rfl
section
variable {K : PySem.W.Frag} {w : World} {σ : L2.St} {H : Hp} {ta tb te tl : TE} {tt : TT} {P : HP}
theorem evp_ofL {xs : List V} (h : EvL te σ H xs) : EvP te σ H (Ls xs) := fun H1 e Q q => h H1 e Q fun p H2 _ e2 hp => q _ H2 e2 ⟨p, rfl, hp⟩
theorem evp_ofU {xs : List V} (h : EvU te σ H xs) : EvP te σ H (Ts xs) := fun H1 e Q q => h H1 e Q fun p H2 _ e2 hp => q _ H2 e2 ⟨p, rfl, hp⟩
theorem evp_notInW {d : PyData} (ha : EvP ta σ H (fun v H => It H v d)) (hb : EvP tb σ H (Ls [.str "all", .str "left", .str "right", .str "cell"])) (hd : okD d = true) : EvP (tOp (rNotInD K) ta tb) σ H (Is (.bl (!inW d))) :=
  evp_op ha hb mono_it fun x y H1 _ hx ⟨p, hy, hp⟩ Q q => by
    subst hy
    exact ⟨d, [.str "all", .str "left", .str "right", .str "cell"], it_dp hx, .lst (sq_of hp) (.cons (.str _) (.cons (.str _) (.cons (.str _) (.cons (.str _) .nil)))), sh_it hd, by decide +kernel, q _ H1 (Ex.refl _) rfl⟩
theorem evp_eq0 {d : PyData} (ha : EvP ta σ H P) (m : Mono P) (hp : ∀ v H1, P v H1 → Dp K H1 v d) (s1 : SeqAt.shaped d = true) : EvP (tOp (rEqD K) ta (tTup tNil)) σ H (Is (.bl (PyData.eqv d (.tuple [])))) :=
  evp_eqD (R := Ts []) ha (evp_ofU (eu_tup ea_nil (by decide))) m hp (fun v H1 ⟨p, h1, h2⟩ => by subst h1; exact .tup (st_of h2) .nil) s1 rfl
theorem it_tup {es : List PyData} {v : V} (h : It H v (.tuple es)) : ∃ a xs, v = .ref a ∧ H a = some (.tup xs) ∧ Paired fl xs es := by
  cases h with
  | flat h => cases v <;> first | exact h.elim | (cases h; done)
  | tup h p => exact ⟨_, _, rfl, h, p⟩
theorem it_tupP {es : List PyData} {v : V} (h : It H v (.tuple es)) : TupP es.length (fun i v _ => fl v (es.getD i .none)) v H := by
  obtain ⟨a, xs, rfl, ha, p⟩ := it_tup h
  exact tup_fl p ha
theorem evp_list {xs : List V} (h : EvP te σ H (Ts xs)) : EvP (tCB (rLstQ K) (tCons te tNil)) σ H (Ls xs) := fun H1 e Q q =>
  h H1 e _ fun v H2 e2 ⟨p, hv, hp⟩ => by
    subst hv
    exact ⟨p, xs, rfl, .inr (st_of hp), fun l hl => q _ _ (e2.trans (Ex.new hl)) ⟨l, rfl, upd_same⟩⟩
def Srt (is : List Int) : HP := fun v H => ∃ (p : Addr) (ns : List Int), v = .ref p ∧ H p = some (.lst (ns.map V.int)) ∧ ns.Pairwise (· < ·) ∧ ∀ k, k ∈ ns ↔ k ∈ is
theorem evp_sorted {is : List Int} (h : EvP te σ H (Ts (is.map V.int))) (hl : is.length ≤ 50) : EvP (tCB (rSortedSet w) (tCons (tCB (TA5.rSetTI K w) (tCons te tNil)) tNil)) σ H (Srt is) := fun H1 e Q q =>
  h H1 e _ fun v H2 e2 ⟨p, hv, hp⟩ => by
    subst hv
    refine ⟨p, is, rfl, st_of hp, by omega, fun a c ha hc => ?_⟩
    refine ⟨a, _, c, rfl, upd_same, by omega, fun ns p' pw mem _ hp' => ?_⟩
    exact q _ _ ((e2.trans (Ex.new ha)).trans (Ex.new hp')) ⟨p', ns, rfl, upd_same, pw, fun k => by rw [mem k]; simp⟩
theorem ints_dp : ∀ is : List Int, DpAll K H (is.map V.int) (is.map PyData.int)
  | [] => .nil
  | i :: is => .cons (.int i) (ints_dp is)
theorem ints_sh (is : List Int) : SeqAt.shaped (.list (is.map PyData.int)) = true := sh_of (ints_lay is) (by show PyData.depthAll _ + 1 ≤ 64; have := ints_depth is; omega)
theorem evp_asc {is : List Int} (ha : EvP ta σ H (Ls (is.map V.int))) (hb : EvP tb σ H (Srt is)) : EvP (tOp (rEqD K) ta tb) σ H (Is (.bl (ascI is))) :=
  evp_op ha hb mono_ls fun x y H1 _ ⟨p, hx, hp⟩ ⟨p', ns, hy, hp', pw, mem⟩ Q q => by
    subst hx
    subst hy
    refine ⟨.list (is.map PyData.int), .list (ns.map PyData.int), .lst (sq_of hp) (ints_dp is), .lst (sq_of hp') (ints_dp ns), ints_sh is, ints_sh ns, q _ H1 (Ex.refl _) ?_⟩
    show V.bl (PyData.eqvAll (is.map PyData.int) (ns.map PyData.int)) = _
    rw [eqv_ints, asc_is pw mem]
theorem bad_dp {es : List PyData} : ∀ {ys : List V} {js : List Nat}, Paired (fun y i => fl y (es.getD i .none)) ys js → DpAll K H ys (js.map fun i => es.getD i .none)
  | _, _, .nil => .nil
  | _, _, .cons h t => .cons (fl_dp h) (bad_dp t)
end
theorem filter_none {α : Type} (f : α → Bool) (d : α) (ds : List α) : (((List.range ds.length).filter fun i => !f (ds.getD i d)).map fun i => ds.getD i d).isEmpty = ds.all f := by
  rw [← all_range f d ds]
  generalize List.range ds.length = js
  induction js with
  | nil => rfl
  | cons j js ih =>
    rw [List.all_cons, List.filter_cons]
    cases f (ds.getD j d) with
    | true => simpa using ih
    | false => simp
section
variable {P : Program} {w : World} {K : PySem.W.Frag} {mg : Str → Option Value} {base : Heap} {tk : Tok} {k : Nat}
def spDue : Sp := fun vs H Q _ => ∃ (l r : Int) (x : V) (ds : List PyData), vs = [.int l, .int r, x] ∧ Va ds x H ∧ OkV ds ∧ ∀ v H2, Evl.Ex H H2 → v = .bl (form l r ds) → Q v H2
theorem ok_due {f f1 : Addr} {fd fd1 : FuncData} (D__law_whole : Df K mg "_law_whole" s_law_whole ["_law_value", "_law_most"] f1 fd1) (G__law_whole : FnOk P w K mg base CX0 (k + 1) f1 fd1 ["_law_value", "_law_most"] spLWhole) (T : Txt mg tk)
    (D : Df K mg "_law_due" s_law_due ["_law_left", "_law_right", "_law_value"] f fd) : FnOk P w K mg base CX0 (k + 2) f fd ["_law_left", "_law_right", "_law_value"] spDue := by
  refine D.F.ok sc_law_due (fun vs H Q E h => ?_) (fun cdv A outer s H vs Q E hr h => ?_)
  · obtain ⟨l, r, x, ds, rfl, _⟩ := h
    rfl
  · obtain ⟨l, r, x, ds, rfl, hx, hok, q⟩ := h
    have nd := sc_law_due.nd
    refine ⟨_, (pss_cons (ps_if (PW.pt (pw_or (pt_not (pt_val (pe_callB (r := rIsi K) call_isi (by rfl) T.n_isinstance PyProof.Rows.boot_isinstance (pa_cons (pv 2) (pa_cons (pe_bltn (v := .ty "tuple") (by rfl) T.n_tuple PyProof.Rows.boot_tuple rfl) pa_nil))))) (pw_or (pt_cmpR (op_eqD hr.units) (pv 2) (pe_tup pa_nil) (nomark _)) (pw_or1 (pt_cmpR (r := rNotInD K) (op_notInD (u65 hr)) (pe_ix (r := rIxT K) ix_tup (pv 2) pe_int (fun _ _ => rfl)) (pe_lst (pa_cons pe_str (pa_cons pe_str (pa_cons pe_str (pa_cons pe_str pa_nil))))) (by rfl)))))) (pss_one (ps_ret pe_bl)) pss_nil) (pss_cons (ps_if (PW.pt (pw_or (pt_cmpR op_eq (pe_ix (r := rIxT K) ix_tup (pv 2) pe_int (fun _ _ => rfl)) pe_str (nomark _)) (pw_or1 (pt_cmpR op_eq (pe_ix (r := rIxT K) ix_tup (pv 2) pe_int (fun _ _ => rfl)) pe_str (nomark _))))) (pss_cons (ps_set (i := 4) nd rfl (Or.inl rfl) (pe_and (pe_cmpR op_eq (pe_callB (r := rLenQ K) call_len_seq (by rfl) T.n_len PySem.boot_len (pa_cons (pv 2) pa_nil)) pe_int (nomark _)) (pe_and (pe_call G__law_whole (hr.mono (by omega)) (by rfl) D__law_whole.g D__law_whole.F.kp D__law_whole.b .nil pass0 (pa_cons (pe_ix (r := rIxT K) ix_tup (pv 2) pe_int (fun _ _ => rfl)) (pa_cons (pe_op op_sub (pv 0) pe_int) pa_nil))) (pe_one (pe_call G__law_whole (hr.mono (by omega)) (by rfl) D__law_whole.g D__law_whole.F.kp D__law_whole.b .nil pass0 (pa_cons (pe_ix (r := rIxT K) ix_tup (pv 2) pe_int (fun _ _ => rfl)) (pa_cons (pe_op op_sub (pv 1) pe_int) pa_nil))))))) (pss_one (ps_ret (pe_ifExp (pt_cmpR op_eq (pe_ix (r := rIxT K) ix_tup (pv 2) pe_int (fun _ _ => rfl)) pe_str (nomark _)) (pv 4) (pe_cmpR op_eq (pe_callB (r := rLenQ K) call_len_seq (by rfl) T.n_len PySem.boot_len (pa_cons (pv 2) pa_nil)) pe_int (nomark _)))))) pss_nil) (pss_cons (ps_set (i := 3) nd rfl (Or.inr rfl) (pe_ifExp (pt_cmpR op_eq (pe_ix (r := rIxT K) ix_tup (pv 2) pe_int (fun _ _ => rfl)) pe_str (nomark _)) (pv 0) (pv 1))) (pss_cons (ps_if (PW.pt (pw_or (pt_cmpR op_ne (pe_callB (r := rLenQ K) call_len_seq (by rfl) T.n_len PySem.boot_len (pa_cons (pv 2) pa_nil)) pe_int (nomark _)) (pw_or (pt_not (pt_val (pe_callB (r := rIsi K) call_isi (by rfl) T.n_isinstance PyProof.Rows.boot_isinstance (pa_cons (pe_ix (r := rIxT K) ix_tup (pv 2) pe_int (fun _ _ => rfl)) (pa_cons (pe_bltn (v := .ty "tuple") (by rfl) T.n_tuple PyProof.Rows.boot_tuple rfl) pa_nil))))) (pw_or1 (pt_cmpR (op_eqD hr.units) (pe_ix (r := rIxT K) ix_tup (pv 2) pe_int (fun _ _ => rfl)) (pe_tup pa_nil) (nomark _)))))) (pss_one (ps_ret pe_bl)) pss_nil) (pss_cons (ps_if (pt_cmpR (op_neD hr.units) (pe_lc (wi := iTup K _) (g := gName 5) (own := [("_law_one", 5)]) (by rfl) nd (pi_tup (pe_ix (r := rIxT K) ix_tup (pv 2) pe_int (fun _ _ => rfl))) (blkOk_by (by kernel_rfl)) (fun _ _ _ _ _ => (pg_name (i := 5) nd rfl (Or.inl rfl))) (fun _ _ _ _ _ => (pts_one (pt_not (pt_val (pe_call G__law_whole (hr.mono (by omega)) (by rfl) D__law_whole.g D__law_whole.F.kp D__law_whole.b .nil pass0 (pa_cons (pv 5) (pa_cons (pe_op op_sub (pv 3) pe_int) pa_nil))))))) (fun _ _ _ _ _ => (pv 5))) (pe_lst pa_nil) (nomark _)) (pss_one (ps_ret pe_bl)) pss_nil) (pss_one (ps_ret (pe_cmpR (op_eqD hr.units) (pe_callTy (r := rLstQ K) call_list_of (by rfl) T.n_list PyProof.Rows.boot_list (pa_cons (pe_ix (r := rIxT K) ix_tup (pv 2) pe_int (fun _ _ => rfl)) pa_nil)) (pe_callB (cr_sortedSet rfl) (by rfl) T.n_sorted PyProof.Rows.boot_sorted (pa_cons (pe_callTy (TA5.cr_setTI rfl) (by rfl) T.n_set PyProof.Rows.boot_set (pa_cons (pe_ix (r := rIxT K) ix_tup (pv 2) pe_int (fun _ _ => rfl)) pa_nil)) pa_nil)) (nomark _))))))))), ?_⟩
    have hv : ∀ {H' : Hp}, Evl.Ex H H' → Va ds x H' := fun e => mono_va _ _ _ e hx
    have hty : ∀ {H' : Hp} {y : V}, TupP ds.length (fun i v H => It H v (ds.getD i .none)) y H' → TyX K H' y (.type "tuple") := fun ⟨p', ys, e, h2, _⟩ => by rw [e]; exact .base (.tup h2)
    refine s_when (b := !true || (PyData.eqvAll ds [] || !inW (ds.getD 0 .none))) (et_or (et_not (et_tst (evp_isi (K := K) (evp_va rfl hx) (fun y H1 p => hty p) (.ty "tuple") (kit_ty (a := "tuple") (by decide +kernel))))) fun _ => et_or (et_bl (evp_eq0 (K := K) (P := Va ds) (d := .tuple ds) (evp_var rfl hx mono_va) mono_va (fun _ _ h => va_dp h) hok.sh)) fun hb => et_bl (evp_notInW (K := K) (evp_at (K := K) (j := 0) rfl hx ?_) (evp_ofL (el_lst (ea_cons ev_c (ea_cons ev_c (ea_cons ev_c (ea_cons ev_c ea_nil)))) (by decide))) (hok.at 0))) (fun hb H1 e1 => ?_) (fun hb H1 e1 => ?_)
    · rw [eqvAll_nil] at hb
      cases ds <;> first | (cases hb; done) | (show 0 < _ + 1; omega)
    · refine s_ret ev_c fun H2 e2 => q _ H2 (e1.trans e2) ?_
      rw [eqvAll_nil] at hb
      cases ds with
      | nil => rfl
      | cons d ds => rw [form_out (by simpa using hb)]
    · rw [eqvAll_nil] at hb
      obtain ⟨w', rest, rfl, hw⟩ : ∃ w' rest, ds = .str w' :: rest ∧ (w' = "all" ∨ w' = "left" ∨ w' = "right" ∨ w' = "cell") := by
        cases ds with
        | nil => simp at hb
        | cons d ds =>
          obtain ⟨w', rfl, hw⟩ := inW_str (d := d) (by simpa using hb)
          exact ⟨w', ds, rfl, hw⟩
      have hlen : (PyData.str w' :: rest).length = rest.length + 1 := rfl
      refine s_when (b := decide (w' = "all") || decide (w' = "cell")) (et_or (et_bl (evp_word (K := K) rfl (hv e1) "all")) fun _ => et_bl (evp_word (K := K) rfl (hv e1) "cell")) (fun hb1 H2 e2 => ?_) (fun hb1 H2 e2 => ?_)
      · have hv2 := hv (e1.trans e2)
        refine q_asg (v := .bl (decide (rest.length + 1 = 3) && (isB l (rest.getD 0 .none) && isB r (rest.getD 1 .none)))) (EvP.ev (evp_and (evp_many (K := K) (k := 3) rfl hv2) fun hc => evp_and (evp_call (E := E0) (eap_two (evp_at (K := K) (j := 1) rfl hv2 (by have := of_decide_eq_true hc; rw [hlen]; omega)) (evp_I0 (g := fun i j => .int (i - j)) (evp_var rfl rfl mono_is) evp_c) mono_it) (sp_lwhole (n := l))) fun _ => evp_call (E := E0) (eap_two (evp_at (K := K) (j := 2) rfl hv2 (by have := of_decide_eq_true hc; rw [hlen]; omega)) (evp_I0 (g := fun i j => .int (i - j)) (evp_var rfl rfl mono_is) evp_c) mono_it) (sp_lwhole (n := r)))) fun H3 e3 => ?_
        have hv3 := hv ((e1.trans e2).trans e3)
        refine s_ret (EvP.ev (v := .bl (form l r (.str w' :: rest))) (evp_if (b := decide (w' = "cell")) (et_bl (evp_word (K := K) rfl hv3 "cell")) (fun hc => evp_var rfl ?_ mono_is) (fun hc => evp_is (evp_many (K := K) (k := 1) rfl hv3) ?_))) fun H4 e4 => q _ H4 (((e1.trans e2).trans e3).trans e4) rfl
        · have hc' : w' = "cell" := of_decide_eq_true hc
          subst hc'
          rw [form_cons]; rfl
        · have hc' : ¬ w' = "cell" := of_decide_eq_false hc
          have ha : w' = "all" := by
            rw [hc, Bool.or_false] at hb1
            exact of_decide_eq_true hb1
          rw [form_cons, if_pos ha]; rfl
      · have n1 : ¬ w' = "all" := fun e => by rw [decide_eq_true e] at hb1; cases hb1
        have n2 : ¬ w' = "cell" := fun e => by rw [decide_eq_true e, Bool.or_true] at hb1; cases hb1
        obtain ⟨z, hz1, hz2, hform⟩ : ∃ z : Int, (w' = "left" → z = l) ∧ (¬ w' = "left" → z = r) ∧ form l r (.str w' :: rest) = (decide (rest.length + 1 = 2) && isVs z (rest.getD 0 .none)) := by
          by_cases hl : w' = "left"
          · exact ⟨l, fun _ => rfl, fun n => absurd hl n, by rw [form_cons, if_neg n1, if_pos hl]⟩
          · have hr' : w' = "right" := by
              rcases hw with h | h | h | h
              · exact absurd h n1
              · exact absurd h hl
              · exact h
              · exact absurd h n2
            exact ⟨r, fun h => absurd h hl, fun _ => rfl, by rw [form_cons, if_neg n1, if_neg hl, if_pos hr']⟩
        have hv2 := hv (e1.trans e2)
        refine q_asg (v := .int z) (EvP.ev (evp_if (b := decide (w' = "left")) (et_bl (evp_word (K := K) rfl hv2 "left")) (fun hc => evp_var (v := .int l) rfl (by rw [hz1 (of_decide_eq_true hc)]; rfl) mono_is) (fun hc => evp_var (v := .int r) rfl (by rw [hz2 (of_decide_eq_false hc)]; rfl) mono_is))) fun H3 e3 => ?_
        have e03 := (e1.trans e2).trans e3
        have hv3 := hv e03
        have h1lt : rest.length + 1 = 2 → 1 < (PyData.str w' :: rest).length := fun h => by rw [hlen, h]; decide
        have hd1 : okD ((PyData.str w' :: rest).getD 1 .none) = true := hok.at 1
        have g1 : (PyData.str w' :: rest).getD 1 .none = rest.getD 0 .none := rfl
        refine s_when (b := !decide (rest.length + 1 = 2) || (!isTup (rest.getD 0 .none) || PyData.eqv (rest.getD 0 .none) (.tuple []))) (et_or (et_bl (evp_is (evp_ne (x := .int ((rest.length + 1 : Nat) : Int)) (y := .int 2) (evp_len (K := K) (evp_va rfl hv3)) evp_c rfl) ?_)) fun hb2 => ?_) (fun hb2 H4 e4 => ?_) (fun hb2 H4 e4 => ?_)
        · congr 2
          exact decide_eq_decide.mpr ⟨fun h => by have := V.int.inj h; omega, fun h => by rw [h]; rfl⟩
        · have hl2 : rest.length + 1 = 2 := by simpa using hb2
          exact et_or (et_not (et_tst (evp_isiD (K := K) (evp_at (K := K) (j := 1) rfl hv3 (h1lt hl2)) (kit_tup' _)))) fun _ => et_bl (evp_eq0 (K := K) (P := fun v H => It H v (rest.getD 0 .none)) (d := rest.getD 0 .none) (evp_at (K := K) (j := 1) rfl hv3 (h1lt hl2)) mono_it (fun _ _ h => it_dp h) (sh_it hd1))
        · refine s_ret ev_c fun H5 e5 => q _ H5 ((e03.trans e4).trans e5) ?_
          rw [hform]
          by_cases h2 : rest.length + 1 = 2
          · rw [decide_eq_true h2] at hb2
            rw [isVs_no (by rw [Bool.or_eq_true] at hb2; rcases hb2 with h | h; · cases h
                            rw [Bool.or_eq_true] at h; rcases h with h | h; · exact .inl (by simpa using h)
                            exact .inr h), Bool.and_false]
          · rw [decide_eq_false h2]; rfl
        · simp only [Bool.or_eq_false_iff, Bool.not_eq_false', decide_eq_true_eq] at hb2
          obtain ⟨h2, h3, h4⟩ := hb2
          have e04 := e03.trans e4
          have hv4 := hv e04
          obtain ⟨es, hes⟩ : ∃ es, rest.getD 0 .none = .tuple es := by
            cases hd : rest.getD 0 .none with
            | tuple es => exact ⟨es, rfl⟩
            | _ => rw [hd] at h3; cases h3
          rw [hes] at h4 hform
          rw [g1, hes] at hd1
          have hes0 : es.isEmpty = false := by rw [← eqvAll_nil]; exact h4
          have hlay : PyData.canLayAll0 es = true := okD_lay hd1
          have hdep : PyData.depthAll es + 1 ≤ 10 := okD_depth hd1
          have hsml : es.length ≤ 50 := of_decide_eq_true (okD_small hd1)
          have hat : ∀ {H' : Hp} {σ' : L2.St}, Evl.Ex H H' → σ'[2]? = some (some x) → EvP (tOp (rIxT K) (tVar 2) (tC (.int 1))) σ' H' (fun v H => It H v (.tuple es)) := fun e hσ => by
            have := evp_at (K := K) (j := 1) (σ := _) hσ (hv e) (h1lt h2)
            rw [g1, hes] at this
            exact this
          have hbad := evp_lcF (tt := tNot (tTest (tCall spLWhole [] E0 (tCons (tVar 5) (tCons (tOp (rI0 fun i j => .int (i - j)) (tVar 3) (tC (.int 1))) tNil))))) (te := tVar 5) (vs := [5]) (g := gName 5) (σ := [some (.int l), some (.int r), some x, some (.int z), none, none]) (H := H4) (Pi := fun i v _ => fl v (es.getD i .none)) (f := fun i => !isB z (es.getD i .none))
            (wx_tup (K := K) ((hat e04 rfl).imp fun v H5 _ h => it_tupP h) fun _ => mf_fl.mono) (by omega) (Sg := fun i σ2 _ => ∃ y, σ2 = [some (.int l), some (.int r), some x, some (.int z), none, some y] ∧ fl y (es.getD i .none)) (fun i y H5 hi e5 hy => g_name (i := 5) ⟨rfl, y, rfl, hy⟩)
            (fun i σ2 H5 hi e5 ⟨y, hs, hy⟩ => by
              subst hs
              exact et_not (et_tst (evp_call (E := E0) (eap_two (evp_var (v := y) (i := 5) rfl (fl_it hy) mono_it) (evp_I0 (g := fun i j => .int (i - j)) (evp_var (i := 3) rfl rfl mono_is) evp_c) mono_it) (sp_lwhole (n := z)))))
            (fun i σ2 H5 hi e5 ⟨y, hs, hy⟩ => by subst hs; exact evp_var (v := y) (i := 5) rfl hy mf_fl.mono) fun _ => mf_fl
          refine s_when (b := !es.all (isB z)) (et_bl (evp_is (evp_neD (K := K) (d := .list (((List.range es.length).filter fun i => !isB z (es.getD i .none)).map fun i => es.getD i .none)) (e := .list []) hbad (evp_ofL (el_lst ea_nil (by decide))) (fun v H5 H6 e ⟨p', ys, k1, k2, k3⟩ => ⟨p', ys, k1, e _ _ k2, k3⟩) (fun v H5 ⟨p', ys, k1, k2, k3⟩ => by subst k1; exact .lst (sq_of k2) (bad_dp k3)) (fun v H5 ⟨p', k1, k2⟩ => by subst k1; exact .lst (sq_of k2) .nil) ?_ rfl) ?_)) (fun hb5 H5 e5 => ?_) (fun hb5 H5 e5 => ?_)
          · have hm : ∀ d ∈ (((List.range es.length).filter fun i => !isB z (es.getD i .none)).map fun i => es.getD i .none), d ∈ es := fun d hd => by
              obtain ⟨i, hi, rfl⟩ := List.mem_map.mp hd
              have := List.mem_range.mp (List.mem_filter.mp hi).1
              rw [List.getD_eq_getElem?_getD, List.getElem?_eq_getElem this]
              exact List.getElem_mem _
            refine sh_of (lay_all fun d hd => lay_of hlay d (hm d hd)) ?_
            show PyData.depthAll _ + 1 ≤ 64
            have := depth_all (n := 9) fun d hd => depth_of (n := 9) (by omega) d (hm d hd)
            omega
          · show V.bl (!PyData.eqvAll _ []) = _
            rw [eqvAll_nil, filter_none (isB z) .none es]
          · refine s_ret ev_c fun H6 e6 => q _ H6 ((e04.trans e5).trans e6) ?_
            have : es.all (isB z) = false := by simpa using hb5
            rw [hform]
            simp [isVs, this]
          · have hall : es.all (isB z) = true := by simpa using hb5
            have hT : ∀ {H' : Hp} {σ' : L2.St}, Evl.Ex H H' → σ'[2]? = some (some x) → EvP (tOp (rIxT K) (tVar 2) (tC (.int 1))) σ' H' (Ts ((es.map dI).map V.int)) := fun e hσ => (hat e hσ).imp fun v H6 _ h => by
              obtain ⟨a, xs, rfl, ha, p⟩ := it_tup h
              exact ⟨a, rfl, by rw [ha, (fls_ints p hall).1]⟩
            refine s_ret (EvP.ev (evp_asc (K := K) (evp_list (K := K) (hT (e04.trans e5) rfl)) (evp_sorted (K := K) (w := w) (hT (e04.trans e5) rfl) (by rw [List.length_map]; exact hsml)))) fun H6 e6 => q _ H6 ((e04.trans e5).trans e6) ?_
            rw [hform, decide_eq_true h2]
            simp [isVs, hall, hes0]
end
end K20
namespace K20
open PySem PySem.Spec PyProof.Rows L2 Evl RZ Ev2 TA5
abbrev s_law_has : Stmt := topS 23
abbrev N_law_has : List Str := ["_law_where_here", "_law_one", "_law_other"]
theorem sc_law_has : FnScope N_law_has ["_law_where_here", "_law_one", "_law_other"] (defScope s_law_has) := ⟨rfl, rfl, rfl, by decide +kernel, rfl, by decide +kernel, by decide +kernel⟩
abbrev s_law_where : Stmt := topS 24
abbrev N_law_where : List Str := ["_law_state", "_law_left", "_law_right", "_law_word", "_law_size", "_law_values", "_law_spot", "_law_one"]
theorem sc_law_where : FnScope N_law_where ["_law_state", "_law_left", "_law_right"] (defScope s_law_where) := ⟨rfl, rfl, rfl, by decide +kernel, rfl, by decide +kernel, by decide +kernel⟩

theorem u1 {k : Nat} {A : Around} (r : Room k A) : A.units + 1 < cLine := by have := r.un; omega
theorem all_sh : SeqAt.shaped (.tuple [.str "all"]) = true := by decide +kernel
section
variable {P : Program} {w : World} {K : PySem.W.Frag} {mg : Str → Option Value} {base : Heap} {tk : Tok} {k : Nat}
def spHas : Sp := fun vs H Q _ => ∃ (l r a b : Int) (x : V) (ds : List PyData), vs = [x, .int a, .int b] ∧ Va ds x H ∧ OkV ds ∧ form l r ds = true ∧ ∀ v H2, Evl.Ex H H2 → v = .bl (cov a b ds) → Q v H2
theorem eqv_all {w : Str} {rest : List PyData} : PyData.eqv (.tuple (.str w :: rest)) (.tuple [.str "all"]) = (decide (w = "all") && rest.isEmpty) := by
  show ((w == ("all" : Str)) && PyData.eqvAll rest []) = _
  rw [eqvAll_nil]
  rfl
theorem ok_has {f : Addr} {fd : FuncData} (D : Df K mg "_law_has" s_law_has ["_law_where_here", "_law_one", "_law_other"] f fd) :
    FnOk P w K mg base CX0 (k + 1) f fd ["_law_where_here", "_law_one", "_law_other"] spHas := by
  refine D.F.ok sc_law_has (fun vs H Q E h => ?_) (fun cdv A outer s H vs Q E hr h => ?_)
  · obtain ⟨l, r, a, b, x, ds, rfl, _⟩ := h
    rfl
  · obtain ⟨l, r, a, b, x, ds, rfl, hx, hok, hf, q⟩ := h
    have nd := sc_law_has.nd
    refine ⟨_, (pss_cons (ps_if (pt_cmpR op_eq (pe_ix (r := rIxT K) ix_tup (pv 0) pe_int (fun _ _ => rfl)) pe_str (nomark _)) (pss_one (ps_ret (pe_cmpR (op_eqD hr.units) (pe_slice (r := rSlA K) sl_tupA (pv 0) (po_some pe_int) po_none) (pe_tup (pa_cons (pv 1) (pa_cons (pv 2) pa_nil))) (nomark _)))) pss_nil) (pss_one (ps_ret (pe_or (pe_cmpR (op_eqD hr.units) (pv 0) (pe_tup (pa_cons pe_str pa_nil)) (nomark _)) (pe_one (pe_cmpR (r := rIn K false) op_in_seq (pe_ifExp (pt_cmpR op_eq (pe_ix (r := rIxT K) ix_tup (pv 0) pe_int (fun _ _ => rfl)) pe_str (nomark _)) (pv 1) (pv 2)) (pe_ix (r := rIxT K) ix_tup (pv 0) pe_int (fun _ _ => rfl)) (by rfl))))))), ?_⟩
    have hv : ∀ {H' : Hp}, Evl.Ex H H' → Va ds x H' := fun e => mono_va _ _ _ e hx
    have h1 : ∀ {H' : Hp}, EvP (tVar 1) (start N_law_has [x, .int a, .int b]) H' (Is (.int a)) := evp_var rfl rfl mono_is
    have h2 : ∀ {H' : Hp}, EvP (tVar 2) (start N_law_has [x, .int a, .int b]) H' (Is (.int b)) := evp_var rfl rfl mono_is
    obtain ⟨w', rest, rfl⟩ : ∃ w' rest, ds = .str w' :: rest := by
      cases ds with
      | nil => cases hf
      | cons d ds => cases d <;> first | exact ⟨_, _, rfl⟩ | (cases hf; done)
    have hlen : (PyData.str w' :: rest).length = rest.length + 1 := rfl
    rw [form_cons] at hf
    refine s_when (b := decide (w' = "cell")) (et_bl (evp_word (K := K) rfl hx "cell")) (fun hb1 H1 e1 => ?_) (fun hb1 H1 e1 => ?_)
    · have hw : w' = "cell" := of_decide_eq_true hb1
      rw [if_neg (by rw [hw]; decide), if_neg (by rw [hw]; decide), if_neg (by rw [hw]; decide)] at hf
      simp only [Bool.and_eq_true, decide_eq_true_eq] at hf
      obtain ⟨_, hl, hi, hj⟩ := hf
      obtain ⟨d0, d1, rfl⟩ : ∃ d0 d1, rest = [d0, d1] := by
        match rest, hl with
        | [d0, d1], _ => exact ⟨d0, d1, rfl⟩
      obtain ⟨i, rfl, _⟩ := isB_int (d := d0) hi
      obtain ⟨j, rfl, _⟩ := isB_int (d := d1) hj
      obtain ⟨t, xs, rfl, ht, p⟩ := hv e1
      refine s_ret (EvP.ev (v := .bl (cov a b [.str w', .int i, .int j])) (evp_is (evp_eqD (K := K) (P := Pr i j) (R := Pr a b) ((evp_slA (K := K) (lo := some ((1 : Nat) : Int)) (hi := none) (evp_var (P := Is (.ref t)) (i := 0) rfl rfl mono_is).ev (eo_some evp_c.ev) eo_none ht).imp fun v H4 _ ⟨p', hv, hp'⟩ => ?_) (evp_pr h1 h2) mono_pr (fun _ _ h => pr_dp h) (fun _ _ h => pr_dp h) sh_pr sh_pr) ?_)) fun H2 e2 => q _ H2 (e1.trans e2) rfl
      · rw [cutV_from] at hp'
        cases p with
        | cons g0 p => cases p with
          | cons g1 p => cases p with
            | cons g2 p =>
              cases p
              rw [show _ = V.int i from fl_int (it_fl_int g1), show _ = V.int j from fl_int (it_fl_int g2)] at hp'
              exact ⟨p', hv, hp'⟩
      · rw [eqv_pr, cov_cons, if_neg (by rw [hw]; decide), if_neg (by rw [hw]; decide), show decide (w' = "all") = false from by rw [hw]; decide]; rfl
    · have n3 : ¬ w' = "cell" := of_decide_eq_false hb1
      have hv1 := hv e1
      refine s_ret (EvP.ev (v := .bl (cov a b (.str w' :: rest))) (evp_is (evp_or (a := decide (w' = "all")) (b := cov a b (.str w' :: rest)) (evp_is (evp_eqD (K := K) (P := Va (.str w' :: rest)) (R := Ts [.str "all"]) (evp_var rfl hv1 mono_va) (evp_ofU (eu_tup (ea_cons ev_c ea_nil) (by decide))) mono_va (fun _ _ h => va_dp h) (fun v H5 ⟨p', k1, k2⟩ => by subst k1; exact .tup (st_of k2) (.cons (.str _) .nil)) hok.sh all_sh) ?_) fun hb2 => ?_) ?_)) fun H2 e2 => q _ H2 (e1.trans e2) rfl
      · rw [eqv_all]
        by_cases ha : w' = "all"
        · rw [if_pos ha, decide_eq_true_eq] at hf
          have : rest = [] := by cases rest <;> first | rfl | (simp at hf; done)
          rw [this]; simp
        · rw [decide_eq_false ha]; rfl
      · have n1 : ¬ w' = "all" := of_decide_eq_false hb2
        rw [if_neg n1] at hf
        by_cases hl : w' = "left"
        · rw [if_pos hl, Bool.and_eq_true, decide_eq_true_eq] at hf
          refine evp_is (evp_inTs (K := K) (n := l) (a := a) (d := rest.getD 0 .none) (evp_if (b := decide (w' = "left")) (et_bl (evp_word (K := K) rfl hv1 "left")) (fun _ => h1) fun hc => absurd hl (of_decide_eq_false hc)) (evp_at (K := K) (j := 1) rfl hv1 (by rw [hlen]; omega)) hf.2) ?_
          rw [cov_cons, if_pos hl]
        · rw [if_neg hl] at hf
          by_cases hr' : w' = "right"
          · rw [if_pos hr', Bool.and_eq_true, decide_eq_true_eq] at hf
            refine evp_is (evp_inTs (K := K) (n := r) (a := b) (d := rest.getD 0 .none) (evp_if (b := decide (w' = "left")) (et_bl (evp_word (K := K) rfl hv1 "left")) (fun hc => absurd (of_decide_eq_true hc) hl) fun _ => h2) (evp_at (K := K) (j := 1) rfl hv1 (by rw [hlen]; omega)) hf.2) ?_
            rw [cov_cons, if_neg hl, if_pos hr']
          · rw [if_neg hr', decide_eq_false n3] at hf
            cases hf
      · by_cases ha : w' = "all"
        · rw [cov_cons, if_neg (by rw [ha]; decide), if_neg (by rw [ha]; decide), decide_eq_true ha]; rfl
        · rw [decide_eq_false ha]; rfl
end
end K20
namespace K20
open PySem PySem.Spec PyProof.Rows L2 Evl RZ Ev2 TA5

section
variable {K : PySem.W.Frag} {σ : L2.St} {H : Hp} {ta tb te : TE} {tt : TT} {ta' : TA} {s p : Addr} {xs : List Int}
theorem evd_draw {σ : L2.St} {H : Hp} {ta : TE} {s p : Addr} {xs : List Int} {m : Int} {E : XK} (hs : σ[0]? = some (some (.ref s))) (ha : ∀ H1, EvP ta σ H1 (Is (.int m))) (hm : 1 ≤ m) : EvD s p xs (tCall spDraw [] E (tCons (tVar 0) (tCons ta tNil))) σ H (BI fun r => 0 ≤ r ∧ r < m) := fun H1 e d Q q =>
  eap_two (P := Is (.ref s)) (evp_var hs rfl mono_is) (ha H1) mono_is H1 (Ex.refl _) _ fun vs H2 e2 ⟨x, y, hv, hx, hy⟩ => ⟨s, p, xs, m, by rw [hv, show x = .ref s from hx, show y = .int m from hy]; rfl, d.ex e2, hm, fun v H3 g3 d3 h3 => q v H3 ((Gs.of e2).trans g3) d3 h3⟩
theorem EvAP.one1 {v : V} (h : EvAP ta' σ H (fun vs H1 => ∃ x, vs = [x] ∧ Is v x H1)) : EvAP ta' σ H (fun vs _ => vs = [v]) := fun H1 e Q q => h H1 e Q fun vs H2 e2 ⟨x, e, hx⟩ => q vs H2 e2 (by rw [e, show x = v from hx])
theorem q_asgD {te : TE} {tz : TS} {D : Ends} {i : Nat} (h : te σ H (fun v H1 => tz D (σ.set i (some v)) H1)) : tSeq (tAsg te (gName i)) tz D σ H := h
theorem opD {r : R2} {Q : VK} (h : ta σ H fun x H1 => tb σ H1 fun y H2 => r x y H2 Q) : tOp r ta tb σ H Q := h
theorem evd_lcI {tn : TA} {vs : List Nat} {n j : Nat} (hw : ∀ H1, EvAP tn σ H1 (fun vs _ => vs = [.int (n : Int)])) (hn : n ≤ 40000) (hz : ∀ x, wipe ((wipe σ vs).set j (some x)) vs = wipe σ vs) (hj : ∀ x : V, ((wipe σ vs).set j (some x))[j]? = some (some x))
    (ht : ∀ (i : Nat), i < n → ∀ H1, Dr s p xs H1 → ∀ Q : Bool → Hp → Prop, (∀ b H2, Gs s H1 H2 → Dr s p xs H2 → Q b H2) → tt ((wipe σ vs).set j (some (.int (i : Int)))) H1 Q) :
    EvD s p xs (tLc (iRng1 tn) (gName j) tt (tVar j) vs) σ H (fun v H1 => ∃ (q : Addr) (is : List Int), v = .ref q ∧ H1 q = some (.lst (is.map V.int)) ∧ is.length ≤ n) := fun H1 e d Q q => hw H1 H1 (Ex.refl _) _ fun vs' H2 e2 hv => by
  subst hv
  refine ⟨(n : Int), rfl, by omega, by omega, fun D hD => ?_⟩
  have d2 := d.ex e2
  have hDs : D ≠ s := fun z => by obtain ⟨k, hk⟩ := d2.at_; rw [z, hk] at hD; cases hD
  have hDp : D ≠ p := fun z => by have := d2.pool; rw [← z, hD] at this; cases this
  refine ⟨fun i k H3 => k = n - i ∧ i ≤ n ∧ Gs s H2 H3 ∧ Dr s p xs H3 ∧ ∃ is : List Int, H3 D = some (.lst (is.map V.int)) ∧ is.length ≤ i, ⟨n, by simp, Nat.zero_le _, Gs.of (Ex.new hD), d2.ex (Ex.new hD), [], upd_same, Nat.le_refl _⟩, ?_⟩
  rintro i k H3 ⟨rfl, hi, ex, d3, is, hys, hl⟩
  by_cases hlt : i < n
  · refine .inr ⟨by show i < (n : Int).toNat; simpa using hlt, fun H4 => Gs s H2 H4 ∧ Dr s p xs H4 ∧ ∃ is : List Int, H4 D = some (.lst (is.map V.int)) ∧ is.length ≤ i + 1, fun H4 ⟨a, b, c⟩ => ⟨n - (i + 1), by omega, rfl, by omega, a, b, c⟩, fun x H4 y => ?_⟩
    obtain ⟨rfl, rfl⟩ := y
    refine ⟨hz _, ?_⟩
    rw [Int.zero_add]
    refine ht i hlt H4 d3 _ fun b H5 g5 d5 => ?_
    have hys5 := g5 _ _ hDs hys
    cases b with
    | true =>
      rw [if_pos rfl]
      refine ⟨_, hj _, _, hys5, sz_lt (by rw [List.length_map]; omega), ?_, ?_, is ++ [(i : Int)], by rw [upd_same, List.map_append]; rfl, by simp; omega⟩
      · intro a o ha h
        have hna : a ≠ D := fun q => by rw [q, hD] at h; cases h
        rw [upd_ne hna]
        exact g5 _ _ ha (ex _ _ ha h)
      · refine ⟨d5.ne, ?_, ?_⟩
        · obtain ⟨k, hk⟩ := d5.at_
          exact ⟨k, by rw [upd_ne hDs.symm]; exact hk⟩
        · rw [upd_ne hDp.symm]; exact d5.pool
    | false =>
      rw [if_neg (by decide)]
      exact ⟨ex.trans g5, d5, is, hys5, by omega⟩
  · have hinn : i = n := by omega
    subst hinn
    exact .inl ⟨by show (i : Int).toNat ≤ i; simp, q _ H3 ((Gs.of e2).trans ex) d3 ⟨D, is, rfl, hys, hl⟩⟩
theorem evd_tupI {n : Nat} (h : EvD s p xs te σ H (fun v H1 => ∃ (q : Addr) (is : List Int), v = .ref q ∧ H1 q = some (.lst (is.map V.int)) ∧ is.length ≤ n)) :
    EvD s p xs (tCB (rTupQ K) (tCons te tNil)) σ H (fun v H1 => ∃ is : List Int, Ts (is.map V.int) v H1 ∧ is.length ≤ n) := fun H1 e d Q q =>
  h H1 e d _ fun v H2 e2 d2 ⟨a, is, hv, hp, hl⟩ => by
    subst hv
    exact ⟨a, _, rfl, .inl ⟨sq_of hp, fun l hl' => q _ _ (e2.trans (Gs.of (Ex.new hl'))) (d2.ex (Ex.new hl')) ⟨is, ⟨l, rfl, upd_same⟩, hl⟩⟩⟩
theorem get_where {w : Str} {t u : Addr} (hw : σ[3]? = some (some (.str w))) (hv : σ[5]? = some (some (.ref t))) (hs : σ[6]? = some (some (.ref u))) {Q : VK}
    (q : ∀ v H2, Evl.Ex H H2 → ((w = "all" ∧ Ts [.str "all"] v H2) ∨ (w = "cell" ∧ v = .ref u) ∨ (¬ w = "all" ∧ ¬ w = "cell" ∧ Ts [.str w, .ref t] v H2)) → Q v H2) :
    tDGet2 (tDisp [(tC (.str "all"), tTup (tCons (tC (.str "all")) tNil)), (tC (.str "cell"), tVar 6)]) (tVar 3) (tTup (tCons (tVar 3) (tCons (tVar 5) tNil))) σ H Q := by
  intro p hp
  refine ⟨sz_of (show 1 ≤ 100000 by decide), fun a ha => ?_⟩
  have hpa : p ≠ a := fun z => by rw [← z, upd_same] at ha; cases ha
  have e1 : Evl.Ex H (upd H p (.dK [])) := Ex.new hp
  have e2 : Evl.Ex H (upd (upd H p (.dK [])) a (.tup [.str "all"])) := e1.trans (Ex.new ha)
  refine ⟨_, hs, by rw [upd_ne hpa]; exact upd_same, [(.inr "all", .ref a), (.inr "cell", .ref u)], rfl, by show 2 ≤ 15; decide, ?_⟩
  have hm : mergeK [] [((.inr "all" : Key), V.ref a), (.inr "cell", .ref u)] = [(.inr "all", .ref a), (.inr "cell", .ref u)] := by rfl
  rw [hm]
  have e3 := Ex.mut (o := .dK [(.inr "all", .ref a), (.inr "cell", .ref u)]) e2 hp
  refine ⟨p, rfl, .inl ⟨_, Rd.of upd_same⟩, _, hw, _, hw, _, hv, sz_of (show 2 ≤ 100000 by decide), fun b hb => ?_⟩
  have hpb : p ≠ b := fun z => by rw [← z, upd_same] at hb; cases hb
  refine ⟨_, .inl ⟨_, .inr w, Rd.of (by rw [upd_ne hpb]; exact upd_same), rfl, rfl⟩, q _ _ (e3.trans (Ex.new hb)) ?_⟩
  have hab : a ≠ b := fun z => by rw [← z, upd_ne hpa.symm, upd_same] at hb; cases hb
  by_cases h1 : w = "all"
  · subst h1
    exact .inl ⟨rfl, a, rfl, by rw [upd_ne hab, upd_ne hpa.symm]; exact upd_same⟩
  · by_cases h2 : w = "cell"
    · subst h2
      exact .inr (.inl ⟨rfl, rfl⟩)
    · refine .inr (.inr ⟨h1, h2, b, ?_, upd_same⟩)
      rw [valV_neg (fun z => h1 (Sum.inr.inj z).symm), valV_neg (fun z => h2 (Sum.inr.inj z).symm)]
      rfl
end
theorem okD_int {i : Int} : okD (.int i) = true := rfl
theorem okD_ints {is : List Int} (h : is.length ≤ 50) : okD (.tuple (is.map PyData.int)) = true := by
  unfold okD
  have h1 : (PyData.tuple (is.map PyData.int)).canLay0 = true := ints_lay is
  have h2 : SmallD (.tuple (is.map PyData.int)) = true := decide_eq_true (by rw [List.length_map]; exact h)
  have h3 : (PyData.tuple (is.map PyData.int)).depth ≤ 10 := by show PyData.depthAll _ + 1 ≤ 10; have := ints_depth is; omega
  rw [h1, h2, decide_eq_true h3]; rfl
theorem fl_ints : ∀ is : List Int, Paired fl (is.map V.int) (is.map PyData.int)
  | [] => .nil
  | i :: is => .cons rfl (fl_ints is)
section
variable {P : Program} {w : World} {K : PySem.W.Frag} {mg : Str → Option Value} {base : Heap} {tk : Tok} {k : Nat}
def spWhere : Sp := fun vs H Q _ => ∃ (s p : Addr) (xs : List Int) (l r : Nat), vs = [.ref s, .int (l : Int), .int (r : Int)] ∧ Dr s p xs H ∧ (1 ≤ l ∧ l ≤ 8) ∧ (1 ≤ r ∧ r ≤ 8) ∧
  ∀ v H2, Gs s H H2 → Dr s p xs H2 → (∃ ds, Va ds v H2 ∧ OkV ds ∧ ds.length ≤ 3) → Q v H2
theorem word_at {n : Nat} (h : n < 4) : ∃ w : Str, ([V.str "all", .str "left", .str "right", .str "cell"])[n]? = some (.str w) ∧ okD (.str w) = true := by
  match n, h with
  | 0, _ => exact ⟨_, rfl, by decide +kernel⟩
  | 1, _ => exact ⟨_, rfl, by decide +kernel⟩
  | 2, _ => exact ⟨_, rfl, by decide +kernel⟩
  | 3, _ => exact ⟨_, rfl, by decide +kernel⟩
theorem ok_where {fa f1 : Addr} {fd fd1 : FuncData} (D__law_draw : Df K mg "_law_draw" s_law_draw ["_law_state", "_law_many"] f1 fd1) (G__law_draw : FnOk P w K mg base CX0 (k + 1) f1 fd1 ["_law_state", "_law_many"] spDraw) (T : Txt mg tk)
    (D : Df K mg "_law_where" s_law_where ["_law_state", "_law_left", "_law_right"] fa fd) : FnOk P w K mg base CX0 (k + 2) fa fd ["_law_state", "_law_left", "_law_right"] spWhere := by
  refine D.F.ok sc_law_where (fun vs H Q E h => ?_) (fun cdv A outer s H vs Q E hr h => ?_)
  · obtain ⟨s, p, xs, l, r, rfl, _⟩ := h
    rfl
  · obtain ⟨s, p, xs, l, r, rfl, d, ⟨hl1, hl8⟩, ⟨hr1, hr8⟩, q⟩ := h
    have nd := sc_law_where.nd
    refine ⟨_, (pss_cons (ps_set (i := 3) nd rfl (Or.inl rfl) (pe_ix (r := rIxL K) ix_list (pe_lst (pa_cons pe_str (pa_cons pe_str (pa_cons pe_str (pa_cons pe_str pa_nil))))) (pe_call G__law_draw (hr.mono (by omega)) (by rfl) D__law_draw.g D__law_draw.F.kp D__law_draw.b .nil pass0 (pa_cons (pv 0) (pa_cons pe_int pa_nil))) (fun _ _ => rfl))) (pss_cons (ps_set (i := 4) nd rfl (Or.inl rfl) (pe_ifExp (pt_cmpR op_eq (pv 3) pe_str (nomark _)) (pv 2) (pv 1))) (pss_cons (ps_set (i := 5) nd rfl (Or.inl rfl) (pe_callTy (r := rTupQ K) call_tuple_of (by rfl) T.n_tuple PyProof.Rows.boot_tuple (pa_cons (pe_lc (wi := iRng1 _) (g := gName 7) (own := [("_law_one", 7)]) (by rfl) nd (pi_range1 (by rfl) T.n_range (pa_cons (pv 4) pa_nil)) (blkOk_by (by kernel_rfl)) (fun _ _ _ _ _ => (pg_name (i := 7) nd rfl (Or.inl rfl))) (fun _ _ _ _ _ => (pts_one (pt_cmpR op_eq (pe_call G__law_draw (hr.mono (by omega)) (by rfl) D__law_draw.g D__law_draw.F.kp D__law_draw.b .nil pass0 (pa_cons (pv 0) (pa_cons pe_int pa_nil))) pe_int (nomark _)))) (fun _ _ _ _ _ => (pv 7))) pa_nil))) (pss_cons (ps_set (i := 6) nd rfl (Or.inl rfl) (pe_tup (pa_cons pe_str (pa_cons (pe_call G__law_draw (hr.mono (by omega)) (by rfl) D__law_draw.g D__law_draw.F.kp D__law_draw.b .nil pass0 (pa_cons (pv 0) (pa_cons (pv 1) pa_nil))) (pa_cons (pe_call G__law_draw (hr.mono (by omega)) (by rfl) D__law_draw.g D__law_draw.F.kp D__law_draw.b .nil pass0 (pa_cons (pv 0) (pa_cons (pv 2) pa_nil))) pa_nil))))) (pss_one (ps_ret (pe_dget2 (u1 hr) (pe_disp (pps_cons pe_str (pe_tup (pa_cons pe_str pa_nil)) (pps_cons pe_str (pv 6) pps_nil)) rfl rfl (by simp) (by decide)) (pv 3) (pe_tup (pa_cons (pv 3) (pa_cons (pv 5) pa_nil))) ⟨rfl, rfl, rfl, rfl⟩))))))), ?_⟩
    refine q_asgD (opD (el_lst (ea_cons ev_c (ea_cons ev_c (ea_cons ev_c (ea_cons ev_c ea_nil)))) (show 4 ≤ 100000 by decide) H (Ex.refl _) _ fun pl H1 hpl e1 h1 => ?_))
    have hps : pl ≠ s := fun z => by obtain ⟨k, hk⟩ := d.at_; rw [z, hk] at hpl; cases hpl
    refine evd_draw (p := p) (xs := xs) (m := 4) rfl (fun H1 => evp_c) (by decide) H1 (Gs.refl _ _) (d.ex e1) _ fun y H2 g2 d2 ⟨i, hy, hi0, hi4⟩ => ?_
    obtain ⟨n, rfl⟩ : ∃ n : Nat, i = n := ⟨i.toNat, by omega⟩
    obtain ⟨w', hw', hwok⟩ := word_at (n := n) (by omega)
    refine ⟨pl, _, _, _, rfl, hy, sq_of (g2 _ _ hps h1), atI_nat hw', ?_⟩
    obtain ⟨z, hz, hz1, hz2⟩ : ∃ z : Nat, 1 ≤ z ∧ z ≤ 8 ∧ ∀ σ' : L2.St, ∀ H' : Hp, σ'[1]? = some (some (.int (l : Int))) → σ'[2]? = some (some (.int (r : Int))) → (if w' = "right" then EvP (tVar 2) σ' H' (Is (.int (z : Int))) else EvP (tVar 1) σ' H' (Is (.int (z : Int)))) := by
      by_cases hc : w' = "right"
      · exact ⟨r, hr1, hr8, fun σ' H' _ h => by rw [if_pos hc]; exact evp_var h rfl mono_is⟩
      · exact ⟨l, hl1, hl8, fun σ' H' h _ => by rw [if_neg hc]; exact evp_var h rfl mono_is⟩
    refine q_asg (v := .int (z : Int)) (EvP.ev (evp_if (b := decide (w' = "right")) (et_bl (evp_is (evp_eq (x := .str w') (y := .str "right") (evp_var rfl rfl mono_is) evp_c rfl) (by simp))) (fun hc => by have := hz2 [some (.ref s), some (.int (l : Int)), some (.int (r : Int)), some (.str w'), none, none, none, none] H2 rfl rfl; rw [if_pos (of_decide_eq_true hc)] at this; exact this) (fun hc => by have := hz2 [some (.ref s), some (.int (l : Int)), some (.int (r : Int)), some (.str w'), none, none, none, none] H2 rfl rfl; rw [if_neg (of_decide_eq_false hc)] at this; exact this))) fun H3 e3 => ?_
    have d3 := d2.ex e3
    refine q_asgD (evd_tupI (K := K) (n := z) (evd_lcI (p := p) (xs := xs) (j := 7) (vs := [7]) (fun H1 => EvAP.one1 (eap_one (evp_var (σ := [some (.ref s), some (.int (l : Int)), some (.int (r : Int)), some (.str w'), some (.int (z : Int)), none, none, none]) (i := 4) (v := .int (z : Int)) rfl rfl mono_is))) (by omega) (fun _ => rfl) (fun _ => rfl) (fun j hj H4 d4 Q' q' => ?_)) H3 (Gs.refl _ _) d3 _ fun v4 H4 g4 d4 ⟨is, ⟨t, ht, ht'⟩, hisl⟩ => ?_)
    · refine evd_draw (p := p) (xs := xs) (m := 2) rfl (fun H1 => evp_c) (by decide) H4 (Gs.refl _ _) d4 _ fun y H5 g5 d5 ⟨i, hy, _⟩ => ?_
      subst hy
      exact ⟨rfl, _, rfl, q' _ H5 g5 d5⟩
    · subst ht
      refine evd_draw (p := p) (xs := xs) (m := (l : Int)) rfl (fun H1 => evp_var rfl rfl mono_is) (by omega) H4 (Gs.refl _ _) d4 _ fun y5 H5 g5 d5 ⟨i5, hy5, _⟩ => ?_
      refine evd_draw (p := p) (xs := xs) (m := (r : Int)) rfl (fun H1 => evp_var rfl rfl mono_is) (by omega) H5 (Gs.refl _ _) d5 _ fun y6 H6 g6 d6 ⟨i6, hy6, _⟩ => ?_
      subst hy5
      subst hy6
      refine ⟨sz_of (show 3 ≤ 100000 by decide), fun u hu => ?_⟩
      have e7 : Evl.Ex H6 (upd H6 u (.tup [.str "cell", .int i5, .int i6])) := Ex.new hu
      have hts : t ≠ s := fun z => by obtain ⟨k, hk⟩ := d4.at_; rw [z, hk] at ht'; cases ht'
      have hG : Gs s H H6 := (((Gs.of e1).trans g2).trans (Gs.of e3)).trans ((g4.trans g5).trans g6)
      refine get_where (w := w') (t := t) (u := u) rfl rfl rfl fun v H8 e8 hv => ?_
      refine q v H8 ((hG.trans (Gs.of e7)).trans (Gs.of e8)) ((d6.ex e7).ex e8) ?_
      rcases hv with ⟨hw, a, rfl, ha⟩ | ⟨hw, rfl⟩ | ⟨_, _, a, rfl, ha⟩
      · exact ⟨[.str "all"], ⟨a, _, rfl, ha, .cons (.flat rfl) .nil⟩, ⟨by decide, fun d hd => by rw [List.mem_singleton.mp hd]; decide +kernel⟩, by decide⟩
      · refine ⟨[.str "cell", .int i5, .int i6], ⟨u, _, rfl, e8 _ _ upd_same, .cons (.flat rfl) (.cons (.flat rfl) (.cons (.flat rfl) .nil))⟩, ⟨by show 3 ≤ 50; decide, fun d hd => ?_⟩, by show 3 ≤ 3; decide⟩
        rcases List.mem_cons.mp hd with rfl | hd
        · decide +kernel
        rcases List.mem_cons.mp hd with rfl | hd
        · rfl
        · rw [List.mem_singleton.mp hd]; rfl
      · refine ⟨[.str w', .tuple (is.map PyData.int)], ⟨a, _, rfl, ha, .cons (.flat rfl) (.cons (.tup ((Gs.of e8) _ _ hts ((Gs.of e7) _ _ hts (g6 _ _ hts (g5 _ _ hts ht')))) (fl_ints is)) .nil)⟩, ⟨by show 2 ≤ 50; decide, fun d hd => ?_⟩, by show 2 ≤ 3; decide⟩
        rcases List.mem_cons.mp hd with rfl | hd
        · exact hwok
        · rw [List.mem_singleton.mp hd]; exact okD_ints (by omega)
end
end K20
namespace K20
open PySem PySem.Spec PyProof.Rows L2 Evl RZ Ev2 TA5
abbrev s_law_bent : Stmt := topS 25
abbrev N_law_bent : List Str := ["_law_state", "_law_value", "_law_odd", "_law_thing", "_law_at", "_law_way"]
theorem sc_law_bent : FnScope N_law_bent ["_law_state", "_law_value"] (defScope s_law_bent) := ⟨rfl, rfl, rfl, by decide +kernel, rfl, by decide +kernel, by decide +kernel⟩

theorem Paired.take {α β : Type} {R : α → β → Prop} : ∀ {xs : List α} {ys : List β} (n : Nat), Paired R xs ys → Paired R (xs.take n) (ys.take n)
  | _, _, 0, _ => .nil
  | _, _, _ + 1, .nil => .nil
  | _, _, n + 1, .cons h t => .cons h (Paired.take n t)
theorem Paired.drop {α β : Type} {R : α → β → Prop} : ∀ {xs : List α} {ys : List β} (n : Nat), Paired R xs ys → Paired R (xs.drop n) (ys.drop n)
  | _, _, 0, p => p
  | _, _, _ + 1, .nil => .nil
  | _, _, n + 1, .cons _ t => Paired.drop n t
theorem Paired.app {α β : Type} {R : α → β → Prop} : ∀ {xs : List α} {ys : List β} {xs' : List α} {ys' : List β}, Paired R xs ys → Paired R xs' ys' → Paired R (xs ++ xs') (ys ++ ys')
  | _, _, _, _, .nil, p => p
  | _, _, _, _, .cons h t, p => .cons h (Paired.app t p)
/-- a thing that may stand in a tuple -/
def Th : HP := fun v H => ∃ d, It H v d ∧ okD d = true
theorem mono_th : Mono Th := fun _ _ _ e ⟨d, h, k⟩ => ⟨d, h.mono (Kx.of e), k⟩
section
variable {K : PySem.W.Frag} {σ : L2.St} {H : Hp} {ta' : TA} {ta tb te : TE} {s p : Addr} {xs : List Int}
def EvTh (ta : TA) (σ : L2.St) (H : Hp) (n : Nat) : Prop := EvAP ta σ H (fun vs H1 => vs.length = n ∧ ∀ v ∈ vs, Th v H1)
theorem th_nil : EvTh tNil σ H 0 := fun H1 e Q q => q [] H1 (Ex.refl _) ⟨rfl, fun v h => nomatch h⟩
theorem th_cons {n : Nat} (h : EvP te σ H Th) (h2 : EvTh ta' σ H n) : EvTh (tCons te ta') σ H (n + 1) := fun H1 e Q q =>
  h H1 e _ fun v H2 e2 hv => h2 H2 (e.trans e2) _ fun vs H3 e3 ⟨hl, hvs⟩ => q (v :: vs) H3 (e2.trans e3) ⟨by rw [List.length_cons, hl], fun z hz => by
    rcases List.mem_cons.mp hz with rfl | hz
    · exact mono_th _ _ _ e3 hv
    · exact hvs z hz⟩
theorem th_c {v : V} {d : PyData} (h : fl v d) (k : okD d = true) : EvP (tC v) σ H Th := evp_c.imp fun x H1 _ e => ⟨d, by rw [show x = v from e]; exact .flat h, k⟩
theorem th_neg {i : Int} : EvP (tUn (rU fun i => .int (-i)) (tC (.int i))) σ H Th := (evp_un (P := Is (.int i)) (S := Is (.int (-i))) evp_c fun x H1 _ hx Q q => ⟨i, hx, q _ H1 (Ex.refl _) rfl⟩).imp fun x H1 _ e => ⟨.int (-i), by rw [show x = _ from e]; exact .flat rfl, rfl⟩
theorem th_tup {vs : List V} {ds : List PyData} (h : EvA ta' σ H vs) (hl : vs.length ≤ 100000) (p : Paired fl vs ds) (k : okD (.tuple ds) = true) : EvP (tTup ta') σ H Th := (evp_ofU (eu_tup h hl)).imp fun x H1 _ ⟨a, e, ha⟩ => ⟨_, by rw [e]; exact .tup ha p, k⟩
theorem th_lst {vs : List V} {ds : List PyData} (h : EvA ta' σ H vs) (hl : vs.length ≤ 100000) (p : Paired fl vs ds) (k : okD (.list ds) = true) : EvP (tLst ta') σ H Th := (evp_ofL (el_lst h hl)).imp fun x H1 _ ⟨a, e, ha⟩ => ⟨_, by rw [e]; exact .lst ha p, k⟩
theorem th_all {n : Nat} (h : EvTh ta' σ H n) (hn : n ≤ 100000) : EvP (tLst ta') σ H (fun v H1 => ∃ p ys, v = .ref p ∧ H1 p = some (.lst ys) ∧ ys.length = n ∧ ∀ y ∈ ys, Th y H1) := fun H1 e Q q =>
  h H1 e _ fun vs H2 e2 ⟨hl, hvs⟩ => ⟨sz_of (by rw [hl]; exact hn), fun p hp => q _ _ (e2.trans (Ex.new hp)) ⟨p, vs, rfl, upd_same, hl, fun y hy => mono_th _ _ _ (Ex.new hp) (hvs y hy)⟩⟩
theorem evp_cat {xs ys : List V} (ha : EvP ta σ H (Ts xs)) (hb : EvP tb σ H (Ts ys)) (hl : xs.length + ys.length ≤ 100000) : EvP (tOp (rCatA K) ta tb) σ H (Ts (xs ++ ys)) :=
  evp_op ha hb mono_ts fun x y H1 _ ⟨a, hx, h1⟩ ⟨b, hy, h2⟩ Q q => by
    subst hx
    subst hy
    refine ⟨a, b, xs, ys, rfl, rfl, st_of h1, st_of h2, sz_of hl, fun e => q _ H1 (Ex.refl _) ⟨b, rfl, by rw [e]; exact h2⟩, fun _ e => q _ H1 (Ex.refl _) ⟨a, rfl, by rw [e, List.append_nil]; exact h1⟩, fun _ _ p hp => q _ _ (Ex.new hp) ⟨p, rfl, upd_same⟩⟩
theorem draw_at {m : Int} {E : XK} (hs : σ[0]? = some (some (.ref s))) (ha : EvP ta σ H (Is (.int m))) (hm : 1 ≤ m) (d : Dr s p xs H) {Q : VK} (q : ∀ v H2, Gs s H H2 → Dr s p xs H2 → BI (fun r => 0 ≤ r ∧ r < m) v H2 → Q v H2) : tCall spDraw [] E (tCons (tVar 0) (tCons ta tNil)) σ H Q :=
  eap_two (P := Is (.ref s)) (evp_var hs rfl mono_is) ha mono_is H (Ex.refl _) _ fun vs H2 e2 ⟨x, y, hv, hx, hy⟩ => ⟨s, p, xs, m, by rw [hv, show x = .ref s from hx, show y = .int m from hy]; rfl, d.ex e2, hm, fun v H3 g3 d3 h3 => q v H3 ((Gs.of e2).trans g3) d3 h3⟩
theorem q_par3 {t1 t2 t3 : TE} {i j l : Nat} {tz : TS} {D : Ends} (h : t1 σ H fun x H1 => t2 σ H1 fun y H2 => t3 σ H2 fun z H3 => ∃ u v w, [x, y, z] = [u, v, w] ∧ tz D (((σ.set i (some u)).set j (some v)).set l (some w)) H3) : tSeq (tPar3 i j l (tCons t1 (tCons t2 (tCons t3 tNil)))) tz D σ H := h
theorem q_asgG {te : TE} {g : TG} {tz : TS} {D : Ends} (h : te σ H fun v H1 => g v σ H1 fun σ' H' => tz D σ' H') : tSeq (tAsg te g) tz D σ H := h
theorem tup3 {t1 t2 t3 : TE} {Q : VK} (h : t1 σ H fun x H1 => t2 σ H1 fun y H2 => t3 σ H2 fun z H3 => 3 ≤ sizeLine ∧ ∀ p, H3 p = none → Q (.ref p) (upd H3 p (.tup [x, y, z]))) : tTup (tCons t1 (tCons t2 (tCons t3 tNil))) σ H Q := h
theorem evp_ts {x : V} {a : Addr} {xs : List V} {i : Nat} (hs : σ[i]? = some (some (.ref a))) (ha : H a = some (.tup xs)) : EvP (tVar i) σ H (Ts xs) := evp_var hs ⟨a, rfl, ha⟩ mono_ts
theorem evp_from {a : Addr} {xs : List V} {i : Nat} {n : Nat} (hs : σ[i]? = some (some (.ref a))) (ha : H a = some (.tup xs)) (h : EvP te σ H (Is (.int (n : Int)))) : EvP (tSl (rSlA K) (tVar i) (tPart te) tNoPart) σ H (Ts (xs.drop n)) :=
  (evp_slA (K := K) (lo := some (n : Int)) (hi := none) (evp_var (P := Is (.ref a)) (i := i) hs rfl mono_is).ev (eo_some h.ev) eo_none ha).imp fun v H1 _ ⟨p, e, hp⟩ => ⟨p, e, by rw [hp, cutV_from]⟩
theorem evp_to {a : Addr} {xs : List V} {i : Nat} {n : Nat} (hs : σ[i]? = some (some (.ref a))) (ha : H a = some (.tup xs)) (h : EvP te σ H (Is (.int (n : Int)))) : EvP (tSl (rSlA K) (tVar i) tNoPart (tPart te)) σ H (Ts (xs.take n)) :=
  (evp_slA (K := K) (lo := none) (hi := some (n : Int)) (evp_var (P := Is (.ref a)) (i := i) hs rfl mono_is).ev eo_none (eo_some h.ev) ha).imp fun v H1 _ ⟨p, e, hp⟩ => ⟨p, e, by rw [hp, cutV_to]⟩
end
section
variable {P : Program} {w : World} {K : PySem.W.Frag} {mg : Str → Option Value} {base : Heap} {tk : Tok} {k : Nat}
def spBent : Sp := fun vs H Q _ => ∃ (s p : Addr) (xs : List Int) (x : V) (ds : List PyData), vs = [.ref s, x] ∧ Dr s p xs H ∧ Va ds x H ∧ OkV ds ∧ 1 ≤ ds.length ∧ ds.length ≤ 40 ∧
  ∀ v H2, Gs s H H2 → Dr s p xs H2 → (∃ ds', Va ds' v H2 ∧ OkV ds' ∧ ds'.length ≤ ds.length + 1) → Q v H2
theorem ok_bent {fa f1 : Addr} {fd fd1 : FuncData} (D__law_draw : Df K mg "_law_draw" s_law_draw ["_law_state", "_law_many"] f1 fd1) (G__law_draw : FnOk P w K mg base CX0 (k + 1) f1 fd1 ["_law_state", "_law_many"] spDraw) (T : Txt mg tk)
    (D : Df K mg "_law_bent" s_law_bent ["_law_state", "_law_value"] fa fd) : FnOk P w K mg base CX0 (k + 2) fa fd ["_law_state", "_law_value"] spBent := by
  refine D.F.ok sc_law_bent (fun vs H Q E h => ?_) (fun cdv A outer s H vs Q E hr h => ?_)
  · obtain ⟨s, p, xs, x, ds, rfl, _⟩ := h
    rfl
  · obtain ⟨s, p, xs, x, ds, rfl, d, hx, hok, hl1, hl40, q⟩ := h
    have nd := sc_law_bent.nd
    refine ⟨_, (pss_cons (ps_set (i := 2) nd rfl (Or.inl rfl) (pe_lst (pa_cons pe_non (pa_cons pe_bl (pa_cons pe_int (pa_cons pe_int (pa_cons (pe_un un_neg pe_int) (pa_cons pe_str (pa_cons pe_str (pa_cons (pe_tup pa_nil) (pa_cons (pe_tup (pa_cons pe_int pa_nil)) (pa_cons (pe_tup (pa_cons pe_int (pa_cons pe_int pa_nil))) (pa_cons (pe_tup (pa_cons pe_bl pa_nil)) (pa_cons (pe_tup (pa_cons pe_int (pa_cons pe_int pa_nil))) (pa_cons (pe_lst (pa_cons pe_int pa_nil)) (pa_cons pe_str pa_nil)))))))))))))))) (pss_cons (ps_par3 (i := 3) (j := 4) (l := 5) rfl nd rfl rfl rfl (by decide) (by decide) (by decide) rfl rfl rfl (pa_cons (pe_ix (r := rIxL K) ix_list (pv 2) (pe_call G__law_draw (hr.mono (by omega)) (by rfl) D__law_draw.g D__law_draw.F.kp D__law_draw.b .nil pass0 (pa_cons (pv 0) (pa_cons pe_int pa_nil))) (fun _ _ => rfl)) (pa_cons (pe_call G__law_draw (hr.mono (by omega)) (by rfl) D__law_draw.g D__law_draw.F.kp D__law_draw.b .nil pass0 (pa_cons (pv 0) (pa_cons (pe_callB (r := rLenQ K) call_len_seq (by rfl) T.n_len PySem.boot_len (pa_cons (pv 1) pa_nil)) pa_nil))) (pa_cons (pe_call G__law_draw (hr.mono (by omega)) (by rfl) D__law_draw.g D__law_draw.F.kp D__law_draw.b .nil pass0 (pa_cons (pv 0) (pa_cons pe_int pa_nil))) pa_nil))) rfl) (pss_cons (ps_if (pt_cmpR op_eq (pv 5) pe_int (nomark _)) (pss_one (ps_ret (pe_op (r := rCatA K) op_catA (pe_slice (r := rSlA K) sl_tupA (pv 1) po_none (po_some (pv 4))) (pe_slice (r := rSlA K) sl_tupA (pv 1) (po_some (pe_op op_add (pv 4) pe_int)) po_none)))) pss_nil) (pss_one (ps_ret (pe_ifExp (pt_cmpR op_eq (pv 5) pe_int (nomark _)) (pe_op (r := rCatA K) op_catA (pv 1) (pe_tup (pa_cons (pv 3) pa_nil))) (pe_op (r := rCatA K) op_catA (pe_op (r := rCatA K) op_catA (pe_slice (r := rSlA K) sl_tupA (pv 1) po_none (po_some (pv 4))) (pe_tup (pa_cons (pv 3) pa_nil))) (pe_slice (r := rSlA K) sl_tupA (pv 1) (po_some (pe_op op_add (pv 4) pe_int)) po_none)))))))), ?_⟩
    refine q_asgP (th_all (n := 14) (th_cons (th_c (d := .none) rfl rfl) (th_cons (th_c (d := .bool true) rfl rfl) (th_cons (th_c (d := .int 0) rfl rfl) (th_cons (th_c (d := .int 8) rfl rfl) (th_cons th_neg (th_cons (th_c (d := .str "left") rfl (by decide +kernel)) (th_cons (th_c (d := .str "all") rfl (by decide +kernel))
      (th_cons (th_tup (ds := []) ea_nil (by decide) .nil rfl) (th_cons (th_tup (ds := [.int 0]) (ea_cons ev_c ea_nil) (show 1 ≤ 100000 by decide) (.cons rfl .nil) rfl) (th_cons (th_tup (ds := [.int 1, .int 0]) (ea_cons ev_c (ea_cons ev_c ea_nil)) (show 2 ≤ 100000 by decide) (.cons rfl (.cons rfl .nil)) rfl)
      (th_cons (th_tup (ds := [.bool true]) (ea_cons ev_c ea_nil) (show 1 ≤ 100000 by decide) (.cons rfl .nil) rfl) (th_cons (th_tup (ds := [.int 0, .int 0]) (ea_cons ev_c (ea_cons ev_c ea_nil)) (show 2 ≤ 100000 by decide) (.cons rfl (.cons rfl .nil)) rfl) (th_cons (th_lst (ds := [.int 0]) (ea_cons ev_c ea_nil) (show 1 ≤ 100000 by decide) (.cons rfl .nil) rfl)
      (th_cons (th_c (d := .str "Left") rfl (by decide +kernel)) th_nil)))))))))))))) (by decide)) fun v1 H1 e1 ⟨pl, ys, hv1, hpl, hyl, hys⟩ => ?_
    subst hv1
    have d1 := d.ex e1
    have hps : pl ≠ s := fun z => by obtain ⟨k, hk⟩ := d1.at_; rw [z, hk] at hpl; cases hpl; cases hyl
    have hx1 : Va ds x H1 := mono_va _ _ _ e1 hx
    refine q_par3 (opD ⟨_, rfl, draw_at (p := p) (xs := xs) (m := 14) rfl evp_c (by decide) d1 fun y2 H2 g2 d2 ⟨i2, hy2, hi0, hi14⟩ => ?_⟩)
    obtain ⟨n, rfl⟩ : ∃ n : Nat, i2 = n := ⟨i2.toNat, by omega⟩
    have hn : n < ys.length := by omega
    have hx2 := Va.kx (Kx.gs g2 d1) hx1
    refine ⟨pl, ys, _, _, rfl, hy2, sq_of (g2 _ _ hps hpl), atI_nat (List.getElem?_eq_getElem hn), ?_⟩
    obtain ⟨dt, hdt, okt⟩ := hys _ (List.getElem_mem hn)
    have hdt2 := hdt.mono (Kx.gs g2 d1)
    refine draw_at (p := p) (xs := xs) (m := (ds.length : Int)) rfl (evp_len (K := K) (evp_va rfl hx2)) (by omega) d2 fun y3 H3 g3 d3 ⟨i3, hy3, hi30, hi3l⟩ => ?_
    obtain ⟨m, rfl⟩ : ∃ m : Nat, i3 = m := ⟨i3.toNat, by omega⟩
    refine draw_at (p := p) (xs := xs) (m := 5) rfl evp_c (by decide) d3 fun y4 H4 g4 d4 ⟨i4, hy4, _⟩ => ?_
    subst hy3
    subst hy4
    refine ⟨_, _, _, rfl, ?_⟩
    have hx5 : Va ds x H4 := Va.kx (Kx.gs g4 d3) (Va.kx (Kx.gs g3 d2) hx2)
    have hdt5 := (hdt2.mono (Kx.gs g3 d2)).mono (Kx.gs g4 d3)
    have hG : Gs s H H4 := ((Gs.of e1).trans g2).trans (g3.trans g4)
    generalize ys[n] = t at hdt5
    obtain ⟨b, zs, rfl, hb, hp⟩ := hx5
    have hzl := Paired.len hp
    have fin : ∀ (us : List V) (es : List PyData) (v : V) (H6 : Hp), Evl.Ex H4 H6 → Ts us v H6 → Paired (It H4) us es → es.length ≤ ds.length + 1 → (∀ d ∈ es, okD d = true) → Q v H6 := fun us es v H6 e6 ⟨a, hv, ha⟩ pr hl hk => q v H6 (hG.trans (Gs.of e6)) (d4.ex e6) ⟨es, ⟨a, us, hv, ha, its_mono (Kx.of e6) pr⟩, ⟨by omega, hk⟩, hl⟩
    have hm1 : ∀ {H' : Hp}, EvP (tOp (rI0 fun i j => .int (i + j)) (tVar 4) (tC (.int 1))) [some (.ref s), some (.ref b), some (.ref pl), some t, some (.int (m : Int)), some (.int i4)] H' (Is (.int ((m + 1 : Nat) : Int))) := evp_I0 (g := fun i j => .int (i + j)) (evp_var (v := .int (m : Int)) rfl rfl mono_is) evp_c
    have hm0 : ∀ {H' : Hp}, EvP (tVar 4) [some (.ref s), some (.ref b), some (.ref pl), some t, some (.int (m : Int)), some (.int i4)] H' (Is (.int (m : Int))) := evp_var rfl rfl mono_is
    have htk : ∀ d ∈ ds.take m, okD d = true := fun d hd => hok.ok d (List.mem_of_mem_take hd)
    have hdp : ∀ d ∈ ds.drop (m + 1), okD d = true := fun d hd => hok.ok d (List.mem_of_mem_drop hd)
    refine s_when (σ := [some (.ref s), some (.ref b), some (.ref pl), some t, some (.int (m : Int)), some (.int i4)]) (H := H4) (b := decide (V.int i4 = .int 0)) (et_bl (evp_eq (evp_var rfl rfl mono_is) evp_c rfl)) (fun hb0 H6 e6 => ?_) (fun hb0 H6 e6 => ?_)
    · refine evp_cat (K := K) (evp_to (K := K) (n := m) rfl (e6 _ _ hb) hm0) (evp_from (K := K) (n := m + 1) rfl (e6 _ _ hb) hm1) (by simp; omega) H6 (Ex.refl _) _ fun v H7 e7 hv => ?_
      exact fin _ (ds.take m ++ ds.drop (m + 1)) v H7 (e6.trans e7) hv (Paired.app (Paired.take m hp) (Paired.drop (m + 1) hp)) (by simp; omega) fun d hd => by
        rcases List.mem_append.mp hd with h | h
        · exact htk d h
        · exact hdp d h
    · refine evp_if (b := decide (V.int i4 = .int 1)) (P := fun v H7 => ∃ us es, Ts us v H7 ∧ Paired (It H4) us es ∧ es.length ≤ ds.length + 1 ∧ ∀ d ∈ es, okD d = true) (et_bl (evp_eq (evp_var rfl rfl mono_is) evp_c rfl)) (fun hc => ?_) (fun hc => ?_) H6 (Ex.refl _) _ fun v H7 e7 ⟨us, es, h1, h2, h3, h4⟩ => fin us es v H7 (e6.trans e7) h1 h2 h3 h4
      · refine (evp_cat (K := K) (xs := zs) (ys := [t]) (evp_var rfl ⟨b, rfl, e6 _ _ hb⟩ mono_ts) (evp_ofU (eu_tup (ea_cons (ev_var rfl) ea_nil) (show 1 ≤ 100000 by decide))) (by simp; omega)).imp fun v H7 e7 hv => ⟨zs ++ [t], ds ++ [dt], hv, Paired.app hp (.cons hdt5 .nil), by simp, fun d hd => ?_⟩
        rcases List.mem_append.mp hd with h | h
        · exact hok.ok d h
        · rw [List.mem_singleton.mp h]; exact okt
      · refine (evp_cat (K := K) (evp_cat (K := K) (ys := [t]) (evp_to (K := K) (n := m) rfl (e6 _ _ hb) hm0) (evp_ofU (eu_tup (ea_cons (ev_var rfl) ea_nil) (show 1 ≤ 100000 by decide))) (by simp; omega)) (evp_from (K := K) (n := m + 1) rfl (e6 _ _ hb) hm1) (by simp; omega)).imp fun v H7 e7 hv => ⟨_, (ds.take m ++ [dt]) ++ ds.drop (m + 1), hv, Paired.app (Paired.app (Paired.take m hp) (.cons hdt5 .nil)) (Paired.drop (m + 1) hp), by simp; omega, fun d hd => ?_⟩
        rcases List.mem_append.mp hd with h | h
        · rcases List.mem_append.mp h with h | h
          · exact htk d h
          · rw [List.mem_singleton.mp h]; exact okt
        · exact hdp d h
end
end K20
namespace K20
open PySem PySem.Spec PyProof.Rows L2 Evl RZ Ev2 TA5
abbrev s_law_told : Stmt := topS 26
abbrev N_law_told : List Str := ["_law_left", "_law_right", "_law_value", "e"]
theorem sc_law_told : FnScope N_law_told ["_law_left", "_law_right", "_law_value"] (defScope s_law_told) := ⟨rfl, rfl, rfl, by decide +kernel, rfl, by decide +kernel, by decide +kernel⟩
abbrev s_law_is : Stmt := topS 27
abbrev N_law_is : List Str := ["_law_left", "_law_right", "_law_value", "e"]
theorem sc_law_is : FnScope N_law_is ["_law_left", "_law_right", "_law_value"] (defScope s_law_is) := ⟨rfl, rfl, rfl, by decide +kernel, rfl, by decide +kernel, by decide +kernel⟩

section
variable {P : Program} {w : World} {K : PySem.W.Frag} {mg : Str → Option Value} {base : Heap} {tk : Tok} {k : Nat} {CV iV CP iP : Addr}
def spTold : Sp := fun vs H Q _ => ∃ (x y z : V) (dx dy : PyData), vs = [x, y, z] ∧ It H x dx ∧ It H y dy ∧ (isSz dx = false → ∀ v H2, Evl.Ex H H2 → Ls [.str "number", x] v H2 → Q v H2) ∧ (isSz dx = true → isSz dy = false → ∀ v H2, Evl.Ex H H2 → Ls [.str "number", y] v H2 → Q v H2) ∧
  (isSz dx = true → isSz dy = true → ∃ ds, Va ds z H ∧ SmallV ds ∧ (form (dI dx) (dI dy) ds = false → ∀ v H2, Evl.Ex H H2 → Ls [.str "fact", z] v H2 → Q v H2) ∧ (form (dI dx) (dI dy) ds = true → ∀ v H2, Evl.Ex H H2 → Cs (cellsL (dI dx) (dI dy) ds) v H2 → Q v H2))
def spIs : Sp := fun vs H Q _ => ∃ (x y z : V) (dx dy : PyData), vs = [x, y, z] ∧ It H x dx ∧ It H y dy ∧ (isSz dx = false → ∀ v H2, Evl.Ex H H2 → Ls [.str "number", x] v H2 → Q v H2) ∧ (isSz dx = true → isSz dy = false → ∀ v H2, Evl.Ex H H2 → Ls [.str "number", y] v H2 → Q v H2) ∧
  (isSz dx = true → isSz dy = true → ∃ ds, Va ds z H ∧ SmallV ds ∧ ∀ v H2, Evl.Ex H H2 → v = .bl (form (dI dx) (dI dy) ds) → Q v H2)
theorem ok_told {f f1 : Addr} {fd fd1 : FuncData} (EV : EVT K mg CV iV) (EP : EPT K mg CP iP) (hVP : PySem.W.exmOne K (.ref CV) (.ref CP) = some false) (D_cells : Df K mg "cells" s_cells ["left", "right", "where"] f1 fd1) (G_cells : FnOk P w K mg base (L2.CX P w) (k + 7) f1 fd1 ["left", "right", "where"] (spCells CV CP))
    (D : Df K mg "_law_told" s_law_told ["_law_left", "_law_right", "_law_value"] f fd) : FnOk P w K mg base CX0 (k + 8) f fd ["_law_left", "_law_right", "_law_value"] spTold := by
  refine D.F.ok sc_law_told (fun vs H Q E h => ?_) (fun cdv A outer s H vs Q E hr h => ?_)
  · obtain ⟨x, y, z, dx, dy, rfl, _⟩ := h
    rfl
  · obtain ⟨x, y, z, dx, dy, rfl, hx, hy, k1, k2, k3⟩ := h
    have nd := sc_law_told.nd
    refine ⟨_, (pss_one (ps_try_all rfl rfl nd takes0 (fun W pn xe tkW po => pss_one (ps_ret (pe_callS G_cells (hr.mono (by omega)) (by rfl) D_cells.g D_cells.F.kp D_cells.b (fun σ => passAt tkW σ) (pa_cons (pv 0) (pa_cons (pv 1) (pa_cons (pv 2) pa_nil)))))) (Hds.cons (i := 3) rfl rfl ⟨by rfl, by decide, .inl EP.gC⟩ (fun a oe cls d pn hz hf => pss_one (ps_ret (pe_lst (pa_cons pe_str (pa_cons (ErrPL.pe_fldErr EP hz hf (pv 3)) pa_nil))))) (Hds.cons (i := 3) rfl rfl ⟨by rfl, by decide, .inl EV.gC⟩ (fun a oe cls d pn hz hf => pss_one (ps_ret (pe_lst (pa_cons pe_str (pa_cons (ErrVL.pe_fldErr EV hz hf (pv 3)) pa_nil))))) .nil)))), ?_⟩
    refine ⟨x, rfl, y, rfl, z, rfl, x, y, z, dx, dy, rfl, hx, hy, fun hb d H2 e h2 => ⟨false, hVP, fun z => (by cases z), fun _ => ⟨true, EV.te, fun _ a hna => ⟨_, rfl, rfl, rfl, d, x, rfl, h2, sz_of (show 2 ≤ 100000 by decide), fun p hp => k1 hb _ _ (e.trans (Ex.new hp)) ⟨p, rfl, upd_same⟩⟩, fun z => by cases z⟩⟩, fun ha hb d H2 e h2 => ⟨false, hVP, fun z => (by cases z), fun _ => ⟨true, EV.te, fun _ a hna => ⟨_, rfl, rfl, rfl, d, y, rfl, h2, sz_of (show 2 ≤ 100000 by decide), fun p hp => k2 ha hb _ _ (e.trans (Ex.new hp)) ⟨p, rfl, upd_same⟩⟩, fun z => by cases z⟩⟩, fun ha hb => ?_⟩
    obtain ⟨ds, hz, hsm, kf, q⟩ := k3 ha hb
    exact ⟨ds, hz, hsm, fun hf d H2 e2 h2 => ⟨true, EP.te, fun _ a hna => ⟨_, rfl, rfl, rfl, d, z, rfl, h2, sz_of (show 2 ≤ 100000 by decide), fun p hp => kf hf _ _ (e2.trans (Ex.new hp)) ⟨p, rfl, upd_same⟩⟩, fun z => by cases z⟩, fun hf v H2 e2 hv => q hf v H2 e2 hv⟩
theorem ok_law_is {f f1 : Addr} {fd fd1 : FuncData} (EV : EVT K mg CV iV) (D_is_where : Df K mg "is_where" s_is_where ["left", "right", "value"] f1 fd1) (G_is_where : FnOk P w K mg base (L2.CX P w) (k + 6) f1 fd1 ["left", "right", "value"] (spIsWhere CV))
    (D : Df K mg "_law_is" s_law_is ["_law_left", "_law_right", "_law_value"] f fd) : FnOk P w K mg base CX0 (k + 7) f fd ["_law_left", "_law_right", "_law_value"] spIs := by
  refine D.F.ok sc_law_is (fun vs H Q E h => ?_) (fun cdv A outer s H vs Q E hr h => ?_)
  · obtain ⟨x, y, z, dx, dy, rfl, _⟩ := h
    rfl
  · obtain ⟨x, y, z, dx, dy, rfl, hx, hy, k1, k2, k3⟩ := h
    have nd := sc_law_is.nd
    refine ⟨_, (pss_one (ps_try_all rfl rfl nd takes0 (fun W pn xe tkW po => pss_one (ps_ret (pe_callS G_is_where (hr.mono (by omega)) (by rfl) D_is_where.g D_is_where.F.kp D_is_where.b (fun σ => passAt tkW σ) (pa_cons (pv 0) (pa_cons (pv 1) (pa_cons (pv 2) pa_nil)))))) (Hds.cons (i := 3) rfl rfl ⟨by rfl, by decide, .inl EV.gC⟩ (fun a oe cls d pn hz hf => pss_one (ps_ret (pe_lst (pa_cons pe_str (pa_cons (ErrVL.pe_fldErr EV hz hf (pv 3)) pa_nil))))) .nil))), ?_⟩
    refine ⟨x, rfl, y, rfl, z, rfl, x, y, z, dx, dy, rfl, hx, hy, fun hb d H2 e h2 => ⟨true, EV.te, fun _ a hna => ⟨_, rfl, rfl, rfl, d, x, rfl, h2, sz_of (show 2 ≤ 100000 by decide), fun p hp => k1 hb _ _ (e.trans (Ex.new hp)) ⟨p, rfl, upd_same⟩⟩, fun z => by cases z⟩, fun ha hb d H2 e h2 => ⟨true, EV.te, fun _ a hna => ⟨_, rfl, rfl, rfl, d, y, rfl, h2, sz_of (show 2 ≤ 100000 by decide), fun p hp => k2 ha hb _ _ (e.trans (Ex.new hp)) ⟨p, rfl, upd_same⟩⟩, fun z => by cases z⟩, fun ha hb => ?_⟩
    obtain ⟨ds, hz, hsm, q⟩ := k3 ha hb
    exact ⟨ds, hz, hsm, fun v H2 e2 hv => q v H2 e2 hv⟩
end
end K20
namespace K20
open PySem PySem.Spec PyProof.Rows L2 Evl RZ Ev2 TA5

/-! ### the pairs, in two ways -/
theorem pairs_accP (F : Nat → Nat → Bool) (r : Nat) (hr : 0 < r) : ∀ l : Nat, (((List.range (l * r)).filter fun t => F (t / r) (t % r)).map fun t => (((t / r : Nat) : Int), ((t % r : Nat) : Int))) = accP F r l
  | 0 => by simp [accP]
  | l + 1 => by
    have ih := pairs_accP F r hr l
    have hd : ∀ j, j < r → (l * r + j) / r = l := fun j hj => by rw [Nat.mul_comm, Nat.mul_add_div hr, Nat.div_eq_of_lt hj]; rfl
    have hm : ∀ j, j < r → (l * r + j) % r = j := fun j hj => by rw [Nat.mul_comm, Nat.mul_add_mod, Nat.mod_eq_of_lt hj]
    rw [Nat.succ_mul, List.range_add, List.filter_append, List.map_append, ih, List.filter_map, List.map_map]
    show _ = accP F r l ++ rowP (F l) l r
    congr 1
    unfold rowP
    have e1 : ((List.range r).filter ((fun t => F (t / r) (t % r)) ∘ fun x => l * r + x)) = (List.range r).filter (F l) := List.filter_congr fun j hj => by
      have := List.mem_range.mp hj
      show F ((l * r + j) / r) ((l * r + j) % r) = _
      rw [hd j this, hm j this]
    rw [e1]
    refine List.map_congr_left fun j hj => ?_
    have := List.mem_range.mp (List.mem_filter.mp hj).1
    show ((((l * r + j) / r : Nat) : Int), (((l * r + j) % r : Nat) : Int)) = _
    rw [hd j this, hm j this]
/-- cells as data -/
def cD (cs : List (Int × Int)) : PyData := .list (cs.map fun c => .tuple [.int c.1, .int c.2])
theorem prs_dp {K : PySem.W.Frag} {H : Hp} : ∀ {ys : List V} {cs : List (Int × Int)}, Paired (fun y c => Pr c.1 c.2 y H) ys cs → DpAll K H ys (cs.map fun c => .tuple [.int c.1, .int c.2])
  | _, _, .nil => .nil
  | _, _, .cons h t => .cons (pr_dp h) (prs_dp t)
theorem cs_dp {K : PySem.W.Frag} {H : Hp} {cs : List (Int × Int)} {v : V} (h : Cs cs v H) : Dp K H v (cD cs) := by
  obtain ⟨p, ys, rfl, hp, h⟩ := h
  exact .lst (sq_of hp) (prs_dp h)
theorem cD_lay (cs : List (Int × Int)) : (cD cs).canLay0 = true := lay_all fun d hd => by obtain ⟨c, _, rfl⟩ := List.mem_map.mp hd; rfl
theorem cD_sh (cs : List (Int × Int)) : SeqAt.shaped (cD cs) = true := sh_of (cD_lay cs) (by
  show PyData.depthAll _ + 1 ≤ 64
  have := depth_all (n := 1) (ds := cs.map fun c => PyData.tuple [.int c.1, .int c.2]) fun d hd => by obtain ⟨c, _, rfl⟩ := List.mem_map.mp hd; exact Nat.le_refl _
  omega)
theorem isSz_nat {n : Nat} (h1 : 1 ≤ n) (h8 : n ≤ 8) : isSz (.int (n : Int)) = true := by
  show (decide (1 ≤ (n : Int)) && decide ((n : Int) ≤ 8)) = true
  rw [decide_eq_true (by omega), decide_eq_true (by omega)]; rfl
section
variable {K : PySem.W.Frag} {σ : L2.St} {H : Hp} {ta tb tc te : TE} {E : XK} {P R : HP} {CV : Addr}
theorem evp_pr0 {i j : Int} (h : EvP te σ H (Pr i j)) : EvP (tOp (rIxT K) te (tC (.int 0))) σ H (Is (.int i)) := fun H1 e Q q => h H1 e _ fun v H2 e2 ⟨a, hv, ha⟩ => ⟨a, _, 0, .int i, hv, rfl, st_of ha, rfl, q _ H2 e2 rfl⟩
theorem evp_pr1 {i j : Int} (h : EvP te σ H (Pr i j)) : EvP (tOp (rIxT K) te (tC (.int 1))) σ H (Is (.int j)) := fun H1 e Q q => h H1 e _ fun v H2 e2 ⟨a, hv, ha⟩ => ⟨a, _, 1, .int j, hv, rfl, st_of ha, rfl, q _ H2 e2 rfl⟩
theorem evp_fdm {t r : Nat} (hr : 0 < r) (hr8 : r ≤ 8) (ha : EvP ta σ H (Is (.int (t : Int)))) (hb : EvP tb σ H (Is (.int (r : Int)))) (hc : EvP tc σ H (Is (.int (t : Int)))) (hd : EvP te σ H (Is (.int (r : Int)))) :
    EvP (tTup (tCons (tOp (rI CDivN fun i j => .int (i.fdiv j)) ta tb) (tCons (tOp (rI (fun _ j => j ≠ 0) fun i j => .int (i.fmod j)) tc te) tNil))) σ H (Pr ((t / r : Nat) : Int) ((t % r : Nat) : Int)) := by
  have e1 : (t : Int).fdiv (r : Int) = ((t / r : Nat) : Int) := by rw [Int.fdiv_eq_ediv_of_nonneg _ (by omega)]; rfl
  have e2 : (t : Int).fmod (r : Int) = ((t % r : Nat) : Int) := by rw [Int.fmod_eq_emod_of_nonneg _ (by omega)]; rfl
  exact evp_pr (evp_is (evp_I (C := CDivN) (g := fun i j => .int (i.fdiv j)) ha hb ⟨by omega, by omega⟩) (by rw [e1])) (evp_is (evp_I (C := fun _ j => j ≠ 0) (g := fun i j => .int (i.fmod j)) hc hd (by omega)) (by rw [e2]))
/-- ["number", x] -/
theorem evp_msg {m : Str} {x : V} {i : Nat} (h : σ[i]? = some (some x)) : EvP (tLst (tCons (tC (.str m)) (tCons (tVar i) tNil))) σ H (Ls [.str m, x]) := evp_ofL (el_lst (ea_cons ev_c (ea_cons (ev_var h) ea_nil)) (show 2 ≤ 100000 by decide))
theorem num_dp {m : Str} {x : V} {d : PyData} (hx : fl x d) {v : V} {H : Hp} (h : Ls [.str m, x] v H) : Dp K H v (.list [.str m, d]) := by
  obtain ⟨p, rfl, h⟩ := h
  exact .lst (sq_of h) (.cons (.str m) (.cons (fl_dp hx) .nil))
theorem e_same {m : Str} {x : V} {d : PyData} (hx : fl x d) (hs : SeqAt.shaped (.list [.str m, d]) = true) (ha : EvP ta σ H (Ls [.str m, x])) (hb : EvP tb σ H (Ls [.str m, x])) : EvT (tTest (tOp (rNeD K) ta tb)) σ H false :=
  et_tst (evp_is (evp_neD (K := K) (d := .list [.str m, d]) (e := .list [.str m, d]) ha hb mono_ls (fun _ _ h => num_dp hx h) (fun _ _ h => num_dp hx h) hs hs) (by rw [eqv_self _ (SeqAt.canLay_of_shaped hs)]; rfl))
def Any : HP := fun _ _ => True
theorem mono_any : Mono Any := fun _ _ _ _ _ => trivial
theorem evp_any (h : EvP te σ H P) : EvP te σ H Any := h.imp fun _ _ _ _ => trivial
/-- sizes that are none, told -/
theorem told_left {C CF : Addr} {x : V} {d : PyData} (hx : fl x d) (hb : isSz d = false) {y : V} {dy : PyData} (hy : fl y dy) (h1 : EvP ta σ H (Is x)) (h2 : EvP tb σ H (Is y)) (h3 : EvP tc σ H P) : EvP (tCall spTold [] E (tCons ta (tCons tb (tCons tc tNil)))) σ H (Ls [.str "number", x]) :=
  evp_call (eap_three h1 h2 (evp_any h3) mono_is mono_is) fun vs H1 ⟨a, b, c, e, ha, hb', _⟩ Q q E => ⟨x, y, c, d, dy, by rw [e, show a = x from ha, show b = y from hb'], .flat hx, .flat hy, fun _ v H2 e2 hv => q v H2 e2 hv, fun ha => (by rw [hb] at ha; cases ha), fun ha => (by rw [hb] at ha; cases ha)⟩
theorem told_right {C CF : Addr} {x : V} {d : PyData} (hx : fl x d) (hg : isSz d = true) {y : V} {dy : PyData} (hy : fl y dy) (hb : isSz dy = false) (h1 : EvP ta σ H (Is x)) (h2 : EvP tb σ H (Is y)) (h3 : EvP tc σ H P) : EvP (tCall spTold [] E (tCons ta (tCons tb (tCons tc tNil)))) σ H (Ls [.str "number", y]) :=
  evp_call (eap_three h1 h2 (evp_any h3) mono_is mono_is) fun vs H1 ⟨a, b, c, e, ha, hb', _⟩ Q q E => ⟨x, y, c, d, dy, by rw [e, show a = x from ha, show b = y from hb'], .flat hx, .flat hy, fun ha => (by rw [hg] at ha; cases ha), fun _ _ v H2 e2 hv => q v H2 e2 hv, fun _ ha => (by rw [hb] at ha; cases ha)⟩
theorem is_left {x : V} {d : PyData} (hx : fl x d) (hb : isSz d = false) {y : V} {dy : PyData} (hy : fl y dy) (h1 : EvP ta σ H (Is x)) (h2 : EvP tb σ H (Is y)) (h3 : EvP tc σ H P) : EvP (tCall spIs [] E (tCons ta (tCons tb (tCons tc tNil)))) σ H (Ls [.str "number", x]) :=
  evp_call (eap_three h1 h2 (evp_any h3) mono_is mono_is) fun vs H1 ⟨a, b, c, e, ha, hb', _⟩ Q q E => ⟨x, y, c, d, dy, by rw [e, show a = x from ha, show b = y from hb'], .flat hx, .flat hy, fun _ v H2 e2 hv => q v H2 e2 hv, fun ha => (by rw [hb] at ha; cases ha), fun ha => (by rw [hb] at ha; cases ha)⟩
theorem is_right {x : V} {d : PyData} (hx : fl x d) (hg : isSz d = true) {y : V} {dy : PyData} (hy : fl y dy) (hb : isSz dy = false) (h1 : EvP ta σ H (Is x)) (h2 : EvP tb σ H (Is y)) (h3 : EvP tc σ H P) : EvP (tCall spIs [] E (tCons ta (tCons tb (tCons tc tNil)))) σ H (Ls [.str "number", y]) :=
  evp_call (eap_three h1 h2 (evp_any h3) mono_is mono_is) fun vs H1 ⟨a, b, c, e, ha, hb', _⟩ Q q E => ⟨x, y, c, d, dy, by rw [e, show a = x from ha, show b = y from hb'], .flat hx, .flat hy, fun ha => (by rw [hg] at ha; cases ha), fun _ _ v H2 e2 hv => q v H2 e2 hv, fun _ ha => (by rw [hb] at ha; cases ha)⟩
theorem odd_at {i : Nat} {x : V} (h : ([V.int 0, .int 9, .int (-1), .bl true, .non, .str "1"])[i]? = some x) : ∃ d, fl x d ∧ isSz d = false ∧ SeqAt.shaped (.list [.str "number", d]) = true := by
  match i, h with
  | 0, h => cases h; exact ⟨.int 0, rfl, rfl, by decide +kernel⟩
  | 1, h => cases h; exact ⟨.int 9, rfl, rfl, by decide +kernel⟩
  | 2, h => cases h; exact ⟨.int (-1), rfl, rfl, by decide +kernel⟩
  | 3, h => cases h; exact ⟨.bool true, rfl, rfl, by decide +kernel⟩
  | 4, h => cases h; exact ⟨.none, rfl, rfl, by decide +kernel⟩
  | 5, h => cases h; exact ⟨.str "1", rfl, rfl, by decide +kernel⟩
/-- what is due, and what is told -/
def Du (g : Bool) (z : V) (ds : List PyData) (cs : List (Int × Int)) : HP := fun v H => if g = true then Cs cs v H else (Ls [.str "fact", z] v H ∧ Va ds z H)
theorem mono_du {g : Bool} {z : V} {ds : List PyData} {cs : List (Int × Int)} : Mono (Du g z ds cs) := fun v H H' e h => by
  cases g with
  | true => exact cs_mono _ _ _ e h
  | false => exact ⟨mono_ls _ _ _ e h.1, mono_va _ _ _ e h.2⟩
def duD (g : Bool) (ds : List PyData) (cs : List (Int × Int)) : PyData := if g = true then cD cs else .list [.str "fact", .tuple ds]
theorem du_dp {g : Bool} {z : V} {ds : List PyData} {cs : List (Int × Int)} {v : V} {H : Hp} (h : Du g z ds cs v H) : Dp K H v (duD g ds cs) := by
  cases g with
  | true => exact cs_dp h
  | false =>
    obtain ⟨⟨p, rfl, hp⟩, hz⟩ := h
    exact .lst (sq_of hp) (.cons (.str _) (.cons (va_dp hz) .nil))
theorem du_sh {g : Bool} {ds : List PyData} {cs : List (Int × Int)} (hok : OkV ds) : SeqAt.shaped (duD g ds cs) = true := by
  cases g with
  | true => exact cD_sh cs
  | false =>
    refine sh_of ?_ ?_
    · show ((PyData.str "fact").canLay0 && (PyData.canLayAll0 ds && true)) = true
      rw [hok.lay]; decide +kernel
    · show max 0 (max (PyData.depthAll ds + 1) 0) + 1 ≤ 64
      have := hok.depth; omega
theorem e_du {g : Bool} {z : V} {ds : List PyData} {cs : List (Int × Int)} (hok : OkV ds) (ha : EvP ta σ H (Du g z ds cs)) (hb : EvP tb σ H (Du g z ds cs)) : EvT (tTest (tOp (rNeD K) ta tb)) σ H false :=
  et_tst (evp_is (evp_neD (K := K) ha hb mono_du (fun _ _ h => du_dp h) (fun _ _ h => du_dp h) (du_sh hok) (du_sh hok)) (by rw [eqv_self _ (SeqAt.canLay_of_shaped (du_sh hok))]; rfl))
theorem told_du {l r : Nat} (hl : 1 ≤ l ∧ l ≤ 8) (hr : 1 ≤ r ∧ r ≤ 8) {z : V} {ds : List PyData} (hok : OkV ds) (h1 : EvP ta σ H (Is (.int (l : Int)))) (h2 : EvP tb σ H (Is (.int (r : Int)))) (h3 : EvP tc σ H (fun v H => v = z ∧ Va ds z H)) :
    EvP (tCall spTold [] E (tCons ta (tCons tb (tCons tc tNil)))) σ H (Du (form l r ds) z ds (cellsL l r ds)) :=
  evp_call (eap_three h1 h2 h3 mono_is mono_is) fun vs H1 ⟨a, b, c, e, ha, hb', hc, hz⟩ Q q E => ⟨.int l, .int r, z, .int l, .int r, by rw [e, show a = _ from ha, show b = _ from hb', hc], .flat rfl, .flat rfl, fun ha => (by rw [isSz_nat hl.1 hl.2] at ha; cases ha), fun _ ha => (by rw [isSz_nat hr.1 hr.2] at ha; cases ha),
    fun _ _ => ⟨ds, hz, hok.small, fun hf v H2 e2 hv => q v H2 e2 (by rw [show form l r ds = false from hf]; exact ⟨hv, mono_va _ _ _ e2 hz⟩), fun hf v H2 e2 hv => q v H2 e2 (by rw [show form l r ds = true from hf]; exact hv)⟩⟩
theorem is_du {l r : Nat} {Ef : L2.St → XK} (hl : 1 ≤ l ∧ l ≤ 8) (hr : 1 ≤ r ∧ r ≤ 8) {z : V} {ds : List PyData} (hok : OkV ds) (h1 : EvP ta σ H (Is (.int (l : Int)))) (h2 : EvP tb σ H (Is (.int (r : Int)))) (h3 : EvP tc σ H (fun v H => v = z ∧ Va ds z H)) :
    EvP (tCallS (spIsWhere CV) Ef (tCons ta (tCons tb (tCons tc tNil)))) σ H (Is (.bl (form l r ds))) := fun H1 e Q q =>
  eap_three h1 h2 h3 mono_is mono_is H1 e _ fun vs H2 e2 ⟨a, b, c, hv, ha, hb', hc, hz⟩ => ⟨.int l, .int r, z, .int l, .int r, by rw [hv, show a = _ from ha, show b = _ from hb', hc], .flat rfl, .flat rfl, fun ha => (by rw [isSz_nat hl.1 hl.2] at ha; cases ha), fun _ ha => (by rw [isSz_nat hr.1 hr.2] at ha; cases ha),
    fun _ _ => ⟨ds, hz, hok.small, fun v H3 e3 hv => q v H3 (e2.trans e3) hv⟩⟩
/-- the cells, of the pairs -/
theorem evp_pick {l r : Nat} {z : V} {ds : List PyData} {p : Addr} {ys : List V} {a0 a1 a2 a3 a4 a6 a7 a10 a11 a13 : Option V} (hr : 1 ≤ r) (hn : l * r ≤ 64) (hok : OkV ds) (hf : form l r ds = true) (hz : Va ds z H) (hp : H p = some (.lst ys)) (hl : ys.length = l * r) (hy : ∀ t y, ys[t]? = some y → Pr ((t / r : Nat) : Int) ((t % r : Nat) : Int) y H) :
    EvP (tLc (iList K (tVar 12)) (gName 14) (tTest (tCall spHas [] E0 (tCons (tVar 5) (tCons (tOp (rIxT K) (tVar 14) (tC (.int 0))) (tCons (tOp (rIxT K) (tVar 14) (tC (.int 1))) tNil))))) (tVar 14) [14]) [a0, a1, a2, a3, a4, some z, a6, a7, some (.int (l : Int)), some (.int (r : Int)), a10, a11, some (.ref p), a13, none] H (Cs (cellsL l r ds)) := by
  refine (evp_lcF (f := fun t => cov ((t / r : Nat) : Int) ((t % r : Nat) : Int) ds) (Pi := fun t => Pr ((t / r : Nat) : Int) ((t % r : Nat) : Int)) (Sg := fun t σ2 H2 => ∃ y, σ2 = [a0, a1, a2, a3, a4, some z, a6, a7, some (.int (l : Int)), some (.int (r : Int)), a10, a11, some (.ref p), a13, some y] ∧ Pr ((t / r : Nat) : Int) ((t % r : Nat) : Int) y H2)
    (wx_list (K := K) (ev_var rfl) hp) (by omega) (fun t y H1 _ e1 hty => g_name (i := 14) ⟨rfl, y, rfl, mono_pr _ _ _ e1 (hy t y hty)⟩) (fun t σ2 H1 _ e1 ⟨y, hs, hpy⟩ => ?_) (fun t σ2 H1 _ e1 ⟨y, hs, hpy⟩ => by subst hs; exact evp_var (i := 14) rfl hpy mono_pr) fun _ => mf_pr).imp fun v H1 _ ⟨p', zs, k1, k2, k3⟩ => ⟨p', zs, k1, k2, ?_⟩
  · subst hs
    refine et_tst (evp_call (sp := spHas) (E := E0) (S := Is (.bl (cov ((t / r : Nat) : Int) ((t % r : Nat) : Int) ds))) (eap_three (P := Va ds) (R := Is (.int ((t / r : Nat) : Int))) (S := Is (.int ((t % r : Nat) : Int))) (evp_var (i := 5) (v := z) rfl (mono_va _ _ _ e1 hz) mono_va) (evp_pr0 (evp_var (i := 14) (v := y) rfl hpy mono_pr)) (evp_pr1 (evp_var (i := 14) (v := y) rfl hpy mono_pr)) mono_va mono_is) fun vs H2 ⟨a, b, c, e, ha, hb, hc⟩ Q q E => ⟨l, r, _, _, a, ds, by rw [e, show b = _ from hb, show c = _ from hc], ha, hok, hf, q⟩)
  · show Paired _ zs (accP (fun i j => cov (i : Int) (j : Int) ds) ((r : Int)).toNat ((l : Int)).toNat)
    rw [Int.toNat_natCast, Int.toNat_natCast, ← pairs_accP _ r hr l]
    rw [hl] at k3
    clear k2 hy hp hl
    revert k3
    generalize ((List.range (l * r)).filter fun t => cov ((t / r : Nat) : Int) ((t % r : Nat) : Int) ds) = js
    intro k3
    induction k3 with
    | nil => exact .nil
    | cons h _ ih => exact .cons h ih
end
end K20
set_option maxHeartbeats 8100000
namespace K20
open PySem PySem.Spec PyProof.Rows L2 Evl RZ Ev2 TA5
abbrev s_law : Stmt := topS 28
abbrev N_law : List Str := ["_law_script", "_law_k", "_law_cell", "_law_state", "_law_turn", "_law_value", "_law_again", "_law_odd", "_law_left", "_law_right", "_law_good", "_law_due_here", "_law_pairs", "_law_at", "_law_pair"]
theorem sc_law : FnScope N_law ["_law_script"] (defScope s_law) := ⟨rfl, rfl, rfl, by decide +kernel, rfl, by decide +kernel, by decide +kernel⟩

def spLaw (K : PySem.W.Frag) : Sp := fun vs H Q _ => ∃ (a0 : Addr) (ns : List Int), vs = [.ref a0] ∧ SqL K H a0 (ns.map V.int) ∧ ns.length ≤ 63 ∧ ∀ H', Q (.bl true) H'
theorem dpAll_ints {K : PySem.W.Frag} {H : Hp} : ∀ ns : List Int, DpAll K H (ns.map V.int) (ns.map PyData.int)
  | [] => .nil
  | n :: ns => .cons (.int n) (dpAll_ints ns)
theorem for_enum {K : PySem.W.Frag} {a : Addr} {xs : List V} {g : TG} {tb : TS} {D : Ends} {σ : L2.St} {H : Hp} (Pv : Nat → L2.St → Hp → Prop) (h0 : Pv 0 σ H) (hl : ∀ i σ H, Pv i σ H → SqL K H a xs)
    (hs : ∀ (i : Nat) (x : V) (T : Addr) (σ : L2.St) (H : Hp), xs[i]? = some x → Pv i σ H → H T = none → g (.ref T) σ (upd H T (.tup [.int (i : Nat), x])) fun σ2 H2 => tb { D with nx := Pv (i + 1), ct := Pv (i + 1), bk := D.nx } σ2 H2) (hd : ∀ σ H, Pv xs.length σ H → D.nx σ H) :
    ∃ W : Nat → Nat → L2.St → Hp → Prop, (∃ m, W 0 m σ H) ∧ ∀ i m σ H, W i m σ H → ((Ite K a).stop i H ∧ D.nx σ H) ∨ ((Ite K a).go i H ∧ ∃ N : L2.St → Hp → Prop, (∀ σ' H', N σ' H' → ∃ m', m' < m ∧ W (i + 1) m' σ' H') ∧ ∀ v H', (Ite K a).yld i H v H' → g v σ H' fun σ2 H2 => tb { D with nx := N, ct := N, bk := D.nx } σ2 H2) := by
  refine ⟨fun i m σ H => m = xs.length - i ∧ i ≤ xs.length ∧ Pv i σ H, ⟨xs.length, rfl, Nat.zero_le _, h0⟩, ?_⟩
  rintro i m σ H ⟨rfl, hi, pv⟩
  have ql := hl i σ H pv
  by_cases hlt : i < xs.length
  · refine .inr ⟨⟨xs, xs[i], ql, List.getElem?_eq_getElem hlt⟩, Pv (i + 1), fun σ' H' p' => ⟨xs.length - (i + 1), by omega, rfl, hlt, p'⟩, fun v H' y => ?_⟩
    obtain ⟨T, x, rfl, hT, rfl, f1⟩ := y
    exact hs i x T σ H (f1 xs ql) pv hT
  · have e : i = xs.length := by omega
    subst e
    exact .inl ⟨⟨xs, ql, Nat.le_refl _⟩, hd σ H pv⟩
section
variable {σ : L2.St} {H : Hp} {s p : Addr} {xs : List Int} {E : XK} {i : Nat} {ta : TE}
def Sz : HP := fun v _ => ∃ m : Nat, v = .int (m : Int) ∧ 1 ≤ m ∧ m ≤ 8
theorem drawI {M : Int} (hs : σ[i]? = some (some (.ref s))) (ha : ∀ H1, EvP ta σ H1 (Is (.int M))) (hm : 1 ≤ M) : EvD s p xs (tCall spDraw [] E (tCons (tVar i) (tCons ta tNil))) σ H (BI fun r => 0 ≤ r ∧ r < M) := fun H1 e d Q q =>
  eap_two (P := Is (.ref s)) (evp_var hs rfl mono_is) (ha H1) mono_is H1 (Ex.refl _) _ fun vs H2 e2 ⟨x, y, hv, hx, hy⟩ => ⟨s, p, xs, M, by rw [hv, show x = .ref s from hx, show y = .int M from hy]; rfl, d.ex e2, hm, fun v H3 g3 d3 h3 => q v H3 ((Gs.of e2).trans g3) d3 h3⟩
theorem sizeD (hs : σ[i]? = some (some (.ref s))) : EvD s p xs (tOp (rI0 fun i j => .int (i + j)) (tC (.int 1)) (tCall spDraw [] E (tCons (tVar i) (tCons (tC (.int 8)) tNil)))) σ H Sz := fun H1 e d Q q =>
  drawI (H := H1) hs (fun _ => evp_c) (by decide) H1 (Gs.refl _ _) d _ fun v H2 g2 d2 ⟨r, hv, hr⟩ => ⟨1, r, rfl, hv, q _ H2 g2 d2 ⟨(1 + r).toNat, by rw [show (((1 + r).toNat : Nat) : Int) = 1 + r by omega], by omega, by omega⟩⟩
theorem tup2 {t1 t2 : TE} {Q : VK} (h : t1 σ H fun x H1 => t2 σ H1 fun y H2 => 2 ≤ sizeLine ∧ ∀ p, H2 p = none → Q (.ref p) (upd H2 p (.tup [x, y]))) : tTup (tCons t1 (tCons t2 tNil)) σ H Q := h
end
section
variable {P : Program} {w : World} {K : PySem.W.Frag} {mg : Str → Option Value} {base : Heap} {tk : Tok} {CV iV CP iP : Addr} {k : Nat}
theorem ok_law {fa f1 f2 f3 f4 f5 f6 f7 f8 f9 : Addr} {fd d1 d2 d3 d4 d5 d6 d7 d8 d9 : FuncData} (T : Txt mg tk)
    (D__law_draw : Df K mg "_law_draw" s_law_draw ["_law_state", "_law_many"] f1 d1) (G__law_draw : FnOk P w K mg base CX0 (k + 1) f1 d1 ["_law_state", "_law_many"] spDraw)
    (D__law_pool : Df K mg "_law_pool" s_law_pool ["_law_cell", "_law_salt", "_law_many"] f2 d2) (G__law_pool : FnOk P w K mg base CX0 (k + 2) f2 d2 ["_law_cell", "_law_salt", "_law_many"] spPool)
    (D__law_where : Df K mg "_law_where" s_law_where ["_law_state", "_law_left", "_law_right"] f3 d3) (G__law_where : FnOk P w K mg base CX0 (k + 2) f3 d3 ["_law_state", "_law_left", "_law_right"] spWhere)
    (D__law_due : Df K mg "_law_due" s_law_due ["_law_left", "_law_right", "_law_value"] f4 d4) (G__law_due : FnOk P w K mg base CX0 (k + 2) f4 d4 ["_law_left", "_law_right", "_law_value"] spDue)
    (D__law_has : Df K mg "_law_has" s_law_has ["_law_where_here", "_law_one", "_law_other"] f5 d5) (G__law_has : FnOk P w K mg base CX0 (k + 1) f5 d5 ["_law_where_here", "_law_one", "_law_other"] spHas)
    (D_is_where : Df K mg "is_where" s_is_where ["left", "right", "value"] f6 d6) (G_is_where : FnOk P w K mg base (L2.CX P w) (k + 6) f6 d6 ["left", "right", "value"] (spIsWhere CV))
    (D__law_told : Df K mg "_law_told" s_law_told ["_law_left", "_law_right", "_law_value"] f7 d7) (G__law_told : FnOk P w K mg base CX0 (k + 8) f7 d7 ["_law_left", "_law_right", "_law_value"] spTold)
    (D__law_is : Df K mg "_law_is" s_law_is ["_law_left", "_law_right", "_law_value"] f8 d8) (G__law_is : FnOk P w K mg base CX0 (k + 7) f8 d8 ["_law_left", "_law_right", "_law_value"] spIs)
    (D__law_bent : Df K mg "_law_bent" s_law_bent ["_law_state", "_law_value"] f9 d9) (G__law_bent : FnOk P w K mg base CX0 (k + 2) f9 d9 ["_law_state", "_law_value"] spBent)
    (D : Df K mg "law" s_law ["_law_script"] fa fd) : FnOk P w K mg base CX0 (k + 9) fa fd ["_law_script"] (spLaw K) := by
  refine D.F.ok sc_law (fun vs H Q E hh => ?_) (fun cdv A outer s H vs Q E hr hh => ?_)
  · obtain ⟨a0, ns, rfl, _⟩ := hh
    rfl
  · obtain ⟨a0, ns, rfl, hS, hlen, q⟩ := hh
    have nd := sc_law.nd
    refine ⟨_, (pss_cons (ps_for PassesOwn.never rfl (pi_enum (by rfl) T.n_enumerate (pa_cons (pe_op op_cat (pe_slice (r := rSlL K) sl_list (pv 0) po_none (po_some pe_int)) (pe_op op_rep (pe_lst (pa_cons pe_int pa_nil)) (pe_callTy call_int1 (by rfl) T.n_int PyProof.Rows.boot_int (pa_cons (pe_cmpR (r := rEqD K) (op_eqD hr.units) (pv 0) (pe_lst pa_nil) (nomark _)) pa_nil)))) pa_nil)) (pg_tup rfl (pgs_cons (pg_name (i := 1) nd rfl (Or.inl rfl)) (pgs_cons (pg_name (i := 2) nd rfl (Or.inl rfl)) pgs_nil))) (pss_cons (ps_set (i := 3) nd rfl (Or.inl rfl) (pe_call G__law_pool (hr.mono (by omega)) (by rfl) D__law_pool.g D__law_pool.F.kp D__law_pool.b .nil pass0 (pa_cons (pv 2) (pa_cons (pe_op op_add pe_int (pv 1)) (pa_cons pe_int pa_nil))))) (pss_one (ps_for PassesOwn.never rfl (pi_range1 (by rfl) T.n_range (pa_cons pe_int pa_nil)) (pg_name (i := 4) nd rfl (Or.inl rfl)) (pss_cons (ps_asg (pe_tup (pa_cons (pe_op op_add pe_int (pe_call G__law_draw (hr.mono (by omega)) (by rfl) D__law_draw.g D__law_draw.F.kp D__law_draw.b .nil pass0 (pa_cons (pv 3) (pa_cons pe_int pa_nil)))) (pa_cons (pe_op op_add pe_int (pe_call G__law_draw (hr.mono (by omega)) (by rfl) D__law_draw.g D__law_draw.F.kp D__law_draw.b .nil pass0 (pa_cons (pv 3) (pa_cons pe_int pa_nil)))) pa_nil))) (pg_tup rfl (pgs_cons (pg_name (i := 8) nd rfl (Or.inl rfl)) (pgs_cons (pg_name (i := 9) nd rfl (Or.inr rfl)) pgs_nil)))) (pss_cons (ps_set (i := 5) nd rfl (Or.inr rfl) (pe_call G__law_where (hr.mono (by omega)) (by rfl) D__law_where.g D__law_where.F.kp D__law_where.b .nil pass0 (pa_cons (pv 3) (pa_cons (pv 8) (pa_cons (pv 9) pa_nil))))) (pss_cons (ps_for PassesOwn.never rfl (pi_range1 (by rfl) T.n_range (pa_cons pe_int pa_nil)) (pg_name (i := 6) nd rfl (Or.inl rfl)) (pss_cons (ps_set (i := 10) nd rfl (Or.inl rfl) (pe_call G__law_due (hr.mono (by omega)) (by rfl) D__law_due.g D__law_due.F.kp D__law_due.b .nil pass0 (pa_cons (pv 8) (pa_cons (pv 9) (pa_cons (pv 5) pa_nil))))) (pss_cons (ps_set (i := 11) nd rfl (Or.inl rfl) (pe_lst (pa_cons pe_str (pa_cons (pv 5) pa_nil)))) (pss_cons (ps_if (pt_val (pv 10)) (pss_cons (ps_setLc (i := 12) (wi := iRng1 _) (g := gName 13) (own := [("_law_at", 13)]) (by rfl) nd rfl rfl (by rfl) (pi_range1 (by rfl) T.n_range (pa_cons (pe_op op_mul (pv 8) (pv 9)) pa_nil)) (blkOk_by (by kernel_rfl)) (fun _ _ _ _ _ => (pg_name (i := 13) nd rfl (Or.inl rfl))) (fun _ _ _ _ _ => pts_nil) (fun _ _ _ _ _ => (pe_tup (pa_cons (pe_op op_fdivN (pe_callTy call_int1 (by rfl) T.n_int PyProof.Rows.boot_int (pa_cons (pv 13) pa_nil)) (pv 9)) (pa_cons (pe_op op_modN (pe_callTy call_int1 (by rfl) T.n_int PyProof.Rows.boot_int (pa_cons (pv 13) pa_nil)) (pv 9)) pa_nil))))) (pss_one (ps_setLc (i := 11) (wi := iList K _) (g := gName 14) (own := [("_law_pair", 14)]) (by rfl) nd rfl rfl (by rfl) (pi_list (pv 12)) (blkOk_by (by kernel_rfl)) (fun _ _ _ _ _ => (pg_name (i := 14) nd rfl (Or.inl rfl))) (fun _ _ _ _ _ => (pts_one (pt_val (pe_call G__law_has (hr.mono (by omega)) (by rfl) D__law_has.g D__law_has.F.kp D__law_has.b .nil pass0 (pa_cons (pv 5) (pa_cons (pe_ix (r := rIxT K) ix_tup (pv 14) pe_int (fun _ _ => rfl)) (pa_cons (pe_ix (r := rIxT K) ix_tup (pv 14) pe_int (fun _ _ => rfl)) pa_nil))))))) (fun _ _ _ _ _ => (pv 14))))) pss_nil) (pss_cons (ps_if (PW.pt (pw_or (pt_cmpR op_ne (pe_callS G_is_where (hr.mono (by omega)) (by rfl) D_is_where.g D_is_where.F.kp D_is_where.b (fun σ => passAt (W := fun _ _ _ _ => False) takes0 σ) (pa_cons (pv 8) (pa_cons (pv 9) (pa_cons (pv 5) pa_nil)))) (pv 10) (nomark _)) (pw_or1 (pt_cmpR (op_neD hr.units) (pe_call G__law_told (hr.mono (by omega)) (by rfl) D__law_told.g D__law_told.F.kp D__law_told.b .nil pass0 (pa_cons (pv 8) (pa_cons (pv 9) (pa_cons (pv 5) pa_nil)))) (pv 11) (nomark _))))) (pss_one (ps_ret pe_bl)) pss_nil) (pss_one (ps_set (i := 5) nd rfl (Or.inr rfl) (pe_ifExp (pt_cmpR (op_neD hr.units) (pv 5) (pe_tup pa_nil) (nomark _)) (pe_call G__law_bent (hr.mono (by omega)) (by rfl) D__law_bent.g D__law_bent.F.kp D__law_bent.b .nil pass0 (pa_cons (pv 3) (pa_cons (pv 5) pa_nil))) (pe_tup (pa_cons pe_str (pa_cons pe_str pa_nil))))))))))) (pss_one (ps_for PassesOwn.never rfl (pi_list (pe_lst (pa_cons pe_int (pa_cons pe_int (pa_cons (pe_un un_neg pe_int) (pa_cons pe_bl (pa_cons pe_non (pa_cons pe_str pa_nil)))))))) (pg_name (i := 7) nd rfl (Or.inl rfl)) (pss_cons (ps_if (PW.pt (pw_or (pt_cmpR (op_neD hr.units) (pe_call G__law_told (hr.mono (by omega)) (by rfl) D__law_told.g D__law_told.F.kp D__law_told.b .nil pass0 (pa_cons (pv 7) (pa_cons (pv 9) (pa_cons (pe_tup (pa_cons pe_str pa_nil)) pa_nil)))) (pe_lst (pa_cons pe_str (pa_cons (pv 7) pa_nil))) (nomark _)) (pw_or1 (pt_cmpR (op_neD hr.units) (pe_call G__law_told (hr.mono (by omega)) (by rfl) D__law_told.g D__law_told.F.kp D__law_told.b .nil pass0 (pa_cons (pv 8) (pa_cons (pv 7) (pa_cons pe_non pa_nil)))) (pe_lst (pa_cons pe_str (pa_cons (pv 7) pa_nil))) (nomark _))))) (pss_one (ps_ret pe_bl)) pss_nil) (pss_one (ps_if (PW.pt (pw_or (pt_cmpR (op_neD hr.units) (pe_call G__law_is (hr.mono (by omega)) (by rfl) D__law_is.g D__law_is.F.kp D__law_is.b .nil pass0 (pa_cons (pv 7) (pa_cons (pv 9) (pa_cons pe_non pa_nil)))) (pe_lst (pa_cons pe_str (pa_cons (pv 7) pa_nil))) (nomark _)) (pw_or1 (pt_cmpR (op_neD hr.units) (pe_call G__law_is (hr.mono (by omega)) (by rfl) D__law_is.g D__law_is.F.kp D__law_is.b .nil pass0 (pa_cons (pv 8) (pa_cons (pv 7) (pa_cons (pe_tup (pa_cons pe_str pa_nil)) pa_nil)))) (pe_lst (pa_cons pe_str (pa_cons (pv 7) pa_nil))) (nomark _))))) (pss_one (ps_ret pe_bl)) pss_nil)))))))))))) (pss_one (ps_ret pe_bl))), ?_⟩
    -- the list that is walked
    refine ⟨.ref a0, rfl, 8, rfl, a0, _, rfl, hS, fun p1 hp1 => ?_⟩
    have e1 : Evl.Ex H (upd H p1 (.lst (cutV (ns.map V.int) none (some 8)))) := Ex.new hp1
    have l1 : (upd H p1 (.lst (cutV (ns.map V.int) none (some 8)))) p1 = some (.lst (cutV (ns.map V.int) none (some 8))) := upd_same
    generalize upd H p1 (.lst (cutV (ns.map V.int) none (some 8))) = H1 at e1 l1
    refine ⟨by decide, fun p2 hp2 => ?_⟩
    have e2 : Evl.Ex H1 (upd H1 p2 (.lst [.int 7])) := Ex.new hp2
    have l2 : (upd H1 p2 (.lst [.int 7])) p2 = some (.lst [.int 7]) := upd_same
    generalize upd H1 p2 (.lst [.int 7]) = H2 at e2 l2
    refine ⟨.ref a0, rfl, by decide, fun p3 hp3 => ?_⟩
    have e3 : Evl.Ex H2 (upd H2 p3 (.lst [])) := Ex.new hp3
    have l3 : (upd H2 p3 (.lst [])) p3 = some (.lst []) := upd_same
    generalize upd H2 p3 (.lst []) = H3 at e3 l3
    refine ⟨.list (ns.map PyData.int), .list [], .lst (ex_l ((e1.trans e2).trans e3) hS) (dpAll_ints ns), .lst (sq_of l3) .nil, ints_sh ns, rfl, ?_⟩
    generalize PyData.eqv (.list (ns.map PyData.int)) (.list []) = bb
    refine .inr ⟨bb, rfl, p2, _, [.int 7], rfl, rfl, e3 _ _ l2, by cases bb <;> decide, by cases bb <;> decide, by cases bb <;> decide, fun p4 hp4 => ?_⟩
    have l4 : (upd H3 p4 (.lst (List.replicate (Int.toNat (if bb = true then 1 else 0)) [V.int 7]).flatten)) p4 = some (.lst (List.replicate (Int.toNat (if bb = true then 1 else 0)) [V.int 7]).flatten) := upd_same
    have e4 : Evl.Ex H3 (upd H3 p4 (.lst (List.replicate (Int.toNat (if bb = true then 1 else 0)) [V.int 7]).flatten)) := Ex.new hp4
    have hz4 : ∀ x ∈ (List.replicate (Int.toNat (if bb = true then 1 else 0)) [V.int 7]).flatten, ∃ c : Int, x = .int c := fun x hx => by
      cases bb <;> simp at hx; exact ⟨7, hx⟩
    have hl4 : (List.replicate (Int.toNat (if bb = true then 1 else 0)) [V.int 7]).flatten.length ≤ 1 := by cases bb <;> decide
    generalize (List.replicate (Int.toNat (if bb = true then 1 else 0)) [V.int 7]).flatten = zs4 at l4 e4 hz4 hl4
    generalize upd H3 p4 (.lst zs4) = H4 at l4 e4
    have hz1 : ∀ x ∈ cutV (ns.map V.int) none (some 8), ∃ c : Int, x = .int c := fun x hx => by
      have := List.mem_of_mem_drop (List.mem_of_mem_take hx)
      obtain ⟨c, _, e⟩ := List.mem_map.mp this
      exact ⟨c, e.symm⟩
    have hl1 : (cutV (ns.map V.int) none (some 8)).length ≤ 63 := by
      unfold cutV
      simp only [List.length_take, List.length_drop, List.length_map]
      omega
    generalize cutV (ns.map V.int) none (some 8) = zs1 at hz1 hl1 l1
    refine ⟨p1, p4, zs1, zs4, rfl, rfl, ((e2.trans e3).trans e4) _ _ l1, l4, sz_of (by omega), fun p5 hp5 => ?_⟩
    have l5 : (upd H4 p5 (.lst (zs1 ++ zs4))) p5 = some (.lst (zs1 ++ zs4)) := upd_same
    have hz5 : ∀ x ∈ zs1 ++ zs4, ∃ c : Int, x = .int c := fun x hx => (List.mem_append.mp hx).elim (hz1 x) (hz4 x)
    have hl5 : (zs1 ++ zs4).length ≤ 64 := by rw [List.length_append]; omega
    generalize zs1 ++ zs4 = zs at l5 hz5 hl5
    generalize upd H4 p5 (.lst zs) = H5 at l5
    refine ⟨p5, zs, rfl, sq_of l5, ?_⟩
    refine for_enum (fun i σ H' => ∃ s1 s2 s3 s4 s5 s6 s7 s8 s9 s10 s11 s12, σ = [some (.ref a0), s1, s2, s3, s4, s5, s6, s7, s8, s9, s10, s11, s12, none, none] ∧ H' p5 = some (.lst zs)) ⟨_, _, _, _, _, _, _, _, _, _, _, _, rfl, l5⟩ (fun i σ H' ⟨_, _, _, _, _, _, _, _, _, _, _, _, _, hl⟩ => sq_of hl) (fun i x T σ H' hx ⟨s1, s2, s3, s4, s5, s6, s7, s8, s9, s10, s11, s12, hs, hl⟩ hT => ?_) (fun σ H' _ => q H')
    obtain ⟨c, rfl⟩ := hz5 x (List.mem_of_getElem? hx)
    subst hs
    have hi : i < 64 := by have := (List.getElem?_eq_some_iff.mp hx).1; omega
    have hTl : (upd H' T (.tup [.int (i : Int), .int c])) p5 = some (.lst zs) := Ex.new hT _ _ hl
    have hTT : (upd H' T (.tup [.int (i : Int), .int c])) T = some (.tup [.int (i : Int), .int c]) := upd_same
    generalize upd H' T (.tup [.int (i : Int), .int c]) = H6 at hTl hTT
    refine ⟨T, _, rfl, st_of hTT, rfl, _, _, rfl, _, _, rfl, rfl, ?_⟩
    -- the state
    refine ⟨_, rfl, _, rfl, 2000, (i : Int), rfl, rfl, c, 2000 + (i : Int), 200, rfl, ⟨by omega, by omega⟩, by decide, fun s H7 e7 hs0 ⟨p, xs, d7⟩ => ?_⟩
    have hps : p5 ≠ s := fun z => by rw [← z, hTl] at hs0; cases hs0
    refine s_forR1 (n := 10) (ea_cons ev_c ea_nil) (by decide) (fun j σ H' => ∃ s4 s5 s6 s7 s8 s9 s10 s11 s12, σ = [some (.ref a0), some (.int (i : Int)), some (.int c), some (.ref s), s4, s5, s6, s7, s8, s9, s10, s11, s12, none, none] ∧ Dr s p xs H' ∧ H' p5 = some (.lst zs))
      (fun H8 e8 => ⟨_, _, _, _, _, _, _, _, _, rfl, d7.ex e8, (e7.trans e8) _ _ hTl⟩) (fun j σ H' hj ⟨s4, s5, s6, s7, s8, s9, s10, s11, s12, hs, d, hl⟩ => ?_) (fun σ H' ⟨s4, s5, s6, s7, s8, s9, s10, s11, s12, hs, d, hl⟩ => ⟨_, _, _, _, _, _, _, _, _, _, _, _, hs, hl⟩)
    subst hs
    clear hT hTT hx e7 d7
    -- the sizes
    refine q_asgG (tup2 (sizeD (p := p) (xs := xs) (i := 3) rfl H' (Gs.refl _ _) d _ fun v8 H8 g8 d8 ⟨l, hv8, hl1', hl8⟩ => sizeD (p := p) (xs := xs) (i := 3) rfl H8 (Gs.refl _ _) d8 _ fun v9 H9 g9 d9 ⟨r, hv9, hr1', hr8⟩ => ?_))
    subst hv8
    subst hv9
    refine ⟨sz_of (show 2 ≤ 100000 by decide), fun pt hpt => ⟨pt, _, rfl, st_of upd_same, rfl, _, _, rfl, _, _, rfl, rfl, ?_⟩⟩
    have e10 : Evl.Ex H9 (upd H9 pt (.tup [.int (l : Int), .int (r : Int)])) := Ex.new hpt
    have d10 := d9.ex e10
    have hl10 := e10 _ _ (g9 _ _ hps (g8 _ _ hps hl))
    generalize upd H9 pt (.tup [.int (l : Int), .int (r : Int)]) = H10 at e10 d10 hl10
    -- the first value
    refine q_asgD ⟨_, rfl, _, rfl, _, rfl, s, p, xs, l, r, rfl, d10, ⟨hl1', hl8⟩, ⟨hr1', hr8⟩, fun v5 H11 g11 d11 ⟨ds, hz, hok, hds3⟩ => ?_⟩
    have hl11 := g11 _ _ hps hl10
    clear d d8 d9 d10 g8 g9 g11 e10 hl10 hpt hl
    refine q_forR1 (n := 3) (ea_cons ev_c ea_nil) (by decide) (fun m σ H' => ∃ z s6 s10 s11 s12 ds, σ = [some (.ref a0), some (.int (i : Int)), some (.int c), some (.ref s), some (.int (j : Int)), some z, s6, s7, some (.int (l : Int)), some (.int (r : Int)), s10, s11, s12, none, none] ∧ Dr s p xs H' ∧ H' p5 = some (.lst zs) ∧ Va ds z H' ∧ OkV ds ∧ ds.length ≤ 3 + m)
      (fun H12 e12 => ⟨v5, _, _, _, _, ds, rfl, d11.ex e12, e12 _ _ hl11, mono_va _ _ _ e12 hz, hok, hds3⟩) (fun m σ H' hm ⟨z, s6, s10, s11, s12, ds, hs, d, hl, hz, hok, hdm⟩ => ?_) (fun σ H' ⟨z, s6, s10, s11, s12, ds, hs, d, hl, hz, hok, hdm⟩ => ?_)
    · subst hs
      clear hz5 hl5 hS l5 hTl hs0 d11 hl11 hds3
      -- what is due
      refine q_asgD ⟨_, rfl, _, rfl, _, rfl, l, r, z, ds, rfl, hz, hok, fun v10 H12 e12 hv10 => ?_⟩
      subst hv10
      refine q_asgP (evp_msg (m := "fact") (x := z) (i := 5) rfl) fun v11 H13 e13 hv11 => ?_
      have e13' := e12.trans e13
      -- the body from the test on
      have rest : ∀ (tz : TS) (D : Ends) (v11 : V) (s12 : Option V) (H14 : Hp), Evl.Ex H' H14 → Du (form l r ds) z ds (cellsL l r ds) v11 H14 → (∀ H15, Evl.Ex H' H15 → tz D [some (.ref a0), some (.int (i : Int)), some (.int c), some (.ref s), some (.int (j : Int)), some z, some (.int (m : Int)), s7, some (.int (l : Int)), some (.int (r : Int)), some (.bl (form l r ds)), some v11, s12, none, none] H15) →
          tSeq (tIfS (tOr (tTest (tOp rNe (tCallS (spIsWhere CV) (fun σ => WE (fun _ _ _ _ => False) σ) (tCons (tVar 8) (tCons (tVar 9) (tCons (tVar 5) tNil)))) (tVar 10))) (tTest (tOp (rNeD K) (tCall spTold [] E0 (tCons (tVar 8) (tCons (tVar 9) (tCons (tVar 5) tNil)))) (tVar 11)))) (tRet (tC (.bl false))) tNext) tz D
            [some (.ref a0), some (.int (i : Int)), some (.int c), some (.ref s), some (.int (j : Int)), some z, some (.int (m : Int)), s7, some (.int (l : Int)), some (.int (r : Int)), some (.bl (form l r ds)), some v11, s12, none, none] H14 := fun tz D v11 s12 H14 e14 hd k => by
        have hz14 := mono_va _ _ _ e14 hz
        have v8 : EvP (tVar 8) [some (.ref a0), some (.int (i : Int)), some (.int c), some (.ref s), some (.int (j : Int)), some z, some (.int (m : Int)), s7, some (.int (l : Int)), some (.int (r : Int)), some (.bl (form l r ds)), some v11, s12, none, none] H14 (Is (.int (l : Int))) := evp_var rfl rfl mono_is
        have v9 : EvP (tVar 9) [some (.ref a0), some (.int (i : Int)), some (.int c), some (.ref s), some (.int (j : Int)), some z, some (.int (m : Int)), s7, some (.int (l : Int)), some (.int (r : Int)), some (.bl (form l r ds)), some v11, s12, none, none] H14 (Is (.int (r : Int))) := evp_var rfl rfl mono_is
        have v5 : EvP (tVar 5) [some (.ref a0), some (.int (i : Int)), some (.int c), some (.ref s), some (.int (j : Int)), some z, some (.int (m : Int)), s7, some (.int (l : Int)), some (.int (r : Int)), some (.bl (form l r ds)), some v11, s12, none, none] H14 (fun v H => v = z ∧ Va ds z H) := evp_var rfl ⟨rfl, hz14⟩ fun _ _ _ e ⟨h1, h2⟩ => ⟨h1, mono_va _ _ _ e h2⟩
        refine q_when (b := false) (et_or (a := false) (b := false) (et_tst (evp_is (evp_ne (is_du (CV := CV) ⟨hl1', hl8⟩ ⟨hr1', hr8⟩ hok v8 v9 v5) (evp_var rfl rfl mono_is) rfl) (by rw [decide_eq_true rfl]; rfl))) fun _ => e_du hok (told_du ⟨hl1', hl8⟩ ⟨hr1', hr8⟩ hok v8 v9 v5) (evp_var rfl hd mono_du)) (fun z => nomatch z) fun _ H15 e15 => k H15 (e14.trans e15)
      -- the next value
      have next : ∀ (D : Ends) (v11 : V) (s12 : Option V) (H15 : Hp), Evl.Ex H' H15 → (∀ (z' : V) (H16 : Hp), Dr s p xs H16 → H16 p5 = some (.lst zs) → (∃ ds', Va ds' z' H16 ∧ OkV ds' ∧ ds'.length ≤ 3 + (m + 1)) → D.nx [some (.ref a0), some (.int (i : Int)), some (.int c), some (.ref s), some (.int (j : Int)), some z', some (.int (m : Int)), s7, some (.int (l : Int)), some (.int (r : Int)), some (.bl (form l r ds)), some v11, s12, none, none] H16) →
          tAsg (tIf (tTest (tOp (rNeD K) (tVar 5) (tTup tNil))) (tCall spBent [] E0 (tCons (tVar 3) (tCons (tVar 5) tNil))) (tTup (tCons (tC (.str "all")) (tCons (tC (.str "all")) tNil)))) (gName 5) D
            [some (.ref a0), some (.int (i : Int)), some (.int c), some (.ref s), some (.int (j : Int)), some z, some (.int (m : Int)), s7, some (.int (l : Int)), some (.int (r : Int)), some (.bl (form l r ds)), some v11, s12, none, none] H15 := fun D v11 s12 H15 e15 k => by
        have hz15 := mono_va _ _ _ e15 hz
        have ht : EvT (tTest (tOp (rNeD K) (tVar 5) (tTup tNil))) [some (.ref a0), some (.int (i : Int)), some (.int c), some (.ref s), some (.int (j : Int)), some z, some (.int (m : Int)), s7, some (.int (l : Int)), some (.int (r : Int)), some (.bl (form l r ds)), some v11, s12, none, none] H15 (!ds.isEmpty) := et_tst (evp_is (evp_neD (K := K) (P := Va ds) (R := Ts []) (d := .tuple ds) (e := .tuple []) (evp_var rfl hz15 mono_va) (evp_ofU (eu_tup ea_nil (by decide))) mono_va (fun _ _ h => va_dp h) (fun v H1 ⟨p, h1, h2⟩ => by subst h1; exact .tup (st_of h2) .nil) hok.sh rfl) (by show V.bl (!PyData.eqvAll ds []) = _; rw [eqvAll_nil]))
        refine ht H15 (Ex.refl _) _ fun H16 e16 => ?_
        have e0 := e15.trans e16
        cases he : ds.isEmpty with
        | false =>
          have hd1 : 1 ≤ ds.length := by cases ds <;> first | (cases he; done) | (rw [List.length_cons]; omega)
          refine ⟨_, rfl, _, rfl, s, p, xs, z, ds, rfl, d.ex e0, mono_va _ _ _ e0 hz, hok, hd1, by omega, fun v H17 g17 d17 ⟨ds', h1, h2, h3⟩ => ?_⟩
          exact k v H17 d17 (g17 _ _ hps (e0 _ _ hl)) ⟨ds', h1, h2, by omega⟩
        | true =>
          refine ⟨sz_of (show 2 ≤ 100000 by decide), fun b hb => ?_⟩
          have e17 := Ex.new (o := .tup [.str "all", .str "all"]) hb
          refine k (.ref b) _ (d.ex (e0.trans e17)) ((e0.trans e17) _ _ hl) ⟨[.str "all", .str "all"], ⟨b, _, rfl, upd_same, .cons (.flat rfl) (.cons (.flat rfl) .nil)⟩, ⟨by show 2 ≤ 50; decide, fun d hd => ?_⟩, by show 2 ≤ 3 + (m + 1); omega⟩
          rcases List.mem_cons.mp hd with rfl | hd
          · decide +kernel
          · rw [List.mem_singleton.mp hd]; decide +kernel
      refine q_when (b := form l r ds) (et_tst (evp_var rfl rfl mono_is)) (fun hf H14 e14 => ?_) (fun hf H14 e14 => ?_)
      · have e14' := e13'.trans e14
        refine q_asgP (evp_lc (vs := [13]) (g := gName 13) (n := l * r) (Pi := fun t => Pr ((t / r : Nat) : Int) ((t % r : Nat) : Int)) (wi_rng (ta := tCons (tOp (rI CMul fun i j => .int (i * j)) (tVar 8) (tVar 9)) tNil) (n := l * r) (EvAP.one1 (eap_one (evp_is (evp_I (C := CMul) (g := fun i j => .int (i * j)) (evp_var (i := 8) (v := .int (l : Int)) rfl rfl mono_is) (evp_var (i := 9) (v := .int (r : Int)) rfl rfl mono_is) (.inl ⟨by omega, by omega⟩)) (by rw [Int.natCast_mul])))) (by have := Nat.mul_le_mul hl8 hr8; omega)) (by have := Nat.mul_le_mul hl8 hr8; omega)
          (Sg := fun t σ2 _ => σ2 = [some (.ref a0), some (.int (i : Int)), some (.int c), some (.ref s), some (.int (j : Int)), some z, some (.int (m : Int)), s7, some (.int (l : Int)), some (.int (r : Int)), some (.bl (form l r ds)), some v11, s12, some (.int (t : Int)), none]) (fun t y H15 _ _ hy => by subst hy; exact g_name (i := 13) ⟨rfl, rfl⟩)
          (fun t σ2 H15 _ _ hs => by subst hs; exact evp_fdm hr1' hr8 (evp_int1 (evp_var (i := 13) rfl rfl mono_is)) (evp_var (i := 9) rfl rfl mono_is) (evp_int1 (evp_var (i := 13) rfl rfl mono_is)) (evp_var (i := 9) rfl rfl mono_is)) fun _ => mf_pr) fun v12 H15 e15 ⟨pp, ys, hv12, hpp, hyl, hys⟩ => ?_
        subst hv12
        have e15' := e14'.trans e15
        refine evp_pick (K := K) (ds := ds) (ys := ys) hr1' (by have := Nat.mul_le_mul hl8 hr8; omega) hok hf (mono_va _ _ _ e15' hz) hpp hyl hys H15 (Ex.refl _) _ fun v11' H16 e16 hcs => ?_
        refine rest _ _ v11' _ H16 (e15'.trans e16) (by rw [hf]; exact hcs) fun H17 e17 => next _ v11' _ H17 e17 fun z' H18 d18 h18 ⟨ds', k1, k2, k3⟩ => ⟨z', _, _, _, _, ds', rfl, d18, h18, k1, k2, k3⟩
      · have e14' := e13'.trans e14
        refine rest _ _ v11 _ H14 e14' (by rw [hf]; exact ⟨mono_ls _ _ _ e14 hv11, mono_va _ _ _ e14' hz⟩) fun H17 e17 => next _ v11 _ H17 e17 fun z' H18 d18 h18 ⟨ds', k1, k2, k3⟩ => ⟨z', _, _, _, _, ds', rfl, d18, h18, k1, k2, k3⟩
    · -- sizes that are none
      subst hs
      refine s_forNL (xs := [.int 0, .int 9, .int (-1), .bl true, .non, .str "1"]) (el_lst (ea_cons ev_c (ea_cons ev_c (ea_cons (ev_un ev_c ru_neg) (ea_cons ev_c (ea_cons ev_c (ea_cons ev_c ea_nil)))))) (show 6 ≤ 100000 by decide)) (fun po m σ H' => ∃ s7, σ = [some (.ref a0), some (.int (i : Int)), some (.int c), some (.ref s), some (.int (j : Int)), some z, s6, s7, some (.int (l : Int)), some (.int (r : Int)), s10, s11, s12, none, none] ∧ Dr s p xs H' ∧ H' p5 = some (.lst zs) ∧ H' po = some (.lst [.int 0, .int 9, .int (-1), .bl true, .non, .str "1"]))
        (fun po H12 _ e12 h12 => ⟨_, rfl, d.ex e12, e12 _ _ hl, h12⟩) (fun po m σ' H' _ ⟨_, _, _, _, h⟩ => sq_of h) (fun po m x σ' H12 hx' ⟨s7, hs, d12, hl12, hpo⟩ => ?_) (fun po σ' H' ⟨s7, hs, d12, hl12, _⟩ => ⟨_, _, _, _, _, _, _, _, _, hs, d12, hl12⟩)
      subst hs
      obtain ⟨dx, hfx, hbad, hsh⟩ := odd_at hx'
      have go : ∀ (σ : L2.St) (H12 : Hp) (tu1 tu2 : TS) (D : Ends), σ[7]? = some (some x) → σ[8]? = some (some (.int (l : Int))) → σ[9]? = some (some (.int (r : Int))) → (∀ H13, Evl.Ex H12 H13 → D.nx σ H13) →
          tSeq (tIfS (tOr (tTest (tOp (rNeD K) (tCall spTold [] E0 (tCons (tVar 7) (tCons (tVar 9) (tCons (tTup (tCons (tC (.str "all")) tNil)) tNil)))) (tLst (tCons (tC (.str "number")) (tCons (tVar 7) tNil))))) (tTest (tOp (rNeD K) (tCall spTold [] E0 (tCons (tVar 8) (tCons (tVar 7) (tCons (tC .non) tNil)))) (tLst (tCons (tC (.str "number")) (tCons (tVar 7) tNil)))))) tu1 tNext)
            (tIfS (tOr (tTest (tOp (rNeD K) (tCall spIs [] E0 (tCons (tVar 7) (tCons (tVar 9) (tCons (tC .non) tNil)))) (tLst (tCons (tC (.str "number")) (tCons (tVar 7) tNil))))) (tTest (tOp (rNeD K) (tCall spIs [] E0 (tCons (tVar 8) (tCons (tVar 7) (tCons (tTup (tCons (tC (.str "all")) tNil)) tNil)))) (tLst (tCons (tC (.str "number")) (tCons (tVar 7) tNil)))))) tu2 tNext) D σ H12 := fun σ H12 tu1 tu2 D h7 h8 h9 k => by
        have v7 : ∀ {H'}, EvP (tVar 7) σ H' (Is x) := evp_var h7 rfl mono_is
        have v8 : ∀ {H'}, EvP (tVar 8) σ H' (Is (.int (l : Int))) := evp_var h8 rfl mono_is
        have v9 : ∀ {H'}, EvP (tVar 9) σ H' (Is (.int (r : Int))) := evp_var h9 rfl mono_is
        have al : ∀ {H'}, EvP (tTup (tCons (tC (.str "all")) tNil)) σ H' (Ts [.str "all"]) := evp_ofU (eu_tup (ea_cons ev_c ea_nil) (show 1 ≤ 100000 by decide))
        refine q_when (b := false) (et_or (a := false) (b := false) (e_same hfx hsh (told_left (C := CV) (CF := CV) hfx hbad (y := .int r) (dy := .int r) rfl v7 v9 al) (evp_msg h7)) fun _ => e_same hfx hsh (told_right (C := CV) (CF := CV) (x := .int l) (d := .int l) rfl (isSz_nat hl1' hl8) hfx hbad v8 v7 (evp_c (v := .non))) (evp_msg h7)) (fun z => nomatch z) fun _ H13 e13 => ?_
        exact s_when (b := false) (et_or (a := false) (b := false) (e_same hfx hsh (is_left hfx hbad (y := .int r) (dy := .int r) rfl v7 v9 (evp_c (v := .non))) (evp_msg h7)) fun _ => e_same hfx hsh (is_right (x := .int l) (d := .int l) rfl (isSz_nat hl1' hl8) hfx hbad v8 v7 al) (evp_msg h7)) (fun z => nomatch z) fun _ H14 e14 => k H14 (e13.trans e14)
      exact go [some (.ref a0), some (.int (i : Int)), some (.int c), some (.ref s), some (.int (j : Int)), some z, s6, some x, some (.int (l : Int)), some (.int (r : Int)), s10, s11, s12, none, none] H12 _ _ _ rfl rfl rfl fun H13 e13 => ⟨_, rfl, d12.ex e13, e13 _ _ hl12, e13 _ _ hpo⟩
end
end K20
namespace K20
open PySem PySem.Spec PyProof.Rows L2 Evl RZ Ev2 TA5
theorem all_mk {l : PySem.W.OpenLaw} {w : World} {K : PySem.W.Frag} {h : Heap} {mg : Str → Option Value} {fa : Addr} (X : K.In h) (G : h.Ns mainGlobals mg) (hfa : mg "law" = some (.ref fa))
    {tk : Tok}
    {f_is_whole : Addr} {od_is_whole an_is_whole : Option Addr} {sl_is_whole : Array (Option Value)} {oc_is_whole kV_is_whole dc_is_whole pm_is_whole cd_is_whole ct_is_whole : Value}
    {f_is_below : Addr} {od_is_below an_is_below : Option Addr} {sl_is_below : Array (Option Value)} {oc_is_below kV_is_below dc_is_below pm_is_below cd_is_below ct_is_below : Value}
    {f_is_size : Addr} {od_is_size an_is_size : Option Addr} {sl_is_size : Array (Option Value)} {oc_is_size kV_is_size dc_is_size pm_is_size cd_is_size ct_is_size : Value}
    {f_check_sizes : Addr} {od_check_sizes an_check_sizes : Option Addr} {sl_check_sizes : Array (Option Value)} {oc_check_sizes kV_check_sizes dc_check_sizes pm_check_sizes cd_check_sizes ct_check_sizes : Value}
    {f_is_ascending : Addr} {od_is_ascending an_is_ascending : Option Addr} {sl_is_ascending : Array (Option Value)} {oc_is_ascending kV_is_ascending dc_is_ascending pm_is_ascending cd_is_ascending ct_is_ascending : Value}
    {f_is_values : Addr} {od_is_values an_is_values : Option Addr} {sl_is_values : Array (Option Value)} {oc_is_values kV_is_values dc_is_values pm_is_values cd_is_values ct_is_values : Value}
    {f_has_where_form : Addr} {od_has_where_form an_has_where_form : Option Addr} {sl_has_where_form : Array (Option Value)} {oc_has_where_form kV_has_where_form dc_has_where_form pm_has_where_form cd_has_where_form ct_has_where_form : Value}
    {f_is_where : Addr} {od_is_where an_is_where : Option Addr} {sl_is_where : Array (Option Value)} {oc_is_where kV_is_where dc_is_where pm_is_where cd_is_where ct_is_where : Value}
    {f_covers : Addr} {od_covers an_covers : Option Addr} {sl_covers : Array (Option Value)} {oc_covers kV_covers dc_covers pm_covers cd_covers ct_covers : Value}
    {f_cells : Addr} {od_cells an_cells : Option Addr} {sl_cells : Array (Option Value)} {oc_cells kV_cells dc_cells pm_cells cd_cells ct_cells : Value}
    {f_law_numbers : Addr} {od_law_numbers an_law_numbers : Option Addr} {sl_law_numbers : Array (Option Value)} {oc_law_numbers kV_law_numbers dc_law_numbers pm_law_numbers cd_law_numbers ct_law_numbers : Value}
    {f_law_draw : Addr} {od_law_draw an_law_draw : Option Addr} {sl_law_draw : Array (Option Value)} {oc_law_draw kV_law_draw dc_law_draw pm_law_draw cd_law_draw ct_law_draw : Value}
    {f_law_pool : Addr} {od_law_pool an_law_pool : Option Addr} {sl_law_pool : Array (Option Value)} {oc_law_pool kV_law_pool dc_law_pool pm_law_pool cd_law_pool ct_law_pool : Value}
    {f_law_whole : Addr} {od_law_whole an_law_whole : Option Addr} {sl_law_whole : Array (Option Value)} {oc_law_whole kV_law_whole dc_law_whole pm_law_whole cd_law_whole ct_law_whole : Value}
    {f_law_due : Addr} {od_law_due an_law_due : Option Addr} {sl_law_due : Array (Option Value)} {oc_law_due kV_law_due dc_law_due pm_law_due cd_law_due ct_law_due : Value}
    {f_law_has : Addr} {od_law_has an_law_has : Option Addr} {sl_law_has : Array (Option Value)} {oc_law_has kV_law_has dc_law_has pm_law_has cd_law_has ct_law_has : Value}
    {f_law_where : Addr} {od_law_where an_law_where : Option Addr} {sl_law_where : Array (Option Value)} {oc_law_where kV_law_where dc_law_where pm_law_where cd_law_where ct_law_where : Value}
    {f_law_bent : Addr} {od_law_bent an_law_bent : Option Addr} {sl_law_bent : Array (Option Value)} {oc_law_bent kV_law_bent dc_law_bent pm_law_bent cd_law_bent ct_law_bent : Value}
    {f_law_told : Addr} {od_law_told an_law_told : Option Addr} {sl_law_told : Array (Option Value)} {oc_law_told kV_law_told dc_law_told pm_law_told cd_law_told ct_law_told : Value}
    {f_law_is : Addr} {od_law_is an_law_is : Option Addr} {sl_law_is : Array (Option Value)} {oc_law_is kV_law_is dc_law_is pm_law_is cd_law_is ct_law_is : Value}
    {f_law : Addr} {od_law an_law : Option Addr} {sl_law : Array (Option Value)} {oc_law kV_law dc_law pm_law cd_law ct_law : Value}
    {CP NP iP : Addr} {nmP qP : Str} {bsP subP : List Value} {abP : Bool} {snP : List Str} {colP : Option Bool} {ddP : Option Addr} {k0P k1P k2P k3P k5P : Option Value} {ocP dcP pmP cdP ctP : Value} {odP anP : Option Addr} {slP : Array (Option Value)} {p1P p2P q1P q2P q3P q4P : Pos} {SE : Addr}
    {CV NV iV : Addr} {nmV qV : Str} {bsV subV : List Value} {abV : Bool} {snV : List Str} {colV : Option Bool} {ddV : Option Addr} {k0V k1V k2V k3V k5V : Option Value} {ocV dcV pmV cdV ctV : Value} {odV anV : Option Addr} {slV : Array (Option Value)} {p1V p2V q1V q2V q3V q4V : Pos}
    (z_isinstance : PySem.W.nsIn K mainGlobals "isinstance" = some none)
    (z_int : PySem.W.nsIn K mainGlobals "int" = some none)
    (z_bool : PySem.W.nsIn K mainGlobals "bool" = some none)
    (z_tuple : PySem.W.nsIn K mainGlobals "tuple" = some none)
    (z_len : PySem.W.nsIn K mainGlobals "len" = some none)
    (z_all : PySem.W.nsIn K mainGlobals "all" = some none)
    (z_zip : PySem.W.nsIn K mainGlobals "zip" = some none)
    (z_range : PySem.W.nsIn K mainGlobals "range" = some none)
    (z_enumerate : PySem.W.nsIn K mainGlobals "enumerate" = some none)
    (z_max : PySem.W.nsIn K mainGlobals "max" = some none)
    (z_str : PySem.W.nsIn K mainGlobals "str" = some none)
    (z_list : PySem.W.nsIn K mainGlobals "list" = some none)
    (z_sorted : PySem.W.nsIn K mainGlobals "sorted" = some none)
    (z_set : PySem.W.nsIn K mainGlobals "set" = some none)
    (z_MV : PySem.W.nsIn K mainGlobals "MOST_VALUES" = some (some (.int 8 tk)))
    (a_is_whole : PySem.W.nsIn K mainGlobals "is_whole" = some (some (.ref f_is_whole)))
    (l_is_whole : K.lookup f_is_whole = some ⟨oc_is_whole, od_is_whole, .func (PySem.W.fnOf "is_whole" "is_whole" (defArgs s_is_whole) (defBody s_is_whole) (defScope s_is_whole) .none kV_is_whole dc_is_whole pm_is_whole an_is_whole cd_is_whole ct_is_whole), sl_is_whole⟩)
    (c_is_whole : PySem.W.codeIn K cd_is_whole "is_whole" = true)
    (k_is_whole : PySem.W.keepIn K (.ref f_is_whole) = true)
    (a_is_below : PySem.W.nsIn K mainGlobals "is_below" = some (some (.ref f_is_below)))
    (l_is_below : K.lookup f_is_below = some ⟨oc_is_below, od_is_below, .func (PySem.W.fnOf "is_below" "is_below" (defArgs s_is_below) (defBody s_is_below) (defScope s_is_below) .none kV_is_below dc_is_below pm_is_below an_is_below cd_is_below ct_is_below), sl_is_below⟩)
    (c_is_below : PySem.W.codeIn K cd_is_below "is_below" = true)
    (k_is_below : PySem.W.keepIn K (.ref f_is_below) = true)
    (a_is_size : PySem.W.nsIn K mainGlobals "is_size" = some (some (.ref f_is_size)))
    (l_is_size : K.lookup f_is_size = some ⟨oc_is_size, od_is_size, .func (PySem.W.fnOf "is_size" "is_size" (defArgs s_is_size) (defBody s_is_size) (defScope s_is_size) .none kV_is_size dc_is_size pm_is_size an_is_size cd_is_size ct_is_size), sl_is_size⟩)
    (c_is_size : PySem.W.codeIn K cd_is_size "is_size" = true)
    (k_is_size : PySem.W.keepIn K (.ref f_is_size) = true)
    (a_check_sizes : PySem.W.nsIn K mainGlobals "check_sizes" = some (some (.ref f_check_sizes)))
    (l_check_sizes : K.lookup f_check_sizes = some ⟨oc_check_sizes, od_check_sizes, .func (PySem.W.fnOf "check_sizes" "check_sizes" (defArgs s_check_sizes) (defBody s_check_sizes) (defScope s_check_sizes) .none kV_check_sizes dc_check_sizes pm_check_sizes an_check_sizes cd_check_sizes ct_check_sizes), sl_check_sizes⟩)
    (c_check_sizes : PySem.W.codeIn K cd_check_sizes "check_sizes" = true)
    (k_check_sizes : PySem.W.keepIn K (.ref f_check_sizes) = true)
    (a_is_ascending : PySem.W.nsIn K mainGlobals "is_ascending" = some (some (.ref f_is_ascending)))
    (l_is_ascending : K.lookup f_is_ascending = some ⟨oc_is_ascending, od_is_ascending, .func (PySem.W.fnOf "is_ascending" "is_ascending" (defArgs s_is_ascending) (defBody s_is_ascending) (defScope s_is_ascending) .none kV_is_ascending dc_is_ascending pm_is_ascending an_is_ascending cd_is_ascending ct_is_ascending), sl_is_ascending⟩)
    (c_is_ascending : PySem.W.codeIn K cd_is_ascending "is_ascending" = true)
    (k_is_ascending : PySem.W.keepIn K (.ref f_is_ascending) = true)
    (a_is_values : PySem.W.nsIn K mainGlobals "is_values" = some (some (.ref f_is_values)))
    (l_is_values : K.lookup f_is_values = some ⟨oc_is_values, od_is_values, .func (PySem.W.fnOf "is_values" "is_values" (defArgs s_is_values) (defBody s_is_values) (defScope s_is_values) .none kV_is_values dc_is_values pm_is_values an_is_values cd_is_values ct_is_values), sl_is_values⟩)
    (c_is_values : PySem.W.codeIn K cd_is_values "is_values" = true)
    (k_is_values : PySem.W.keepIn K (.ref f_is_values) = true)
    (a_has_where_form : PySem.W.nsIn K mainGlobals "has_where_form" = some (some (.ref f_has_where_form)))
    (l_has_where_form : K.lookup f_has_where_form = some ⟨oc_has_where_form, od_has_where_form, .func (PySem.W.fnOf "has_where_form" "has_where_form" (defArgs s_has_where_form) (defBody s_has_where_form) (defScope s_has_where_form) .none kV_has_where_form dc_has_where_form pm_has_where_form an_has_where_form cd_has_where_form ct_has_where_form), sl_has_where_form⟩)
    (c_has_where_form : PySem.W.codeIn K cd_has_where_form "has_where_form" = true)
    (k_has_where_form : PySem.W.keepIn K (.ref f_has_where_form) = true)
    (a_is_where : PySem.W.nsIn K mainGlobals "is_where" = some (some (.ref f_is_where)))
    (l_is_where : K.lookup f_is_where = some ⟨oc_is_where, od_is_where, .func (PySem.W.fnOf "is_where" "is_where" (defArgs s_is_where) (defBody s_is_where) (defScope s_is_where) .none kV_is_where dc_is_where pm_is_where an_is_where cd_is_where ct_is_where), sl_is_where⟩)
    (c_is_where : PySem.W.codeIn K cd_is_where "is_where" = true)
    (k_is_where : PySem.W.keepIn K (.ref f_is_where) = true)
    (a_covers : PySem.W.nsIn K mainGlobals "covers" = some (some (.ref f_covers)))
    (l_covers : K.lookup f_covers = some ⟨oc_covers, od_covers, .func (PySem.W.fnOf "covers" "covers" (defArgs s_covers) (defBody s_covers) (defScope s_covers) .none kV_covers dc_covers pm_covers an_covers cd_covers ct_covers), sl_covers⟩)
    (c_covers : PySem.W.codeIn K cd_covers "covers" = true)
    (k_covers : PySem.W.keepIn K (.ref f_covers) = true)
    (a_cells : PySem.W.nsIn K mainGlobals "cells" = some (some (.ref f_cells)))
    (l_cells : K.lookup f_cells = some ⟨oc_cells, od_cells, .func (PySem.W.fnOf "cells" "cells" (defArgs s_cells) (defBody s_cells) (defScope s_cells) .none kV_cells dc_cells pm_cells an_cells cd_cells ct_cells), sl_cells⟩)
    (c_cells : PySem.W.codeIn K cd_cells "cells" = true)
    (k_cells : PySem.W.keepIn K (.ref f_cells) = true)
    (a_law_numbers : PySem.W.nsIn K mainGlobals "_law_numbers" = some (some (.ref f_law_numbers)))
    (l_law_numbers : K.lookup f_law_numbers = some ⟨oc_law_numbers, od_law_numbers, .func (PySem.W.fnOf "_law_numbers" "_law_numbers" (defArgs s_law_numbers) (defBody s_law_numbers) (defScope s_law_numbers) .none kV_law_numbers dc_law_numbers pm_law_numbers an_law_numbers cd_law_numbers ct_law_numbers), sl_law_numbers⟩)
    (c_law_numbers : PySem.W.codeIn K cd_law_numbers "_law_numbers" = true)
    (k_law_numbers : PySem.W.keepIn K (.ref f_law_numbers) = true)
    (a_law_draw : PySem.W.nsIn K mainGlobals "_law_draw" = some (some (.ref f_law_draw)))
    (l_law_draw : K.lookup f_law_draw = some ⟨oc_law_draw, od_law_draw, .func (PySem.W.fnOf "_law_draw" "_law_draw" (defArgs s_law_draw) (defBody s_law_draw) (defScope s_law_draw) .none kV_law_draw dc_law_draw pm_law_draw an_law_draw cd_law_draw ct_law_draw), sl_law_draw⟩)
    (c_law_draw : PySem.W.codeIn K cd_law_draw "_law_draw" = true)
    (k_law_draw : PySem.W.keepIn K (.ref f_law_draw) = true)
    (a_law_pool : PySem.W.nsIn K mainGlobals "_law_pool" = some (some (.ref f_law_pool)))
    (l_law_pool : K.lookup f_law_pool = some ⟨oc_law_pool, od_law_pool, .func (PySem.W.fnOf "_law_pool" "_law_pool" (defArgs s_law_pool) (defBody s_law_pool) (defScope s_law_pool) .none kV_law_pool dc_law_pool pm_law_pool an_law_pool cd_law_pool ct_law_pool), sl_law_pool⟩)
    (c_law_pool : PySem.W.codeIn K cd_law_pool "_law_pool" = true)
    (k_law_pool : PySem.W.keepIn K (.ref f_law_pool) = true)
    (a_law_whole : PySem.W.nsIn K mainGlobals "_law_whole" = some (some (.ref f_law_whole)))
    (l_law_whole : K.lookup f_law_whole = some ⟨oc_law_whole, od_law_whole, .func (PySem.W.fnOf "_law_whole" "_law_whole" (defArgs s_law_whole) (defBody s_law_whole) (defScope s_law_whole) .none kV_law_whole dc_law_whole pm_law_whole an_law_whole cd_law_whole ct_law_whole), sl_law_whole⟩)
    (c_law_whole : PySem.W.codeIn K cd_law_whole "_law_whole" = true)
    (k_law_whole : PySem.W.keepIn K (.ref f_law_whole) = true)
    (a_law_due : PySem.W.nsIn K mainGlobals "_law_due" = some (some (.ref f_law_due)))
    (l_law_due : K.lookup f_law_due = some ⟨oc_law_due, od_law_due, .func (PySem.W.fnOf "_law_due" "_law_due" (defArgs s_law_due) (defBody s_law_due) (defScope s_law_due) .none kV_law_due dc_law_due pm_law_due an_law_due cd_law_due ct_law_due), sl_law_due⟩)
    (c_law_due : PySem.W.codeIn K cd_law_due "_law_due" = true)
    (k_law_due : PySem.W.keepIn K (.ref f_law_due) = true)
    (a_law_has : PySem.W.nsIn K mainGlobals "_law_has" = some (some (.ref f_law_has)))
    (l_law_has : K.lookup f_law_has = some ⟨oc_law_has, od_law_has, .func (PySem.W.fnOf "_law_has" "_law_has" (defArgs s_law_has) (defBody s_law_has) (defScope s_law_has) .none kV_law_has dc_law_has pm_law_has an_law_has cd_law_has ct_law_has), sl_law_has⟩)
    (c_law_has : PySem.W.codeIn K cd_law_has "_law_has" = true)
    (k_law_has : PySem.W.keepIn K (.ref f_law_has) = true)
    (a_law_where : PySem.W.nsIn K mainGlobals "_law_where" = some (some (.ref f_law_where)))
    (l_law_where : K.lookup f_law_where = some ⟨oc_law_where, od_law_where, .func (PySem.W.fnOf "_law_where" "_law_where" (defArgs s_law_where) (defBody s_law_where) (defScope s_law_where) .none kV_law_where dc_law_where pm_law_where an_law_where cd_law_where ct_law_where), sl_law_where⟩)
    (c_law_where : PySem.W.codeIn K cd_law_where "_law_where" = true)
    (k_law_where : PySem.W.keepIn K (.ref f_law_where) = true)
    (a_law_bent : PySem.W.nsIn K mainGlobals "_law_bent" = some (some (.ref f_law_bent)))
    (l_law_bent : K.lookup f_law_bent = some ⟨oc_law_bent, od_law_bent, .func (PySem.W.fnOf "_law_bent" "_law_bent" (defArgs s_law_bent) (defBody s_law_bent) (defScope s_law_bent) .none kV_law_bent dc_law_bent pm_law_bent an_law_bent cd_law_bent ct_law_bent), sl_law_bent⟩)
    (c_law_bent : PySem.W.codeIn K cd_law_bent "_law_bent" = true)
    (k_law_bent : PySem.W.keepIn K (.ref f_law_bent) = true)
    (a_law_told : PySem.W.nsIn K mainGlobals "_law_told" = some (some (.ref f_law_told)))
    (l_law_told : K.lookup f_law_told = some ⟨oc_law_told, od_law_told, .func (PySem.W.fnOf "_law_told" "_law_told" (defArgs s_law_told) (defBody s_law_told) (defScope s_law_told) .none kV_law_told dc_law_told pm_law_told an_law_told cd_law_told ct_law_told), sl_law_told⟩)
    (c_law_told : PySem.W.codeIn K cd_law_told "_law_told" = true)
    (k_law_told : PySem.W.keepIn K (.ref f_law_told) = true)
    (a_law_is : PySem.W.nsIn K mainGlobals "_law_is" = some (some (.ref f_law_is)))
    (l_law_is : K.lookup f_law_is = some ⟨oc_law_is, od_law_is, .func (PySem.W.fnOf "_law_is" "_law_is" (defArgs s_law_is) (defBody s_law_is) (defScope s_law_is) .none kV_law_is dc_law_is pm_law_is an_law_is cd_law_is ct_law_is), sl_law_is⟩)
    (c_law_is : PySem.W.codeIn K cd_law_is "_law_is" = true)
    (k_law_is : PySem.W.keepIn K (.ref f_law_is) = true)
    (a_law : PySem.W.nsIn K mainGlobals "law" = some (some (.ref f_law)))
    (l_law : K.lookup f_law = some ⟨oc_law, od_law, .func (PySem.W.fnOf "law" "law" (defArgs s_law) (defBody s_law) (defScope s_law) .none kV_law dc_law pm_law an_law cd_law ct_law), sl_law⟩)
    (c_law : PySem.W.codeIn K cd_law "law" = true)
    (k_law : PySem.W.keepIn K (.ref f_law) = true)
    (a_CP : PySem.W.nsIn K mainGlobals "InvalidFact" = some (some (.ref CP)))
    (x_CP : K.lookup CP = some (excClassObj nmP qP CP NP bsP [.ref SE, .type "Exception", .type "BaseException", .type "object"] true snP subP abP colP ddP k0P k1P k2P k3P k5P "Exception.__new__"))
    (sa_CP : PySem.W.findIn K (.ref CP) "__setattr__" = some (some (.builtin "object.__setattr__")))
    (ga_CP : PySem.W.findIn K (.ref CP) "__getattribute__" = some (some (.builtin "BaseException.__getattribute__")))
    (gg_CP : PySem.W.findIn K (.ref CP) "__getattr__" = some none)
    (no_CP : PySem.W.findIn K (.ref CP) "place" = some none)
    (ic_CP : PySem.W.findIn K (.ref CP) "__init__" = some (some (.ref iP)))
    (tc_CP : PySem.W.typeIn K (.ref iP) = some (.type "function"))
    (kc_CP : PySem.W.keepIn K (.ref CP) = true)
    (ex_CP : PySem.W.subIn K (.ref CP) (.type "BaseException") = some true)
    (ty_CP : PySem.W.typeIn K (.ref CP) = some (.type "type"))
    (hd_CP : PySem.W.hasDictIn K CP = true)
    (te_CP : PySem.W.subIn K (.ref CP) (.ref CP) = some true)
    (l_CP : K.lookup iP = some ⟨ocP, odP, .func (PySem.W.fnOf "__init__" "InvalidFact.__init__" (PySem.ErrP.iA p1P p2P) (PySem.ErrP.iB q1P q2P q3P q4P) PySem.ErrP.iS .none .none dcP pmP anP cdP ctP), slP⟩)
    (c_CP : PySem.W.codeIn K cdP "InvalidFact.__init__" = true)
    (a_CV : PySem.W.nsIn K mainGlobals "InvalidNumber" = some (some (.ref CV)))
    (x_CV : K.lookup CV = some (excClassObj nmV qV CV NV bsV [.type "ValueError", .type "Exception", .type "BaseException", .type "object"] true snV subV abV colV ddV k0V k1V k2V k3V k5V "ValueError.__new__"))
    (sa_CV : PySem.W.findIn K (.ref CV) "__setattr__" = some (some (.builtin "object.__setattr__")))
    (ga_CV : PySem.W.findIn K (.ref CV) "__getattribute__" = some (some (.builtin "BaseException.__getattribute__")))
    (gg_CV : PySem.W.findIn K (.ref CV) "__getattr__" = some none)
    (no_CV : PySem.W.findIn K (.ref CV) "value" = some none)
    (ic_CV : PySem.W.findIn K (.ref CV) "__init__" = some (some (.ref iV)))
    (tc_CV : PySem.W.typeIn K (.ref iV) = some (.type "function"))
    (kc_CV : PySem.W.keepIn K (.ref CV) = true)
    (ex_CV : PySem.W.subIn K (.ref CV) (.type "BaseException") = some true)
    (ty_CV : PySem.W.typeIn K (.ref CV) = some (.type "type"))
    (hd_CV : PySem.W.hasDictIn K CV = true)
    (te_CV : PySem.W.subIn K (.ref CV) (.ref CV) = some true)
    (l_CV : K.lookup iV = some ⟨ocV, odV, .func (PySem.W.fnOf "__init__" "InvalidNumber.__init__" (PySem.ErrV.iA p1V p2V) (PySem.ErrV.iB q1V q2V q3V q4V) PySem.ErrV.iS .none .none dcV pmV anV cdV ctV), slV⟩)
    (c_CV : PySem.W.codeIn K cdV "InvalidNumber.__init__" = true)
    (vp : PySem.W.subIn K (.ref CV) (.ref CP) = some false) :
    ∃ fd : FuncData, (∀ (s : Shared) (v : Value), BindsTo s fd ⟨[v], []⟩ [("_law_script", v)]) ∧ ∀ base : Heap, K.In base → base.Ns mainGlobals mg → FnOk l.prog w K mg base CX0 9 fa fd ["_law_script"] (spLaw K) := by
  have e := hfa.symm.trans (PySem.W.mg_of X G a_law)
  cases e
  have F_is_whole := fun_mk (st := s_is_whole) l_is_whole c_is_whole k_is_whole
  have b_is_whole := F_is_whole.binds (ps := ["value"]) fun _ _ _ _ _ _ us hl => match us, hl with | [_], _ => rfl
  have D_is_whole : Df K mg "is_whole" s_is_whole ["value"] _ _ := ⟨F_is_whole, b_is_whole, PySem.W.mg_of X G a_is_whole⟩
  have F_is_below := fun_mk (st := s_is_below) l_is_below c_is_below k_is_below
  have b_is_below := F_is_below.binds (ps := ["size", "value"]) fun _ _ _ _ _ _ us hl => match us, hl with | [_, _], _ => rfl
  have D_is_below : Df K mg "is_below" s_is_below ["size", "value"] _ _ := ⟨F_is_below, b_is_below, PySem.W.mg_of X G a_is_below⟩
  have F_is_size := fun_mk (st := s_is_size) l_is_size c_is_size k_is_size
  have b_is_size := F_is_size.binds (ps := ["value"]) fun _ _ _ _ _ _ us hl => match us, hl with | [_], _ => rfl
  have D_is_size : Df K mg "is_size" s_is_size ["value"] _ _ := ⟨F_is_size, b_is_size, PySem.W.mg_of X G a_is_size⟩
  have F_check_sizes := fun_mk (st := s_check_sizes) l_check_sizes c_check_sizes k_check_sizes
  have b_check_sizes := F_check_sizes.binds (ps := ["left", "right"]) fun _ _ _ _ _ _ us hl => match us, hl with | [_, _], _ => rfl
  have D_check_sizes : Df K mg "check_sizes" s_check_sizes ["left", "right"] _ _ := ⟨F_check_sizes, b_check_sizes, PySem.W.mg_of X G a_check_sizes⟩
  have F_is_ascending := fun_mk (st := s_is_ascending) l_is_ascending c_is_ascending k_is_ascending
  have b_is_ascending := F_is_ascending.binds (ps := ["size", "value"]) fun _ _ _ _ _ _ us hl => match us, hl with | [_, _], _ => rfl
  have D_is_ascending : Df K mg "is_ascending" s_is_ascending ["size", "value"] _ _ := ⟨F_is_ascending, b_is_ascending, PySem.W.mg_of X G a_is_ascending⟩
  have F_is_values := fun_mk (st := s_is_values) l_is_values c_is_values k_is_values
  have b_is_values := F_is_values.binds (ps := ["size", "value"]) fun _ _ _ _ _ _ us hl => match us, hl with | [_, _], _ => rfl
  have D_is_values : Df K mg "is_values" s_is_values ["size", "value"] _ _ := ⟨F_is_values, b_is_values, PySem.W.mg_of X G a_is_values⟩
  have F_has_where_form := fun_mk (st := s_has_where_form) l_has_where_form c_has_where_form k_has_where_form
  have b_has_where_form := F_has_where_form.binds (ps := ["left", "right", "value"]) fun _ _ _ _ _ _ us hl => match us, hl with | [_, _, _], _ => rfl
  have D_has_where_form : Df K mg "has_where_form" s_has_where_form ["left", "right", "value"] _ _ := ⟨F_has_where_form, b_has_where_form, PySem.W.mg_of X G a_has_where_form⟩
  have F_is_where := fun_mk (st := s_is_where) l_is_where c_is_where k_is_where
  have b_is_where := F_is_where.binds (ps := ["left", "right", "value"]) fun _ _ _ _ _ _ us hl => match us, hl with | [_, _, _], _ => rfl
  have D_is_where : Df K mg "is_where" s_is_where ["left", "right", "value"] _ _ := ⟨F_is_where, b_is_where, PySem.W.mg_of X G a_is_where⟩
  have F_covers := fun_mk (st := s_covers) l_covers c_covers k_covers
  have b_covers := F_covers.binds (ps := ["where", "left", "right"]) fun _ _ _ _ _ _ us hl => match us, hl with | [_, _, _], _ => rfl
  have D_covers : Df K mg "covers" s_covers ["where", "left", "right"] _ _ := ⟨F_covers, b_covers, PySem.W.mg_of X G a_covers⟩
  have F_cells := fun_mk (st := s_cells) l_cells c_cells k_cells
  have b_cells := F_cells.binds (ps := ["left", "right", "where"]) fun _ _ _ _ _ _ us hl => match us, hl with | [_, _, _], _ => rfl
  have D_cells : Df K mg "cells" s_cells ["left", "right", "where"] _ _ := ⟨F_cells, b_cells, PySem.W.mg_of X G a_cells⟩
  have F_law_numbers := fun_mk (st := s_law_numbers) l_law_numbers c_law_numbers k_law_numbers
  have b_law_numbers := F_law_numbers.binds (ps := ["_law_cell", "_law_salt", "_law_sizes"]) fun _ _ _ _ _ _ us hl => match us, hl with | [_, _, _], _ => rfl
  have D_law_numbers : Df K mg "_law_numbers" s_law_numbers ["_law_cell", "_law_salt", "_law_sizes"] _ _ := ⟨F_law_numbers, b_law_numbers, PySem.W.mg_of X G a_law_numbers⟩
  have F_law_draw := fun_mk (st := s_law_draw) l_law_draw c_law_draw k_law_draw
  have b_law_draw := F_law_draw.binds (ps := ["_law_state", "_law_many"]) fun _ _ _ _ _ _ us hl => match us, hl with | [_, _], _ => rfl
  have D_law_draw : Df K mg "_law_draw" s_law_draw ["_law_state", "_law_many"] _ _ := ⟨F_law_draw, b_law_draw, PySem.W.mg_of X G a_law_draw⟩
  have F_law_pool := fun_mk (st := s_law_pool) l_law_pool c_law_pool k_law_pool
  have b_law_pool := F_law_pool.binds (ps := ["_law_cell", "_law_salt", "_law_many"]) fun _ _ _ _ _ _ us hl => match us, hl with | [_, _, _], _ => rfl
  have D_law_pool : Df K mg "_law_pool" s_law_pool ["_law_cell", "_law_salt", "_law_many"] _ _ := ⟨F_law_pool, b_law_pool, PySem.W.mg_of X G a_law_pool⟩
  have F_law_whole := fun_mk (st := s_law_whole) l_law_whole c_law_whole k_law_whole
  have b_law_whole := F_law_whole.binds (ps := ["_law_value", "_law_most"]) fun _ _ _ _ _ _ us hl => match us, hl with | [_, _], _ => rfl
  have D_law_whole : Df K mg "_law_whole" s_law_whole ["_law_value", "_law_most"] _ _ := ⟨F_law_whole, b_law_whole, PySem.W.mg_of X G a_law_whole⟩
  have F_law_due := fun_mk (st := s_law_due) l_law_due c_law_due k_law_due
  have b_law_due := F_law_due.binds (ps := ["_law_left", "_law_right", "_law_value"]) fun _ _ _ _ _ _ us hl => match us, hl with | [_, _, _], _ => rfl
  have D_law_due : Df K mg "_law_due" s_law_due ["_law_left", "_law_right", "_law_value"] _ _ := ⟨F_law_due, b_law_due, PySem.W.mg_of X G a_law_due⟩
  have F_law_has := fun_mk (st := s_law_has) l_law_has c_law_has k_law_has
  have b_law_has := F_law_has.binds (ps := ["_law_where_here", "_law_one", "_law_other"]) fun _ _ _ _ _ _ us hl => match us, hl with | [_, _, _], _ => rfl
  have D_law_has : Df K mg "_law_has" s_law_has ["_law_where_here", "_law_one", "_law_other"] _ _ := ⟨F_law_has, b_law_has, PySem.W.mg_of X G a_law_has⟩
  have F_law_where := fun_mk (st := s_law_where) l_law_where c_law_where k_law_where
  have b_law_where := F_law_where.binds (ps := ["_law_state", "_law_left", "_law_right"]) fun _ _ _ _ _ _ us hl => match us, hl with | [_, _, _], _ => rfl
  have D_law_where : Df K mg "_law_where" s_law_where ["_law_state", "_law_left", "_law_right"] _ _ := ⟨F_law_where, b_law_where, PySem.W.mg_of X G a_law_where⟩
  have F_law_bent := fun_mk (st := s_law_bent) l_law_bent c_law_bent k_law_bent
  have b_law_bent := F_law_bent.binds (ps := ["_law_state", "_law_value"]) fun _ _ _ _ _ _ us hl => match us, hl with | [_, _], _ => rfl
  have D_law_bent : Df K mg "_law_bent" s_law_bent ["_law_state", "_law_value"] _ _ := ⟨F_law_bent, b_law_bent, PySem.W.mg_of X G a_law_bent⟩
  have F_law_told := fun_mk (st := s_law_told) l_law_told c_law_told k_law_told
  have b_law_told := F_law_told.binds (ps := ["_law_left", "_law_right", "_law_value"]) fun _ _ _ _ _ _ us hl => match us, hl with | [_, _, _], _ => rfl
  have D_law_told : Df K mg "_law_told" s_law_told ["_law_left", "_law_right", "_law_value"] _ _ := ⟨F_law_told, b_law_told, PySem.W.mg_of X G a_law_told⟩
  have F_law_is := fun_mk (st := s_law_is) l_law_is c_law_is k_law_is
  have b_law_is := F_law_is.binds (ps := ["_law_left", "_law_right", "_law_value"]) fun _ _ _ _ _ _ us hl => match us, hl with | [_, _, _], _ => rfl
  have D_law_is : Df K mg "_law_is" s_law_is ["_law_left", "_law_right", "_law_value"] _ _ := ⟨F_law_is, b_law_is, PySem.W.mg_of X G a_law_is⟩
  have F_law := fun_mk (st := s_law) l_law c_law k_law
  have b_law := F_law.binds (ps := ["_law_script"]) fun _ _ _ _ _ _ us hl => match us, hl with | [_], _ => rfl
  have EP : PySem.ErrP.ErrTxt K mg "InvalidFact" "InvalidFact.__init__" CP iP := { gC := PySem.W.mg_of X G a_CP, cls := ⟨_, _, _, _, _, _, _, _, _, _, _, _, _, _, _, _, x_CP, tail_ex⟩, sa := sa_CP, ga := ga_CP, gg := gg_CP, noN := no_CP, iC := ic_CP, tC := tc_CP, kC := kc_CP, exC := ex_CP, tyC := ty_CP, hdC := hd_CP, te := PySem.W.exm_ref ex_CP hd_CP ty_CP te_CP, fn := ⟨_, _, _, _, _, _, _, _, _, _, _, _, _, _, l_CP, c_CP⟩ }
  have EV : PySem.ErrV.ErrTxt K mg "InvalidNumber" "InvalidNumber.__init__" CV iV := { gC := PySem.W.mg_of X G a_CV, cls := ⟨_, _, _, _, _, _, _, _, _, _, _, _, _, _, _, _, x_CV, tail_ve⟩, sa := sa_CV, ga := ga_CV, gg := gg_CV, noN := no_CV, iC := ic_CV, tC := tc_CV, kC := kc_CV, exC := ex_CV, tyC := ty_CV, hdC := hd_CV, te := PySem.W.exm_ref ex_CV hd_CV ty_CV te_CV, fn := ⟨_, _, _, _, _, _, _, _, _, _, _, _, _, _, l_CV, c_CV⟩ }
  have T : Txt mg tk := { n_isinstance := PySem.W.mg_none_of X G z_isinstance, n_int := PySem.W.mg_none_of X G z_int, n_bool := PySem.W.mg_none_of X G z_bool, n_tuple := PySem.W.mg_none_of X G z_tuple, n_len := PySem.W.mg_none_of X G z_len, n_all := PySem.W.mg_none_of X G z_all, n_zip := PySem.W.mg_none_of X G z_zip, n_range := PySem.W.mg_none_of X G z_range, n_enumerate := PySem.W.mg_none_of X G z_enumerate, n_max := PySem.W.mg_none_of X G z_max, n_str := PySem.W.mg_none_of X G z_str, n_list := PySem.W.mg_none_of X G z_list, n_sorted := PySem.W.mg_none_of X G z_sorted, n_set := PySem.W.mg_none_of X G z_set, c_MOST_VALUES := PySem.W.mg_of X G z_MV }
  refine ⟨PySem.W.fnOf "law" "law" (defArgs s_law) (defBody s_law) (defScope s_law) .none kV_law dc_law pm_law an_law cd_law ct_law, fun s v => .of_eq rfl, fun base _ _ => ?_⟩
  have G1 := ok_whole (P := l.prog) (w := w) (base := base) (k := 0) T D_is_whole
  have G2 := ok_below (k := 0) D_is_whole G1 T D_is_below
  have G3 := ok_size (k := 0) D_is_whole G1 T D_is_size
  have G4 := ok_check_sizes (k := 0) EV D_is_size G3 T D_check_sizes
  have G50 := ok_asc (k := 0) D_is_below G2 T D_is_ascending
  have G5 := ok_values (k := 0) D_is_ascending G50 T D_is_values
  have G6 := ok_form (k := 0) D_is_below G2 D_is_values G5 T D_has_where_form
  have G7 := ok_is_where (k := 0) D_check_sizes G4 D_has_where_form G6 T D_is_where
  have G8 := ok_covers (P := l.prog) (w := w) (base := base) (k := 0) D_covers
  have G9 := ok_cells (k := 0) EP D_is_where G7 D_covers G8 T D_cells
  have g1 := ok_num (P := l.prog) (w := w) (base := base) (k := 0) T D_law_numbers
  have g2 := ok_draw (P := l.prog) (w := w) (base := base) (k := 0) T D_law_draw
  have g3 := ok_pool (k := 0) D_law_numbers g1 T D_law_pool
  have g4 := ok_lwhole (P := l.prog) (w := w) (base := base) (k := 0) T D_law_whole
  have g5 := ok_due (k := 0) D_law_whole g4 T D_law_due
  have g6 := ok_has (P := l.prog) (w := w) (base := base) (k := 0) D_law_has
  have g7 := ok_where (k := 0) D_law_draw g2 T D_law_where
  have g8 := ok_bent (k := 0) D_law_draw g2 T D_law_bent
  have g9 := ok_told (k := 0) EV EP (PySem.W.exm_ref ex_CP hd_CP ty_CP vp) D_cells G9 D_law_told
  have g10 := ok_law_is (k := 0) EV D_is_where G7 D_law_is
  exact ok_law (k := 0) T D_law_draw g2 D_law_pool g3 D_law_where g7 D_law_due g5 D_law_has g6 D_is_where G7 D_law_told g9 D_law_is g10 D_law_bent g8 ⟨F_law, b_law, hfa⟩
theorem walk {l : PySem.W.OpenLaw} {q : Program} {loose : List Str} {XP : (Str → Option Value) → Heap → Prop} {YP : World → Heap → Prop} {d : DefRec} {K : Params → PySem.W.Frag} (hn : l.most = some 63) (hdf : d.params.defaults = [])
    (hY : ∀ (w : World) (h : Heap), YP w h → (K w.params).In h)
    (F : ∀ (w : World) (mg : Str → Option Value) (fa : Addr) (h : Heap), (K w.params).In h → h.Ns mainGlobals mg → mg d.name = some (.ref fa) →
      ∃ fd : FuncData, (∀ (s : Shared) (u : Value), BindsTo s fd ⟨[u], []⟩ [("_law_script", u)]) ∧ ∀ base : Heap, (K w.params).In base → base.Ns mainGlobals mg → FnOk l.prog w (K w.params) mg base CX0 9 fa fd ["_law_script"] (spLaw (K w.params))) :
    PySem.W.WalkO q loose XP YP l.row.toRowW d [] (fun f vs => PySem.call f vs) :=
  L2.walk_ofK (n := 63) (k := 9) (x := "_law_script") (CX := CX0) (sp := spLaw) hn (by decide) hdf ⟨rfl, by decide, by decide⟩ hY F (fun K H a ns hl _ hS => ⟨a, ns, rfl, hS, hl, fun _ => rfl⟩) fun _ _ _ _ z => z
end K20
open PySem PySem.W PyProof.Rows
set_option maxRecDepth 100000 in
set_option maxHeartbeats 0 in
theorem PySem.Challenge.cw_surecounts_k20_wheres_holds : PySem.Challenge.rw_surecounts_k20_wheres.Holds := by
  w_on; o_law; k_head; (case hw => w_witness2)
  k_fill
  refine K20.walk (l := PySem.Challenge.rw_surecounts_k20_wheres) rfl rfl (fun w h Y => PySem.W.kIn_of Y) ?F
  case F =>
    intro w mg fa h KX G hmg
    refine' K20.all_mk KX G hmg ?z_isinstance ?z_int ?z_bool ?z_tuple ?z_len ?z_all ?z_zip ?z_range ?z_enumerate ?z_max ?z_str ?z_list ?z_sorted ?z_set ?z_MV ?a_is_whole ?l_is_whole ?c_is_whole ?k_is_whole ?a_is_below ?l_is_below ?c_is_below ?k_is_below ?a_is_size ?l_is_size ?c_is_size ?k_is_size ?a_check_sizes ?l_check_sizes ?c_check_sizes ?k_check_sizes ?a_is_ascending ?l_is_ascending ?c_is_ascending ?k_is_ascending ?a_is_values ?l_is_values ?c_is_values ?k_is_values ?a_has_where_form ?l_has_where_form ?c_has_where_form ?k_has_where_form ?a_is_where ?l_is_where ?c_is_where ?k_is_where ?a_covers ?l_covers ?c_covers ?k_covers ?a_cells ?l_cells ?c_cells ?k_cells ?a_law_numbers ?l_law_numbers ?c_law_numbers ?k_law_numbers ?a_law_draw ?l_law_draw ?c_law_draw ?k_law_draw ?a_law_pool ?l_law_pool ?c_law_pool ?k_law_pool ?a_law_whole ?l_law_whole ?c_law_whole ?k_law_whole ?a_law_due ?l_law_due ?c_law_due ?k_law_due ?a_law_has ?l_law_has ?c_law_has ?k_law_has ?a_law_where ?l_law_where ?c_law_where ?k_law_where ?a_law_bent ?l_law_bent ?c_law_bent ?k_law_bent ?a_law_told ?l_law_told ?c_law_told ?k_law_told ?a_law_is ?l_law_is ?c_law_is ?k_law_is ?a_law ?l_law ?c_law ?k_law ?a_CP ?x_CP ?sa_CP ?ga_CP ?gg_CP ?no_CP ?ic_CP ?tc_CP ?kc_CP ?ex_CP ?ty_CP ?hd_CP ?te_CP ?l_CP ?c_CP ?a_CV ?x_CV ?sa_CV ?ga_CV ?gg_CV ?no_CV ?ic_CV ?tc_CV ?kc_CV ?ex_CV ?ty_CV ?hd_CV ?te_CV ?l_CV ?c_CV ?vp
    (case z_isinstance => k_is)
    (case z_int => k_is)
    (case z_bool => k_is)
    (case z_tuple => k_is)
    (case z_len => k_is)
    (case z_all => k_is)
    (case z_zip => k_is)
    (case z_range => k_is)
    (case z_enumerate => k_is)
    (case z_max => k_is)
    (case z_str => k_is)
    (case z_list => k_is)
    (case z_sorted => k_is)
    (case z_set => k_is)
    (case z_MV => k_is)
    (case a_is_whole => k_is)
    (case l_is_whole => k_is)
    (case c_is_whole => k_is)
    (case k_is_whole => k_is)
    (case a_is_below => k_is)
    (case l_is_below => k_is)
    (case c_is_below => k_is)
    (case k_is_below => k_is)
    (case a_is_size => k_is)
    (case l_is_size => k_is)
    (case c_is_size => k_is)
    (case k_is_size => k_is)
    (case a_check_sizes => k_is)
    (case l_check_sizes => k_is)
    (case c_check_sizes => k_is)
    (case k_check_sizes => k_is)
    (case a_is_ascending => k_is)
    (case l_is_ascending => k_is)
    (case c_is_ascending => k_is)
    (case k_is_ascending => k_is)
    (case a_is_values => k_is)
    (case l_is_values => k_is)
    (case c_is_values => k_is)
    (case k_is_values => k_is)
    (case a_has_where_form => k_is)
    (case l_has_where_form => k_is)
    (case c_has_where_form => k_is)
    (case k_has_where_form => k_is)
    (case a_is_where => k_is)
    (case l_is_where => k_is)
    (case c_is_where => k_is)
    (case k_is_where => k_is)
    (case a_covers => k_is)
    (case l_covers => k_is)
    (case c_covers => k_is)
    (case k_covers => k_is)
    (case a_cells => k_is)
    (case l_cells => k_is)
    (case c_cells => k_is)
    (case k_cells => k_is)
    (case a_law_numbers => k_is)
    (case l_law_numbers => k_is)
    (case c_law_numbers => k_is)
    (case k_law_numbers => k_is)
    (case a_law_draw => k_is)
    (case l_law_draw => k_is)
    (case c_law_draw => k_is)
    (case k_law_draw => k_is)
    (case a_law_pool => k_is)
    (case l_law_pool => k_is)
    (case c_law_pool => k_is)
    (case k_law_pool => k_is)
    (case a_law_whole => k_is)
    (case l_law_whole => k_is)
    (case c_law_whole => k_is)
    (case k_law_whole => k_is)
    (case a_law_due => k_is)
    (case l_law_due => k_is)
    (case c_law_due => k_is)
    (case k_law_due => k_is)
    (case a_law_has => k_is)
    (case l_law_has => k_is)
    (case c_law_has => k_is)
    (case k_law_has => k_is)
    (case a_law_where => k_is)
    (case l_law_where => k_is)
    (case c_law_where => k_is)
    (case k_law_where => k_is)
    (case a_law_bent => k_is)
    (case l_law_bent => k_is)
    (case c_law_bent => k_is)
    (case k_law_bent => k_is)
    (case a_law_told => k_is)
    (case l_law_told => k_is)
    (case c_law_told => k_is)
    (case k_law_told => k_is)
    (case a_law_is => k_is)
    (case l_law_is => k_is)
    (case c_law_is => k_is)
    (case k_law_is => k_is)
    (case a_law => k_is)
    (case l_law => k_is)
    (case c_law => k_is)
    (case k_law => k_is)
    (case a_CP => k_is)
    (case x_CP => k_is)
    (case sa_CP => k_is)
    (case ga_CP => k_is)
    (case gg_CP => k_is)
    (case no_CP => k_is)
    (case ic_CP => k_is)
    (case tc_CP => k_is)
    (case kc_CP => k_is)
    (case ex_CP => k_is)
    (case ty_CP => k_is)
    (case hd_CP => k_is)
    (case te_CP => k_is)
    (case l_CP => k_is)
    (case c_CP => k_is)
    (case a_CV => k_is)
    (case x_CV => k_is)
    (case sa_CV => k_is)
    (case ga_CV => k_is)
    (case gg_CV => k_is)
    (case no_CV => k_is)
    (case ic_CV => k_is)
    (case tc_CV => k_is)
    (case kc_CV => k_is)
    (case ex_CV => k_is)
    (case ty_CV => k_is)
    (case hd_CV => k_is)
    (case te_CV => k_is)
    (case l_CV => k_is)
    (case c_CV => k_is)
    (case vp => k_is)
